/-
  The law's step: one kind of call.
-/
import Derived.Test.YtnohidalomjfmaaStc
namespace Go.Proofs.Ytnohidalomjfmaa
open Go.RowKit Go.Maps

set_option maxHeartbeats 2000000 in
set_option maxRecDepth 100000 in
theorem step_trunc {w0 w : World} {pb rb : Nat} {D : DK} {tg rt : Nat → Tg} (h : Hid (Two w0 w pb rb D D tg rt)) (n : Int) (s t : List UInt8) (q : Option Addr) (m c : Nat) (mb : List UInt8) (hs : Hid (s.length ≤ 281474976710656)) (hm : Hid (mb.length = m)) (hq : Hid (q = none → c = 0)) (hL : Hid (Lies w q mb)) (hmb : m ≤ 140737488355328) :
    Calls Try.prog 13 #[.pointer (some ⟨pb, 0, none⟩), .pointer (some ⟨rb, 0, none⟩), .agg #[.int .i64 5, .int .i64 n, .string ⟨⟨s⟩⟩, .string ⟨⟨t⟩⟩, .slice q m c]] w fun e w' => e = .returned (.bool true) ∧ Both w0 w' pb rb (truncD D s n).2 := by
  go_enter Try.func13, Try.ntmps13
  go_wp2_with (at_builtin; refine append_bytes rfl _ _ rfl (w.alloc (.cells #[.int .i64 5, .int .i64 n, .string ⟨⟨s⟩⟩, .string ⟨⟨t⟩⟩, .slice q m c] 32)).heap.size _ [] mb rfl (Own.nil _ _) q c m rfl hm.out hq.out (hL.out.keep ((Below.refl _ w).alloc (Nat.le_refl _) _) (Nat.le_refl _)) ?_ (Nat.le_refl _) ?_)
  · have := hm.out
    simp only [List.length_nil]
    omega
  intro v1 w1 o1 b1
  obtain ⟨q1, cc1, rfl, M1⟩ := mid_of h.out o1 b1
  clear o1 b1
  have HM : Hid (Mid w0 w1 pb rb w.heap.size D D tg rt 5 n s t q m c q1 cc1 mb) := M1
  obtain ⟨x0, x1, x2, x3, x4⟩ := c5 M1.box
  clear M1
  have H1 : Hid (Calls Try.prog 25 #[.pointer (some ⟨pb, 0, none⟩), .string ⟨⟨s⟩⟩, .int .i64 n] w1.drew fun e w' => e = .returned (.int .i64 (truncD D s n).1) ∧ ∃ tg', Mid w0 w' pb rb w.heap.size (truncD D s n).2 D tg' rt 5 n s t q m c q1 cc1 mb) := by
    refine (trunc_any HM.out.drew.two.d ⟨⟨s⟩⟩ n (sz_le hs.out)).mono ?_
    rintro e w' ⟨rfl, d, st⟩
    exact ⟨rfl, tg, HM.out.drew.left d st⟩
  have H2 : Hid (∀ w2, (∃ tg', Mid w0 w2 pb rb w.heap.size (truncD D s n).2 D tg' rt 5 n s t q m c q1 cc1 mb) → Calls Try.prog 26 #[.pointer (some ⟨rb, 0, none⟩), .string ⟨⟨s⟩⟩, .int .i64 n] w2 fun e w' => e = .returned (.int .i64 (truncD D s n).1) ∧ ∃ tg' rt', Mid w0 w' pb rb w.heap.size (truncD D s n).2 (truncD D s n).2 tg' rt' 5 n s t q m c q1 cc1 mb) := by
    rintro w2 ⟨tg', M⟩
    refine (rtr_any M.two.r s n).mono ?_
    rintro e w' ⟨rfl, rt', d, st⟩
    exact ⟨rfl, tg', rt', M.right d st⟩
  generalize hres : truncD D s n = R at *
  have HRES : Hid (truncD D s n = R) := hres
  clear hres
  go_wp2_with fail
  go_region_held3 (fun w' : World => w'.cell? ⟨w.heap.size, 1, none⟩ = some (.int .i64 n) ∧ w'.cell? ⟨w.heap.size, 2, none⟩ = some (.string ⟨⟨s⟩⟩) ∧ w'.cell? ⟨w.heap.size, 3, none⟩ = some (.string ⟨⟨t⟩⟩)) (first | (with_reducible assumption) | (with_reducible exact ⟨z1, z2, z3⟩) | (with_reducible exact ⟨y1, y2, y3⟩) | (with_reducible exact ⟨x1, x2, x3⟩) | (exact ⟨x1, x2, x3⟩) | go_keep) (first | (go_at_call 25; refine H1.out.mono ?_; rintro e w2 ⟨rfl, hm2⟩; (have hbox := Mid.box (Exists.choose_spec hm2)); obtain ⟨y0, y1, y2, y3, y4⟩ := c5 hbox; clear hbox; have HM2 : Hid (∃ tg', Mid w0 w2 pb rb w.heap.size R.2 D tg' rt 5 n s t q m c q1 cc1 mb) := hm2; clear hm2) | (go_at_call 26; refine (H2.out _ HM2.out).mono ?_; rintro e w3 ⟨rfl, hb⟩; (have hbox := Mid.box (Exists.choose_spec (Exists.choose_spec hb))); obtain ⟨z0, z1, z2, z3, z4⟩ := c5 hbox; clear hbox; have HB : Hid (∃ tg' rt', Mid w0 w3 pb rb w.heap.size R.2 R.2 tg' rt' 5 n s t q m c q1 cc1 mb) := hb; clear hb))
  all_goals go_wp2_with fail
  all_goals go_ret
  all_goals
    refine ⟨rfl, ?_⟩
    obtain ⟨tg', rt', M⟩ := HB.out
    rw [HRES.out]
    exact ⟨tg', rt', M.two⟩
end Go.Proofs.Ytnohidalomjfmaa
