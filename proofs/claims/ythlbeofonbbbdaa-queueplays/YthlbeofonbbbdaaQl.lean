/-
  List.
-/
import Derived.Test.YthlbeofonbbbdaaGr
namespace Go.Proofs.Ythlbeofonbbbdaa
open Go.RowKit Go.Maps Go.WideMaps

theorem gr_base {α : Type} {e sz : Nat} {f : α → List Value} {b b' : Nat} {w : World} {v : Value} {L : List α} (h : GRow e sz f b w v L) (hb : b' ≤ b) : GRow e sz f b' w v L := by
  refine ⟨h.1, ?_⟩
  rcases h.2 with hn | ⟨g, cap, cur, hv, hbg, rest⟩
  · exact .inl hn
  · exact .inr ⟨g, cap, cur, hv, Nat.le_trans hb hbg, rest⟩
def wC (a : J) : List Value := [.int .i64 a.job, .string ⟨⟨a.tn⟩⟩, .int .i64 a.pr]
theorem wC_len (a : J) : (wC a).length = 3 := rfl
theorem wC_one (a : J) : ∀ u ∈ wC a, u.oneCell' = true := by
  intro u hu
  simp only [wC, List.mem_cons, List.not_mem_nil, or_false] at hu
  rcases hu with rfl | rfl | rfl <;> rfl
/-- rows of waiters -/
abbrev WRow (b : Nat) (w : World) (v : Value) (L : List J) : Prop := GRow 32 3 wC b w v L
theorem info32 : (Try.prog.info? 32).map (fun i => (i.zero, i.size, i.bytes)) = some (some (.agg #[.int .i64 0, .string ⟨#[]⟩, .int .i64 0]), 3, 32) := by kernel_rfl
theorem list_nil (w : World) (t : ByteArray) : Calls Try.prog 14 #[.pointer none, .string t] w fun e w' => e = .returned (.slice none 0 0) ∧ Hid (Below w.heap.size w w') := by
  have H33 : Hid (∀ w, Calls Try.prog 33 #[.pointer none, .string t] w fun e w' => e = .returned (.slice none 0 0) ∧ w' = w) := fun w => by
    go_enter Try.func33, Try.ntmps33
    go_wp2_with fail
    go_ret
    exact ⟨rfl, rfl⟩
  go_enter Try.func14, Try.ntmps14
  go_wp2_with (go_at_call 33; refine (H33.out _).mono ?_; rintro e w1 ⟨rfl, h1⟩; obtain rfl := h1.symm)
  refine wp_loop_rounds 1 ?_
  rw [rounds_succ]
  go_wp2_with fail
  go_ret
  exact ⟨rfl, Below.refl _ _⟩
set_option maxHeartbeats 1000000 in
set_option maxRecDepth 100000 in
theorem list_raw (w : World) (pb : Nat) (l : List Hd) (t : List UInt8) (HB : Hid (∀ a ∈ l, w.heap[a.b]? = some (.cells (hC a) 76 (0, 0)))) (hlen : Hid (l.length ≤ 1000000)) (H33 : Hid (Calls Try.prog 33 #[.pointer (some ⟨pb, 0, none⟩), .string ⟨⟨t⟩⟩] w (LnR w l t))) :
    Calls Try.prog 14 #[.pointer (some ⟨pb, 0, none⟩), .string ⟨⟨t⟩⟩] w fun e w' => ∃ p c L, e = .returned (.slice p (List.length L) c) ∧ Hid (L.Perm (l.filter fun a => a.j.tn == t) ∧ (L.Pairwise fun a b => jl b.j a.j = false) ∧ WRow w.heap.size w' (.slice p L.length c) (L.map Hd.j) ∧ Below w.heap.size w w') := by
  go_enter Try.func14, Try.ntmps14
  go_wp2_with (go_at_call 33; refine H33.out.mono ?_; rintro e w1 ⟨p0, n, c0, L, rfl, hn, h2, h3, h4, h5⟩)
  have HL : Hid (L.length = n ∧ (∀ a ∈ L, a ∈ l) ∧ PR w1 p0 L ∧ Below w.heap.size w w1) := ⟨hn, fun a ha => (List.mem_filter.1 (h2.mem_iff.1 ha)).1, h4, h5⟩
  have HP : Hid (L.Perm (l.filter fun a => a.j.tn == t) ∧ (L.Pairwise fun a b => jl b.j a.j = false)) := ⟨h2, h3⟩
  have hn6 : n ≤ 1000000 := by
    have e1 := h2.length_eq
    have e2 := List.length_filter_le (fun a : Hd => a.j.tn == t) l
    have e3 := hlen.out
    omega
  clear hn h2 h3 h4 h5 H33 hlen
  go_loopw [5, 12] (fun v x wr => ∃ (k : Nat) (p : Option Addr) (c : Nat), v = .slice p k c ∧ x = .int .i64 k ∧ k ≤ n ∧ Hid (WRow w1.heap.size wr (.slice p k c) ((L.take k).map Hd.j) ∧ Below w1.heap.size w1 wr)) (fun _ x _ => n - (intOf x).toNat)
  case atStart => exact ⟨0, none, 0, rfl, rfl, Nat.zero_le _, GRow.nil _ _ _ _ _, Below.refl _ _⟩
  case round =>
    obtain ⟨k, p, c, rfl, rfl, hk, HI⟩ := hrel
    by_cases hkn : k < n
    · obtain ⟨a, ha⟩ : ∃ a, L[k]? = some a := ⟨_, List.getElem?_eq_getElem (by have := HL.out.1; omega)⟩
      obtain ⟨g, rfl, hg⟩ := HL.out.2.2.1 k a ha
      have hg' := keep1c' HI.out.2 hg
      have hgl : g < w1.heap.size := by
        unfold World.cell? at hg
        by_cases q : g < w1.heap.size
        · exact q
        · rw [Array.getElem?_eq_none (show w1.heap.size ≤ g by omega)] at hg; cases hg
      have B1 : Below w.heap.size w wr := HL.out.2.2.2.trans (HI.out.2.mono HL.out.2.2.2.size)
      have hA := at_below B1 (Nat.le_refl _) (HB.out a (HL.out.2.1 a (List.mem_of_getElem? ha)))
      obtain ⟨d0, d1, d2, -⟩ := c4 hA
      have hlt := (Array.getElem?_eq_some_iff.1 hA).1
      have hk1 : (k : Int) < (n : Int) := by omega
      have hk2 : decide ((k : Int) < (n : Int)) = true := decide_eq_true hk1
      have O1 : Hid (WRow w1.heap.size (wr.alloc (.cells #[.int .i64 a.j.job, .string ⟨⟨a.j.tn⟩⟩, .int .i64 a.j.pr] 32)) (.slice p k c) ((L.take k).map Hd.j)) := HI.out.1.below ((Below.refl _ wr).alloc (Nat.le_refl _) _)
      have Z1 : Hid (w1.heap.size ≤ (wr.alloc (.cells #[.int .i64 a.j.job, .string ⟨⟨a.j.tn⟩⟩, .int .i64 a.j.pr] 32)).heap.size) := by have := HI.out.2.size; show _ ≤ _; simp; omega
      have R1 : Hid (RowV (wr.alloc (.cells #[.int .i64 a.j.job, .string ⟨⟨a.j.tn⟩⟩, .int .i64 a.j.pr] 32)) wr.heap.size 0 ([a.j].flatMap wC)) := row_one new0 rfl
      have e9 : Hid (k + 1 ≤ maxLen) := by show _ ≤ _; unfold maxLen; omega
      have e8 : Hid ((k + 1) * 32 ≤ 140737488355328) := by show _ ≤ _; omega
      have HT : Hid ((L.take k).map Hd.j ++ [a.j] = (L.take (k + 1)).map Hd.j) := by
        show _ = _
        rw [List.take_add_one, ha]
        simp
      have BW : Hid (Below w1.heap.size w1 (wr.alloc (.cells #[.int .i64 a.j.job, .string ⟨⟨a.j.tn⟩⟩, .int .i64 a.j.pr] 32))) := HI.out.2.alloc HI.out.2.size _
      clear ha hg hA B1 HI hk
      go_wp2_with (first
        | (at_builtin; refine append_g (B := w1.heap.size) wC_len wC_one Try.underlying37 info32 rfl (by decide) rfl _ _ rfl p k c _ rfl O1.out Z1.out wr.heap.size 0 1 1 [a.j] rfl rfl R1.out e9.out e8.out ?_; intro p3 c3 w3 hr3 hb3)
        | go_in)
      rw [HT.out] at hr3
      exact ⟨⟨k + 1, p3, c3, rfl, by simp, hkn, hr3, BW.out.trans (hb3.mono (Nat.le_refl _))⟩, by simp [intOf]; omega⟩
    · have hk1 : ¬ (k : Int) < (n : Int) := by omega
      have hk2 : decide ((k : Int) < (n : Int)) = false := decide_eq_false hk1
      have hF : Hid (WRow w.heap.size wr (.slice p k c) (L.map Hd.j) ∧ Below w.heap.size w wr ∧ k = L.length) := by
        have e1 : k = L.length := by have := HL.out.1; omega
        have := HI.out.1
        rw [List.take_of_length_le (by omega)] at this
        exact ⟨gr_base this HL.out.2.2.2.size, HL.out.2.2.2.trans (HI.out.2.mono HL.out.2.2.2.size), e1⟩
      clear HI hk
      go_wp2_with fail
      go_ret
      refine ⟨p, c, L, by rw [← hF.out.2.2]; rfl, HP.out.1, HP.out.2, ?_, hF.out.2.1⟩
      rw [← hF.out.2.2]
      exact hF.out.1
end Go.Proofs.Ythlbeofonbbbdaa
