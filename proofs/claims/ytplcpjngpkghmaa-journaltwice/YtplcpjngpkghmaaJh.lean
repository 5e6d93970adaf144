/-
  A new log; the law's 'opened' and 'awake'.
-/
import Derived.Test.YtplcpjngpkghmaaJg
namespace Go.Proofs.Ytplcpjngpkghmaa
open Go.RowKit Go.Maps
variable {P : Nat → Obj → Prop}

/-- the disk with a log's file alone -/
def dl (b : List UInt8) (sy : Nat) : DK := ⟨[⟨nmL, b, sy⟩], false, none⟩
theorem enc0_len : (encB 0 []).length = 16 := by
  unfold encB
  rw [List.flatMap_nil, List.append_nil, Crc.frame_length]
  rfl
theorem rep_new : replaceD DK.new 0 [] = (0, dl (encB 0 []) 16) := by
  have e1 : discardD DK.new = (0, DK.new) := by rfl
  have e2 : appendD DK.new nmS (encB 0 []) = (0, ⟨[⟨nmS, encB 0 [], 0⟩], false, none⟩) := by
    have h1 : okN nmS = true := by decide
    unfold appendD
    rw [h1]
    have h3 : ¬ 1048576 < (encB 0 []).length := by rw [enc0_len]; omega
    simp [DK.new, fnd, h3, burn, ins]
  have e3 : syncD ⟨[⟨nmS, encB 0 [], 0⟩], false, none⟩ nmS = (0, ⟨[⟨nmS, encB 0 [], (encB 0 []).length⟩], false, none⟩) := by rfl
  have e4 : renameD ⟨[⟨nmS, encB 0 [], (encB 0 []).length⟩], false, none⟩ nmS nmL = (0, dl (encB 0 []) (encB 0 []).length) := by rfl
  unfold replaceD
  rw [e1]
  simp only [ne_eq, not_true_eq_false, if_false]
  rw [e2]
  simp only [not_true_eq_false, if_false]
  rw [e3]
  simp only [not_true_eq_false, if_false]
  rw [e4, enc0_len]
theorem app_dl (b m : List UInt8) (sy : Nat) (h : b.length + m.length ≤ 1048576) : appendD (dl b sy) nmL m = (0, dl (b ++ m) sy) := by
  have h1 : okN nmL = true := by decide
  unfold appendD
  rw [h1]
  have h3 : ¬ 1048576 < b.length + m.length := by omega
  simp [dl, fnd, h3, burn, upd]
theorem syn_dl (b : List UInt8) (sy : Nat) : syncD (dl b sy) nmL = (0, dl b b.length) := by rfl

/-- a new disk's log -/
theorem open_fresh {w0 w : World} (hb : Below w0.heap.size w0 w) {pb : Nat} {tg : Nat → Tg} (h : Dsk w tg pb DK.new) (ht : ∀ k, tg k ≠ .no → w0.heap.size ≤ k) (hpr : ∀ g o, P g o → w.heap[g]? = some o ∧ tg g = .no) :
    Calls Try.prog 27 #[.pointer (some ⟨pb, 0, none⟩)] w fun e w' => e = .returned (.tuple #[.pointer (some ⟨w.heap.size, 0, none⟩), .int .i64 0]) ∧ ∃ tg' lt, LJ P w0 w' pb w.heap.size (dl (encB 0 []) 16) (some ⟨pb, 0, none⟩) 0 [] tg' lt := by
  have := open_new (P := P) (w0 := w0) h ht hb rfl hpr rfl (show Hid ((replaceD DK.new 0 []).1 = 0) from by rw [rep_new]; exact rfl)
  rw [rep_new] at this
  exact this
set_option maxHeartbeats 1000000 in
theorem opened_fresh {w0 w : World} {pb : Nat} {tg : Nat → Tg} (u : Value) (hb : Hid (Below w0.heap.size w0 w)) (h : Hid (Dsk w tg pb DK.new)) (ht : Hid (∀ k, tg k ≠ .no → w0.heap.size ≤ k)) (hpr : Hid (∀ g o, P g o → w.heap[g]? = some o ∧ tg g = .no)) :
    Calls Try.prog 12 #[.pointer (some ⟨pb, 0, none⟩), u] w fun e w' => e = .returned (.pointer (some ⟨w.heap.size, 0, none⟩)) ∧ ∃ tg' lt, LJ P w0 w' pb w.heap.size (dl (encB 0 []) 16) (some ⟨pb, 0, none⟩) 0 [] tg' lt := by
  have H27 : Hid (Calls Try.prog 27 #[.pointer (some ⟨pb, 0, none⟩)] w fun e w' => e = .returned (.tuple #[.pointer (some ⟨w.heap.size, 0, none⟩), .int .i64 0]) ∧ ∃ tg' lt, LJ P w0 w' pb w.heap.size (dl (encB 0 []) 16) (some ⟨pb, 0, none⟩) 0 [] tg' lt) := open_fresh hb.out h.out ht.out hpr.out
  go_enter Try.func12, Try.ntmps12
  go_wp2_with fail
  go_loopw [5] (fun i wr => i = .int .i64 0 ∧ wr = w) (fun _ _ => 0)
  case atStart => exact ⟨rfl, rfl⟩
  case round =>
    obtain ⟨rfl, rfl⟩ := hrel
    go_wp2_with (go_at_call 27; refine H27.out.mono ?_)
    first | rintro e w1 rfl tg1 lt1 h1 | rintro e w1 ⟨rfl, tg1, lt1, h1⟩
    go_wp2_with fail
    go_ret
    exact ⟨rfl, tg1, lt1, h1⟩

theorem new_law (w0 w : World) (y : Below w0.heap.size w0 w) : Calls Try.prog 11 #[] w fun e w' => ∃ pb, e = .returned (.pointer (some ⟨pb, 0, none⟩)) ∧ ∃ tg, Dsk w' tg pb DK.new ∧ (∀ k, tg k ≠ .no → w0.heap.size ≤ k) ∧ Below w0.heap.size w0 w' := by
  refine (new_at w).mono ?_
  rintro e w' ⟨rfl, e2⟩
  exact ⟨_, rfl, _, dsk_new w w' e2, fun kk h => by rw [tgN_new h]; exact y.size, by rw [e2]; exact below_from y ((Below.refl _ w).alloc (Nat.le_refl _) _) y.size⟩

set_option maxHeartbeats 2000000 in
set_option maxRecDepth 100000 in
theorem awake_any (w : World) : Calls Try.prog 9 #[] w fun e w' => e = .returned (.bool true) ∧ Below w.heap.size w w' := by
  go_enter Try.func9, Try.ntmps9
  go_wp2_with (go_at_call 11; refine (new_law w w (Below.refl _ _)).mono ?_)
  rintro e w1 ⟨pb, rfl, tg1, d1, t1, b1⟩
  have H27 : Hid (Calls Try.prog 27 #[.pointer (some ⟨pb, 0, none⟩)] w1 fun e w' => e = .returned (.tuple #[.pointer (some ⟨w1.heap.size, 0, none⟩), .int .i64 0]) ∧ ∃ tg' lt, LJ NoP w w' pb w1.heap.size (dl (encB 0 []) 16) (some ⟨pb, 0, none⟩) 0 [] tg' lt) := open_fresh b1 d1 t1 nofun
  clear d1 t1 b1
  go_wp2_with (go_at_call 27; refine H27.out.mono ?_)
  first | rintro e w2 rfl tg2 lt2 h2 | rintro e w2 ⟨rfl, tg2, lt2, h2⟩
  generalize w1.heap.size = lb at *
  have bw : Below w2.heap.size w2 (w2.alloc (.cells #[.int .u8 97] 5 (1, 2))) := (Below.refl _ w2).alloc (Nat.le_refl _) _
  have H2 : Hid (LJ NoP w (w2.alloc (.cells #[.int .u8 97] 5 (1, 2))) pb lb (dl (encB 0 []) 16) (some ⟨pb, 0, none⟩) 0 [] tg2 lt2) := h2.keep bw
  have hrow : Row (w2.alloc (.cells #[.int .u8 97] 5 (1, 2))) w2.heap.size 0 [97] := row_new (l := [97])
  have n1 : tg2 w2.heap.size = .no := no_of fun e => Nat.lt_irrefl _ (h2.d.lt e)
  have n2 : lt2 w2.heap.size = .no := no_of fun e => by obtain ⟨_, hg⟩ := h2.g; exact Nat.lt_irrefl _ (hg.lt_ _ e)
  have H20 : Hid (Calls Try.prog 20 #[.pointer (some ⟨lb, 0, none⟩), .slice (some ⟨w2.heap.size, 0, none⟩) 1 1] (w2.alloc (.cells #[.int .u8 97] 5 (1, 2))) fun e w' => e = .returned (.tuple #[.int .i64 0, .int .i64 0]) ∧ ∃ tg' lt' a c', LJ NoP w w' pb lb (dl (encB 0 [] ++ Crc.frame [97]) 16) (some ⟨pb, 0, none⟩) 0 [⟨[97], a, c'⟩] tg' lt') :=
    lap_ok H2.out [97] (some ⟨w2.heap.size, 0, none⟩) 1 1 (by omega) rfl nofun (.inr ⟨_, 0, rfl, hrow, by simp, n1⟩) (.inr ⟨_, 0, rfl, hrow, by simp, n2⟩) (by simp) (by simp) _ (app_dl _ _ _ (by rw [enc0_len, Crc.frame_length]; simp))
  have q31 := Lib.run_convert_bytes_const (P := Try.prog) w2 31 5 #[.int .u8 97] 1 1 Try.underlying31 Try.underlying5
  clear bw hrow n1 n2 h2 H27
  go_wp2_with (go_at_call 20; refine H20.out.mono ?_)
  first | rintro e w3 rfl tg3 lt3 a3 c3 h3 | rintro e w3 ⟨rfl, tg3, lt3, a3, c3, h3⟩
  have H3 : Hid (LJ NoP w w3 pb lb (dl (encB 0 [] ++ Crc.frame [97]) 16) (some ⟨pb, 0, none⟩) 0 [⟨[97], a3, c3⟩] tg3 lt3) := h3
  have H23 : Hid (Calls Try.prog 23 #[.pointer (some ⟨lb, 0, none⟩), .int .i64 0] w3 fun e w' => ∃ q c, e = .returned (.tuple #[.slice q 1 c, .int .i64 0]) ∧ Own w' w3.heap.size (.slice q 1 c) [97] ∧ Below w3.heap.size w3 w') := get_ok H3.out 0 ⟨[97], a3, c3⟩ rfl (by simp) (by simp)
  clear h3 H20 H2
  go_wp2_with (go_at_call 23; refine H23.out.mono ?_)
  first | rintro e w4 q4 c4 rfl o4 b4 | rintro e w4 ⟨q4, c4, rfl, o4, b4⟩
  have hs4 := str_of_own o4 (by simp)
  have H4 : Hid (LJ NoP w w4 pb lb (dl (encB 0 [] ++ Crc.frame [97]) 16) (some ⟨pb, 0, none⟩) 0 [⟨[97], a3, c3⟩] tg3 lt3) := H3.out.keep b4
  obtain ⟨v4, hg4⟩ := H4.out.g
  obtain ⟨z1, z3, hv⟩ : ∃ z1 z3, v4 = .slice z1 1 z3 := by
    rcases hg4.own.2 with ⟨rfl, h0⟩ | ⟨g, cap, cur, rfl, _⟩
    · simp at h0
    · exact ⟨_, _, rfl⟩
  subst hv
  have H22 : Hid (Calls Try.prog 22 #[.pointer (some ⟨lb, 0, none⟩)] w4 fun e w' => e = .returned (.int .i64 1) ∧ Below w4.heap.size w4 w') := next_at w4 lb _ 0 _ 1 _ (by omega) (by omega) hg4.cell
  have B4 : Hid (Below w.heap.size w w4) := H4.out.b
  clear hg4 o4 b4 H3 H23 H4
  go_wp2_with (go_at_call 22; refine H22.out.mono ?_)
  first | rintro e w5 rfl b5 | rintro e w5 ⟨rfl, b5⟩
  go_wp2_with fail
  go_ret
  exact ⟨rfl, below_from B4.out b5 B4.out.size⟩
end Go.Proofs.Ytplcpjngpkghmaa
