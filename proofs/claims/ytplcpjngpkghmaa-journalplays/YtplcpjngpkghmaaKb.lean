/-
  The journal's Trim of some records that is lost.
-/
import Derived.Test.YtplcpjngpkghmaaKa
namespace Go.Proofs.Ytplcpjngpkghmaa
open Go.RowKit Go.Maps
variable {P : Nat → Obj → Prop}

set_option maxHeartbeats 4000000 in
set_option maxRecDepth 100000 in
theorem ltr_lost {w0 w : World} {pb lb first : Nat} {D : DK} {l : List RC} {tg lt : Nat → Tg} (h : Hid (LJ P w0 w pb lb D (some ⟨pb, 0, none⟩) first l tg lt)) (k : Nat) (h0 : 0 < k) (hk : k ≤ l.length) (D' : DK) (hA : Hid (replaceD D (first + k) ((l.drop k).map RC.b) = (11, D'))) :
    Calls Try.prog 25 #[.pointer (some ⟨lb, 0, none⟩), .int .i64 ((first : Int) + k)] w fun e w' => e = .returned (.int .i64 11) ∧ ∃ tg', LJ P w0 w' pb lb D' none first l tg' lt := by
  obtain ⟨v, hg⟩ := h.out.g
  obtain ⟨g, cap, hv, hlc, hcm⟩ : ∃ g cap, v = .slice (some ⟨g, 0, none⟩) l.length cap ∧ l.length ≤ cap ∧ cap ≤ 9223372036854775807 := by
    rcases hg.own.2 with ⟨_, h1⟩ | ⟨g, cap, cur, e, _, _, h2, h3, _⟩
    · omega
    · exact ⟨g, cap, e, h2, h3⟩
  subst hv
  have H42 : Hid (Calls Try.prog 42 #[.pointer (some ⟨lb, 0, none⟩)] w fun e w' => e = .returned (.bool false) ∧ w' = w) := over_no w lb _ _ _ hg.cell
  have H21 : Hid (Calls Try.prog 21 #[.pointer (some ⟨lb, 0, none⟩)] w fun e w' => e = .returned (.int .i64 first) ∧ w' = w) := first_at w lb _ _ _ hg.cell
  have H22 : Hid (Calls Try.prog 22 #[.pointer (some ⟨lb, 0, none⟩)] w fun e w' => e = .returned (.int .i64 ((first : Int) + l.length)) ∧ Below w.heap.size w w') := next_at w lb _ _ _ _ _ (by omega) (by have := hg.bd; omega) hg.cell
  have HG : Hid (LgAt w lt lb (some ⟨pb, 0, none⟩) first (.slice (some ⟨g, 0, none⟩) l.length cap) l) := hg
  have hbd := hg.bd
  clear hg
  have g1 : (first : Int) ≤ (first : Int) + k := by omega
  have g2 : (first : Int) + k ≤ (first : Int) + l.length := by omega
  have g3 : ((first : Int) + k == (first : Int)) = false := by simp; omega
  have g4 : (first : Int) + k - first = k := by omega
  have g5 : IntKind.i64.wrap (k : Int) = (k : Int) := by rw [IntKind.wrap_i64]; omega
  have g6 : (k : Int) ≤ (l.length : Int) := by omega
  have g7 : k ≤ cap := by omega
  go_enter Try.func25, Try.ntmps25
  go_wp2_with (go_at_call 42; refine H42.out.mono ?_)
  rintro e w1 ⟨rfl, rfl⟩
  go_wp2_with (first | (go_at_call 21; refine H21.out.mono ?_; rintro e w2 ⟨rfl, rfl⟩) | (go_at_call 22; refine H22.out.mono ?_))
  first | rintro e w3 rfl b3 | rintro e w3 ⟨rfl, b3⟩
  have H3 : Hid (LJ P w0 w3.drew pb lb D (some ⟨pb, 0, none⟩) first l tg lt) := (h.out.keep b3).keep (Below.refl _ w3).drew
  have HG3 : Hid (LgAt w3.drew lt lb (some ⟨pb, 0, none⟩) first (.slice (some ⟨g, 0, none⟩) l.length cap) l) := (HG.out.keep (fun j hj => b3.block j (HG.out.lt_ j hj)) b3.size).keep (fun _ _ => rfl) (Nat.le_refl _)
  obtain ⟨e0, e1, e2⟩ := k3 (at_below b3 (Nat.le_refl _) HG.out.cell)
  obtain ⟨A, eA⟩ : ∃ A : Addr, (if cap = k then some (⟨g, 0, none⟩ : Addr) else some ⟨g, k, none⟩) = some A := by
    by_cases hh : cap = k
    · exact ⟨_, by rw [if_pos hh]⟩
    · exact ⟨_, by rw [if_neg hh]⟩
  have H46 : Hid (Calls Try.prog 46 #[.pointer (some ⟨pb, 0, none⟩), .int .i64 ((first : Int) + k), .slice (some A) (l.length - k) (cap - k)] w3.drew fun e w' => e = .returned (.int .i64 11) ∧ ∃ tg', LJ P w0 w' pb lb D' (some ⟨pb, 0, none⟩) first l tg' lt ∧ LgAt w' lt lb (some ⟨pb, 0, none⟩) first (.slice (some ⟨g, 0, none⟩) l.length cap) l) := by
    have := replace_any H3.out.d (first + k) (by omega) _ _ (recOff_drop H3.out HG3.out k hk A eA)
    rw [hA.out] at this
    refine this.mono ?_
    rintro e w' ⟨rfl, tg', d, st⟩
    exact ⟨rfl, tg', H3.out.left d st, HG3.out.keep (fun j hj => st.1.block j (HG3.out.lt_ j hj) fun e => hj (H3.out.ap j e)) st.1.size⟩
  clear b3 hbd
  go_wp2_with fail
  go_region_with (first | (go_at_call 46; refine H46.out.mono ?_; rintro e w4 ⟨rfl, tg4, h4, hg4⟩; have HL4 : Hid (LJ P w0 w4 pb lb D' (some ⟨pb, 0, none⟩) first l tg4 lt) := h4; have HG4 : Hid (LgAt w4 lt lb (some ⟨pb, 0, none⟩) first (.slice (some ⟨g, 0, none⟩) l.length cap) l) := hg4; clear h4 hg4) | (go_at_call 44; refine (opr_lost w4 lb _ _ _ 11 rfl rfl rfl HG4.out.cell).mono ?_; rintro e w5 ⟨rfl, rfl⟩))
  all_goals go_wp2_with fail
  all_goals go_ret
  all_goals exact ⟨rfl, tg4, HL4.out.over⟩
end Go.Proofs.Ytplcpjngpkghmaa
