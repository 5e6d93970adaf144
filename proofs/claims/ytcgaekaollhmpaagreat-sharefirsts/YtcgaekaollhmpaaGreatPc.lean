/-
  The family's leave.
-/
import Derived.Test.YtcgaekaollhmpaaGreatPb
namespace Go.Proofs.YtcgaekaollhmpaaGreat
open Go.RowKit Go.Maps

theorem blk_drew {w : World} {b t n : Nat} {f : Nat → Value} (h : Blk w b t n f) : Blk w.drew b t n f := h
theorem fam_drew {w : World} {v : Value} {l : List Nat} (h : Fam w v l) : Fam w.drew v l := h
theorem fam_other {w : World} {v : Value} {l : List Nat} (h : Fam w v l) (p : Addr) (u : Value) (hp : v.ownBlock ≠ some p.block) : Fam (w.setCell p u) v l := h.keep fun k hk => Below.heap_setCell w p u k fun e => hp (by rw [← e]; exact hk)
set_option maxHeartbeats 1000000 in
set_option maxRecDepth 100000 in
theorem leave_any (w : World) (p o tp np eb lb i m g c : Nat) (l : List Nat) (f ge gl : Nat → Value) (hp : Hid (Blk w p tp np f)) (ho : o < np) (htp : tp ≠ 96) (hf : f o = .slice (some ⟨g, 0, none⟩) (m + 1) c) (hv : Hid (Fam w (.slice (some ⟨g, 0, none⟩) (m + 1) c) l)) (hl : Hid (l.length = m + 1)) (hi : Hid (l[i]? = some eb)) (hm : Hid (l[m]? = some lb))
    (he : Hid (Blk w eb 100 8 ge)) (hge : ge 6 = .int .i64 i) (hlb : Hid (Blk w lb 100 8 gl)) (hne : p ≠ lb) (hb : m ≤ 1048576) :
    Calls Tryz.prog 77 #[.pointer (some ⟨p, o, none⟩), .pointer (some ⟨eb, 0, none⟩)] w fun e w' => e = .returned (.tuple #[]) ∧ Fam w' (.slice (some ⟨g, 0, none⟩) m c) (l.set i lb).dropLast ∧ Blk w' p tp np (fset f o (.slice (some ⟨g, 0, none⟩) m c)) ∧ Blk w' lb 100 8 (fset gl 6 (.int .i64 i)) ∧ Kp (fun k => k = p ∨ k = lb ∨ k = g) w w' := by
  have e1 := hp.out.cell o ho
  rw [hf] at e1
  have hg0 : Hid (g ≠ p ∧ g ≠ eb ∧ g ≠ lb) := ⟨fun e => hv.out.ne hp.out htp (by rw [← e]; rfl), fun e => hv.out.ne he.out (by decide) (by rw [← e]; rfl), fun e => hv.out.ne hlb.out (by decide) (by rw [← e]; rfl)⟩
  have e2 := he.out.cell 6 (by decide)
  rw [hge] at e2
  have hcap : Hid (m + 1 ≤ c) := by
    rcases hv.out.2 with ⟨e, _⟩ | ⟨g', cap, cur, e, _, _, h1, _⟩
    · cases e
    · simp only [Value.slice.injEq] at e
      rw [hl.out] at h1
      rw [e.2.2]
      exact h1
  obtain ⟨e3, f3⟩ := hv.out.cell hm.out
  obtain ⟨e4, f4⟩ := hv.out.cell hi.out
  have hin : i < m + 1 := by have := (List.getElem?_eq_some_iff.1 hi.out).1; have := hl.out; omega
  have n1 : ((m : Int) + 1) - 1 = (m : Int) := by omega
  have n2 : (i : Int) < (m : Int) + 1 := by omega
  have n3 : (m : Int) < (m : Int) + 1 := by omega
  have HIN : Hid (i < m + 1) := hin
  unfold ptr at e3 e4
  clear hin
  go_enter Tryz.func77, Tryz.ntmps77
  go_upto_region 2 with fail
  go_region
  all_goals go_upto_region 3 with fail
  have A1 : Hid (Fam (w.setCell ⟨g, i, none⟩ (.pointer (some ⟨lb, 0, none⟩))).drew (.slice (some ⟨g, 0, none⟩) (m + 1) c) (l.set i lb)) := hv.out.set i lb
  have A2 : Hid (Blk (w.setCell ⟨g, i, none⟩ (.pointer (some ⟨lb, 0, none⟩))).drew p tp np f) := hp.out.other _ _ hg0.out.1
  have A3 : Hid (Blk (w.setCell ⟨g, i, none⟩ (.pointer (some ⟨lb, 0, none⟩))).drew eb 100 8 ge) := he.out.other _ _ hg0.out.2.1
  have A4 : Hid (Blk (w.setCell ⟨g, i, none⟩ (.pointer (some ⟨lb, 0, none⟩))).drew lb 100 8 gl) := hlb.out.other _ _ hg0.out.2.2
  have A5 : Hid (Kp (fun k => k = p ∨ k = lb ∨ k = g) w (w.setCell ⟨g, i, none⟩ (.pointer (some ⟨lb, 0, none⟩))).drew) := (Kp.of_set (S := fun k => k = p ∨ k = lb ∨ k = g) w ⟨g, i, none⟩ _ (.inr (.inr rfl))).drew 1
  generalize (w.setCell ⟨g, i, none⟩ (.pointer (some ⟨lb, 0, none⟩))).drew = W1 at *
  clear e1 e2 e3 e4 f3 f4
  have hil : (l.set i lb)[i]? = some lb := by rw [List.getElem?_set_self (by have := hl.out; have := HIN.out; omega)]
  obtain ⟨e4, f4⟩ := A1.out.cell hil
  have e2 := A3.out.cell 6 (by decide)
  rw [hge] at e2
  have e5 := A4.out.cell 6 (by decide)
  have f5 := A4.out.fz 6
  unfold ptr at e4
  clear hil
  go_region
  all_goals go_upto_region 4 with fail
  have B1 : Hid (Fam (W1.setCell ⟨lb, 6, none⟩ (.int .i64 i)).drew (.slice (some ⟨g, 0, none⟩) (m + 1) c) (l.set i lb)) := fam_other A1.out _ _ (fun e => hg0.out.2.2 (by simpa [Value.ownBlock] using e))
  have B2 : Hid (Blk (W1.setCell ⟨lb, 6, none⟩ (.int .i64 i)).drew p tp np f) := A2.out.other _ _ (fun e => hne e.symm)
  have B4 : Hid (Blk (W1.setCell ⟨lb, 6, none⟩ (.int .i64 i)).drew lb 100 8 (fset gl 6 (.int .i64 i))) := A4.out.set 6 _
  have B5 : Hid (Kp (fun k => k = p ∨ k = lb ∨ k = g) w (W1.setCell ⟨lb, 6, none⟩ (.int .i64 i)).drew) := (A5.out.trans (Kp.of_set (S := (· = lb)) W1 ⟨lb, 6, none⟩ _ rfl) fun k _ h => .inr (.inl h)).drew 1
  generalize (W1.setCell ⟨lb, 6, none⟩ (.int .i64 i)).drew = W2 at *
  clear e2 e4 e5 f4 f5 A1 A2 A3 A4 A5
  obtain ⟨x, hx⟩ : ∃ x, (l.set i lb)[m]? = some x := ⟨_, List.getElem?_eq_getElem (by rw [List.length_set]; have := hl.out; omega)⟩
  obtain ⟨e6, f6⟩ := B1.out.cell hx
  unfold ptr at e6
  go_upto_region 5 with fail
  have D1 : Hid (Fam (W2.setCell ⟨g, m, none⟩ (.pointer none)) (.slice (some ⟨g, 0, none⟩) m c) (l.set i lb).dropLast) := B1.out.drop m (by rw [List.length_set]; exact hl.out)
  have D2 : Hid (Blk (W2.setCell ⟨g, m, none⟩ (.pointer none)) p tp np f) := B2.out.other _ _ hg0.out.1
  have D4 : Hid (Blk (W2.setCell ⟨g, m, none⟩ (.pointer none)) lb 100 8 (fset gl 6 (.int .i64 i))) := B4.out.other _ _ hg0.out.2.2
  have D5 : Hid (Kp (fun k => k = p ∨ k = lb ∨ k = g) w (W2.setCell ⟨g, m, none⟩ (.pointer none))) := B5.out.trans (Kp.of_set (S := (· = g)) W2 ⟨g, m, none⟩ _ rfl) fun k _ h => .inr (.inr h)
  generalize W2.setCell ⟨g, m, none⟩ (.pointer none) = W3 at *
  clear e6 f6 B1 B2 B4 B5 hx
  have e7 := D2.out.cell o ho
  have f7 := D2.out.fz o
  have hsl := slice_h g (m + 1) c m (by have := hcap.out; omega) (by have := hcap.out; omega)
  go_wp2_with fail
  go_end0
  refine ⟨rfl, fam_other D1.out _ _ (fun e => hg0.out.1 (by simpa [Value.ownBlock] using e)), D2.out.set o _, D4.out.other _ _ hne, D5.out.trans (Kp.of_set (S := (· = p)) W3 ⟨p, o, none⟩ _ rfl) fun k _ h => .inl h⟩
end Go.Proofs.YtcgaekaollhmpaaGreat
