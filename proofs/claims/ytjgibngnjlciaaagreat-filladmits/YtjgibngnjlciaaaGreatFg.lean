/-
  givenBack.
-/
import Derived.Test.YtjgibngnjlciaaaGreatGi
namespace Go.Proofs.YtjgibngnjlciaaaGreat
open Go.RowKit Go.Maps

/-- what givenBack answers -/
def GvA (w : World) (L : List Vi) (S : List Sl) (e : Ending) (w' : World) : Prop := ∃ p k c, e = .returned (.tuple #[.slice p k c, .int .i64 ((gvG L S).1 : Nat)]) ∧ Hid (Below w.heap.size w w' ∧ ((gvG L S).1 = 0 → SlS w' p k c (gvG L S).2))
set_option maxHeartbeats 2000000 in
set_option maxRecDepth 100000 in
theorem given_any (L : List Vi) (S : List Sl) (q r : Option Addr) (n c m d : Nat) (w : World) (hL : Hid (VA w q L)) (hO : Hid (VOk w L)) (hS : Hid (SlS w r m d S)) (hn : Hid (L.length = n)) (n1 : n ≤ 1000000) (m1 : Hid (m ≤ 1000000)) :
    Calls Tryz.prog 18 #[.slice q n c, .slice r m d] w fun e w' => GvA w L S e w' := by
  go_enter Tryz.func18, Tryz.ntmps18
  go_wp2_with fail
  go_loopw [1, 11] (fun x y wr => ∃ (k : Nat) (r : Option Addr) (c' : Nat), x = .slice r m c' ∧ y = .int .i64 k ∧ k ≤ n ∧ Hid (∃ S', gvG (L.take k) S = (0, S') ∧ SlS wr r m c' S' ∧ Below w.heap.size w wr)) (fun _ y _ => n - (intOf y).toNat)
  case atStart => exact ⟨0, r, d, rfl, rfl, Nat.zero_le _, S, rfl, hS.out, Below.refl _ _⟩
  case round =>
    clear hS
    obtain ⟨k, r', c', rfl, rfl, hk, HT⟩ := hrel
    by_cases h0 : k = n
    · subst h0
      have HE : Hid (∃ S', gvG L S = (0, S') ∧ SlS wr r' m c' S' ∧ Below w.heap.size w wr) := by
        obtain ⟨S', h1, h2, h3⟩ := HT.out
        rw [List.take_of_length_le (Nat.le_of_eq hn.out)] at h1
        exact ⟨S', h1, h2, h3⟩
      clear HT
      go_wp2_with fail
      go_ret2
      obtain ⟨S', h1, h2, h3⟩ := HE.out
      exact ⟨r', m, c', by rw [h1]; rfl, h3, fun _ => by rw [h1]; exact h2⟩
    · have hlt' : (k : Int) < (n : Int) := by omega
      have hd : decide ((k : Int) < (n : Int)) = true := decide_eq_true hlt'
      obtain ⟨v, hv⟩ : ∃ v, L[k]? = some v := ⟨L[k]'(by have := hn.out; omega), List.getElem?_eq_getElem _⟩
      obtain ⟨S', h1, h2, h3⟩ := HT.out
      obtain ⟨g, o, rfl, c0, c1, c2, c3⟩ := VA.at (hL.out.below h3) hv
      have hvo := hO.out v (List.mem_of_getElem? hv)
      have hnx := gvG_next hv h1
      have H20 : Hid (∀ w1, Below wr.heap.size wr w1 → Calls Tryz.prog 41 #[.slice v.qT v.nT v.cT, .slice v.qN v.nN v.cN, .slice r' m c'] w1 (GvO w1 v S')) := fun w1 b1 => before_vi v S' r' m c' w1 ((hvo.below h3).below b1) (h2.below b1) m1.out
      have N1 := new0 (w := wr) (o := .cells #[.int .i64 v.j, .int .i64 v.p, .slice v.qT v.nT v.cT, .slice v.qN v.nN v.cN] 42)
      have B1 : Hid (Below wr.heap.size wr (wr.alloc (.cells #[.int .i64 v.j, .int .i64 v.p, .slice v.qT v.nT v.cT, .slice v.qN v.nN v.cN] 42))) := (Below.refl _ _).alloc (Nat.le_refl _) _
      have HF : Hid (Below w.heap.size w wr ∧ S'.length = m) := ⟨h3, h2.m⟩
      by_cases hz : (movR addR v.T v.N S').1 = 0
      · rw [if_pos hz] at hnx
        have HN : Hid (gvG (L.take (k + 1)) S = (0, (movR addR v.T v.N S').2)) := hnx
        have H20' : Hid (∀ w1, Below wr.heap.size wr w1 → Calls Tryz.prog 41 #[.slice v.qT v.nT v.cT, .slice v.qN v.nN v.cN, .slice r' m c'] w1 fun e w' => ∃ p c, e = .returned (.tuple #[.slice p m c, .int .i64 0]) ∧ Hid (Below w1.heap.size w1 w' ∧ SlS w' p m c (movR addR v.T v.N S').2)) := fun w1 b1 => (H20.out w1 b1).mono fun e w' ⟨p, k', c, e1, h4⟩ => by
          rw [hz] at e1
          have h5 := h4.out.2 hz
          have : k' = m := h5.1.m.symm.trans ((movR_length hz).trans HF.out.2)
          subst this
          exact ⟨p, c, e1, h4.out.1, h5.1⟩
        clear H20 hz hnx h1 h2 h3 hvo hv HT
        generalize v.j = vj at *
        generalize v.p = vp at *
        go_upto_region 5 with fail
        generalize wr.alloc (.cells #[.int .i64 vj, .int .i64 vp, .slice v.qT v.nT v.cT, .slice v.qN v.nN v.cN] 42) = W1 at *
        have d3 := Lib.cell_of_heap N1 2
        have d4 := Lib.cell_of_heap N1 3
        have hd1 := (Array.getElem?_eq_some_iff.1 N1).1
        go_wp2_with (go_at_call 41; refine (H20'.out _ B1.out).mono ?_; rintro e w2 ⟨p2, c2, rfl, h2⟩)
        refine ⟨⟨k + 1, p2, c2, by simp, by simp, by omega, _, HN.out, h2.out.2, below_from (below_from HF.out.1 B1.out HF.out.1.size) h2.out.1 (Nat.le_trans HF.out.1.size B1.out.size)⟩, by simp only [intOf]; omega⟩
      · rw [if_neg hz] at hnx
        have HN : Hid ((gvG L S).1 = (movR addR v.T v.N S').1) := by
          have := gvG_bad (L := L) (k := k + 1) (S := S) (by rw [hnx]; exact hz)
          rw [hnx] at this
          exact this
        have H20' : Hid (∀ w1, Below wr.heap.size wr w1 → Calls Tryz.prog 41 #[.slice v.qT v.nT v.cT, .slice v.qN v.nN v.cN, .slice r' m c'] w1 fun e w' => ∃ p k c, e = .returned (.tuple #[.slice p k c, .int .i64 ((movR addR v.T v.N S').1 : Nat)]) ∧ Hid (Below w1.heap.size w1 w')) := fun w1 b1 => (H20.out w1 b1).mono fun e w' ⟨p, k', c, e1, h4⟩ => ⟨p, k', c, e1, h4.out.1⟩
        generalize (movR addR v.T v.N S').1 = en at *
        have e1 : ¬ (en : Int) = 0 := by omega
        have e2 : ((en : Int) == 0) = false := by rw [beq_eq_false_iff_ne]; exact e1
        clear H20 hz hnx h1 h2 h3 hvo hv HT
        generalize v.j = vj at *
        generalize v.p = vp at *
        go_upto_region 5 with fail
        generalize wr.alloc (.cells #[.int .i64 vj, .int .i64 vp, .slice v.qT v.nT v.cT, .slice v.qN v.nN v.cN] 42) = W1 at *
        have d3 := Lib.cell_of_heap N1 2
        have d4 := Lib.cell_of_heap N1 3
        have hd1 := (Array.getElem?_eq_some_iff.1 N1).1
        go_wp2_with (go_at_call 41; refine (H20'.out _ B1.out).mono ?_; rintro e w2 ⟨p2, k2, c2, rfl, h2⟩)
        go_ret2
        exact ⟨none, 0, 0, by rw [HN.out]; rfl, below_from (below_from HF.out.1 B1.out HF.out.1.size) h2.out (Nat.le_trans HF.out.1.size B1.out.size), fun q => absurd (HN.out.symm.trans q) (by omega)⟩
end Go.Proofs.YtjgibngnjlciaaaGreat
