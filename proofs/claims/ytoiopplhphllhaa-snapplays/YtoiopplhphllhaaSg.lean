/-
  The checkpoint's open: a frame with what is behind it.
-/
import Derived.Test.YtoiopplhphllhaaSf
namespace Go.Proofs.Ytoiopplhphllhaa
open Go.RowKit Go.Maps

set_option maxHeartbeats 1000000 in
set_option maxRecDepth 100000 in
theorem sopen_at (p : List UInt8) (ad : Addr) (n m j k c : Nat) (w : World) (hi3 : (8 : Int) + (j : Int) = (m : Int)) (hmin : min (n : Int) 4 = 4) (hmin2 : min (n : Int) (m : Int) = (m : Int)) (hm : m ≤ 4104) (hmn : m ≤ n) (h4c : 4 ≤ c) (hmc : m ≤ c) (hc : c ≤ 9223372036854775807) (hd : n - m = k)
    (H1 : Hid (Calls Try.prog 60 #[.slice (some ad) 4 c] w fun e w' => e = .returned (.int .i64 (j : Int)) ∧ w' = w))
    (H2 : Hid (∀ w1, Below w.heap.size w w1 → Calls Try.prog 66 #[.slice (some ad) m c] w1 fun e w' => ∃ q c' u, e = .returned (.tuple #[.slice q j c', u, .int .i64 0]) ∧ Own w' w.heap.size (.slice q j c') p ∧ Below w.heap.size w w')) :
    Calls Try.prog 59 #[.slice (some ad) n c] w fun e w' => ∃ q c', e = .returned (.tuple #[.slice q j c', .slice (cutA (some ad) c m) k (c - m), .bool true]) ∧ Own w' w.heap.size (.slice q j c') p ∧ Below w.heap.size w w' := by
  go_enter Try.func59, Try.ntmps59
  go_wp2_with (go_at_call 60; refine H1.out.mono ?_)
  rintro e w1 ⟨rfl, rfl⟩
  have G2 := H2.out w1 (Below.refl _ _)
  have G2 : Hid (Calls Try.prog 66 #[.slice (some ad) m c] w1 fun e w' => ∃ q c' u, e = .returned (.tuple #[.slice q j c', u, .int .i64 0]) ∧ Own w' w1.heap.size (.slice q j c') p ∧ Below w1.heap.size w1 w') := G2
  go_wp2_with (go_at_call 66; refine G2.out.mono ?_)
  first | rintro e w2 q2 c2 u2 rfl o2 b2 | rintro e w2 ⟨q2, c2, u2, rfl, o2, b2⟩
  have O2 : Hid (Own w2 w1.heap.size (.slice q2 j c2) p) := o2
  have B2 : Hid (Below w1.heap.size w1 w2) := b2
  have s3 := slice_l (some ad) n c m .i64 (m : Int) rfl hmn
  rw [hd] at s3
  clear o2 b2 G2
  go_wp2_with fail
  go_quiet (fail)
  go_wp2_with fail
  go_ret3
  exact ⟨q2, c2, rfl, O2.out, below_drewN B2.out _⟩
theorem openAns_some {w w' : World} {l x y : List UInt8} {e : Ending} (h : openAns w w' l e) (hx : Crc.opened l = some (x, y)) : ∃ q c' q' c'', e = .returned (.tuple #[.slice q x.length c', .slice q' y.length c'', .int .i64 0]) ∧ Own w' w.heap.size (.slice q x.length c') x ∧ Own w' w.heap.size (.slice q' y.length c'') y ∧ (∀ g g', (Value.slice q x.length c').ownBlock = some g → (Value.slice q' y.length c'').ownBlock = some g' → g ≠ g') := by
  unfold openAns at h
  rw [hx] at h
  exact h
theorem opened_one (p : List UInt8) (hp : p.length ≤ 4096) : Crc.opened (Crc.frame p) = some (p, []) := by
  have h3 := Crc.opened_frame p [] hp
  rw [List.append_nil] at h3
  exact h3
theorem Row.pre {w : World} {g o : Nat} {x y : List UInt8} (h : Row w g o (x ++ y)) : Row w g o x := fun k u hu => h k u (by rw [List.getElem?_append_left (List.getElem?_eq_some_iff.1 hu).1]; exact hu)
theorem Row.post {w : World} {g o : Nat} {x y : List UInt8} (h : Row w g o (x ++ y)) : Row w g (o + x.length) y := fun k u hu => by
  have := h (x.length + k) u (by rw [List.getElem?_append_right (by omega)]; rwa [show x.length + k - x.length = k by omega])
  rwa [← Nat.add_assoc] at this
theorem sopen_any (p r : List UInt8) (g o c : Nat) (w : World) (hp : p.length ≤ 4096) (hr : Row w g o (Crc.frame p ++ r)) (hnc : (Crc.frame p ++ r).length ≤ c) (hc : c ≤ 9223372036854775807) :
    Calls Try.prog 59 #[.slice (some ⟨g, o, none⟩) (Crc.frame p ++ r).length c] w fun e w' => ∃ q c' a' c'', e = .returned (.tuple #[.slice q p.length c', .slice a' r.length c'', .bool true]) ∧ Own w' w.heap.size (.slice q p.length c') p ∧ Below w.heap.size w w' ∧ (r = [] ∨ ∃ o', a' = some ⟨g, o', none⟩ ∧ Row w g o' r) ∧ r.length ≤ c'' ∧ c'' ≤ 9223372036854775807 := by
  have hl : (Crc.frame p ++ r).length = p.length + 8 + r.length := by rw [List.length_append, Crc.frame_length]
  rw [hl] at hnc ⊢
  have hF : Row w g o (Crc.frame p) := hr.pre
  have h4 : Row w g o (Crc.fourB p.length) := by
    have : Crc.frame p = Crc.fourB p.length ++ (Crc.fourB (Crc.crc (Crc.fourB p.length ++ p)) ++ p) := by unfold Crc.frame; rw [List.append_assoc]
    rw [this] at hF
    exact hF.pre
  have H2 : ∀ w1, Below w.heap.size w w1 → Calls Try.prog 66 #[.slice (some ⟨g, o, none⟩) (p.length + 8 : Nat) c] w1 fun e w' => ∃ q c' u, e = .returned (.tuple #[.slice q p.length c', u, .int .i64 0]) ∧ Own w' w.heap.size (.slice q p.length c') p ∧ Below w.heap.size w w' := by
    intro w1 b1
    have h1 := open_any (Crc.frame p) (some ⟨g, o, none⟩) c w1 (.inr ⟨g, o, rfl, hF.keep b1 (Nat.le_refl _)⟩) nofun (by rw [Crc.frame_length]; omega) (by rw [Crc.frame_length]; omega)
    rw [Crc.frame_length] at h1
    refine h1.mono ?_
    rintro e w' ⟨h2, b2⟩
    obtain ⟨q, c', q', c'', rfl, o1, -, -⟩ := openAns_some h2 (opened_one p hp)
    exact ⟨q, c', _, rfl, o1.low b1.size, below_from b1 b2 b1.size⟩
  have H1 := four_back (n := p.length) (by omega) g o c w h4
  refine (sopen_at p ⟨g, o, none⟩ (p.length + 8 + r.length) (p.length + 8) p.length r.length c w (by omega) (by omega) (by omega) (by omega) (by omega) (by omega) (by omega) hc (by omega) H1 H2).mono ?_
  rintro e w' ⟨q, c', rfl, o1, b1⟩
  refine ⟨q, c', _, _, rfl, o1, b1, ?_, by omega, by omega⟩
  by_cases h0 : r = []
  · exact .inl h0
  · have : 0 < r.length := List.length_pos_iff.2 h0
    refine .inr ⟨o + (p.length + 8), ?_, ?_⟩
    · unfold cutA
      rw [if_neg (by omega)]
      rfl
    · have := hr.post
      rwa [Crc.frame_length] at this
end Go.Proofs.Ytoiopplhphllhaa
