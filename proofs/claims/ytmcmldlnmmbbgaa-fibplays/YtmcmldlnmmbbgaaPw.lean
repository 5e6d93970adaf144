/-
  Two heaps' data laid together.
-/
import Derived.Test.YtmcmldlnmmbbgaaPn
namespace Go.Proofs.Ytmcmldlnmmbbgaa
open Go.RowKit Go.Maps

/-- the other's families of children beside one's own -/
def HS.meld (S O : HS) : HS where
  gv := S.gv + O.gv
  mb := S.mb
  lst := S.lst
  X := O.X ++ S.X
  fl := fun F => match F with
    | .rt i => S.fl (.rt i)
    | .kd p => if p ∈ S.X then S.fl (.kd p) else O.fl (.kd p)
  fv := fun F => match F with
    | .rt i => S.fv (.rt i)
    | .kd p => if p ∈ S.X then S.fv (.kd p) else O.fv (.kd p)
  hd := fun b => if b ∈ S.X then S.hd b else O.hd b + S.gv
  ky := fun b => if b ∈ S.X then S.ky b else O.ky b
  par := fun b => if b ∈ S.X then S.par b else O.par b
  ix := fun b => if b ∈ S.X then S.ix b else O.ix b
  lost := fun b => if b ∈ S.X then S.lost b else O.lost b
  pl := fun b => if b ∈ S.X then S.pl b else match O.pl b with
    | some (.kd p) => some (.kd p)
    | _ => none
/-- the roots, row by row -/
def HS.roots (O : HS) : List Nat := (List.range 29).flatMap fun i => O.fl (.rt i)
section
variable {S O : HS}
theorem roots_mem (h : Inv O none []) {b : Nat} : b ∈ O.roots ↔ b ∈ O.X ∧ ∃ i, O.pl b = some (.rt i) := by
  unfold HS.roots
  rw [List.mem_flatMap]
  constructor
  · rintro ⟨i, hi, hb⟩
    have hi' : i < 29 := List.mem_range.1 hi
    obtain ⟨j, hj⟩ := List.getElem?_of_mem hb
    obtain ⟨h1, h2, _⟩ := h.lc.fam (.rt i) hi' j b hj
    exact ⟨h1, i, h2⟩
  · rintro ⟨hX, i, hp⟩
    obtain ⟨h1, h2⟩ := h.lc.plc b hX _ hp
    exact ⟨i, List.mem_range.2 h1, List.mem_of_getElem? h2⟩
theorem el_shift {a b : K} {x y g : Nat} : el a (x + g) b (y + g) ↔ el a x b y := by
  unfold el
  constructor
  · rintro (h | ⟨h, h2⟩)
    · exact .inl h
    · exact .inr ⟨h, by omega⟩
  · rintro (h | ⟨h, h2⟩)
    · exact .inl h
    · exact .inr ⟨h, by omega⟩
theorem Inv.meld (hS : Inv S none []) (hO : Inv O none []) (hd : ∀ b ∈ O.X, b ∉ S.X) (hg : S.gv + O.gv ≤ 1048576) : Inv (S.meld O) none O.roots := by
  have mX : ∀ {b}, b ∈ (S.meld O).X → b ∈ S.X ∨ (b ∈ O.X ∧ b ∉ S.X) := fun {b} hb => by
    rcases List.mem_append.1 (show b ∈ O.X ++ S.X from hb) with q | q
    · exact .inr ⟨q, hd b q⟩
    · exact .inl q
  have toS : ∀ {b}, b ∈ S.X → b ∈ (S.meld O).X := fun hb => List.mem_append_right _ hb
  have toO : ∀ {b}, b ∈ O.X → b ∈ (S.meld O).X := fun hb => List.mem_append_left _ hb
  have flS : ∀ {p}, p ∈ S.X → (S.meld O).fl (.kd p) = S.fl (.kd p) := fun hp => if_pos hp
  have flO : ∀ {p}, p ∉ S.X → (S.meld O).fl (.kd p) = O.fl (.kd p) := fun hp => if_neg hp
  have plS : ∀ {b}, b ∈ S.X → (S.meld O).pl b = S.pl b := fun hb => if_pos hb
  have plO : ∀ {b}, b ∉ S.X → ∀ F, (S.meld O).pl b = some F → ∃ p, F = .kd p ∧ O.pl b = some (.kd p) := fun {b} hb F q => by
    have q' : (match O.pl b with | some (.kd p) => some (Fa.kd p) | _ => none) = some F := (if_neg hb).symm.trans q
    split at q'
    · rename_i p hp
      exact ⟨p, (Option.some.inj q').symm, hp⟩
    · cases q'
  have plK : ∀ {b p}, b ∉ S.X → O.pl b = some (.kd p) → (S.meld O).pl b = some (.kd p) := fun {b p} hb q => by
    show (if b ∈ S.X then S.pl b else _) = _
    rw [if_neg hb, q]
  have degS : ∀ {b}, b ∈ S.X → (S.meld O).deg b = S.deg b := fun hb => by unfold HS.deg; rw [flS hb]
  have degO : ∀ {b}, b ∉ S.X → (S.meld O).deg b = O.deg b := fun hb => by unfold HS.deg; rw [flO hb]
  have dvS : ∀ {b}, b ∈ S.X → (S.meld O).dv none b = S.dv none b := fun {b} hb => by
    unfold HS.dv
    rw [degS hb, show (S.meld O).lost b = S.lost b from if_pos hb]
  have dvO : ∀ {b}, b ∉ S.X → (S.meld O).dv none b = O.dv none b := fun {b} hb => by
    unfold HS.dv
    rw [degO hb, show (S.meld O).lost b = O.lost b from if_neg hb]
  refine ⟨⟨fun F hF j b hb => ?_, fun b hb F hF => ?_, fun b hb q => ?_⟩, fun b hb hz => ?_, fun b hb => ?_, fun b hb i q => ?_, fun b hb p q => ?_, fun b hb p q => ?_, fun b hb => ?_, fun p hp k => ?_, ?_, fun a ha b hb q => ?_, fun a ha => ?_, fun a ha => ?_, hg⟩
  · cases F with
    | rt i =>
      obtain ⟨h1, h2, h3⟩ := hS.lc.fam (.rt i) hF j b hb
      exact ⟨toS h1, by rw [plS h1]; exact h2, (if_pos h1).trans h3⟩
    | kd p =>
      rcases mX hF with hp | ⟨hp, hn⟩
      · rw [flS hp] at hb
        obtain ⟨h1, h2, h3⟩ := hS.lc.fam (.kd p) hp j b hb
        exact ⟨toS h1, by rw [plS h1]; exact h2, (if_pos h1).trans h3⟩
      · rw [flO hn] at hb
        obtain ⟨h1, h2, h3⟩ := hO.lc.fam (.kd p) hp j b hb
        exact ⟨toO h1, plK (hd b h1) h2, (if_neg (hd b h1)).trans h3⟩
  · have hix : ∀ {b}, b ∈ S.X → (S.meld O).ix b = S.ix b := fun hb => if_pos hb
    have hixO : ∀ {b}, b ∉ S.X → (S.meld O).ix b = O.ix b := fun hb => if_neg hb
    rcases mX hb with h1 | ⟨h1, hn⟩
    · rw [plS h1] at hF
      obtain ⟨h2, h3⟩ := hS.lc.plc b h1 F hF
      rw [hix h1]
      cases F with
      | rt i => exact ⟨h2, h3⟩
      | kd p => exact ⟨toS h2, by rw [flS h2]; exact h3⟩
    · obtain ⟨p, rfl, hp⟩ := plO hn F hF
      obtain ⟨h2, h3⟩ := hO.lc.plc b h1 _ hp
      exact ⟨toO h2, by rw [hixO hn, flO (hd p h2)]; exact h3⟩
  · rcases mX hb with h1 | ⟨h1, hn⟩
    · rw [plS h1] at q; exact hS.lc.slf b h1 q
    · obtain ⟨p, e, hp⟩ := plO hn _ q
      exact hO.lc.slf b h1 (by rw [hp, e])
  · rcases mX hb with h1 | ⟨h1, hn⟩
    · rw [plS h1]; exact hS.all b h1 (by simp)
    · cases hp : O.pl b with
      | none => exact absurd hp (hO.all b h1 (by simp))
      | some F =>
        cases F with
        | rt i => exact absurd ((roots_mem hO).2 ⟨h1, i, hp⟩) hz
        | kd p => rw [plK hn hp]; simp
  · obtain ⟨h1, i, h2⟩ := (roots_mem hO).1 hb
    refine ⟨toO h1, ?_⟩
    show (if b ∈ S.X then S.pl b else _) = none
    rw [if_neg (hd b h1), h2]
  · rcases mX hb with h1 | ⟨h1, hn⟩
    · rw [plS h1] at q
      rw [degS h1, show (S.meld O).par b = S.par b from if_pos h1]
      exact hS.rt b h1 i q
    · obtain ⟨p, e, _⟩ := plO hn _ q
      cases e
  · rcases mX hb with h1 | ⟨h1, hn⟩
    · rw [plS h1] at q
      rw [show (S.meld O).par b = S.par b from if_pos h1]
      exact hS.kd b h1 p q
    · obtain ⟨p', e, hp⟩ := plO hn _ q
      cases e
      rw [show (S.meld O).par b = O.par b from if_neg hn]
      exact hO.kd b h1 p hp
  · rcases mX hb with h1 | ⟨h1, hn⟩
    · rw [plS h1] at q
      have hpX : p ∈ S.X := (hS.lc.plc b h1 _ q).1
      have := hS.ord b h1 p q
      unfold HS.lt at this ⊢
      rw [show (S.meld O).ky p = S.ky p from if_pos hpX, show (S.meld O).ky b = S.ky b from if_pos h1, show (S.meld O).hd p = S.hd p from if_pos hpX, show (S.meld O).hd b = S.hd b from if_pos h1]
      exact this
    · obtain ⟨p', e, hp⟩ := plO hn _ q
      cases e
      have hpX : p ∈ O.X := (hO.lc.plc b h1 _ hp).1
      have hpn := hd p hpX
      have := hO.ord b h1 p hp
      unfold HS.lt at this ⊢
      rw [show (S.meld O).ky p = O.ky p from if_neg hpn, show (S.meld O).ky b = O.ky b from if_neg hn, show (S.meld O).hd p = O.hd p + S.gv from if_neg hpn, show (S.meld O).hd b = O.hd b + S.gv from if_neg hn]
      exact el_shift.2 this
  · rcases mX hb with h1 | ⟨h1, hn⟩
    · rw [degS h1]; exact hS.dl b h1
    · rw [degO hn]; exact hO.dl b h1
  · rcases mX hp with h1 | ⟨h1, hn⟩
    · rw [flS h1]
      refine Nat.le_trans (countP_le fun c hc hq => ?_) (hS.dg p h1 k)
      obtain ⟨j, hj⟩ := List.getElem?_of_mem hc
      rw [dvS (hS.lc.fam (.kd p) h1 j c hj).1] at hq
      exact hq
    · rw [flO hn]
      refine Nat.le_trans (countP_le fun c hc hq => ?_) (hO.dg p h1 k)
      obtain ⟨j, hj⟩ := List.getElem?_of_mem hc
      rw [dvO (hd c (hO.lc.fam (.kd p) h1 j c hj).1)] at hq
      exact hq
  · exact List.nodup_append.2 ⟨hO.nd, hS.nd, fun a ha b hb q => hd a ha (by rw [q]; exact hb)⟩
  · have hdS : ∀ {b}, b ∈ S.X → (S.meld O).hd b = S.hd b := fun hb => if_pos hb
    have hdO : ∀ {b}, b ∉ S.X → (S.meld O).hd b = O.hd b + S.gv := fun hb => if_neg hb
    rcases mX ha with h1 | ⟨h1, hn1⟩ <;> rcases mX hb with h2 | ⟨h2, hn2⟩
    · rw [hdS h1, hdS h2] at q; exact hS.hu a h1 b h2 q
    · rw [hdS h1, hdO hn2] at q; have := hS.hg a h1; omega
    · rw [hdO hn1, hdS h2] at q; have := hS.hg b h2; omega
    · rw [hdO hn1, hdO hn2] at q; exact hO.hu a h1 b h2 (by omega)
  · show (S.meld O).hd a < S.gv + O.gv
    rcases mX ha with h1 | ⟨h1, hn1⟩
    · rw [show (S.meld O).hd a = S.hd a from if_pos h1]; have := hS.hg a h1; omega
    · rw [show (S.meld O).hd a = O.hd a + S.gv from if_neg hn1]; have := hO.hg a h1; omega
  · rcases mX ha with h1 | ⟨h1, hn1⟩
    · rw [show (S.meld O).ky a = S.ky a from if_pos h1]; exact hS.ok a h1
    · rw [show (S.meld O).ky a = O.ky a from if_neg hn1]; exact hO.ok a h1
end
end Go.Proofs.Ytmcmldlnmmbbgaa
