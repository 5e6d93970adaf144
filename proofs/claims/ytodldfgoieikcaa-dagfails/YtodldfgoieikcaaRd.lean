/-
  The reference's Put: a number put into a rising list.
-/
import Derived.Test.YtodldfgoieikcaaRc
namespace Go.Proofs.Ytodldfgoieikcaa
open Go.RowKit Go.Maps

structure PutP (B : Nat) (w w' : World) (v : Value) (n : Nat) (E : List Int) (x : Int) (E' : List Int) : Prop where
  n : n = E'.length
  r : IRow B w' v E'
  s : Ris E'
  m : ∀ y, y ∈ E' ↔ y = x ∨ y ∈ E
  b : Below B w w'
theorem put_ris {E : List Int} {x : Int} {j : Nat} (hs : Ris E) (hx : x ∉ E) (h : ∀ (i : Nat) (y : Int), E[i]? = some y → j ≤ i → x < y) (hj : j = 0 ∨ ∃ y, E[j - 1]? = some y ∧ y ≤ x) : Ris (E.take j ++ x :: E.drop j) := by
  refine ris_ins hs (fun i y hy hi => ?_) (fun i y hy hi => h i y hy hi)
  rcases hj with rfl | ⟨z, hz, hzx⟩
  · omega
  · have hne : z ≠ x := fun e => hx (e ▸ List.mem_of_getElem? hz)
    by_cases e : i = j - 1
    · subst e; rw [hz] at hy; cases hy; omega
    · have := hs.lt (show i < j - 1 by omega) hy hz
      omega
theorem put_mem {E : List Int} {x : Int} {j : Nat} : ∀ y, y ∈ E.take j ++ x :: E.drop j ↔ y = x ∨ y ∈ E := by
  intro y
  have : y ∈ E ↔ y ∈ E.take j ∨ y ∈ E.drop j := by
    conv => lhs; rw [← List.take_append_drop j E]
    exact List.mem_append
  rw [this, List.mem_append, List.mem_cons]
  constructor
  · rintro (q | q | q)
    · exact .inr (.inl q)
    · exact .inl q
    · exact .inr (.inr q)
  · rintro (q | q | q)
    · exact .inr (.inl q)
    · exact .inl q
    · exact .inr (.inr q)
set_option maxHeartbeats 2000000 in
set_option maxRecDepth 100000 in
theorem put_any {w : World} {B : Nat} (p : Option Addr) (m c : Nat) (E : List Int) (x : Int) (h : IRow B w (.slice p m c) E) (hs : Ris E) (hB : B ≤ w.heap.size) (h9 : m ≤ 1000) :
    Calls Try.prog 35 #[.slice p m c, .int .i64 x] w fun e w' => ∃ (p' : Option Addr) (n' c' : Nat), e = .returned (.slice p' n' c') ∧ n' ≤ m + 1 ∧ Hid (∃ E', PutP B w w' (.slice p' n' c') n' E x E') := by
  have HI : Hid (Calls Try.prog 17 #[.slice p m c, .int .i64 x] w fun e w' => e = .returned (.bool (inB E x)) ∧ w' = w) := in_any w p m c E x h.len h.ai (by omega)
  have HH : Hid (IRow B w (.slice p m c) E ∧ Ris E ∧ B ≤ w.heap.size) := ⟨h, hs, hB⟩
  clear h hs hB
  cases hb : inB E x
  · have HX : Hid (x ∉ E) := inB_no.1 hb
    have HO : Hid (IRow B (w.alloc (.cells #[.int .i64 x] 2)) (.slice p m c) E) := HH.out.1.below ((Below.refl _ _).alloc (Nat.le_refl _) _)
    have HV : Hid ((w.alloc (.cells #[.int .i64 x] 2)).cell? ⟨w.heap.size, 0, none⟩ = some (.int .i64 x)) := by show World.cell? _ _ = _; rw [cell_of new0]; rfl
    have HB2 : Hid (Below B w (w.alloc (.cells #[.int .i64 x] 2)) ∧ B ≤ (w.alloc (.cells #[.int .i64 x] 2)).heap.size) := ⟨(Below.refl _ _).alloc HH.out.2.2 _, by have := HH.out.2.2; simp; omega⟩
    go_enter Try.func35, Try.ntmps35
    go_upto_region 3 with (go_at_call 17; refine HI.out.mono ?_; rintro e w1 ⟨rfl, rfl⟩; rw [hb])
    go_wp2_with (at_builtin; refine append_one (wr := w1.alloc (.cells #[.int .i64 x] 2)) (B := B) rfl _ _ rfl p m c E x rfl HO.out HB2.out.2 w1.heap.size 1 rfl HV.out (by omega) ?_; intro g3 c3 w3 R3 hB3)
    have HS0 : Hid (m = E.length ∧ IRow B w3 (.slice (some ⟨g3, 0, none⟩) (m + 1) c3) (shf E x m) ∧ Below B w1 w3) := by
      have e9 := HH.out.1.len
      refine ⟨e9, ?_, HB2.out.1.trans hB3⟩
      rw [e9, shf_end, ← e9]
      exact R3
    clear R3 hB3 HO HV HB2 HI
    go_loopw [5] (fun t wr => ∃ j : Nat, t = .int .i64 j ∧ j ≤ m ∧ Hid (IRow B wr (.slice (some ⟨g3, 0, none⟩) (m + 1) c3) (shf E x j) ∧ Below B w1 wr ∧ ∀ (i : Nat) (y : Int), E[i]? = some y → j ≤ i → x < y)) (fun t _ => (intOf t).toNat)
    case atStart => exact ⟨m, by simp, Nat.le_refl _, HS0.out.2.1, HS0.out.2.2, fun i y hy hi => by have := (List.getElem?_eq_some_iff.1 hy).1; have := HS0.out.1; omega⟩
    case round =>
      obtain ⟨j, rfl, hjm, HJ⟩ := hrel
      have HL : Hid (m = E.length) := HS0.out.1
      have hge := HJ.out.1.ge (g := g3) rfl
      have hfz := HJ.out.1.fz j
      obtain ⟨z, hz⟩ : ∃ z, (shf E x j)[j]? = some z := ⟨_, List.getElem?_eq_getElem (by rw [shf_length _ _ _ (by have := HL.out; omega)]; have := HL.out; omega)⟩
      have hcz := HJ.out.1.cell hz
      have hk9 : (j : Int) < (m : Int) + 1 := by omega
      have HD : (j = 0 ∨ ∃ y, E[j - 1]? = some y ∧ y ≤ x) → Hid (∃ E', PutP B w1 (wr.setCell ⟨g3, j, none⟩ (.int .i64 x)) (.slice (some ⟨g3, 0, none⟩) (m + 1) c3) (m + 1) E x E') := fun hj => by
        have h9 := HJ.out.1.set j x
        rw [shf_done (by have := HL.out; omega)] at h9
        exact ⟨_, h9.len, h9, put_ris HH.out.2.1 HX.out HJ.out.2.2 hj, put_mem, HJ.out.2.1.setCell hge _⟩
      by_cases hj : j = 0
      · have HD0 := HD (.inl hj)
        clear HD
        subst hj
        clear hz HJ hge
        go_wp2_with fail
        go_ret
        exact ⟨_, m + 1, c3, rfl, Nat.le_refl _, HD0.out⟩
      · obtain ⟨l, hl⟩ : ∃ l, j = l + 1 := ⟨j - 1, by omega⟩
        obtain ⟨y, hy⟩ : ∃ y, E[l]? = some y := ⟨_, List.getElem?_eq_getElem (by have := HL.out; omega)⟩
        have hcy := HJ.out.1.cell (i := l) (x := y) (by rw [hl]; exact shf_prev hy)
        have hl2 : (0 : Int) < (j : Int) := by omega
        have hl2' : decide ((0 : Int) < (j : Int)) = true := decide_eq_true hl2
        have hl4 : (j : Int) - 1 = (l : Int) := by omega
        have hl5 : (l : Int) < (m : Int) + 1 := by omega
        have hwj : IntKind.i64.wrap ((j : Int) - 1) = (l : Int) := by rw [IntKind.wrap_i64]; omega
        by_cases hxy : x < y
        · have HN : Hid (IRow B (wr.setCell ⟨g3, j, none⟩ (.int .i64 y)) (.slice (some ⟨g3, 0, none⟩) (m + 1) c3) (shf E x l) ∧ Below B w1 (wr.setCell ⟨g3, j, none⟩ (.int .i64 y)) ∧ ∀ (i : Nat) (y : Int), E[i]? = some y → l ≤ i → x < y) := by
            have h9 := HJ.out.1.set j y
            rw [hl, shf_step hy, ← hl] at h9
            refine ⟨h9, HJ.out.2.1.setCell hge _, fun i u hu hi => ?_⟩
            by_cases e : i = l
            · subst e; rw [hy] at hu; cases hu; exact hxy
            · exact HJ.out.2.2 i u hu (by omega)
          have hxy' : decide (x < y) = true := decide_eq_true hxy
          have hlk : Hid (l ≤ m ∧ l < j) := ⟨by omega, by omega⟩
          clear HD hz hy HJ hge hl hj
          go_wp2_with fail
          refine ⟨⟨l, rfl, hlk.out.1, HN.out⟩, ?_⟩
          have := hlk.out
          simp [intOf]
          omega
        · have HD0 := HD (.inr ⟨y, by rw [hl]; exact hy, by omega⟩)
          have hxy' : decide (x < y) = false := decide_eq_false hxy
          clear HD hz hy HJ hge hl hj
          go_wp2_with fail
          go_ret
          exact ⟨_, m + 1, c3, rfl, Nat.le_refl _, HD0.out⟩
  · have HX : Hid (x ∈ E) := inB_iff.1 hb
    go_enter Try.func35, Try.ntmps35
    go_wp2_with (go_at_call 17; refine HI.out.mono ?_; rintro e w1 ⟨rfl, rfl⟩; rw [hb])
    go_ret
    exact ⟨p, m, c, rfl, by omega, E, HH.out.1.len, HH.out.1, HH.out.2.1, fun y => ⟨fun q => .inr q, fun q => q.elim (fun e => by rw [e]; exact HX.out) id⟩, Below.refl _ _⟩
end Go.Proofs.Ytodldfgoieikcaa
