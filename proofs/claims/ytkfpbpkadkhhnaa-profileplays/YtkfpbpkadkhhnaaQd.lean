/-
  The reference's ends.
-/
import Derived.Test.YtkfpbpkadkhhnaaQc
import Derived.Deep.CutBlock
import Derived.Deep.CutRange
import Derived.Deep.DeepCutAuto
namespace Go.Proofs.Ytkfpbpkadkhhnaa
open Go.RowKit Go.Maps

theorem info2 : (Try.prog.info? 2).map (fun i => (i.zero, i.size, i.bytes)) = some (some (.int .i64 0), 1, 8) := by kernel_rfl
/-- while the ends are gathered -/
structure EQs (w wr : World) (v : Value) (T : List Opr) (i : Nat) (E : List Int) : Prop where
  bl : Below w.heap.size w wr
  r : IRow w.heap.size wr v E
  e : En T i E
theorem below_grown {w w1 w2 : World} {B : Nat} (h : Below w.heap.size w w1) {r : Option Nat} (k : w1.grownBy w2 r) (hr : ∀ g, r = some g → w.heap.size ≤ g) (_ : B = w.heap.size) : Below w.heap.size w w2 :=
  h.trans ⟨k.os, k.tape, k.output, k.size, fun j hj => k.block j (Nat.lt_of_lt_of_le hj h.size) fun e => by have := hr j e.symm; omega⟩
/-- a tick behind a row of ticks -/
theorem append_tick {ops : Array Oper} {rest : List Oper} {o : Oper} {a : Act} {Q : Exit → Act → World → Prop} {w wr : World} (hgd : o.guard = none) (s x : Operand) (ho : o.op = .call { callee := .builtin .append, args := #[s, x], argTypes := #[61, 61] }) (p : Option Addr) (m c : Nat) (E : List Int) (y : Int) (hs : a.eval s = .slice p m c) (hm : m = E.length) (hr : IRow w.heap.size wr (.slice p m c) E) (hb : Below w.heap.size w wr)
    (g cc : Nat) (hx : a.eval x = .slice (some ⟨g, 0, none⟩) 1 cc) (hg : wr.cell? ⟨g, 0, none⟩ = some (.int .i64 y)) (h9 : m ≤ 100000)
    (h : ∀ g3 c3 w3, IRow w.heap.size w3 (.slice (some ⟨g3, 0, none⟩) (m + 1) c3) (E ++ [y]) → Below w.heap.size w w3 → wpList Try.prog ops Q rest (a.put o.dst (.slice (some ⟨g3, 0, none⟩) (m + 1) c3)) w3) :
    wpList Try.prog ops Q (o :: rest) a wr := by
  refine append_vals (w := wr) Try.underlying61 info2 rfl (by decide) hgd s x ho w.heap.size (.slice p m c) m (ints E) hs (by have := hr; unfold IRow at this; rw [← hm] at this; exact this) g 0 cc 1 (ints [y]) hx rfl (fun k u hu => ?_) ints_one (by unfold maxLen; omega) (by omega) hb.size fun v' w3 ho3 hg3 => ?_
  · cases k with
    | zero => simp [ints] at hu; rw [← hu]; exact hg
    | succ k => simp [ints] at hu
  · have R3 : IRow w.heap.size w3 v' (E ++ [y]) := by
      unfold IRow
      rw [List.length_append, ← hm]
      have e9 : ints (E ++ [y]) = ints E ++ ints [y] := by simp [ints]
      rw [e9]
      exact ho3
    have hB3 : Below w.heap.size w w3 := below_grown (B := w.heap.size) hb hg3 (fun g e => hr.ge e) rfl
    obtain ⟨g3, c3, e3⟩ := R3.row (by simp)
    rw [show (E ++ [y]).length = m + 1 by rw [List.length_append, ← hm]; rfl] at e3
    subst e3
    exact h g3 c3 w3 R3 hB3
set_option maxHeartbeats 4000000 in
set_option maxRecDepth 100000 in
theorem rends_any {w : World} {rb : Nat} {C : V} {tv : Value} {T : List Opr} (h : RP w rb C tv T) (hn : T.length ≤ 4096) :
    Calls Try.prog 26 #[.pointer (some ⟨rb, 0, none⟩)] w fun e w' => ∃ (p : Option Addr) (c : Nat) (E : List Int), e = .returned (.slice p E.length c) ∧ IRow w.heap.size w' (.slice p E.length c) E ∧ Ends T E ∧ Below w.heap.size w w' := by
  have HM : Hid (RP w rb C tv T) := h
  have hlt := h.lt rb (.inl rfl)
  clear h
  generalize hTn : T.length = n at *
  have HTn : Hid (T.length = n) := hTn
  clear hTn
  go_enter Try.func26, Try.ntmps26
  go_wp2_with fail
  go_loopw [3, 4] (fun t3 t4 wr => ∃ (i : Nat) (p : Option Addr) (c m : Nat) (E : List Int), t3 = .slice p m c ∧ t4 = .int .i64 i ∧ i ≤ 2 * n ∧ Hid (m = E.length ∧ EQs w wr (.slice p m c) T i E)) (fun _ t4 _ => 2 * n - (intOf t4).toNat)
  case atStart => exact ⟨0, none, 0, 0, [], rfl, rfl, Nat.zero_le _, rfl, Below.refl _ _, IRow.nil _ _, En.nil _⟩
  case round =>
    obtain ⟨i, p, c, m, E, rfl, rfl, hin, HE⟩ := hrel
    have hM := HM.out.below HE.out.2.bl
    have hml : m ≤ i := by have := HE.out.2.e.l; have := HE.out.1; omega
    by_cases hi : i < 2 * n
    · have hi' : (i : Int) < 2 * (n : Int) := by omega
      obtain ⟨hf, hhf⟩ : ∃ hf, hf = i / 2 := ⟨_, rfl⟩
      have hq : (i : Int).tdiv 2 = (hf : Int) := by rw [Int.tdiv_eq_ediv_of_nonneg (by omega)]; omega
      have hhn : (hf : Int) < (n : Int) := by omega
      obtain ⟨o, ho⟩ : ∃ o, T[hf]? = some o := ⟨_, List.getElem?_eq_getElem (by have := HTn.out; omega)⟩
      obtain ⟨g, c', e0⟩ := hM.rw.row (by have := HTn.out; omega)
      have c4 := hM.cells.2.2.2.2
      have hR := hM.rw
      rw [e0] at c4 hR
      rw [HTn.out] at c4
      obtain ⟨s0, s1, -⟩ := hR.cells ho
      obtain ⟨x, hx⟩ : ∃ x, x = if i % 2 = 1 then o.b else o.a := ⟨_, rfl⟩
      have Hx : Hid (hs T i x ∧ ∀ y, hs T i y → y = x) := by
        rw [hhf] at ho
        refine ⟨⟨o, ho, hx⟩, fun y hy => ?_⟩
        obtain ⟨o', h1, h2⟩ := hy
        rw [ho] at h1
        cases h1
        rw [h2, hx]
      have hww : IntKind.i64.wrap (2 * (n : Int)) = 2 * (n : Int) := by rw [IntKind.wrap_i64]; omega
      clear hM hR ho e0
      have HPar : Hid (∃ bt : Bool, ((i : Int) % 2 == 1) = bt ∧ (bt = true → x = o.b) ∧ (bt = false → x = o.a)) := by
        refine ⟨_, rfl, fun h => ?_, fun h => ?_⟩
        · have h1 : (i : Int) % 2 = 1 := by simpa using h
          rw [hx, if_pos (by omega)]
        · have h1 : ¬ (i : Int) % 2 = 1 := by simpa using h
          rw [hx, if_neg (by omega)]
      obtain ⟨bt, hb4, hb2, hb3⟩ := HPar.out
      clear HPar hx hhf
      cases bt
      all_goals first
        | (have hb5 := hb2 rfl; rw [← hb5] at s1; clear hb5)
        | (have hb5 := hb3 rfl; rw [← hb5] at s0; clear hb5)
      all_goals clear hb2 hb3
      all_goals go_upto_region 8 with fail
      all_goals clear s0 s1 c4 hb4 hq hhn
      all_goals go_wp2_with fail
      all_goals
        go_loopw [6] (fun t6 wr' => ∃ k : Nat, t6 = .int .i64 k ∧ k ≤ m ∧ wr' = wr ∧ Hid (∀ (j : Nat) (y : Int), E[j]? = some y → k ≤ j → x < y)) (fun t6 _ => (intOf t6).toNat)
        case atStart => exact ⟨m, rfl, Nat.le_refl _, rfl, fun j y hy hj => by have := (List.getElem?_eq_some_iff.1 hy).1; have := HE.out.1; omega⟩
        case round =>
          obtain ⟨k, rfl, hkm, rfl, HK⟩ := hrel
          by_cases hk0 : k = 0
          · subst hk0
            have HLO : Hid (∀ (j : Nat) (y : Int), E[j]? = some y → j < 0 → y < x) := fun _ _ _ h => absurd h (by omega)
            have HO : Hid (IRow w.heap.size (wr.alloc (.cells #[.int .i64 x] 2)) (.slice p m c) E) := HE.out.2.r.below ((Below.refl _ _).alloc (Nat.le_refl _) _)
            have HV : Hid ((wr.alloc (.cells #[.int .i64 x] 2)).cell? ⟨wr.heap.size, 0, none⟩ = some (.int .i64 x)) := by show World.cell? _ _ = _; rw [cell_of new0]; rfl
            have HB2 : Hid (Below w.heap.size w (wr.alloc (.cells #[.int .i64 x] 2)) ∧ m = E.length) := ⟨HE.out.2.bl.alloc HE.out.2.bl.size _, HE.out.1⟩
            go_wp2_with (at_builtin; refine append_tick (w := w) (wr := wr.alloc (.cells #[.int .i64 x] 2)) rfl _ _ rfl p m c E x rfl HB2.out.2 HO.out HB2.out.1 wr.heap.size 1 rfl HV.out (by omega) ?_; intro g3 c3 w3 R3 hB3)
            have HS0 : Hid (IRow w.heap.size w3 (.slice (some ⟨g3, 0, none⟩) (m + 1) c3) (shf E x m) ∧ Below w.heap.size w w3) := ⟨by have e9 := HB2.out.2; rw [e9, shf_end, ← e9]; exact R3, hB3⟩
            have HEN : Hid (En T i E ∧ m = E.length) := ⟨HE.out.2.e, HE.out.1⟩
            clear R3 hB3 HO HV HB2 HE
            go_loopw [7] (fun t7 wr' => ∃ j : Nat, t7 = .int .i64 j ∧ 0 ≤ j ∧ j ≤ m ∧ Hid (IRow w.heap.size wr' (.slice (some ⟨g3, 0, none⟩) (m + 1) c3) (shf E x j) ∧ Below w.heap.size w wr')) (fun t7 _ => (intOf t7).toNat)
            case atStart => exact ⟨m, by simp, by omega, Nat.le_refl _, HS0.out⟩
            case round =>
              clear HS0
              obtain ⟨j, rfl, hj1, hj2, HJ⟩ := hrel
              by_cases hj : j = 0
              · have hj' : ¬ (0 : Int) < (j : Int) := by omega
                have hj'' : (j : Int) ≤ (0 : Int) := by omega
                have hfz := HJ.out.1.fz 0
                obtain ⟨z, hz⟩ : ∃ z, (shf E x j)[0]? = some z := ⟨_, List.getElem?_eq_getElem (by rw [shf_length _ _ _ (by have := HEN.out.2; omega)]; have := HEN.out.2; omega)⟩
                have hcz := HJ.out.1.cell hz
                have hk9 : (0 : Int) < (m : Int) + 1 := by omega
                have HN : Hid (EQs w (wr.setCell ⟨g3, 0, none⟩ (.int .i64 x)) (.slice (some ⟨g3, 0, none⟩) (m + 1) c3) T (i + 1) (E.take 0 ++ x :: E.drop 0)) := by
                  have h9 := HJ.out.1.set 0 x
                  rw [hj, shf_done (by have := HEN.out.2; omega)] at h9
                  have hge := HJ.out.1.ge (g := g3) rfl
                  exact ⟨HJ.out.2.setCell hge _, h9, HEN.out.1.new Hx.out.1 Hx.out.2 (by have := HEN.out.2; omega) HLO.out HK.out⟩
                have HLn : Hid (m + 1 = (E.take 0 ++ x :: E.drop 0).length) := by have := HEN.out.2; show m + 1 = _; simp; omega
                clear HJ hz
                go_wp2_with fail
                refine ⟨⟨i + 1, _, _, _, _, rfl, by simp, by omega, HLn.out, HN.out⟩, ?_⟩
                simp [intOf]
                omega
              · obtain ⟨l', hl'⟩ : ∃ l', j = l' + 1 := ⟨j - 1, by omega⟩
                have hj' : (0 : Int) < (j : Int) := by omega
                have hl4 : (j : Int) - 1 = (l' : Int) := by omega
                have hl5 : (l' : Int) < (m : Int) + 1 := by omega
                have hl6 : (j : Int) < (m : Int) + 1 := by omega
                obtain ⟨y2, hy2⟩ : ∃ y2, E[l']? = some y2 := ⟨_, List.getElem?_eq_getElem (by have := HEN.out.2; omega)⟩
                have hcy := HJ.out.1.cell (i := l') (x := y2) (by rw [hl']; exact shf_prev hy2)
                have hfz := HJ.out.1.fz j
                obtain ⟨z, hz⟩ : ∃ z, (shf E x j)[j]? = some z := ⟨_, List.getElem?_eq_getElem (by rw [shf_length _ _ _ (by have := HEN.out.2; omega)]; have := HEN.out.2; omega)⟩
                have hcz := HJ.out.1.cell hz
                have HN : Hid (IRow w.heap.size (wr.setCell ⟨g3, j, none⟩ (.int .i64 y2)) (.slice (some ⟨g3, 0, none⟩) (m + 1) c3) (shf E x l') ∧ Below w.heap.size w (wr.setCell ⟨g3, j, none⟩ (.int .i64 y2))) := by
                  have h9 := HJ.out.1.set j y2
                  rw [hl', shf_step hy2, ← hl'] at h9
                  have hge := HJ.out.1.ge (g := g3) rfl
                  exact ⟨h9, HJ.out.2.setCell hge _⟩
                have hwj : IntKind.i64.wrap ((j : Int) - 1) = (l' : Int) := by rw [IntKind.wrap_i64]; omega
                have hlk : Hid (0 ≤ l' ∧ l' ≤ m ∧ l' < j) := ⟨by omega, by omega, by omega⟩
                clear HJ hz hy2 hl'
                go_wp2_with fail
                refine ⟨⟨l', rfl, by have := hlk.out; omega, by have := hlk.out; omega, HN.out⟩, ?_⟩
                have := hlk.out
                simp [intOf]
                omega
          · obtain ⟨l, hl⟩ : ∃ l, k = l + 1 := ⟨k - 1, by omega⟩
            obtain ⟨y, hy⟩ : ∃ y, E[l]? = some y := ⟨_, List.getElem?_eq_getElem (by have := HE.out.1; omega)⟩
            obtain ⟨g9, c9, ep⟩ := HE.out.2.r.row (by have := HE.out.1; omega)
            injection ep with ep ep2 ep3
            subst ep
            clear ep2 ep3
            have sy := HE.out.2.r.cell hy
            have hl1 : (k : Int) - 1 = (l : Int) := by omega
            have hl2 : (0 : Int) < (k : Int) := by omega
            have hl3 : (l : Int) < (m : Int) := by omega
            have hl2' : decide ((0 : Int) < (k : Int)) = true := decide_eq_true hl2
            clear hl
            by_cases hxy : x < y
            · have HK2 : Hid (∀ (j : Nat) (y : Int), E[j]? = some y → l ≤ j → x < y) := fun j z hz hj => by
                by_cases e : j = l
                · subst e; rw [hy] at hz; cases hz; exact hxy
                · exact HK.out j z hz (by omega)
              go_wp2_with fail
              refine ⟨⟨l, rfl, by omega, by first | rfl | trivial, HK2.out⟩, ?_⟩
              simp [intOf]
              omega
            · by_cases hxe : y = x
              · subst hxe
                have HN : Hid (EQs w wr (.slice (some ⟨g9, 0, none⟩) m c) T (i + 1) E) := ⟨HE.out.2.bl, HE.out.2.r, HE.out.2.e.old Hx.out.1 (List.mem_of_getElem? hy) Hx.out.2⟩
                have HLn : Hid (m = E.length) := HE.out.1
                clear hy
                go_wp2_with fail
                refine ⟨⟨i + 1, _, _, _, _, rfl, by simp, by omega, HLn.out, HN.out⟩, ?_⟩
                simp [intOf]
                omega
              · have hxe' : (y == x) = false := by simpa using hxe
                have HLO : Hid (∀ (j : Nat) (y : Int), E[j]? = some y → j < k → y < x) := fun j z hz hj => by
                  by_cases e : j = l
                  · subst e; rw [hy] at hz; cases hz; omega
                  · have := HE.out.2.e.r.lt (show j < l by omega) hz hy; omega
                clear hy
                have HO : Hid (IRow w.heap.size (wr.alloc (.cells #[.int .i64 x] 2)) (.slice (some ⟨g9, 0, none⟩) m c) E) := HE.out.2.r.below ((Below.refl _ _).alloc (Nat.le_refl _) _)
                have HV : Hid ((wr.alloc (.cells #[.int .i64 x] 2)).cell? ⟨wr.heap.size, 0, none⟩ = some (.int .i64 x)) := by show World.cell? _ _ = _; rw [cell_of new0]; rfl
                have HB2 : Hid (Below w.heap.size w (wr.alloc (.cells #[.int .i64 x] 2)) ∧ m = E.length) := ⟨HE.out.2.bl.alloc HE.out.2.bl.size _, HE.out.1⟩
                go_wp2_with (at_builtin; refine append_tick (w := w) (wr := wr.alloc (.cells #[.int .i64 x] 2)) rfl _ _ rfl (some ⟨g9, 0, none⟩) m c E x rfl HB2.out.2 HO.out HB2.out.1 wr.heap.size 1 rfl HV.out (by omega) ?_; intro g3 c3 w3 R3 hB3)
                have HS0 : Hid (IRow w.heap.size w3 (.slice (some ⟨g3, 0, none⟩) (m + 1) c3) (shf E x m) ∧ Below w.heap.size w w3) := ⟨by have e9 := HB2.out.2; rw [e9, shf_end, ← e9]; exact R3, hB3⟩
                have HEN : Hid (En T i E ∧ m = E.length) := ⟨HE.out.2.e, HE.out.1⟩
                clear R3 hB3 HO HV HB2 HE
                go_loopw [7] (fun t7 wr' => ∃ j : Nat, t7 = .int .i64 j ∧ k ≤ j ∧ j ≤ m ∧ Hid (IRow w.heap.size wr' (.slice (some ⟨g3, 0, none⟩) (m + 1) c3) (shf E x j) ∧ Below w.heap.size w wr')) (fun t7 _ => (intOf t7).toNat)
                case atStart => exact ⟨m, by simp, by omega, Nat.le_refl _, HS0.out⟩
                case round =>
                  clear HS0
                  obtain ⟨j, rfl, hj1, hj2, HJ⟩ := hrel
                  by_cases hj : j = k
                  · have hj' : ¬ ((k : Nat) : Int) < (j : Int) := by omega
                    have hj'' : (j : Int) ≤ ((k : Nat) : Int) := by omega
                    have hfz := HJ.out.1.fz k
                    obtain ⟨z, hz⟩ : ∃ z, (shf E x j)[k]? = some z := ⟨_, List.getElem?_eq_getElem (by rw [shf_length _ _ _ (by have := HEN.out.2; omega)]; have := HEN.out.2; omega)⟩
                    have hcz := HJ.out.1.cell hz
                    have hk9 : ((k : Nat) : Int) < (m : Int) + 1 := by omega
                    have HN : Hid (EQs w (wr.setCell ⟨g3, k, none⟩ (.int .i64 x)) (.slice (some ⟨g3, 0, none⟩) (m + 1) c3) T (i + 1) (E.take k ++ x :: E.drop k)) := by
                      have h9 := HJ.out.1.set k x
                      rw [hj, shf_done (by have := HEN.out.2; omega)] at h9
                      have hge := HJ.out.1.ge (g := g3) rfl
                      exact ⟨HJ.out.2.setCell hge _, h9, HEN.out.1.new Hx.out.1 Hx.out.2 (by have := HEN.out.2; omega) HLO.out HK.out⟩
                    have HLn : Hid (m + 1 = (E.take k ++ x :: E.drop k).length) := by have := HEN.out.2; show m + 1 = _; simp; omega
                    clear HJ hz hj
                    go_wp2_with fail
                    refine ⟨⟨i + 1, _, _, _, _, rfl, by simp, by omega, HLn.out, HN.out⟩, ?_⟩
                    simp [intOf]
                    omega
                  · obtain ⟨l', hl'⟩ : ∃ l', j = l' + 1 := ⟨j - 1, by omega⟩
                    have hj' : ((k : Nat) : Int) < (j : Int) := by omega
                    have hl4 : (j : Int) - 1 = (l' : Int) := by omega
                    have hl5 : (l' : Int) < (m : Int) + 1 := by omega
                    have hl6 : (j : Int) < (m : Int) + 1 := by omega
                    obtain ⟨y2, hy2⟩ : ∃ y2, E[l']? = some y2 := ⟨_, List.getElem?_eq_getElem (by have := HEN.out.2; omega)⟩
                    have hcy := HJ.out.1.cell (i := l') (x := y2) (by rw [hl']; exact shf_prev hy2)
                    have hfz := HJ.out.1.fz j
                    obtain ⟨z, hz⟩ : ∃ z, (shf E x j)[j]? = some z := ⟨_, List.getElem?_eq_getElem (by rw [shf_length _ _ _ (by have := HEN.out.2; omega)]; have := HEN.out.2; omega)⟩
                    have hcz := HJ.out.1.cell hz
                    have HN : Hid (IRow w.heap.size (wr.setCell ⟨g3, j, none⟩ (.int .i64 y2)) (.slice (some ⟨g3, 0, none⟩) (m + 1) c3) (shf E x l') ∧ Below w.heap.size w (wr.setCell ⟨g3, j, none⟩ (.int .i64 y2))) := by
                      have h9 := HJ.out.1.set j y2
                      rw [hl', shf_step hy2, ← hl'] at h9
                      have hge := HJ.out.1.ge (g := g3) rfl
                      exact ⟨h9, HJ.out.2.setCell hge _⟩
                    have hwj : IntKind.i64.wrap ((j : Int) - 1) = (l' : Int) := by rw [IntKind.wrap_i64]; omega
                    have hlk : Hid (k ≤ l' ∧ l' ≤ m ∧ l' < j) := ⟨by omega, by omega, by omega⟩
                    clear HJ hz hy2 hl'
                    go_wp2_with fail
                    refine ⟨⟨l', rfl, by have := hlk.out; omega, by have := hlk.out; omega, HN.out⟩, ?_⟩
                    simp [intOf]
                    omega
    · have hi' : ¬ (i : Int) < 2 * (n : Int) := by omega
      obtain ⟨pa, c', e0⟩ := hM.rw.shape
      have c4 := hM.cells.2.2.2.2
      rw [e0, HTn.out] at c4
      have hww : IntKind.i64.wrap (2 * (n : Int)) = 2 * (n : Int) := by rw [IntKind.wrap_i64]; omega
      have hie : Hid (i = 2 * n) := by show i = 2 * n; omega
      clear hM e0
      go_wp2_with fail
      go_ret
      have e1 := HE.out.1
      have e2 := HE.out.2
      rw [e1] at e2
      refine ⟨p, c, E, by rw [e1]; rfl, e2.r, ?_, e2.bl⟩
      have := e2.e
      rw [hie.out, ← HTn.out] at this
      exact this.all
end Go.Proofs.Ytkfpbpkadkhhnaa
