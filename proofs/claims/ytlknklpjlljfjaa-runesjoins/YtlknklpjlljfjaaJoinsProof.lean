/-
  Proved here: for every list of texts and every byte the law RunesJoins returns true (words that are quoted and joined by blanks are cut to themselves, in their order), and its arguments read as they read before. No condition beside the form's own.
-/
import Derived.Test.YtlknklpjlljfjaaLawJ
import Derived.ProofKit
import Derived.OpenShut
import Derived.ShutString
import Derived.SizedLaws
import Derived.SliceStrings
namespace Go.Proofs.Ytlknklpjlljfjaa.runesJoins
open Go.ChangeShapes Go.WideShapes Go.ChangeAt Go.RowKit
open Go.ChangeMaps (open_string shut_string)

theorem own : ownKnob Try.prog.godebug = none := by kernel_rfl
theorem laidOut : laidOutB Try.prog = true := by kernel_rfl
theorem cells9 : Try.prog.cellsOf 9 = 1 := by kernel_rfl
theorem bytes9 : Try.prog.bytesOf 9 = 16 := by kernel_rfl

theorem add_plain (b off j : Nat) : (⟨b, off, none⟩ : Addr).add j = ⟨b, off + j, none⟩ := by unfold Addr.add; split <;> simp_all

theorem weights_strs {H : Type} (ss : List ByteArray) : ∀ s ∈ ss, s.size ∈ DataW.weightsAll Try.prog 9 (strs (H := H) ss) := by
  induction ss with
  | nil => intro s hs; cases hs
  | cons x ss ih =>
    intro s hs
    have e : DataW.weightsAll Try.prog 9 (strs (H := H) (x :: ss)) = [x.data.toList.length] ++ DataW.weightsAll Try.prog 9 (strs (H := H) ss) := by
      simp [strs, DataW.weightsAll, DataW.weights]
    rw [e]
    rcases List.mem_cons.1 hs with rfl | h
    · rw [Lib.size_eq]; simp
    · exact List.mem_append_right _ (ih s h)

theorem sized_inner {H : Type} {ts : List TypeId} {ds : List (DataW H)} {xs ys : List ByteArray} (h : (DataW.weightsEach Try.prog ts ds).all (· ≤ reachBytes) = true) (ht : ts[0]? = some 27) (hd : ds[0]? = some (.slice (strs xs) (strs ys))) :
    ∀ s ∈ xs, s.size ≤ 140737488351232 := by
  intro s hs
  have hm : s.size ∈ (DataW.slice (H := H) (strs xs) (strs ys)).weights Try.prog 27 := by
    have := weights_strs (H := H) xs s hs
    simp only [DataW.weights, Try.underlying27, List.mem_cons, List.mem_append]
    exact .inr (.inl this)
  exact of_decide_eq_true (List.all_eq_true.1 h _ (DataW.weights_mem_each ht hd _ hm))

set_option maxRecDepth 100000 in
theorem lifted (os : Os) (started : os.Started) (H : Type) (enc : TypeId × Value → H) :
    ReturnsInHanded {} Try.checked os 6 .any (Rows.runesJoinsSpec.pre6 enc Try.prog Try.f6 Rows.runesJoinsRow.domain false) (Rows.runesJoinsSpec.post enc Try.prog Try.f6 false true false false) := by
  refine returnsInHanded_of_change_sized (C := Try.checked) own started (by kernel_rfl) Try.func6
    (ChangeSpec.witness6 (enc := enc) (C := Try.checked) false ⟨#[], #[.slice none 0 0, .int .u8 0], []⟩ 8 (by kernel_rfl) (by kernel_rfl) (by kernel_rfl) (by kernel_rfl)) ?_
  intro W base args ds gs before hval0 hW _ hsz0 _
  have hsz : (DataW.weightsEach Try.prog (Try.f6.params.toList ++ Rows.runesJoinsSpec.plain.varTypes Try.prog) (ds ++ gs)).all (· ≤ reachBytes) = true := hsz0
  clear hsz0
  have hval : ∀ (j : Nat) t v, Try.f6.params[j]? = some t → args[j]? = some v → Value.okWide Try.prog W .any base t v := hval0
  have hW' := hW
  obtain ⟨p, q, hA0, hV, rfl, _, _⟩ := hW
  have hA : DataW.TrodAll enc Try.prog W 0 (fun _ => true) true Try.f6.params.toList args.toList ds p := hA0
  rw [Try.params6] at hA hval hsz
  obtain ⟨v0, vs0, d0, ds0, p0, q0, hargs, rfl, rfl, h0, r0⟩ := trodAll_cons hA
  obtain ⟨v1, vs1, d1, ds1, p1, q1, rfl, rfl, rfl, h1, r1⟩ := trodAll_cons r0
  obtain ⟨rfl, rfl, rfl⟩ := trodAll_nil r1
  obtain rfl : args = #[v0, v1] := by cases args; simp_all
  obtain ⟨rfl, rfl⟩ := trodVars_none hV
  obtain ⟨bl, rfl, rfl, rfl, w1⟩ := open_int Try.underlying5 (hval 1 5 v1 rfl rfl) h1
  obtain ⟨a0, len, cap, rfl⟩ := okWide_slice Try.underlying27 (hval 0 27 v0 rfl rfl)
  have hbl : 0 ≤ bl ∧ bl ≤ 255 := by simpa [Lit.wf, IntKind.min, IntKind.max, IntKind.signed, IntKind.bits] using w1
  have h0k := h0
  obtain ⟨fuel, hf⟩ := h0
  clear hA0 hval0
  simp only [List.append_nil] at hW'
  have hlt : ∀ x ∈ p0, x.block < W.heap.size := fun x hx => by simpa using hW'.lt x (by simp [hx])
  have fin : ∀ W' : World, Below W.heap.size W W' → Rows.runesJoinsSpec.post enc Try.checked.prog Try.f6 false true false false W #[.slice a0 len cap, .int .u8 bl] (.bool true) W' := by
    intro W' hb
    exact ⟨_, _, _, [], p0 ++ ([] ++ []), [], hW', trodAll_cons_mk (shut_bool Try.underlying4 _) trodAll_mk0, trodAll_cons_mk (Below.trod laidOut (by kernel_rfl) (of_decide_eq_true (by kernel_rfl)) h0k hb hlt) (trodAll_cons_mk (shut_int Try.underlying5 w1) trodAll_mk0), rfl, hb.frame _, fun h => by cases h⟩
  rcases open_strings Try.underlying27 Try.underlying9 cells9 hf with ⟨hcs, hx⟩ | ⟨a, len', cap', ss, hcs, _, hl, hm, hz, hx, hcell, hws⟩
  · simp [Value.cells] at hcs
    obtain ⟨rfl, rfl, rfl⟩ := hcs
    refine (law_joins 0 0 (fun _ => ByteArray.empty) none bl W hbl (by omega) (fun j hj => by omega) (fun j hj => by omega)).mono fun e W' ⟨he, hb⟩ => ?_
    subst he
    exact ⟨_, rfl, fin W' hb⟩
  · simp [Value.cells] at hcs
    obtain ⟨rfl, rfl, rfl⟩ := hcs
    simp only [Prod.mk.injEq] at hx
    obtain ⟨rfl, rfl⟩ := hx
    simp only [if_true] at hz
    have hreach : len * 16 ≤ 140737488351232 := by
      have := sized_slice hsz (j := 0) (t := 27) (e := 9) rfl rfl Try.underlying27
      rw [bytes9] at this
      simp only [strs, List.length_map, List.length_take, List.length_drop, reachBytes] at this
      omega
    have hin := sized_inner hsz rfl rfl
    have hS : ∀ j, j < len → (ss.getD j ByteArray.empty).size ≤ 140737488351232 := by
      intro j hj
      refine hin _ ?_
      have hjl : j < ss.length := by omega
      rw [List.getD, List.getElem?_eq_getElem hjl]
      exact List.mem_iff_getElem.2 ⟨j, by rw [List.length_take]; omega, by simp⟩
    have hA2 : holdsAt W (some a) len (fun j => ss.getD j ByteArray.empty) := by
      intro j hj
      obtain ⟨b, off, spot⟩ := a
      have hspot : spot = none := by simpa [Addr.add] using World.cell?_spot (hcell 0 (by omega))
      subst hspot
      exact ⟨b, off, rfl, by rw [← add_plain]; exact hcell j (by omega)⟩
    refine (law_joins len cap (fun j => ss.getD j ByteArray.empty) (some a) bl W hbl (by omega) hS hA2).mono fun e W' ⟨he, hb⟩ => ?_
    subst he
    exact ⟨_, rfl, fin W' hb⟩

theorem over : Rows.runesJoinsRow.holds Try.pinned (OpenSpec.ofChange Rows.runesJoinsSpec) :=
  OpenClaim.holds_of_wide 6 Try.f6 rfl rfl rfl rfl rfl rfl rfl ⟨rfl, rfl, rfl, rfl, rfl⟩ rfl rfl rfl rfl rfl (by kernel_rfl) Try.func6 (by kernel_rfl)
    (of_decide_eq_true (by kernel_rfl)) (by unfold Func.isWrapper; first | (rw [if_pos (by decide +kernel)]; kernel_rfl) | (rw [if_neg (by decide +kernel)]; exact ⟨rfl, rfl⟩))
    (fun os started H enc _ => lifted os started H enc)

theorem proved : Rows.RunesJoinsSaid :=
  over

end Go.Proofs.Ytlknklpjlljfjaa.runesJoins
