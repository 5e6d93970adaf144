/-
  VectorSums holds for every input: every list of vectors has the sum of the chapter, or is refused. No condition beyond the form's own reach.
-/
import Derived.Test.YtcndmhanabgamaaLawU
import Derived.Test.YtcndmhanabgamaaOpen
import Derived.SizedLaws
import Derived.SliceStrings
namespace Go.Proofs.Ytcndmhanabgamaa.vectorSums
open Go.ChangeShapes Go.WideShapes Go.ChangeAt Go.RowKit

theorem own : ownKnob Try.prog.godebug = none := by kernel_rfl
theorem laidOut : laidOutB Try.prog = true := by kernel_rfl
theorem bytes23 : Try.prog.bytesOf 23 = 32 := by kernel_rfl

theorem add_plain (b off j : Nat) : (⟨b, off, none⟩ : Addr).add j = ⟨b, off + j, none⟩ := by unfold Addr.add; split <;> simp_all

theorem four {l : List Value} (h : l.length = 4) : ∃ c0 c1 c2 c3, l = [c0, c1, c2, c3] := by
  match l, h with
  | [c0, c1, c2, c3], _ => exact ⟨c0, c1, c2, c3, rfl⟩

theorem opened {H : Type} {enc : TypeId × Value → H} {W : World} {base : Nat} {spare : Nat → Bool} {held : Bool} {a : Addr} {len n : Nat} {elems : List (DataW H × List MemPlace)} (hlen : elems.length = len)
    (hel : ∀ i, i < len → (W.cells? base (a.add (i * Try.prog.cellsOf 23)) (Try.prog.cellsOf 23)).bind (DataW.trod enc Try.prog W base spare held n 23) = elems[i]?) :
    ∃ l : List V, l.length = len ∧ Lies W (some a) l := by
  have spot0 : 0 < len → a.spot = none := by
    intro hi
    have h := hel 0 hi
    rw [cellsOf23, List.getElem?_eq_getElem (by omega), Option.bind_eq_some_iff] at h
    obtain ⟨cs, hcs, hy⟩ := h
    obtain ⟨_, hl, hc⟩ := World.cells?_some hcs
    obtain ⟨c0, c1, c2, c3, rfl⟩ := four hl
    have k0 := hc 0 (by omega)
    simp only [List.getElem?_cons_zero] at k0
    simpa [Addr.add] using World.cell?_spot k0
  have one : ∀ i, i < len → ∃ v : V, ∃ b off : Nat, a = ⟨b, off, none⟩ ∧ W.cell? ⟨b, off + i * 4, none⟩ = some (.int .i64 v.a) ∧ W.cell? ⟨b, off + i * 4 + 1, none⟩ = some (.int .i64 v.b) ∧ W.cell? ⟨b, off + i * 4 + 2, none⟩ = some (.int .i64 v.c) ∧ W.cell? ⟨b, off + i * 4 + 3, none⟩ = some (.int .i64 v.d) := by
    intro i hi
    have h := hel i hi
    rw [cellsOf23, List.getElem?_eq_getElem (by omega), Option.bind_eq_some_iff] at h
    obtain ⟨cs, hcs, hy⟩ := h
    obtain ⟨_, hl, hc⟩ := World.cells?_some hcs
    obtain ⟨c0, c1, c2, c3, rfl⟩ := four hl
    obtain ⟨x, y, z, u, _, ⟨rfl, rfl, rfl, rfl⟩, _⟩ := elem23 hy
    have k0 := hc 0 (by omega)
    have k1 := hc 1 (by omega)
    have k2 := hc 2 (by omega)
    have k3 := hc 3 (by omega)
    simp only [List.getElem?_cons_zero, List.getElem?_cons_succ] at k0 k1 k2 k3
    obtain ⟨b, off, spot⟩ := a
    have hspot : spot = none := spot0 (by omega)
    subst hspot
    rw [add_plain, add_plain] at k0 k1 k2 k3
    exact ⟨⟨x, y, z, u⟩, b, off, rfl, k0, k1, k2, k3⟩
  by_cases h0 : len = 0
  · exact ⟨[], h0.symm, .inl rfl⟩
  · obtain ⟨_, b, off, rfl, _⟩ := one 0 (by omega)
    have two : ∀ i, ∃ v : V, i < len → W.cell? ⟨b, off + i * 4, none⟩ = some (.int .i64 v.a) ∧ W.cell? ⟨b, off + i * 4 + 1, none⟩ = some (.int .i64 v.b) ∧ W.cell? ⟨b, off + i * 4 + 2, none⟩ = some (.int .i64 v.c) ∧ W.cell? ⟨b, off + i * 4 + 3, none⟩ = some (.int .i64 v.d) := by
      intro i
      by_cases hi : i < len
      · obtain ⟨v, b', off', e, h⟩ := one i hi
        simp only [Addr.mk.injEq, and_true] at e
        obtain ⟨rfl, rfl⟩ := e
        exact ⟨v, fun _ => h⟩
      · exact ⟨default, fun h => absurd h hi⟩
    obtain ⟨f, hf⟩ := Classical.axiomOfChoice two
    refine ⟨(List.range len).map f, by simp, .inr ⟨b, off, rfl, fun i v hv => ?_⟩⟩
    have hi : i < len := by have := (List.getElem?_eq_some_iff.1 hv).1; simpa using this
    obtain rfl : f i = v := by simpa [hi] using hv
    exact hf i hi

set_option maxRecDepth 100000 in
theorem lifted (os : Os) (started : os.Started) (H : Type) (enc : TypeId × Value → H) :
    ReturnsInHanded {} Try.checked os 5 .any (Rows.vectorSumsSpec.pre6 enc Try.prog Try.f5 Rows.vectorSumsRow.domain false) (Rows.vectorSumsSpec.post enc Try.prog Try.f5 false true false false) := by
  refine returnsInHanded_of_change_sized (C := Try.checked) own started (by kernel_rfl) Try.func5
    (ChangeSpec.witness6 (enc := enc) (C := Try.checked) false ⟨#[], #[.slice none 0 0], []⟩ 8 (by kernel_rfl) (by kernel_rfl) (by kernel_rfl) (by kernel_rfl)) ?_
  intro W base args ds gs before hval0 hW _ hsz0 _
  have hsz : (DataW.weightsEach Try.prog (Try.f5.params.toList ++ Rows.vectorSumsSpec.plain.varTypes Try.prog) (ds ++ gs)).all (· ≤ reachBytes) = true := hsz0
  clear hsz0
  have hval : ∀ (j : Nat) t v, Try.f5.params[j]? = some t → args[j]? = some v → Value.okWide Try.prog W .any base t v := hval0
  have hW' := hW
  obtain ⟨p, q, hA0, hV, rfl, _, _⟩ := hW
  have hA : DataW.TrodAll enc Try.prog W 0 (fun _ => true) true Try.f5.params.toList args.toList ds p := hA0
  rw [Try.params5] at hA hval hsz
  obtain ⟨v0, vs0, d0, ds0, p0, q0, hargs, rfl, rfl, h0, r0⟩ := trodAll_cons hA
  obtain ⟨rfl, rfl, rfl⟩ := trodAll_nil r0
  obtain rfl : args = #[v0] := by cases args; simp_all
  obtain ⟨rfl, rfl⟩ := trodVars_none hV
  obtain ⟨a0, len, cap, rfl⟩ := okWide_slice Try.underlying31 (hval 0 31 v0 rfl rfl)
  have h0k := h0
  obtain ⟨fuel, hf⟩ := h0
  clear hA0 hval0
  simp only [List.append_nil] at hW'
  have hlt : ∀ x ∈ p0, x.block < W.heap.size := fun x hx => by simpa using hW'.lt x (by simp [hx])
  have fin : ∀ W' : World, Below W.heap.size W W' → Rows.vectorSumsSpec.post enc Try.checked.prog Try.f5 false true false false W #[.slice a0 len cap] (.bool true) W' := by
    intro W' hb
    exact ⟨_, _, _, [], p0 ++ [], [], hW', trodAll_cons_mk (shut_bool Try.underlying4 _) trodAll_mk0, trodAll_cons_mk (Below.trod laidOut (by kernel_rfl) (of_decide_eq_true (by kernel_rfl)) h0k hb hlt) trodAll_mk0, rfl, hb.frame _, fun h => by cases h⟩
  rcases DataW.trod_slice Try.underlying31 hf with ⟨hcs, hx⟩ | ⟨a, len', cap', elems, rest, n, _, hcs, hx, _, hl, hm, hlen, hel, _, _⟩
  · simp [Value.cells] at hcs
    obtain ⟨rfl, rfl, rfl⟩ := hcs
    refine (law_sums_none W).mono fun e W' ⟨he, hb⟩ => ?_
    subst he
    exact ⟨_, rfl, fin W' hb⟩
  · simp [Value.cells] at hcs
    obtain ⟨rfl, rfl, rfl⟩ := hcs
    simp only [Prod.mk.injEq] at hx
    obtain ⟨rfl, rfl⟩ := hx
    have hreach : len * 32 ≤ 140737488351232 := by
      have := sized_slice hsz (j := 0) (t := 31) (e := 23) rfl rfl Try.underlying31
      rw [bytes23] at this
      simp only [List.length_map, reachBytes] at this
      omega
    obtain ⟨l, rfl, hlies⟩ := opened hlen hel
    refine (law_sums_some l a cap W (by omega) hlies).mono fun e W' ⟨he, hb⟩ => ?_
    subst he
    exact ⟨_, rfl, fin W' hb⟩

theorem over : Rows.vectorSumsRow.holds Try.pinned (OpenSpec.ofChange Rows.vectorSumsSpec) :=
  OpenClaim.holds_of_wide 5 Try.f5 rfl rfl rfl rfl rfl rfl rfl ⟨rfl, rfl, rfl, rfl, rfl⟩ rfl rfl rfl rfl rfl (by kernel_rfl) Try.func5 (by kernel_rfl)
    (of_decide_eq_true (by kernel_rfl)) (by unfold Func.isWrapper; first | (rw [if_pos (by decide +kernel)]; kernel_rfl) | (rw [if_neg (by decide +kernel)]; exact ⟨rfl, rfl⟩))
    (fun os started H enc _ => lifted os started H enc)

theorem proved : Rows.VectorSumsSaid :=
  over

end Go.Proofs.Ytcndmhanabgamaa.vectorSums
