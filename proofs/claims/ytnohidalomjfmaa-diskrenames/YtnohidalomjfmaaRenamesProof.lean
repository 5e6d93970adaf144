/-
  DiskRenames holds for every input: a file that is renamed has its bytes, synced or not, under the new name, and the one that had that name is gone. No condition beyond the form's own reach.
-/
import Derived.Test.YtnohidalomjfmaaLr
import Derived.Test.YtnohidalomjfmaaOpn
namespace Go.Proofs.Ytnohidalomjfmaa.diskRenames
open Go.ChangeShapes Go.WideShapes Go.ChangeAt Go.RowKit

theorem own : ownKnob Try.prog.godebug = none := by kernel_rfl

set_option maxRecDepth 100000 in
theorem lifted (os : Os) (started : os.Started) (H : Type) (enc : TypeId × Value → H) :
    ReturnsInHanded {} Try.checked os 6 .any (Rows.diskRenamesSpec.pre6 enc Try.prog Try.f6 Rows.diskRenamesRow.domain false) (Rows.diskRenamesSpec.post enc Try.prog Try.f6 false true false false) := by
  refine returnsInHanded_of_change_sized (C := Try.checked) own started (by kernel_rfl) Try.func6
    (ChangeSpec.witness6 (enc := enc) (C := Try.checked) false ⟨#[], #[.slice none 0 0, .slice none 0 0, .int .u8 0], []⟩ 8 (by kernel_rfl) (by kernel_rfl) (by kernel_rfl) (by kernel_rfl)) ?_
  intro W base args ds gs before hval0 hW _ hsz0 _
  have hsz : (DataW.weightsEach Try.prog (Try.f6.params.toList ++ Rows.diskRenamesSpec.plain.varTypes Try.prog) (ds ++ gs)).all (· ≤ reachBytes) = true := hsz0
  clear hsz0
  have hval : ∀ (j : Nat) t v, Try.f6.params[j]? = some t → args[j]? = some v → Value.okWide Try.prog W .any base t v := hval0
  have hW' := hW
  obtain ⟨p, q, hA0, hV, rfl, _, _⟩ := hW
  have hA : DataW.TrodAll enc Try.prog W 0 (fun _ => true) true Try.f6.params.toList args.toList ds p := hA0
  rw [Try.params6] at hA hval hsz
  obtain ⟨v0, vs0, d0, ds0, p0, q0, hargs, rfl, rfl, h0, r0⟩ := trodAll_cons hA
  obtain ⟨v1, vs1, d1, ds1, p1, q1, rfl, rfl, rfl, h1, r1⟩ := trodAll_cons r0
  obtain ⟨v2, vs2, d2, ds2, p2, q2, rfl, rfl, rfl, h2, r2⟩ := trodAll_cons r1
  obtain ⟨rfl, rfl, rfl⟩ := trodAll_nil r2
  obtain rfl : args = #[v0, v1, v2] := by cases args; simp_all
  obtain ⟨rfl, rfl⟩ := trodVars_none hV
  obtain ⟨a, c, l, rfl, hlies, hnone, hcap, hcmax, hx⟩ := open_bytes2 (hval 0 30 v0 rfl rfl) h0
  obtain ⟨a', c', l', rfl, hlies', hnone', _, hx'⟩ := open_bytes (hval 1 30 v1 rfl rfl) h1
  obtain ⟨x0, rfl, rfl, rfl, w0⟩ := open_int Try.underlying5 (hval 2 5 v2 rfl rfl) h2
  obtain ⟨x1, hx1⟩ := byte_of w0
  subst hx1
  clear hA0 hval0
  simp only [List.append_nil] at hW'
  have hlt : ∀ x ∈ p0, x.block < W.heap.size := fun x hx => by simpa using hW'.lt x (by simp [hx])
  have hlt1 : ∀ x ∈ p1, x.block < W.heap.size := fun x hx => by simpa using hW'.lt x (by simp [hx])
  have hlen : l.length ≤ 140737488355328 := by
    rcases hx with ⟨_, rfl⟩ | ⟨es, rs, rfl, he⟩
    · simp
    · have := sized_slice hsz (j := 0) (t := 30) (e := 5) rfl rfl Try.underlying30
      rw [bytesOf5] at this
      simp only [reachBytes] at this
      omega
  have hlen' : l'.length ≤ 140737488355328 := by
    rcases hx' with ⟨_, rfl⟩ | ⟨es, rs, rfl, he⟩
    · simp
    · have := sized_slice hsz (j := 1) (t := 30) (e := 5) rfl rfl Try.underlying30
      rw [bytesOf5] at this
      simp only [reachBytes] at this
      omega
  have hcm : c ≤ 9223372036854775807 := by unfold maxLen at hcmax; omega
  refine (law_renames l l' a a' _ _ c c' x1.toNat W (by have := x1.toNat_lt; omega) rfl rfl hlies hlies' hnone hnone' (by omega) (by omega) hcap hcm).mono fun e W' ⟨he, hb⟩ => ?_
  subst he
  exact ⟨_, rfl, _, _, _, [], p0 ++ (p1 ++ ([] ++ [])), [], hW', trodAll_cons_mk (shut_bool Try.underlying4 _) trodAll_mk0, trodAll_cons_mk (Below.trod laidOut (by kernel_rfl) (of_decide_eq_true (by kernel_rfl)) h0 hb hlt) (trodAll_cons_mk (Below.trod laidOut (by kernel_rfl) (of_decide_eq_true (by kernel_rfl)) h1 hb hlt1) (trodAll_cons_mk (shut_int Try.underlying5 w0) trodAll_mk0)), rfl, hb.frame _, fun h => by cases h⟩

theorem over : Rows.diskRenamesRow.holds Try.pinned (OpenSpec.ofChange Rows.diskRenamesSpec) :=
  OpenClaim.holds_of_wide 6 Try.f6 rfl rfl rfl rfl rfl rfl rfl ⟨rfl, rfl, rfl, rfl, rfl⟩ rfl rfl rfl rfl rfl (by kernel_rfl) Try.func6 (by kernel_rfl)
    (of_decide_eq_true (by kernel_rfl)) (by unfold Func.isWrapper; first | (rw [if_pos (by decide +kernel)]; kernel_rfl) | (rw [if_neg (by decide +kernel)]; exact ⟨rfl, rfl⟩))
    (fun os started H enc _ => lifted os started H enc)

theorem proved : Rows.DiskRenamesSaid :=
  over

end Go.Proofs.Ytnohidalomjfmaa.diskRenames
