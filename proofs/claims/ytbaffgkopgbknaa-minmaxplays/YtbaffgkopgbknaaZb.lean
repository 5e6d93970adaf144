/-
  The reference's Get.
-/
import Derived.Test.YtbaffgkopgbknaaZa
namespace Go.Proofs.Ytbaffgkopgbknaa
open Go.RowKit Go.Maps

/-- what the reference's heap holds -/
def rcont (l : List RE) : Ct := fun x => if x < 0 then none else match l[x.toNat]? with
  | some e => if e.on then some e.k else none
  | none => none
theorem rcont_at {l : List RE} {i : Nat} {e : RE} (h : l[i]? = some e) : rcont l (i : Int) = if e.on then some e.k else none := by
  unfold rcont
  rw [if_neg (by omega), show ((i : Int)).toNat = i by omega, h]
section
variable {w w' : World} {rb : Nat} {v : Value} {l : List RE}
set_option maxHeartbeats 1000000 in
theorem rget_neg (x : Int) (hx : x < 0) : Calls Try.prog 27 #[.pointer (some ⟨rb, 0, none⟩), .int .i64 x] w fun e w' => e = .returned (.tuple #[ktup kz, .int .i64 3]) ∧ Below w.heap.size w w' := by
  go_enter Try.func27, Try.ntmps27
  go_wp2_with fail
  refine bodyPost_ret (v := .tuple #[ktup kz, .int .i64 3]) (by rw [results_cell_tmp rfl]; go_simp; rfl) rfl ?_
  exact ⟨rfl, by go_grown⟩
set_option maxHeartbeats 1000000 in
theorem rget_far (h : Rf w rb v l) (x : Int) (hx0 : 0 ≤ x) (hx : (l.length : Int) ≤ x) : Calls Try.prog 27 #[.pointer (some ⟨rb, 0, none⟩), .int .i64 x] w fun e w' => e = .returned (.tuple #[ktup kz, .int .i64 3]) ∧ Below w.heap.size w w' := by
  obtain ⟨a, c, rfl⟩ := h.shape
  have k1 : (w.alloc (.cells #[.int .i64 0, .int .i64 0, .int .i64 0] 45)).cell? ⟨rb, 0, none⟩ = _ := c1 (h.keep ((Below.refl _ w).alloc (Nat.le_refl _) _)).b
  clear h
  go_enter Try.func27, Try.ntmps27
  go_wp2_with fail
  refine bodyPost_ret (v := .tuple #[ktup kz, .int .i64 3]) (by rw [results_cell_tmp rfl]; go_simp; rfl) rfl ?_
  exact ⟨rfl, by go_grown⟩
set_option maxHeartbeats 1000000 in
theorem rget_off (h : Rf w rb v l) (i : Nat) {e : RE} (hi : l[i]? = some e) (ho : e.on = false) : Calls Try.prog 27 #[.pointer (some ⟨rb, 0, none⟩), .int .i64 i] w fun e w' => e = .returned (.tuple #[ktup kz, .int .i64 3]) ∧ Below w.heap.size w w' := by
  have hil : i < l.length := (List.getElem?_eq_some_iff.1 hi).1
  obtain ⟨g, c, rfl⟩ := h.row (by intro q; rw [q] at hil; simp at hil)
  have h1 := h.keep (w' := w.alloc (.cells #[.int .i64 0, .int .i64 0, .int .i64 0] 45)) ((Below.refl _ w).alloc (Nat.le_refl _) _)
  have k1 := c1 h1.b
  have p3 := h1.cell hi (j := 3) rfl (by decide)
  rw [ho] at p3
  have hil' : (i : Int) < (l.length : Int) := by omega
  have hi0 : 0 ≤ (i : Int) := by omega
  clear h h1 hi ho hil
  go_enter Try.func27, Try.ntmps27
  go_wp2_with fail
  refine bodyPost_ret (v := .tuple #[ktup kz, .int .i64 3]) (by rw [results_cell_tmp rfl]; go_simp; rfl) rfl ?_
  exact ⟨rfl, by go_grown⟩
set_option maxHeartbeats 1000000 in
theorem rget_on (h : Rf w rb v l) (i : Nat) {e : RE} (hi : l[i]? = some e) (ho : e.on = true) : Calls Try.prog 27 #[.pointer (some ⟨rb, 0, none⟩), .int .i64 i] w fun q w' => q = .returned (.tuple #[ktup e.k, .int .i64 0]) ∧ Below w.heap.size w w' := by
  have hil : i < l.length := (List.getElem?_eq_some_iff.1 hi).1
  obtain ⟨g, c, rfl⟩ := h.row (by intro q; rw [q] at hil; simp at hil)
  have h1 := h.keep (w' := w.alloc (.cells #[.int .i64 0, .int .i64 0, .int .i64 0] 45)) ((Below.refl _ w).alloc (Nat.le_refl _) _)
  have k1 := c1 h1.b
  have p0 := h1.cell hi (j := 0) rfl (by decide)
  have p1 := h1.cell hi (j := 1) rfl (by decide)
  have p2 := h1.cell hi (j := 2) rfl (by decide)
  have p3 := h1.cell hi (j := 3) rfl (by decide)
  rw [ho] at p3
  rw [Nat.add_zero] at p0
  have hil' : (i : Int) < (l.length : Int) := by omega
  have hi0 : 0 ≤ (i : Int) := by omega
  clear h h1 hi ho hil
  go_enter Try.func27, Try.ntmps27
  go_wp2_with fail
  refine bodyPost_ret (v := .tuple #[ktup e.k, .int .i64 0]) (by rw [results_cell_tmp rfl]; go_simp; rfl) rfl ?_
  exact ⟨rfl, by go_grown⟩
theorem rget_any (h : Rf w rb v l) (x : Int) : Calls Try.prog 27 #[.pointer (some ⟨rb, 0, none⟩), .int .i64 x] w fun e w' => (match rcont l x with
    | some k => e = .returned (.tuple #[ktup k, .int .i64 0])
    | none => e = .returned (.tuple #[ktup kz, .int .i64 3])) ∧ Below w.heap.size w w' := by
  by_cases h0 : x < 0
  · have : rcont l x = none := if_pos h0
    rw [this]
    exact rget_neg x h0
  · obtain ⟨i, rfl⟩ : ∃ i : Nat, x = i := ⟨x.toNat, by omega⟩
    cases hi : l[i]? with
    | none =>
      have : rcont l (i : Int) = none := by unfold rcont; rw [if_neg h0, show ((i : Int)).toNat = i by omega, hi]
      rw [this]
      exact rget_far h _ (by omega) (by have := List.getElem?_eq_none_iff.1 hi; omega)
    | some e =>
      rw [rcont_at hi]
      cases ho : e.on with
      | true => exact rget_on h i hi ho
      | false => exact rget_off h i hi ho
end
end Go.Proofs.Ytbaffgkopgbknaa
