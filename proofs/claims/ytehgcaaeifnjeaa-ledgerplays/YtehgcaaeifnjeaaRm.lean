/-
  The document's ledger: Names.
-/
import Derived.Test.YtehgcaaeifnjeaaRf
namespace Go.Proofs.Ytehgcaaeifnjeaa
open Go.RowKit Go.Maps

/-- a name's cell -/
def sC (s : List UInt8) : List Value := [.string ⟨⟨s⟩⟩]
theorem sC_len (s : List UInt8) : (sC s).length = 1 := rfl
theorem sC_one (s : List UInt8) : ∀ u ∈ sC s, u.oneCell' = true := by
  intro u hu
  rw [List.mem_singleton.1 hu]
  rfl
abbrev SR (b : Nat) (w : World) (v : Value) (L : List (List UInt8)) : Prop := GRow 9 1 sC b w v L
theorem info9 : (Try.prog.info? 9).map (fun i => (i.zero, i.size, i.bytes)) = some (some (.string ⟨#[]⟩), 1, 16) := by kernel_rfl
set_option maxHeartbeats 2000000 in
set_option maxRecDepth 100000 in
theorem rnames_raw (w : World) (rb n c : Nat) (q : Option Addr) (D : List A) (hR : Hid (RAt w rb q n c D)) (hn : n ≤ 64) :
    Calls Try.prog 13 #[.pointer (some ⟨rb, 0, none⟩)] w fun e w' => ∃ p c', e = .returned (.slice p n c') ∧ Hid (SR w.heap.size w' (.slice p n c') (D.map A.nm) ∧ Below w.heap.size w w') := by
  have hl : Hid (D.length = n) := hR.out.n.symm
  go_enter Try.func13, Try.ntmps13
  go_wp2_with fail
  go_loopw [3, 4] (fun v x wr => ∃ (k : Nat) (p : Option Addr) (c' : Nat), v = .slice p k c' ∧ x = .int .i64 k ∧ k ≤ n ∧ Hid (SR w.heap.size wr (.slice p k c') ((D.take k).map A.nm) ∧ Below w.heap.size w wr)) (fun _ x _ => n - (intOf x).toNat)
  case atStart => exact ⟨0, none, 0, rfl, rfl, Nat.zero_le _, GRow.nil _ _ _ _ _, Below.refl _ _⟩
  case round =>
    obtain ⟨k, p, c', rfl, rfl, hk, HI⟩ := hrel
    have e0 := c1 (at_below HI.out.2 (Nat.le_refl _) hR.out.cell)
    by_cases h0 : k = n
    · subst h0
      go_wp2_with fail
      go_ret
      refine ⟨p, c', rfl, ?_, HI.out.2⟩
      have := HI.out.1
      rwa [List.take_of_length_le (by have := hl.out; omega)] at this
    · have hlt' : (k : Int) < (n : Int) := by omega
      obtain ⟨a, ha⟩ : ∃ a, D[k]? = some a := ⟨D[k]'(by have := hl.out; omega), List.getElem?_eq_getElem _⟩
      obtain ⟨g, rfl⟩ := hR.out.row.some ha
      obtain ⟨l0, -⟩ := (hR.out.below HI.out.2).row.cells ha
      have HA : Hid (D[k]? = some a) := ha
      have V1 : Hid (RowV (wr.alloc (.cells #[.string ⟨⟨a.nm⟩⟩] 9 (0, 0))) wr.heap.size 0 ([a.nm].flatMap sC)) := row_one new0 rfl
      have O1 : Hid (SR w.heap.size (wr.alloc (.cells #[.string ⟨⟨a.nm⟩⟩] 9 (0, 0))) (.slice p k c') ((D.take k).map A.nm)) := HI.out.1.below ((Below.refl _ wr).alloc (Nat.le_refl _) _)
      have B1 : Hid (Below w.heap.size w (wr.alloc (.cells #[.string ⟨⟨a.nm⟩⟩] 9 (0, 0)))) := HI.out.2.alloc HI.out.2.size _
      clear ha HI
      go_wp2_with (at_builtin; refine append_g (α := List UInt8) sC_len sC_one Try.underlying37 info9 rfl (by decide) (wr := (wr.alloc (.cells #[.string ⟨⟨a.nm⟩⟩] 9 (0, 0)))) (B := w.heap.size) rfl _ _ rfl p k c' ((D.take k).map A.nm) rfl O1.out B1.out.size wr.heap.size 0 1 1 [a.nm] rfl rfl V1.out (by unfold maxLen; omega) (by omega) ?_)
      intro p3 c3 w3 h1 h2
      have HN : Hid (SR w.heap.size w3 (.slice p3 (k + 1) c3) ((D.take (k + 1)).map A.nm) ∧ Below w.heap.size w w3) := by
        refine ⟨?_, B1.out.trans h2⟩
        rw [List.take_add_one, HA.out, List.map_append, List.map_take]
        exact h1
      clear h1 h2 V1 O1 B1
      go_wp2_with fail
      refine ⟨⟨k + 1, p3, c3, rfl, by simp, by omega, HN⟩, ?_⟩
      simp only [intOf]
      omega
theorem rnames_any {w : World} {T : Nat → Prop} {rb : Nat} {D : List A} (h : Ref w T rb D) :
    Calls Try.prog 13 #[.pointer (some ⟨rb, 0, none⟩)] w fun e w' => ∃ p c', e = .returned (.slice p D.length c') ∧ Hid (SR w.heap.size w' (.slice p D.length c') (D.map A.nm) ∧ Below w.heap.size w w') := by
  obtain ⟨⟨q, n, c, h1, -⟩, -⟩ := h
  obtain rfl := h1.n
  exact rnames_raw w rb _ c q D h1 h1.len
end Go.Proofs.Ytehgcaaeifnjeaa
