/-
  Names that stand in the ledger's map are of a size that a map takes.
-/
import Derived.Test.YtehgcaaeifnjeaaSc
import Derived.Maps.Range
namespace Go.Proofs.Ytehgcaaeifnjeaa
open Go.RowKit Go.Maps Go.WideMaps Go

theorem keys_small {w : World} {b n : Nat} {l : List Ac} (h : w.ownsMap Try.prog 9 pE b n (mapOf l)) {a : Ac} (ha : a ∈ l) : a.nm.length ≤ maxLen := by
  obtain ⟨es, clock, hb, F, _, hD⟩ := h
  unfold mapOf at hD
  have e : (l.map fun f => (Lit.string f.nm, (DataW.held f.fb : DataW Nat))) = (es.toList.map (WideElems.rg Try.prog 9 pE)).foldr DataW.insert [] := by injection hD
  have hm : (Lit.string a.nm, (DataW.held a.fb : DataW Nat)) ∈ (es.toList.map (WideElems.rg Try.prog 9 pE)).foldr DataW.insert [] := by
    rw [← e]
    exact List.mem_map.2 ⟨a, ha, rfl⟩
  replace hm := mem_sorted.1 hm
  obtain ⟨x, hx, hr⟩ := List.mem_map.1 hm
  obtain ⟨y, hy⟩ := F.reads x hx
  have hk := WideElems.rd_key hy
  have hy1 : y = (Lit.string a.nm, (DataW.held a.fb : DataW Nat)) := by
    unfold WideElems.rg at hr
    rw [hy] at hr
    exact hr
  rw [hy1] at hk
  obtain ⟨s, -, hs, hsz⟩ := string_of_keyOf Try.underlying9 hk
  have : a.nm = s.data.toList := by injection hs
  rw [this]
  exact hsz
theorem names_small {w : World} {S : Nat → Prop} {pb : Nat} {D : List A} (h : Led w S pb D) : ∀ s ∈ D.map A.nm, s.length ≤ maxLen := by
  obtain ⟨⟨mb, l, h1, rfl, -⟩, -⟩ := h
  intro s hs
  rw [List.map_map] at hs
  obtain ⟨a, ha, rfl⟩ := List.mem_map.1 hs
  have hm := h1.mp
  unfold MpAt at hm
  cases mb with
  | none => subst hm; cases ha
  | some m => exact keys_small hm ha
theorem find_any2 {w : World} {pb : Nat} {mb : Option Nat} {l : List Ac} (h : LgAt w pb mb l) (s : ByteArray) (hs : s.size ≤ maxLen) :
    Calls Try.prog 31 #[.pointer (some ⟨pb, 0, none⟩), .string s] w fun e w' => e = .returned (fptr (fnd Ac.nm s.data.toList l)) ∧ w' = w :=
  find_raw w pb mb s _ h.cell (look_at h.mp s hs)
theorem used_any2 {w : World} {S : Nat → Prop} {pb : Nat} {D : List A} (h : Led w S pb D) (s : ByteArray) (hs : s.size ≤ maxLen) :
    Calls Try.prog 14 #[.pointer (some ⟨pb, 0, none⟩), .string s] w fun e w' => e = ansV (usedD D s.data.toList) ∧ Below w.heap.size w w' := by
  obtain ⟨⟨mb, l, h1, rfl, h3⟩, h4⟩ := h
  have hfd : ∀ w1, Below w.heap.size w w1 → Calls Try.prog 31 #[.pointer (some ⟨pb, 0, none⟩), .string s] w1 fun e w' => e = .returned (fptr (fnd Ac.nm s.data.toList l)) ∧ w' = w1 := fun w1 b => find_any2 (h1.keep fun k hk => b.block k (h1.lt hk)) s hs
  unfold usedD
  rw [fnd_s]
  cases hf : fnd Ac.nm s.data.toList l with
  | none => rw [hf] at hfd; exact used_no w _ s hfd
  | some a =>
    rw [hf] at hfd
    exact used_raw w _ s a.fb _ _ _ _ _ _ _ _ (h1.ac a (fnd_some hf).1) hfd
end Go.Proofs.Ytehgcaaeifnjeaa
