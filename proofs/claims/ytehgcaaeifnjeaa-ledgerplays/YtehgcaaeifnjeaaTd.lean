/-
  Each call on the document's ledger, with what stays.
-/
import Derived.Test.YtehgcaaeifnjeaaTc
namespace Go.Proofs.Ytehgcaaeifnjeaa
open Go.RowKit Go.Maps Go.WideMaps
section
variable {w0 w W : World} {X : Nat → Option Obj} {pb rb m fn : Nat} {f : List A → Int × List A} {r : Int} {args : Array Value}
theorem p0k_of (h : P1 w0 w X pb rb m f r) (b : Below w.heap.size w W) (hc : ∀ T D, Ref W T rb D → (∀ k, T k → k < m) → Calls Try.prog fn args W fun e w' => e = .returned (.int .i64 (f D).1) ∧ Hid (∃ T', Ref w' T' rb (f D).2 ∧ Step T T' W w')) :
    Calls Try.prog fn args W fun e w' => e = .returned (.int .i64 r) ∧ Hid (P0 w0 w' X pb rb ∧ ∀ k o, m ≤ k → W.heap[k]? = some o → w'.heap[k]? = some o) := by
  obtain ⟨D, S, T, h1, h2, h3, h4, hr⟩ := h.both
  subst hr
  refine (hc T D (h2.keepB b) fun k hk => (h4 k hk).2.2).mono fun e w' ⟨he, hh⟩ => ⟨he, ?_⟩
  obtain ⟨T', hl, hst⟩ := hh.out
  refine ⟨⟨_, L2.stepR (h.bel.trans (b.mono h.bel.size)) (fun k o hx => at_below b (Nat.le_refl _) (h.kept k o hx)) (h1.keepB b) h3 (fun k hk => ⟨(h4 k hk).1, (h4 k hk).2.1⟩) hl hst⟩, fun k o hk ho => (hst.1.block k (Array.getElem?_eq_some_iff.1 ho).1 fun q => ?_).trans ho⟩
  have := (h4 k q).2.2
  omega
theorem k_open (s : ByteArray) (v : V) (h : P1 w0 w X pb rb m (fun D => openD D s.data.toList v) r) (b : Below w.heap.size w W) :
    Calls Try.prog 23 #[.pointer (some ⟨rb, 0, none⟩), .string s, .agg #[.int .i64 v.a, .int .i64 v.b, .int .i64 v.c, .int .i64 v.d]] W fun e w' => e = .returned (.int .i64 r) ∧ Hid (P0 w0 w' X pb rb ∧ ∀ k o, m ≤ k → W.heap[k]? = some o → w'.heap[k]? = some o) :=
  p0k_of (f := fun D => openD D s.data.toList v) h b fun _ _ hl _ => ropen_any hl s.data.toList v
theorem k_close (s : ByteArray) (h : P1 w0 w X pb rb m (fun D => closeD D s.data.toList) r) (b : Below w.heap.size w W) :
    Calls Try.prog 26 #[.pointer (some ⟨rb, 0, none⟩), .string s] W fun e w' => e = .returned (.int .i64 r) ∧ Hid (P0 w0 w' X pb rb ∧ ∀ k o, m ≤ k → W.heap[k]? = some o → w'.heap[k]? = some o) :=
  p0k_of (f := fun D => closeD D s.data.toList) h b fun _ _ hl _ => rclose_any hl s.data.toList
theorem k_take {es : List E} (h : P1 w0 w X pb rb m (fun D => takeD D es) r) (b : Below w.heap.size w W) (p : Option Addr) (c : Nat) (hn : es.length < 1152921504606846976) (hr : ERow W p es) (hp : ∀ g o, p = some ⟨g, o, none⟩ → m ≤ g) :
    Calls Try.prog 24 #[.pointer (some ⟨rb, 0, none⟩), .slice p es.length c] W fun e w' => e = .returned (.int .i64 r) ∧ Hid (P0 w0 w' X pb rb ∧ ∀ k o, m ≤ k → W.heap[k]? = some o → w'.heap[k]? = some o) :=
  p0k_of (f := fun D => takeD D es) h b fun _ _ hl hT => rtake_any hl p es c hn hr fun g o e q => by
    have := hT g q
    have := hp g o e
    omega
theorem k_give {es : List E} (h : P1 w0 w X pb rb m (fun D => giveD D es) r) (b : Below w.heap.size w W) (p : Option Addr) (c : Nat) (hn : es.length < 1152921504606846976) (hr : ERow W p es) (hp : ∀ g o, p = some ⟨g, o, none⟩ → m ≤ g) :
    Calls Try.prog 30 #[.pointer (some ⟨rb, 0, none⟩), .slice p es.length c] W fun e w' => e = .returned (.int .i64 r) ∧ Hid (P0 w0 w' X pb rb ∧ ∀ k o, m ≤ k → W.heap[k]? = some o → w'.heap[k]? = some o) :=
  p0k_of (f := fun D => giveD D es) h b fun _ _ hl hT => rgive_any hl p es c hn hr fun g o e q => by
    have := hT g q
    have := hp g o e
    omega
end
end Go.Proofs.Ytehgcaaeifnjeaa
