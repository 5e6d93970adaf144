/-
  A clock in memory; Less and Swap over it.
-/
import Derived.Test.YtihjmigjphljnaaTWb
import Derived.Test.YtihjmigjphljnaaTWd
namespace Go.Proofs.Ytihjmigjphljnaa.Tk
open Go.RowKit Go.Maps Go.WideMaps

/-! ### where a name stands -/
def plc (s : List UInt8) (l : List Al) : Option Nat := l.findIdx? fun b => b.k == s
theorem nod_idx {l : List Al} (h : Nod l) {i j : Nat} {a b : Al} (hi : l[i]? = some a) (hj : l[j]? = some b) (e : a.k = b.k) : i = j := by
  have key : ∀ {i j : Nat} {a b : Al}, i < j → l[i]? = some a → l[j]? = some b → a.k ≠ b.k := by
    intro i j a b hij hi hj
    obtain ⟨h1, h2⟩ := List.getElem?_eq_some_iff.1 hi
    obtain ⟨h3, h4⟩ := List.getElem?_eq_some_iff.1 hj
    have := List.pairwise_iff_getElem.1 h i j h1 h3 hij
    rw [h2, h4] at this
    exact this
  rcases Nat.lt_trichotomy i j with q | q | q
  · exact absurd e (key q hi hj)
  · exact q
  · exact absurd e.symm (key q hj hi)
theorem plc_some {s : List UInt8} {l : List Al} {i : Nat} (h : plc s l = some i) : ∃ a, l[i]? = some a ∧ a.k = s := by
  unfold plc at h
  rw [List.findIdx?_eq_some_iff_getElem] at h
  obtain ⟨h1, h2, _⟩ := h
  exact ⟨l[i], List.getElem?_eq_getElem h1, by simpa using h2⟩
theorem plc_none {s : List UInt8} {l : List Al} (h : plc s l = none) : ∀ a ∈ l, a.k ≠ s := fun a ha e => by
  unfold plc at h
  rw [List.findIdx?_eq_none_iff] at h
  have := h a ha
  simp [e] at this
theorem plc_of {l : List Al} (h : Nod l) {i : Nat} {a : Al} (hi : l[i]? = some a) : plc a.k l = some i := by
  cases q : plc a.k l with
  | none => exact absurd rfl (plc_none q a (List.mem_of_getElem? hi))
  | some j =>
    obtain ⟨b, h1, h2⟩ := plc_some q
    rw [nod_idx h h1 hi h2]
theorem plc_eq {s : List UInt8} {l : List Al} (h : Nod l) {o : Option Nat} (h1 : ∀ i, o = some i → ∃ a, l[i]? = some a ∧ a.k = s) (h2 : o = none → ∀ a ∈ l, a.k ≠ s) : plc s l = o := by
  cases o with
  | none =>
    cases q : plc s l with
    | none => rfl
    | some i => obtain ⟨a, k1, k2⟩ := plc_some q; exact absurd k2 (h2 rfl a (List.mem_of_getElem? k1))
  | some i =>
    obtain ⟨a, k1, k2⟩ := h1 i rfl
    rw [← k2]
    exact plc_of h k1
def ent (o : Option Nat) (z : DataW Nat) : DataW Nat := o.elim z fun i => .lit (.int .i64 (i : Nat))
/-- the map tells where each name stands -/
structure MpL (w : World) (m : Nat) (l : List Al) (M : DataW Nat) : Prop where
  o : Mp w m M
  n : Maps.size M = l.length
  a : ∀ (s : List UInt8) (z : DataW Nat), M.atKey (.string s) z = ent (plc s l) z
theorem MpL.has {w : World} {m : Nat} {l : List Al} {M : DataW Nat} (h : MpL w m l M) (s : List UInt8) : Maps.has M (.string s) = (plc s l).isSome := by
  cases q : plc s l with
  | none => exact Maps.has_false_of_atKey fun z => by rw [h.a, q]; rfl
  | some i => exact Maps.has_true_of_atKey (y := .lit (.int .i64 (i : Nat))) fun z => by rw [h.a, q]; rfl
/-- the clock's row, its map, its alarms; nv: the cell ahead of it in the block (the table's nodes) -/
structure HS where
  lv : Value
  mb : Option Nat
  l : List Al
  nv : Value
def HS.wl (S : HS) (l : List Al) : HS := { S with l := l }
structure Mem (w : World) (cb : Nat) (S : HS) : Prop where
  hp : w.heap[cb]? = some (.cells #[S.nv, S.lv, .map S.mb] 63 (0, 0))
  rw : Row w S.lv S.l
  mp : match S.mb with
    | none => S.l = []
    | some m => ∃ M, MpL w m S.l M
  no : Nod S.l
  ok : ∀ a ∈ S.l, a.nm.size ≤ maxLen
  sm : S.l.length ≤ 1024
/-- the clock's blocks -/
def Fp (cb : Nat) (S : HS) (k : Nat) : Prop := k = cb ∨ S.lv.ownBlock = some k ∨ S.mb = some k
structure Chg (cb : Nat) (S S' : HS) (w w' : World) : Prop where
  kp : Kp (Fp cb S) w w'
  fp : ∀ k, Fp cb S' k → Fp cb S k ∨ w.heap.size ≤ k
  nv : S'.nv = S.nv
section
variable {w w' w1 w2 : World} {cb : Nat} {S S' S1 S2 : HS}
theorem Chg.refl (cb : Nat) (S : HS) (w : World) : Chg cb S S w w := ⟨Kp.refl _ w, fun _ h => .inl h, rfl⟩
theorem Chg.trans (h : Chg cb S S1 w w1) (k : Chg cb S1 S2 w1 w2) : Chg cb S S2 w w2 :=
  ⟨h.kp.trans k.kp fun i hi q => (h.fp i q).elim id fun q => absurd hi (by omega), fun i q => (k.fp i q).elim (fun q => h.fp i q) fun q => .inr (Nat.le_trans h.kp.size q), k.nv.trans h.nv⟩
theorem Chg.of_below (b : Below w.heap.size w w') : Chg cb S S w w' := ⟨Kp.of_below b, fun _ h => .inl h, rfl⟩
theorem MpL.keep {m : Nat} {l : List Al} {M : DataW Nat} (h : MpL w m l M) (e : w'.heap[m]? = w.heap[m]?) : MpL w' m l M := ⟨h.o.keep e, h.n, h.a⟩
theorem Mem.lt (h : Mem w cb S) (k : Nat) (hk : Fp cb S k) : k < w.heap.size := by
  rcases hk with rfl | hk | hk
  · exact (Array.getElem?_eq_some_iff.1 h.hp).1
  · exact h.rw.lt hk
  · have := h.mp
    rw [hk] at this
    obtain ⟨M, hM⟩ := this
    exact hM.o.lt'
theorem Mem.keep (h : Mem w cb S) (b : ∀ k, Fp cb S k → w'.heap[k]? = w.heap[k]?) : Mem w' cb S := by
  refine ⟨(b cb (.inl rfl)).trans h.hp, h.rw.keep fun g hg => b g (.inr (.inl hg)), ?_, h.no, h.ok, h.sm⟩
  have := h.mp
  cases hm : S.mb with
  | none => rw [hm] at this; exact this
  | some m =>
    rw [hm] at this
    obtain ⟨M, hM⟩ := this
    exact ⟨M, hM.keep (b m (.inr (.inr hm)))⟩
theorem Mem.below (h : Mem w cb S) (b : Below w.heap.size w w') : Mem w' cb S := h.keep fun k hk => b.block k (h.lt k hk)
theorem Mem.c0 (h : Mem w cb S) : w.cell? ⟨cb, 1, none⟩ = some S.lv := by rw [cell_of h.hp]; rfl
theorem Mem.c1 (h : Mem w cb S) : w.cell? ⟨cb, 2, none⟩ = some (.map S.mb) := by rw [cell_of h.hp]; rfl
theorem less_S (h : Mem w cb S) {i j : Nat} (hi : i < S.l.length) (hj : j < S.l.length) :
    Calls Try.prog 93 #[.agg #[.pointer (some ⟨cb, 1, none⟩)], .int .i64 i, .int .i64 j] w fun e w' => e = .returned (.bool (ltB (gt S.l i) (gt S.l j))) ∧ Below w.heap.size w w' := by
  obtain ⟨g, c, e⟩ := h.rw.row (by omega)
  have hR := h.rw
  rw [e] at hR
  exact less_raw w cb g S.l.length c i j _ _ (by rw [h.c0, e]) hi hj (hR.c0 (gt_some hi)) (hR.c1 (gt_some hi)) (hR.c0 (gt_some hj)) (hR.c1 (gt_some hj))
theorem Row.parts {v : Value} {l : List Al} (h : Row w v l) (hl : 0 < l.length) : ∃ g c cs, v = .slice (some ⟨g, 0, none⟩) l.length c ∧ w.heap[g]? = some (.cells cs 79 (0, 0)) ∧ cs.size = c * 2 ∧ l.length ≤ c ∧ c ≤ maxLen ∧ cs.toList.take (l.length * 2) = flat l := by
  rcases h.2 with ⟨rfl, h0⟩ | ⟨g, cap, cur, rfl, hb, hgg, h1, h2, h3, h4⟩
  · omega
  · exact ⟨g, cap, cur, rfl, hgg, h3, h1, h2, h4⟩
theorem Row.of_parts {g c : Nat} {cs : Array Value} {l : List Al} (h1 : w.heap[g]? = some (.cells cs 79 (0, 0))) (h2 : cs.size = c * 2) (h3 : l.length ≤ c) (h4 : c ≤ maxLen) (h5 : cs.toList.take (l.length * 2) = flat l) : Row w (.slice (some ⟨g, 0, none⟩) l.length c) l :=
  ⟨flat_length l, .inr ⟨g, c, cs, rfl, Nat.zero_le _, h1, h3, h4, h2, h5⟩⟩
theorem str_ne {s t : List UInt8} (h : s ≠ t) : Lit.string s ≠ Lit.string t := fun e => h (by injection e)
end
end Go.Proofs.Ytihjmigjphljnaa.Tk
