/-
  MinmaxBoth's law.
-/
import Derived.Test.YtbaffgkopgbknaaLc
namespace Go.Proofs.Ytbaffgkopgbknaa
open Go.RowKit Go.Maps

/-- turns that came in -/
structure Bls (w : World) (q : Option Addr) (bs : List Bool) : Prop where
  row : bs = [] ∨ ∃ g o, q = some ⟨g, o, none⟩ ∧ RowV w g o (bs.map .bool)
theorem Bls.keep {w w1 : World} {q : Option Addr} {bs : List Bool} (h : Bls w q bs) (b : Below w.heap.size w w1) : Bls w1 q bs := by
  refine ⟨?_⟩
  rcases h.row with h0 | ⟨g, o, e, hr⟩
  · exact .inl h0
  · exact .inr ⟨g, o, e, hr.keep b (Nat.le_refl _)⟩
theorem Bls.at {w : World} {q : Option Addr} {bs : List Bool} (h : Bls w q bs) {k : Nat} (hk : k < bs.length) : ∃ g f, q = some ⟨g, f, none⟩ ∧ w.cell? ⟨g, f + k, none⟩ = some (.bool bs[k]) := by
  have hne : bs ≠ [] := by rintro rfl; simp at hk
  obtain ⟨g, f, rfl, hrow⟩ := h.row.resolve_left hne
  exact ⟨g, f, rfl, hrow k _ (by rw [List.getElem?_map, List.getElem?_eq_getElem hk]; rfl)⟩
theorem key_le {k k' : K} {x y : Nat} (hx : x < 1048576) (hy : y < 1048576) (h : enc k x ≤ enc k' y) : enc k 0 ≤ enc k' 0 := by unfold enc at *; omega
theorem rc_le {k k' : K} (h : enc k 0 ≤ enc k' 0) : ¬ 0 < rc k k' := by unfold rc; split <;> (try split) <;> omega
theorem rc_ge {k k' : K} (h : enc k' 0 ≤ enc k 0) : ¬ rc k k' < 0 := by unfold rc; split <;> (try split) <;> omega
theorem kz_ok : kz.ok := ⟨⟨by decide, by decide⟩, ⟨by decide, by decide⟩, ⟨by decide, by decide⟩⟩
section
variable {w0 w w' : World} {hb g n : Nat} {C : Ct} {T : Nat → Prop}
theorem Lw.ok (h : Lw w0 w hb C g n T) {y : Nat} {k : K} (q : C y = some k) : k.ok ∧ y < 1048576 ∧ y < g := by
  obtain ⟨S, h1, _⟩ := h.ex
  obtain ⟨o, z, e, h2, h3⟩ := h1.ok q
  exact ⟨o, by omega, by omega⟩
end
/-- what stays between the two -/
structure Btw (C : Ct) (bl ab : Bool) (lo hi : K) : Prop where
  lk : lo.ok
  hk : hi.ok
  l : bl = true → ∀ (y : Nat) k', C y = some k' → enc lo 0 ≤ enc k' 0
  h : ab = true → ∀ (y : Nat) k', C y = some k' → enc k' 0 ≤ enc hi 0
  b : bl = true → ab = true → enc lo 0 ≤ enc hi 0
structure Bo (w wr : World) (hb lb ub : Nat) (C : Ct) (g m : Nat) (bl ab : Bool) (lo hi : K) : Prop where
  l : Lw w wr hb C g m (fun k => k = lb ∨ k = ub)
  x : wr.heap[lb]? = some (.cells #[.int .i64 lo.a, .int .i64 lo.b, .int .i64 lo.c] 45 (0, 0))
  y : wr.heap[ub]? = some (.cells #[.int .i64 hi.a, .int .i64 hi.b, .int .i64 hi.c] 45 (0, 0))
  ne : lb ≠ ub
  al : w.heap.size ≤ lb ∧ w.heap.size ≤ ub
  v : Btw C bl ab lo hi
def BoE (w wr : World) (hb lb ub g m : Nat) (bl ab : Bool) : Prop := ∃ C lo hi, Bo w wr hb lb ub C g m bl ab lo hi
theorem set3 {w : World} {g : Nat} {a b c a' b' c' : Value} {t : TypeId} (h : w.heap[g]? = some (.cells #[a, b, c] t (0, 0))) : (((w.setCell ⟨g, 0, none⟩ a').setCell ⟨g, 1, none⟩ b').setCell ⟨g, 2, none⟩ c').heap[g]? = some (.cells #[a', b', c'] t (0, 0)) := by
  have h1 := setB (i := 0) h a'
  have h2 := setB (i := 1) h1 b'
  have h3 := setB (i := 2) h2 c'
  exact h3
theorem Btw.min {C : Ct} {bl ab : Bool} {lo hi k : K} {x : Nat} (h : Btw C bl ab lo hi) (e : C.ext 0 x k) (ok : k.ok) (hC : ∀ (y : Nat) k', C y = some k' → y < 1048576) : Btw (C.del x) true ab k hi ∧ (bl = true → enc lo 0 ≤ enc k 0) ∧ (ab = true → enc k 0 ≤ enc hi 0) := by
  have hd : ∀ (y : Nat) k', C.del x y = some k' → C y = some k' := fun y k' q => by
    unfold Ct.del at q
    split at q
    · cases q
    · exact q
  refine ⟨⟨ok, h.hk, fun _ y k' q => ?_, fun q y k' q' => h.h q y k' (hd y k' q'), fun _ q => h.h q x k e.1⟩, fun q => h.l q x k e.1, fun q => h.h q x k e.1⟩
  have := e.2 y k' (hd y k' q)
  exact key_le (hC x k e.1) (hC y k' (hd y k' q)) this
theorem Btw.max {C : Ct} {bl ab : Bool} {lo hi k : K} {x : Nat} (h : Btw C bl ab lo hi) (e : C.ext 1 x k) (ok : k.ok) (hC : ∀ (y : Nat) k', C y = some k' → y < 1048576) : Btw (C.del x) bl true lo k ∧ (ab = true → enc k 0 ≤ enc hi 0) ∧ (bl = true → enc lo 0 ≤ enc k 0) := by
  have hd : ∀ (y : Nat) k', C.del x y = some k' → C y = some k' := fun y k' q => by
    unfold Ct.del at q
    split at q
    · cases q
    · exact q
  refine ⟨⟨h.lk, ok, fun q y k' q' => h.l q y k' (hd y k' q'), fun _ y k' q => ?_, fun q _ => h.l q x k e.1⟩, fun q => h.h q x k e.1, fun q => h.l q x k e.1⟩
  have := e.2 y k' (hd y k' q)
  unfold sg at this
  rw [if_neg (by decide), if_neg (by decide)] at this
  exact key_le (hC y k' (hd y k' q)) (hC x k e.1) (by omega)
def kc (k : K) : Array Value := #[.int .i64 k.a, .int .i64 k.b, .int .i64 k.c]
/-- the heap, both bounds and the key that was popped -/
structure Bk (w wr : World) (hb lb ub kb : Nat) (C : Ct) (g m : Nat) (lo hi k : K) : Prop where
  l : Lw w wr hb C g m (fun j => (j = lb ∨ j = ub) ∨ j = kb)
  x : wr.heap[lb]? = some (.cells (kc lo) 45 (0, 0))
  y : wr.heap[ub]? = some (.cells (kc hi) 45 (0, 0))
  z : wr.heap[kb]? = some (.cells (kc k) 32 (0, 0))
  n1 : lb ≠ ub
  n2 : lb ≠ kb
  n3 : ub ≠ kb
  al : w.heap.size ≤ lb ∧ w.heap.size ≤ ub ∧ w.heap.size ≤ kb
section
variable {w wr w' : World} {hb lb ub kb g m : Nat} {C C' : Ct} {lo hi k k' : K} {bl ab : Bool}
theorem Bk.keep (h : Bk w wr hb lb ub kb C g m lo hi k) (b : Below wr.heap.size wr w') : Bk w w' hb lb ub kb C g m lo hi k := ⟨h.l.below b, at_below b (Nat.le_refl _) h.x, at_below b (Nat.le_refl _) h.y, at_below b (Nat.le_refl _) h.z, h.n1, h.n2, h.n3, h.al⟩
def st3 (w : World) (g : Nat) (k : K) : World := ((w.setCell ⟨g, 0, none⟩ (.int .i64 k.a)).setCell ⟨g, 1, none⟩ (.int .i64 k.b)).setCell ⟨g, 2, none⟩ (.int .i64 k.c)
theorem st3_at {t : TypeId} (h : w.heap[g]? = some (.cells (kc k) t (0, 0))) : (st3 w g k').heap[g]? = some (.cells (kc k') t (0, 0)) := set3 h
theorem st3_other {j : Nat} (h : j ≠ g) : (st3 w g k').heap[j]? = w.heap[j]? := ((Below.heap_setCell _ _ _ _ h).trans (Below.heap_setCell _ _ _ _ h)).trans (Below.heap_setCell _ _ _ _ h)
theorem Lw.st3 {T : Nat → Prop} {j : Nat} (h : Lw w wr hb C g m T) (hT : T j) (hl : w.heap.size ≤ j) : Lw w (st3 wr j k') hb C g m T := ((h.set ⟨j, 0, none⟩ _ hT hl).set ⟨j, 1, none⟩ _ hT hl).set ⟨j, 2, none⟩ _ hT hl
theorem Bk.setz (h : Bk w wr hb lb ub kb C g m lo hi k) (k' : K) : Bk w (st3 wr kb k') hb lb ub kb C g m lo hi k' := ⟨h.l.st3 (.inr rfl) h.al.2.2, (st3_other h.n2).trans h.x, (st3_other h.n3).trans h.y, st3_at h.z, h.n1, h.n2, h.n3, h.al⟩
theorem Bk.setx (h : Bk w wr hb lb ub kb C g m lo hi k) (k' : K) : Bk w (st3 wr lb k') hb lb ub kb C g m k' hi k := ⟨h.l.st3 (.inl (.inl rfl)) h.al.1, st3_at h.x, (st3_other h.n1.symm).trans h.y, (st3_other h.n2.symm).trans h.z, h.n1, h.n2, h.n3, h.al⟩
theorem Bk.sety (h : Bk w wr hb lb ub kb C g m lo hi k) (k' : K) : Bk w (st3 wr ub k') hb lb ub kb C g m lo k' k := ⟨h.l.st3 (.inl (.inr rfl)) h.al.2.1, (st3_other h.n1).trans h.x, st3_at h.y, (st3_other h.n3.symm).trans h.z, h.n1, h.n2, h.n3, h.al⟩
theorem Bk.c (h : Bk w wr hb lb ub kb C g m lo hi k) : (Bx wr lb ub lo hi ∧ Bx wr lb kb lo k ∧ Bx wr ub kb hi k) ∧ (∀ i, wr.frozen? ⟨lb, i, none⟩ = false) ∧ (∀ i, wr.frozen? ⟨ub, i, none⟩ = false) ∧ (∀ i, wr.frozen? ⟨kb, i, none⟩ = false) := by
  obtain ⟨x0, x1, x2⟩ := c3 h.x
  obtain ⟨y0, y1, y2⟩ := c3 h.y
  obtain ⟨z0, z1, z2⟩ := c3 h.z
  exact ⟨⟨⟨x0, x1, x2, y0, y1, y2⟩, ⟨x0, x1, x2, z0, z1, z2⟩, ⟨y0, y1, y2, z0, z1, z2⟩⟩, fz h.x, fz h.y, fz h.z⟩
theorem Bo.box (h : Bo w wr hb lb ub C g m bl ab lo hi) : Bk w (wr.alloc (.cells (kc kz) 32)) hb lb ub wr.heap.size C g m lo hi kz := by
  have l1 := (Array.getElem?_eq_some_iff.1 h.x).1
  have l2 := (Array.getElem?_eq_some_iff.1 h.y).1
  exact ⟨h.l.box _, at_alloc h.x, at_alloc h.y, new0, h.ne, by omega, by omega, h.al.1, h.al.2, h.l.b.size⟩
theorem Bk.pop (h : Bk w wr hb lb ub kb C g m lo hi k) (hm : m ≠ 0) {s : Nat} (hs : s ≤ 1) : ∃ (x : Nat) (k1 : K), C.ext s x k1 ∧ k1.ok ∧ Calls Try.prog (fnP s) #[ptr hb] wr fun e w' => e = .returned (.tuple #[.int .i64 x, ktup k1, .int .i64 0]) ∧ Hid (Bk w w' hb lb ub kb (C.del x) g (m - 1) lo hi k) := by
  obtain ⟨x, k1, h1, h2, _, h3⟩ := lw_pop h.l hm hs
  refine ⟨x, k1, h1, h2, h3.mono ?_⟩
  rintro e w' ⟨rfl, h4, h5⟩
  exact ⟨rfl, h4, (h5 lb (.inl (.inl rfl))).trans h.x, (h5 ub (.inl (.inr rfl))).trans h.y, (h5 kb (.inr rfl)).trans h.z, h.n1, h.n2, h.n3, h.al⟩
theorem Bk.bo (h : Bk w wr hb lb ub kb C g m lo hi k) (v : Btw C bl ab lo hi) : BoE w wr hb lb ub g m bl ab := ⟨C, lo, hi, h.l.less fun _ q => .inl q, h.x, h.y, h.n1, ⟨h.al.1, h.al.2.1⟩, v⟩
end
end Go.Proofs.Ytbaffgkopgbknaa
