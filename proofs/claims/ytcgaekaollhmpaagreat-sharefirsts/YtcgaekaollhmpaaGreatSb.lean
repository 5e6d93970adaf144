/-
  weighed: the tenants with their shares, rising by their names.
-/
import Derived.Test.YtcgaekaollhmpaaGreatSa
import Derived.Deep.OwnRows
namespace Go.Proofs.YtcgaekaollhmpaaGreat
open Go.RowKit Go.Maps

def sh (all : Vs.V) (u : U) : Nat × Nat × Nat := Vs.shareR u.v all u.wt
def ten (all : Vs.V) (u : U) : Tn := ⟨u.nm, (sh all u).1, (sh all u).2.1⟩
def er (all : Vs.V) (u : U) : Nat := (sh all u).2.2
/-- the error of the first usage that has one -/
def fstE (all : Vs.V) : List U → Nat
  | [] => 0
  | u :: r => if er all u = 0 then fstE all r else er all u
/-- names once each -/
def Nd (L : List U) : Prop := L.Pairwise fun a b => a.nm ≠ b.nm
structure UArg (w : World) (q : Option Addr) (L : List U) : Prop where
  c : ∀ i u, L[i]? = some u → ∃ g f, q = some ⟨g, f, none⟩ ∧ w.cell? ⟨g, f + i * 6, none⟩ = some (.string ⟨⟨u.nm⟩⟩) ∧ w.cell? ⟨g, f + i * 6 + 1, none⟩ = some (.int .i64 u.wt) ∧ w.cell? ⟨g, f + i * 6 + 2, none⟩ = some (.int .i64 u.v.a) ∧ w.cell? ⟨g, f + i * 6 + 3, none⟩ = some (.int .i64 u.v.b) ∧ w.cell? ⟨g, f + i * 6 + 4, none⟩ = some (.int .i64 u.v.c) ∧ w.cell? ⟨g, f + i * 6 + 5, none⟩ = some (.int .i64 u.v.d)
  s : ∀ u ∈ L, u.nm.length ≤ 281474976710656
theorem UArg.below {w w' : World} {q : Option Addr} {L : List U} (h : UArg w q L) (b : Below w.heap.size w w') : UArg w' q L := by
  refine ⟨fun i u hu => ?_, h.s⟩
  obtain ⟨g, f, e, h0, h1, h2, h3, h4, h5⟩ := h.c i u hu
  exact ⟨g, f, e, keep1c' b h0, keep1c' b h1, keep1c' b h2, keep1c' b h3, keep1c' b h4, keep1c' b h5⟩
theorem fstE_zero {all : Vs.V} : ∀ {L : List U}, fstE all L = 0 ↔ ∀ u ∈ L, er all u = 0
  | [] => by simp [fstE]
  | u :: r => by
    unfold fstE
    by_cases h : er all u = 0
    · simp [h, fstE_zero (L := r)]
    · simp [h]
theorem fstE_at {all : Vs.V} : ∀ {L : List U} {k : Nat} {u : U}, L[k]? = some u → (∀ i v, i < k → L[i]? = some v → er all v = 0) → er all u ≠ 0 → fstE all L = er all u
  | [], k, u, h, _, _ => by simp at h
  | v :: r, 0, u, h, _, h2 => by
    have e : v = u := by simpa using h
    subst e
    unfold fstE
    rw [if_neg h2]
  | v :: r, k + 1, u, h, h1, h2 => by
    unfold fstE
    rw [if_pos (h1 0 v (by omega) rfl)]
    exact fstE_at (by simpa using h) (fun i x hi hx => h1 (i + 1) x (by omega) (by simpa using hx)) h2
/-- what weighed answers -/
def WgR (all : Vs.V) (L : List U) (err : Nat) (S : List Tn) : Prop :=
  (err = fstE all L ∧ err ≠ 0 ∧ S = []) ∨ (fstE all L = 0 ∧ ¬ Nd L ∧ err = 5 ∧ S = []) ∨ (fstE all L = 0 ∧ Nd L ∧ err = 0 ∧ S.Perm (L.map (ten all)) ∧ S.Pairwise fun a b => bytesBefore a.nm b.nm = true)
def WgP (w : World) (all : Vs.V) (L : List U) (e : Ending) (w' : World) : Prop :=
  ∃ p n c err S, e = .returned (.tuple #[.slice p n c, .int .i64 (err : Nat)]) ∧ n = S.length ∧ Hid (WgR all L err S ∧ (err = 0 → ∃ g, p = some ⟨g, 0, none⟩ ∧ w.heap.size ≤ g ∧ g < w'.heap.size ∧ Tr w' g S ∧ n ≤ c ∧ c ≤ maxLen) ∧ Below w.heap.size w w')
theorem info56 : (Tryz.prog.info? 51).map (fun i => (i.zero, i.size, i.bytes)) = some (some (.agg #[.string ⟨#[]⟩, .int .u64 0, .int .u64 0]), 3, 32) := by kernel_rfl
theorem GRow.tr {b : Nat} {w : World} {g n c : Nat} {S : List Tn} (h : GRow 51 3 tC b w (.slice (some ⟨g, 0, none⟩) n c) S) : Tr w g S ∧ b ≤ g ∧ g < w.heap.size := by
  refine ⟨fun i t ht j u hu => ?_, h.ge rfl, h.lt rfl⟩
  obtain ⟨g', e, hc⟩ := h.at tC_len ht
  cases e
  refine ⟨hc j u hu, ?_⟩
  rcases h.2 with ⟨e, _⟩ | ⟨g', cap, cur, e, _, hg, _⟩
  · cases e
  · cases e
    exact fz hg _
theorem GRow.cap {α : Type} {e sz b : Nat} {f : α → List Value} {w : World} {g n c : Nat} {S : List α} (h : GRow e sz f b w (.slice (some ⟨g, 0, none⟩) n c) S) : n ≤ c ∧ c ≤ maxLen := by
  have hl := h.len
  rcases h.2 with ⟨e, _⟩ | ⟨g', cap, cur, e1, _, _, h1, h2, _⟩
  · cases e
  · injection e1 with _ _ e4
    subst e4
    exact ⟨by omega, h2⟩
theorem Tr.at {w : World} {g : Nat} {S : List Tn} (h : Tr w g S) {i : Nat} {t : Tn} (ht : S[i]? = some t) : w.cell? ⟨g, i * 3, none⟩ = some (.string ⟨⟨t.nm⟩⟩) ∧ w.cell? ⟨g, i * 3 + 1, none⟩ = some (.int .u64 t.n) ∧ w.cell? ⟨g, i * 3 + 2, none⟩ = some (.int .u64 t.d) := ⟨(h i t ht 0 _ rfl).1, (h i t ht 1 _ rfl).1, (h i t ht 2 _ rfl).1⟩
theorem Tr.keep {w w' : World} {g : Nat} {S : List Tn} (h : Tr w g S) (e : w'.heap[g]? = w.heap[g]?) : Tr w' g S := fun i t ht j u hu => by
  obtain ⟨h1, h2⟩ := h i t ht j u hu
  unfold World.cell? World.frozen? at *
  rw [e]
  exact ⟨h1, h2⟩
theorem adj_strict {S : List Tn} (h : S.Pairwise fun a b => bytesBefore b.nm a.nm = false) (ha : ∀ i a b, S[i]? = some a → S[i + 1]? = some b → a.nm ≠ b.nm) : S.Pairwise fun a b => bytesBefore a.nm b.nm = true := by
  induction S with
  | nil => exact List.Pairwise.nil
  | cons x r ih =>
    have h1 := List.pairwise_cons.1 h
    have ih' := ih h1.2 (fun i a b h1 h2 => ha (i + 1) a b (by simpa using h1) (by simpa using h2))
    refine List.pairwise_cons.2 ⟨fun y hy => ?_, ih'⟩
    cases r with
    | nil => cases hy
    | cons z s =>
      have hxz : bytesBefore x.nm z.nm = true := by
        rcases WideAt.bytes_total x.nm z.nm (ha 0 x z rfl rfl) with q | q
        · exact q
        · rw [h1.1 z (List.mem_cons_self ..)] at q; cases q
      rcases List.mem_cons.1 hy with rfl | hy
      · exact hxz
      · exact WideShapes.bytes_trans _ _ _ hxz ((List.pairwise_cons.1 ih').1 y hy)
theorem nd_of {all : Vs.V} {L : List U} {S : List Tn} (hp : S.Perm (L.map (ten all))) (hs : S.Pairwise fun a b => bytesBefore a.nm b.nm = true) : Nd L := by
  have h1 : S.Pairwise fun a b => a.nm ≠ b.nm := List.Pairwise.imp (fun {a b} h q => by rw [q, WideAt.bytes_irrefl] at h; cases h) hs
  have h2 := (hp.pairwise_iff (R := fun a b : Tn => a.nm ≠ b.nm) (fun q => Ne.symm q)).1 h1
  have h3 : L.Pairwise fun a b => (ten all a).nm ≠ (ten all b).nm := by rw [List.pairwise_map] at h2; exact h2
  exact h3
theorem not_nd {all : Vs.V} {L : List U} {S : List Tn} (hp : S.Perm (L.map (ten all))) {i : Nat} {a b : Tn} (ha : S[i]? = some a) (hb : S[i + 1]? = some b) (e : a.nm = b.nm) : ¬ Nd L := fun h => by
  have h2 : (L.map (ten all)).Pairwise fun a b => a.nm ≠ b.nm := List.pairwise_map.2 h
  have h1 := (hp.pairwise_iff (R := fun a b : Tn => a.nm ≠ b.nm) (fun q => Ne.symm q)).2 h2
  obtain ⟨l1, e1⟩ := List.getElem?_eq_some_iff.1 ha
  obtain ⟨l2, e2⟩ := List.getElem?_eq_some_iff.1 hb
  have := List.pairwise_iff_getElem.1 h1 i (i + 1) l1 l2 (by omega)
  rw [e1, e2] at this
  exact this e
theorem make44 (w : World) (n : Nat) (hn : n ≤ 1000000) : ∃ w', (Instr.makeSlice 38 (.int .i64 0) (.int .i64 (n : Int))).run Tryz.prog w = .ok (.slice (some ⟨w.heap.size, 0, none⟩) 0 n) w' ∧ GRow 51 3 tC w.heap.size w' (.slice (some ⟨w.heap.size, 0, none⟩) 0 n) [] ∧ Below w.heap.size w w' := by
  obtain ⟨i0, hi, hz0, hz1, hz2⟩ := info_parts info56
  obtain ⟨w', h1, h2, h3⟩ := run_make_own (P := Tryz.prog) w w.heap.size 38 51 i0 _ 3 Tryz.underlying38 hi hz0 hz1 .i64 .i64 n (by rw [hz2]; omega) (by unfold maxLen; omega) (Nat.le_refl _)
  exact ⟨w', h1, h2, below_grown h3 (Nat.le_refl _) (fun g e => by cases e)⟩
end Go.Proofs.YtcgaekaollhmpaaGreat
