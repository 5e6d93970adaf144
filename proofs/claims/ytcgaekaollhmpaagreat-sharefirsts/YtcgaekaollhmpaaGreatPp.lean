/-
  A heap in a law; keys that came in.
-/
import Derived.Test.YtcgaekaollhmpaaGreatPo
namespace Go.Proofs.YtcgaekaollhmpaaGreat
open Go.RowKit Go.Maps

/-- a heap in a law; the blocks T are somebody else's -/
structure LwA (w wr : World) (hb : Nat) (C : Ct) (g n : Nat) (T : Nat → Prop) (S : HS) (tg : Nat → Tg) : Prop where
  h : Hc wr tg hb C g n S
  t : ∀ k, tg k ≠ .no → w.heap.size ≤ k
  u : ∀ k, T k → k < wr.heap.size ∧ tg k = .no
  b : Below w.heap.size w wr
def Lw (w wr : World) (hb : Nat) (C : Ct) (g n : Nat) (T : Nat → Prop) : Prop := ∃ S tg, LwA w wr hb C g n T S tg
section
variable {w wr w' : World} {hb g n : Nat} {C C' : Ct} {T : Nat → Prop} {S : HS} {tg tg' : Nat → Tg}
theorem LwA.step {S' : HS} {g' n' : Nat} (h : LwA w wr hb C g n T S tg) (h' : Hc w' tg' hb C' g' n' S') (c : Chg (fun k => tg k ≠ .no) wr w' tg tg') : LwA w w' hb C' g' n' T S' tg' ∧ ∀ k, T k → w'.heap[k]? = wr.heap[k]? := by
  refine ⟨⟨h', fun k hk => ?_, fun k hk => ?_, h.b.trans (c.kp.below h.b.size fun k hk q => by have := h.t k q; omega)⟩, fun k hk => ?_⟩
  · by_cases q : k < wr.heap.size
    · rw [c.tg k q] at hk; exact h.t k hk
    · have := h.b.size; omega
  · obtain ⟨h1, h2⟩ := h.u k hk
    exact ⟨Nat.lt_of_lt_of_le h1 c.kp.size, (c.tg k h1).trans h2⟩
  · obtain ⟨h1, h2⟩ := h.u k hk
    exact c.kp.block k h1 fun q => q h2
theorem LwA.keep (h : LwA w wr hb C g n T S tg) (b : Below wr.heap.size wr w') : LwA w w' hb C g n T S tg := ⟨h.h.keep b, h.t, fun k hk => ⟨Nat.lt_of_lt_of_le (h.u k hk).1 b.size, (h.u k hk).2⟩, h.b.trans (b.mono h.b.size)⟩
theorem Lw.keep (h : Lw w wr hb C g n T) (b : Below wr.heap.size wr w') : Lw w w' hb C g n T := by
  obtain ⟨S, tg, h⟩ := h
  exact ⟨S, tg, h.keep b⟩
theorem Lw.below (h : Lw w wr hb C g n T) : Below w.heap.size w wr := by
  obtain ⟨S, tg, h⟩ := h
  exact h.b
/-- one's own new block -/
theorem Lw.box (h : Lw w wr hb C g n T) (o : Obj) : Lw w (wr.alloc o) hb C g n (fun k => T k ∨ k = wr.heap.size) := by
  obtain ⟨S, tg, h⟩ := h
  have b : Below wr.heap.size wr (wr.alloc o) := (Below.refl _ wr).alloc (Nat.le_refl _) _
  have hk := h.keep b
  refine ⟨S, tg, hk.h, hk.t, fun k hT => ?_, hk.b⟩
  rcases hT with hT | rfl
  · exact hk.u k hT
  · refine ⟨by simp, ?_⟩
    by_cases q : tg wr.heap.size = .no
    · exact q
    · have := h.h.h.m.lt _ q; omega
theorem Lw.less {T' : Nat → Prop} (h : Lw w wr hb C g n T) (hT : ∀ k, T' k → T k) : Lw w wr hb C g n T' := by
  obtain ⟨S, tg, h⟩ := h
  exact ⟨S, tg, h.h, h.t, fun k hk => h.u k (hT k hk), h.b⟩
/-- a write into somebody else's block -/
theorem Lw.set (h : Lw w wr hb C g n T) (p : Addr) (v : Value) (hT : T p.block) (hp : w.heap.size ≤ p.block) : Lw w (wr.setCell p v) hb C g n T := by
  obtain ⟨S, tg, h⟩ := h
  have hno := (h.u _ hT).2
  have hkk : ∀ k, tg k ≠ .no → (wr.setCell p v).heap[k]? = wr.heap[k]? := fun k hk => Below.heap_setCell _ _ _ _ fun q => hk (by rw [q]; exact hno)
  have hsz : (wr.setCell p v).heap.size = wr.heap.size := by simp [World.setCell]
  have hm := h.h.h.m
  refine ⟨S, tg, ⟨⟨⟨hm.hp.at (hkk hb (by rw [hm.tp]; exact nofun)), fun b hb' => (hm.nd b hb').at (hkk b (by rw [hm.tn b hb']; exact nofun)), fun F hF => (hm.fm F hF).keep fun g' hg' => hkk g' (by rw [hm.tf F hF g' hg']; exact nofun), hm.tp, hm.tn, hm.tf, fun k hk => by rw [hsz]; exact hm.lt k hk⟩, ?_, h.h.h.i, h.h.h.l⟩, h.h.c, h.h.g, h.h.n⟩, h.t, fun k hk => by rw [hsz]; exact h.u k hk, h.b.setCell hp _⟩
  have hp := h.h.h.p
  unfold Mp at *
  cases hmb : S.mb with
  | none => rw [hmb] at hp; exact hp
  | some mp =>
    rw [hmb] at hp
    obtain ⟨M, hM⟩ := hp
    exact ⟨M, hM.t, keepMap hM.o (hkk mp (by rw [hM.t]; exact nofun)), hM.n, hM.a⟩
theorem lw_new (hb0 : Below w.heap.size w wr) : Calls Tryz.prog 25 #[] wr fun e w' => e = .returned (.pointer (some ⟨wr.heap.size, 0, none⟩)) ∧ Lw w w' wr.heap.size Ct.nil 0 0 (fun _ => False) := by
  refine (new_at wr).mono ?_
  rintro e w' ⟨rfl, rfl⟩
  refine ⟨rfl, zS, _, hc_zero (new_blk wr), fun k hk => ?_, nofun, hb0.alloc hb0.size _⟩
  by_cases q : k = wr.heap.size
  · rw [q]; exact hb0.size
  · simp [q] at hk
theorem lw_insert (h : Lw w wr hb C g n T) (k : K) (hk : k.ok) (hg : g < 1048576) (hn : n + 1 ≤ 2000) :
    Calls Tryz.prog 24 #[.pointer (some ⟨hb, 0, none⟩), .agg #[.int .u64 k.n, .int .u64 k.d, .int .i64 k.t]] wr fun e w' => e = .returned (.tuple #[.int .i64 g, .int .i64 0]) ∧ Lw w w' hb (C.put g k) (g + 1) (n + 1) T ∧ ∀ k, T k → w'.heap[k]? = wr.heap[k]? := by
  obtain ⟨S, tg, h⟩ := h
  refine (insert_C h.h k hk hg hn).mono ?_
  rintro e w' ⟨rfl, S', tg', h1, c1⟩
  obtain ⟨h2, h3⟩ := h.step h1 c1
  exact ⟨rfl, ⟨S', tg', h2⟩, h3⟩
theorem lw_pop (h : Lw w wr hb C g n T) (hn : n ≠ 0) (hb2 : n ≤ 2000) : ∃ (x : Nat) (k : K), C.min x k ∧ k.ok ∧ Calls Tryz.prog 27 #[.pointer (some ⟨hb, 0, none⟩)] wr fun e w' => e = .returned (.tuple #[.int .i64 x, .agg #[.int .u64 k.n, .int .u64 k.d, .int .i64 k.t], .int .i64 0]) ∧ Lw w w' hb (C.del x) g (n - 1) T ∧ ∀ k, T k → w'.heap[k]? = wr.heap[k]? := by
  obtain ⟨S, tg, h⟩ := h
  obtain ⟨x, k, h1, h2, h3⟩ := pop_C h.h hn hb2
  refine ⟨x, k, h1, h2, h3.mono ?_⟩
  rintro e w' ⟨rfl, S', tg', h4, c4⟩
  obtain ⟨h5, h6⟩ := h.step h4 c4
  exact ⟨rfl, ⟨S', tg', h5⟩, h6⟩
theorem lw_pop0 (h : Lw w wr hb C g 0 T) : Calls Tryz.prog 27 #[.pointer (some ⟨hb, 0, none⟩)] wr fun e w' => e = .returned (.tuple #[.int .i64 0, .agg #[.int .u64 0, .int .u64 0, .int .i64 0], .int .i64 3]) ∧ Below wr.heap.size wr w' := by
  obtain ⟨S, tg, h⟩ := h
  exact pop_none h.h
theorem lw_len (h : Lw w wr hb C g n T) : Calls Tryz.prog 75 #[.pointer (some ⟨hb, 0, none⟩)] wr fun e w' => e = .returned (.int .i64 n) ∧ w' = wr := by
  obtain ⟨S, tg, h⟩ := h
  exact len_C h.h
end
/-! ### keys that came in -/
def K.cs (k : K) : List Value := [.int .u64 k.n, .int .u64 k.d, .int .i64 k.t]
structure K.in (k : K) : Prop where
  n : k.n < 18446744073709551616
  d : k.d < 18446744073709551616
def kflat (ks : List K) : List Value := ks.flatMap K.cs
structure Kys (w : World) (q : Option Addr) (ks : List K) : Prop where
  row : ks = [] ∨ ∃ g o, q = some ⟨g, o, none⟩ ∧ RowV w g o (kflat ks)
  each : ∀ k ∈ ks, k.in
theorem RowV.keep {w w1 : World} {g o B : Nat} {xs : List Value} (b : Below B w w1) (hB : w.heap.size ≤ B) (h : RowV w g o xs) : RowV w1 g o xs := fun k u hu => by
  have h0 := h k u hu
  exact (b.cell (Nat.lt_of_lt_of_le (block_lt_of_cell h0) hB)).trans h0
theorem Kys.keep {w w1 : World} {q : Option Addr} {ks : List K} (h : Kys w q ks) (b : Below w.heap.size w w1) : Kys w1 q ks := by
  refine ⟨?_, h.each⟩
  rcases h.row with h0 | ⟨g, o, e, hr⟩
  · exact .inl h0
  · exact .inr ⟨g, o, e, hr.keep b (Nat.le_refl _)⟩
theorem kflat_get : ∀ (os : List K) (k : Nat) (o : K) (j : Nat) (u : Value), os[k]? = some o → o.cs[j]? = some u → j < 3 → (kflat os)[k * 3 + j]? = some u
  | [], k, o, j, u, h, _, _ => by simp at h
  | p :: os, 0, o, j, u, h, hu, hj => by
    have e : p = o := by simpa using h
    subst e
    show (p.cs ++ kflat os)[0 * 3 + j]? = some u
    rw [Nat.zero_mul, Nat.zero_add, List.getElem?_append_left (by show j < 3; exact hj)]
    exact hu
  | p :: os, k + 1, o, j, u, h, hu, hj => by
    show (p.cs ++ kflat os)[(k + 1) * 3 + j]? = some u
    rw [List.getElem?_append_right (by show 3 ≤ _; omega)]
    rw [show (k + 1) * 3 + j - p.cs.length = k * 3 + j by show (k + 1) * 3 + j - 3 = _; omega]
    exact kflat_get os k o j u (by simpa using h) hu hj
theorem Kys.at {w : World} {q : Option Addr} {os : List K} (h : Kys w q os) {k : Nat} (hk : k < os.length) : ∃ o g f, os[k]? = some o ∧ q = some ⟨g, f, none⟩ ∧ o.in ∧ w.cell? ⟨g, f + k * 3, none⟩ = some (.int .u64 o.n) ∧ w.cell? ⟨g, f + k * 3 + 1, none⟩ = some (.int .u64 o.d) ∧ w.cell? ⟨g, f + k * 3 + 2, none⟩ = some (.int .i64 o.t) := by
  have hr0 : os[k]? = some os[k] := List.getElem?_eq_getElem _
  have hne : os ≠ [] := by rintro rfl; simp at hk
  obtain ⟨g, f, rfl, hrow⟩ := h.row.resolve_left hne
  refine ⟨os[k], g, f, hr0, rfl, h.each _ (List.getElem_mem _), ?_, ?_, ?_⟩
  · exact hrow (k * 3 + 0) _ (kflat_get os k _ 0 _ hr0 rfl (by omega))
  · exact hrow (k * 3 + 1) _ (kflat_get os k _ 1 _ hr0 rfl (by omega))
  · exact hrow (k * 3 + 2) _ (kflat_get os k _ 2 _ hr0 rfl (by omega))
end Go.Proofs.YtcgaekaollhmpaaGreat
