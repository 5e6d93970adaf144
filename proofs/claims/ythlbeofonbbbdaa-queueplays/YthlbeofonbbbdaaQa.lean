/-
  What the program has of a queue in its memory: its waiters; New, find, Len, Get, key, jobOf.
-/
import Derived.Test.YthlbeofonbbbdaaDs
namespace Go.Proofs.Ythlbeofonbbbdaa
open Go.RowKit Go.Maps

theorem law2 : Keyed Try.prog 2 := int_keyed Try.underlying2
theorem law9 : Keyed Try.prog 9 := string_keyed Try.underlying9
theorem zero65 (w : World) : (zeroValue 65).run Try.prog w = .ok (.pointer none) w := by kernel_rfl
theorem zero72 (w : World) : (zeroValue 72).run Try.prog w = .ok (.pointer none) w := by kernel_rfl
abbrev wf (x : Int) : Prop := (Lit.int .i64 x).wf = true
/-- the block of a job -/
def aJ (l : List Hd) (x : Int) : Option Nat := (l.find? fun a => decide (a.j.job = x)).map Hd.b
/-- a held waiter's cells -/
def hC (a : Hd) : Array Value := #[.int .i64 a.j.job, .string ⟨⟨a.j.tn⟩⟩, .int .i64 a.j.pr, .int .i64 a.h]
/-- the map of waiters -/
structure MI (w : World) (m : Nat) (l : List Hd) (M : DataW Nat) : Prop where
  o : w.ownsMap Try.prog 2 pE m (Maps.size M) M
  n : Maps.size M = l.length
  a : ∀ (x : Int) (z : DataW Nat), M.atKey (.int .i64 x) z = (aJ l x).elim z .held
def MW (w : World) (mw : Option Nat) (l : List Hd) : Prop := match mw with
  | none => l = []
  | some m => ∃ M, MI w m l M
theorem MW.lt {w : World} {l : List Hd} {m : Nat} (h : MW w (some m) l) : m < w.heap.size := by
  obtain ⟨M, hM⟩ := h
  exact hM.o.lt
theorem MW.keep {w w1 : World} {mw : Option Nat} {l : List Hd} (h : MW w mw l) (e : ∀ m, mw = some m → w1.heap[m]? = w.heap[m]?) : MW w1 mw l := by
  unfold MW at *
  cases mw with
  | none => exact h
  | some m =>
    obtain ⟨M, hM⟩ := h
    exact ⟨M, keepMap hM.o (e m rfl), hM.n, hM.a⟩
/-- the waiters' side -/
structure QW (w : World) (pb : Nat) (mw mh : Option Nat) (l : List Hd) : Prop where
  cell : w.heap[pb]? = some (.cells #[.map mw, .map mh] 54 (0, 0))
  wm : MW w mw l
  blk : ∀ a ∈ l, w.heap[a.b]? = some (.cells (hC a) 76 (0, 0))
  inj : ∀ a ∈ l, ∀ b ∈ l, a.b = b.b → a = b
  nj : NJ (l.map Hd.j)
  ok : ∀ a ∈ l, a.j.ok = true
  len : l.length ≤ 1000000
section
variable {w w1 : World} {pb : Nat} {mw mh : Option Nat} {l : List Hd}
theorem QW.lt (h : QW w pb mw mh l) : pb < w.heap.size := (Array.getElem?_eq_some_iff.1 h.cell).1
theorem QW.blt (h : QW w pb mw mh l) {a : Hd} (ha : a ∈ l) : a.b < w.heap.size := (Array.getElem?_eq_some_iff.1 (h.blk a ha)).1
theorem QW.keep (h : QW w pb mw mh l) (e : ∀ k, (k = pb ∨ mw = some k ∨ ∃ a ∈ l, a.b = k) → w1.heap[k]? = w.heap[k]?) : QW w1 pb mw mh l :=
  ⟨(e _ (.inl rfl)).trans h.cell, h.wm.keep fun m hm => e m (.inr (.inl hm)), fun a ha => (e _ (.inr (.inr ⟨a, ha, rfl⟩))).trans (h.blk a ha), h.inj, h.nj, h.ok, h.len⟩
theorem QW.below (h : QW w pb mw mh l) (b : Below w.heap.size w w1) : QW w1 pb mw mh l := h.keep fun k hk => b.block k (by
  rcases hk with rfl | rfl | ⟨a, ha, rfl⟩
  · exact h.lt
  · exact h.wm.lt
  · exact h.blt ha)
theorem hd_one (h : QW w pb mw mh l) {a b : Hd} (ha : a ∈ l) (hb : b ∈ l) (e : a.j.job = b.j.job) : a = b := by
  have hn := h.nj
  unfold NJ at hn
  rw [List.pairwise_map] at hn
  clear h
  induction l with
  | nil => cases ha
  | cons z r ih =>
    have h1 := List.pairwise_cons.1 hn
    rcases List.mem_cons.1 ha with rfl | ha' <;> rcases List.mem_cons.1 hb with rfl | hb'
    · rfl
    · exact absurd e (h1.1 b hb')
    · exact absurd e.symm (h1.1 a ha')
    · exact ih ha' hb' h1.2
theorem aJ_none {x : Int} (h : aJ l x = none) : ∀ a ∈ l, a.j.job ≠ x := fun a ha e => by
  unfold aJ at h
  rw [Option.map_eq_none_iff] at h
  have := List.find?_eq_none.1 h a ha
  simp [e] at this
theorem aJ_some {x : Int} {b : Nat} (h : aJ l x = some b) : ∃ a ∈ l, a.j.job = x ∧ a.b = b := by
  unfold aJ at h
  obtain ⟨a, h1, h2⟩ := Option.map_eq_some_iff.1 h
  exact ⟨a, List.mem_of_find?_eq_some h1, by have := List.find?_some h1; simpa using this, h2⟩
theorem QW.at (h : QW w pb mw mh l) {a : Hd} (ha : a ∈ l) : aJ l a.j.job = some a.b := by
  cases q : aJ l a.j.job with
  | none => exact absurd rfl (aJ_none q a ha)
  | some b =>
    obtain ⟨c, h1, h2, h3⟩ := aJ_some q
    rw [← h3, hd_one h h1 ha h2]
theorem fJ_at (l : List Hd) (x : Int) : fJ x (l.map Hd.j) = (l.find? fun a => decide (a.j.job = x)).map Hd.j := by
  unfold fJ
  rw [List.find?_map]
  rfl
theorem look_W (h : MW w mw l) (x : Int) (hx : wf x) : (Instr.lookup 51 (.map mw) (.int .i64 x) false).run Try.prog w = .ok (optp (aJ l x)) w := by
  have hkey : keyOf Try.prog 2 (.int .i64 x) = some (.int .i64 x) := keyOf_int_mk Try.underlying2 hx
  unfold MW at h
  cases mw with
  | none =>
    subst h
    have := Maps.look_nil (w := w) false law2 Try.underlying51 (zero65 w) hkey
    simpa [optp, aJ] using this
  | some m =>
    obtain ⟨M, hM⟩ := h
    obtain ⟨v, ps, hr, hv⟩ := hM.o.lookup law2 Try.underlying51 (zero65 w) (zd := .nil) (zp := []) rfl hkey
    rw [hM.a] at hv
    rw [hr]
    cases hf : aJ l x with
    | none => rw [hf] at hv; rw [pE_nil hv]; rfl
    | some b => rw [hf] at hv; rw [pE_held hv]; rfl
end
/-! ### New, find, Len, Get -/
theorem c2 {w : World} {g : Nat} {a b : Value} {t : TypeId} (h : w.heap[g]? = some (.cells #[a, b] t (0, 0))) : w.cell? ⟨g, 0, none⟩ = some a ∧ w.cell? ⟨g, 1, none⟩ = some b := by
  unfold World.cell?
  rw [h]
  simp
theorem c4 {w : World} {g : Nat} {a b c d : Value} {t : TypeId} (h : w.heap[g]? = some (.cells #[a, b, c, d] t (0, 0))) : w.cell? ⟨g, 0, none⟩ = some a ∧ w.cell? ⟨g, 1, none⟩ = some b ∧ w.cell? ⟨g, 2, none⟩ = some c ∧ w.cell? ⟨g, 3, none⟩ = some d := by
  unfold World.cell?
  rw [h]
  simp
theorem newQ_any (w : World) : Calls Try.prog 9 #[] w fun e w' => e = .returned (.pointer (some ⟨w.heap.size, 0, none⟩)) ∧ w' = w.alloc (.cells #[.map none, .map none] 54 (0, 0)) := by
  go_enter Try.func9, Try.ntmps9
  go_wp2_with fail
  go_ret
  exact ⟨rfl, rfl⟩
theorem qfind_nil (w : World) (x : Int) : Calls Try.prog 29 #[.pointer none, .int .i64 x] w fun e w' => e = .returned (.pointer none) ∧ w' = w := by
  go_enter Try.func29, Try.ntmps29
  go_wp2_with fail
  go_ret
  exact ⟨rfl, rfl⟩
theorem qfind_raw (w : World) (pb : Nat) (mw : Option Nat) (x : Int) (r : Value) (c0 : w.cell? ⟨pb, 0, none⟩ = some (.map mw)) (hl : (Instr.lookup 51 (.map mw) (.int .i64 x) false).run Try.prog w = .ok r w) :
    Calls Try.prog 29 #[.pointer (some ⟨pb, 0, none⟩), .int .i64 x] w fun e w' => e = .returned r ∧ w' = w := by
  go_enter Try.func29, Try.ntmps29
  go_wp2_with fail
  go_ret
  exact ⟨rfl, rfl⟩
theorem qlen_nil (w : World) : Calls Try.prog 11 #[.pointer none] w fun e w' => e = .returned (.int .i64 0) ∧ w' = w := by
  go_enter Try.func11, Try.ntmps11
  go_wp2_with fail
  go_ret
  exact ⟨rfl, rfl⟩
theorem qlen_raw (w : World) (pb : Nat) (mw : Option Nat) (n : Nat) (c0 : w.cell? ⟨pb, 0, none⟩ = some (.map mw)) (hl : ∀ ty, (Builtin.len_ #[51] ty #[.map mw]).run Try.prog w = .ok (.int .i64 n) w) :
    Calls Try.prog 11 #[.pointer (some ⟨pb, 0, none⟩)] w fun e w' => e = .returned (.int .i64 n) ∧ w' = w := by
  go_enter Try.func11, Try.ntmps11
  go_wp2_with fail
  go_ret
  exact ⟨rfl, rfl⟩
theorem len_W {w : World} {mw : Option Nat} {l : List Hd} (h : MW w mw l) (ty : TypeId) : (Builtin.len_ #[51] ty #[.map mw]).run Try.prog w = .ok (.int .i64 l.length) w := by
  unfold MW at h
  cases mw with
  | none =>
    subst h
    simp [Builtin.len_, run_underlying Try.underlying51, goInt, Result.andThen]
  | some m =>
    obtain ⟨M, hM⟩ := h
    have := World.ownsMap.len hM.o Try.underlying51 ty
    rw [hM.n] at this
    exact this
def vJ (a : J) : Value := .agg #[.int .i64 a.job, .string ⟨⟨a.tn⟩⟩, .int .i64 a.pr]
set_option maxHeartbeats 400000 in
theorem qget_none (w : World) (v : Value) (x : Int) (H29 : Hid (∀ w1, Below w.heap.size w w1 → Calls Try.prog 29 #[v, .int .i64 x] w1 fun e w' => e = .returned (.pointer none) ∧ w' = w1)) :
    Calls Try.prog 18 #[v, .int .i64 x] w fun e w' => e = .returned (.tuple #[.agg #[.int .i64 0, .string ⟨#[]⟩, .int .i64 0], .int .i64 3]) ∧ Below w.heap.size w w' := by
  have H1 := H29.out (w.alloc (.cells #[.int .i64 0, .string ⟨#[]⟩, .int .i64 0] 32 (0, 0))) ((Below.refl _ w).alloc (Nat.le_refl _) _)
  clear H29
  go_enter Try.func18, Try.ntmps18
  go_wp2_with (go_at_call 29; refine H1.mono ?_; rintro e w1 ⟨rfl, h1⟩; obtain rfl := h1.symm)
  refine bodyPost_ret (v := .tuple #[.agg #[.int .i64 0, .string ⟨#[]⟩, .int .i64 0], .int .i64 3]) (by rw [results_cell_tmp rfl]; go_simp) rfl ?_
  exact ⟨rfl, by go_grown⟩
set_option maxHeartbeats 400000 in
theorem qget_some (w : World) (v : Value) (x j p : Int) (s : ByteArray) (b : Nat) (hd : Value) (hB : Hid (w.heap[b]? = some (.cells #[.int .i64 j, .string s, .int .i64 p, hd] 76 (0, 0)))) (H29 : Hid (∀ w1, Below w.heap.size w w1 → Calls Try.prog 29 #[v, .int .i64 x] w1 fun e w' => e = .returned (.pointer (some ⟨b, 0, none⟩)) ∧ w' = w1)) :
    Calls Try.prog 18 #[v, .int .i64 x] w fun e w' => e = .returned (.tuple #[.agg #[.int .i64 j, .string s, .int .i64 p], .int .i64 0]) ∧ Below w.heap.size w w' := by
  have H1 := H29.out (w.alloc (.cells #[.int .i64 0, .string ⟨#[]⟩, .int .i64 0] 32 (0, 0))) ((Below.refl _ w).alloc (Nat.le_refl _) _)
  have hlt : b < w.heap.size := (Array.getElem?_eq_some_iff.1 hB.out).1
  obtain ⟨q0, q1, q2, q3⟩ := c4 hB.out
  clear H29
  go_enter Try.func18, Try.ntmps18
  go_wp2_with (go_at_call 29; refine H1.mono ?_; rintro e w1 ⟨rfl, h1⟩; obtain rfl := h1.symm)
  refine bodyPost_ret (v := .tuple #[.agg #[.int .i64 j, .string s, .int .i64 p], .int .i64 0]) (by rw [results_cell_tmp rfl]; go_simp) rfl ?_
  exact ⟨rfl, by go_grown⟩
theorem jobOf_any (w : World) (a b c : Int) : Calls Try.prog 35 #[.agg #[.int .i64 a, .int .i64 b, .int .i64 c]] w fun e w' => e = .returned (.int .i64 b) ∧ Below w.heap.size w w' := by
  go_enter Try.func35, Try.ntmps35
  go_wp2_with fail
  go_ret
  exact ⟨rfl, (Below.refl _ w).alloc (Nat.le_refl _) _⟩
end Go.Proofs.Ythlbeofonbbbdaa
