/-
  The document's table: nodes in a list; what it has in its memory; find.
-/
import Derived.Test.YtihjmigjphljnaaGr
import Derived.Test.YtihjmigjphljnaaSp
import Derived.BigRegion
import Derived.Test.YtihjmigjphljnaaVa
namespace Go.Proofs.Ytihjmigjphljnaa
open Go.RowKit Go.Maps
open Tk

/-- a node's eight cells -/
def aC (n : Nd) : List Value := [.string n.nm, .int .i64 n.ep, .int .i64 n.v.a, .int .i64 n.v.b, .int .i64 n.v.c, .int .i64 n.v.d, .int .i64 n.sn, .bool n.lv]
theorem aC_len (a : Nd) : (aC a).length = 8 := rfl
theorem aC_one (a : Nd) : ∀ u ∈ aC a, u.oneCell' = true := by
  intro u hu
  simp only [aC, List.mem_cons, List.not_mem_nil, or_false] at hu
  rcases hu with rfl | rfl | rfl | rfl | rfl | rfl | rfl | rfl <;> rfl
abbrev AR (w : World) (v : Value) (L : List Nd) : Prop := GRow 46 8 aC 0 w v L
theorem owns_set {w : World} {B t s n g : Nat} {v : Value} {xs : List Value} (h : w.ownsRow B t s v n xs) (hv : v.ownBlock = some g) (i : Nat) (u : Value) : (w.setCell ⟨g, i, none⟩ u).ownsRow B t s v n (xs.set i u) := by
  refine ⟨by rw [List.length_set]; exact h.1, ?_⟩
  rcases h.2 with ⟨rfl, _⟩ | ⟨g', cap, cur, rfl, hb, hgg, h1, h2, h3, h4⟩
  · cases hv
  · obtain rfl := Option.some.inj hv
    refine .inr ⟨g', cap, cur.setIfInBounds i u, rfl, hb, setB hgg u, h1, h2, by simpa using h3, ?_⟩
    rw [← h4, Array.toList_setIfInBounds, List.take_set]
theorem flat_set1 {α : Type} {f : α → List Value} {sz : Nat} (hf : ∀ a, (f a).length = sz) : ∀ {L : List α} {k : Nat} {a0 a' : α} {j : Nat} {u : Value}, L[k]? = some a0 → j < sz → f a' = (f a0).set j u → (L.flatMap f).set (k * sz + j) u = (L.set k a').flatMap f
  | [], _, _, _, _, _, h, _, _ => by simp at h
  | y :: r, 0, a0, a', j, u, h, hj, e => by
    obtain rfl : y = a0 := by simpa using h
    rw [List.flatMap_cons, List.set_cons_zero, List.flatMap_cons, Nat.zero_mul, Nat.zero_add, List.set_append_left _ _ (by rw [hf]; exact hj), e]
  | y :: r, k + 1, a0, a', j, u, h, hj, e => by
    have hr : r[k]? = some a0 := by simpa using h
    rw [List.flatMap_cons, List.set_cons_succ, List.flatMap_cons, List.set_append_right _ _ (by rw [hf, Nat.succ_mul]; omega), hf, show (k + 1) * sz + j - sz = k * sz + j by rw [Nat.succ_mul]; omega, flat_set1 hf hr hj e]
section
variable {w : World} {g n c k : Nat} {L : List Nd} {a : Nd}
/-- one cell of an account is written -/
theorem AR.set1 (h : AR w (.slice (some ⟨g, 0, none⟩) n c) L) (hk : L[k]? = some a) {j : Nat} {u : Value} {a' : Nd} (hj : j < 8) (e : aC a' = (aC a).set j u) : AR (w.setCell ⟨g, k * 8 + j, none⟩ u) (.slice (some ⟨g, 0, none⟩) n c) (L.set k a') := by
  unfold AR GRow at *
  rw [List.length_set, ← flat_set1 aC_len hk hj e]
  exact owns_set h rfl _ _
theorem AR.cells (h : AR w (.slice (some ⟨g, 0, none⟩) n c) L) (hk : L[k]? = some a) : (w.cell? ⟨g, k * 8, none⟩ = some (.string a.nm) ∧ w.cell? ⟨g, k * 8 + 1, none⟩ = some (.int .i64 a.ep) ∧ w.cell? ⟨g, k * 8 + 2, none⟩ = some (.int .i64 a.v.a) ∧ w.cell? ⟨g, k * 8 + 3, none⟩ = some (.int .i64 a.v.b) ∧ w.cell? ⟨g, k * 8 + 4, none⟩ = some (.int .i64 a.v.c) ∧ w.cell? ⟨g, k * 8 + 5, none⟩ = some (.int .i64 a.v.d) ∧ w.cell? ⟨g, k * 8 + 6, none⟩ = some (.int .i64 a.sn) ∧ w.cell? ⟨g, k * 8 + 7, none⟩ = some (.bool a.lv)) := by
  obtain ⟨g', e, hc⟩ := h.at aC_len hk
  simp only [Option.some.injEq, Addr.mk.injEq, and_true] at e
  subst e
  exact ⟨hc 0 _ rfl, hc 1 _ rfl, hc 2 _ rfl, hc 3 _ rfl, hc 4 _ rfl, hc 5 _ rfl, hc 6 _ rfl, hc 7 _ rfl⟩
theorem AR.fz (h : AR w (.slice (some ⟨g, 0, none⟩) n c) L) (i : Nat) : w.frozen? ⟨g, i, none⟩ = false := by
  rcases h.2 with ⟨e, _⟩ | ⟨g', cap, cur, e, hb, hgg, _⟩
  · cases e
  · cases e
    exact Go.Proofs.Ytihjmigjphljnaa.Tk.fz hgg i
theorem AR.some {q : Option Addr} (h : AR w (.slice q n c) L) (hk : L[k]? = some a) : ∃ g, q = Option.some ⟨g, 0, none⟩ := by
  obtain ⟨g, e, _⟩ := h.at aC_len hk
  exact ⟨g, e⟩
end
/-- the document's ledger as it lies -/
structure RAt (w : World) (rb : Nat) (q : Option Addr) (n c : Nat) (D : List Nd) : Prop where
  cell : w.heap[rb]? = some (.cells #[.slice q n c] 29 (0, 0))
  row : AR w (.slice q n c) D
  srt : Srt Nd.k D
  len : D.length ≤ 12
  ok : ∀ a ∈ D, a.ok
theorem RAt.n {w : World} {rb : Nat} {q : Option Addr} {n c : Nat} {D : List Nd} (h : RAt w rb q n c D) : n = D.length := h.row.len
theorem RAt.lt {w : World} {rb : Nat} {q : Option Addr} {n c : Nat} {D : List Nd} (h : RAt w rb q n c D) : rb < w.heap.size := (Array.getElem?_eq_some_iff.1 h.cell).1
theorem RAt.ne {w : World} {rb g : Nat} {n c : Nat} {D : List Nd} (h : RAt w rb (some ⟨g, 0, none⟩) n c D) : g ≠ rb := fun e => by
  rcases h.row.2 with ⟨q, _⟩ | ⟨g', cap, cur, q, hb, hgg, _⟩
  · cases q
  · cases q
    rw [e, h.cell] at hgg
    cases hgg
theorem RAt.keep {w w1 : World} {rb : Nat} {q : Option Addr} {n c : Nat} {D : List Nd} (h : RAt w rb q n c D) (e : ∀ k, (k = rb ∨ (Value.slice q n c).ownBlock = some k) → w1.heap[k]? = w.heap[k]?) : RAt w1 rb q n c D := ⟨(e rb (.inl rfl)).trans h.cell, h.row.keep fun g hg => e g (.inr hg), h.srt, h.len, h.ok⟩
theorem RAt.below {w w1 : World} {rb : Nat} {q : Option Addr} {n c : Nat} {D : List Nd} (h : RAt w rb q n c D) (b : Below w.heap.size w w1) : RAt w1 rb q n c D := h.keep fun k hk => b.block k (by
  rcases hk with rfl | hk
  · exact h.lt
  · exact h.row.lt hk)
/-- T: blocks that are its own -/
def Ref (w : World) (T : Nat → Prop) (rb : Nat) (D : List Nd) : Prop := (∃ q n c, RAt w rb q n c D ∧ ∀ k, (k = rb ∨ (Value.slice q n c).ownBlock = some k) → T k) ∧ ∀ k, T k → k < w.heap.size
theorem Ref.keep {w w1 : World} {T : Nat → Prop} {rb : Nat} {D : List Nd} (h : Ref w T rb D) (e : ∀ k, T k → w1.heap[k]? = w.heap[k]?) (hs : w.heap.size ≤ w1.heap.size) : Ref w1 T rb D := by
  obtain ⟨⟨q, n, c, h1, h2⟩, h3⟩ := h
  exact ⟨⟨q, n, c, h1.keep fun k hk => e k (h2 k hk), h2⟩, fun k hk => Nat.lt_of_lt_of_le (h3 k hk) hs⟩
theorem Ref.keepB {w w1 : World} {T : Nat → Prop} {rb : Nat} {D : List Nd} (h : Ref w T rb D) (b : Below w.heap.size w w1) : Ref w1 T rb D := h.keep (fun k hk => b.block k (h.2 k hk)) b.size
theorem fnd_place {D : List Nd} {n : List UInt8} {a : Nd} (h : fnd Nd.k n D = some a) : ∃ k : Nat, D[k]? = some a := List.getElem?_of_mem (fnd_some h).1
theorem fnd_at {D : List Nd} (hs : Srt Nd.k D) {k : Nat} {a : Nd} (h : D[k]? = some a) : fnd Nd.k a.k D = some a := fnd_of hs (List.mem_of_getElem? h)
theorem srt_lt {D : List Nd} (hs : Srt Nd.k D) {i j : Nat} {a b : Nd} (hi : D[i]? = some a) (hj : D[j]? = some b) (hij : i < j) : a.k ≠ b.k := fun e => by
  obtain ⟨h1, rfl⟩ := List.getElem?_eq_some_iff.1 hi
  obtain ⟨h2, rfl⟩ := List.getElem?_eq_some_iff.1 hj
  have := List.pairwise_iff_getElem.1 hs i j h1 h2 hij
  rw [e, WideAt.bytes_irrefl] at this
  cases this
set_option maxHeartbeats 1000000 in
set_option maxRecDepth 100000 in
theorem rfind_raw (w : World) (rb : Nat) (q : Option Addr) (n c : Nat) (D : List Nd) (s : ByteArray) (r : Int) (hR : Hid (RAt w rb q n c D)) (hr : Hid ((∃ k a, r = (k : Nat) ∧ D[k]? = some a ∧ a.k = s.data.toList) ∨ (r = -1 ∧ fnd Nd.k s.data.toList D = none))) :
    Calls Try.prog 39 #[.pointer (some ⟨rb, 0, none⟩), .string s] w fun e w' => e = .returned (.int .i64 r) ∧ w' = w := by
  have e0 := c1 hR.out.cell
  have hn := hR.out.n
  have hn12 : n ≤ 12 := by have := hR.out.len; omega
  have HN : Hid (n = D.length) := hn
  clear hn
  go_enter Try.func39, Try.ntmps39
  go_wp2_with fail
  go_loopw [5] (fun i wr => ∃ k : Nat, k ≤ n ∧ i = .int .i64 k ∧ wr = w ∧ Hid (∀ (j : Nat) (a : Nd), j < k → D[j]? = some a → a.k ≠ s.data.toList)) (fun i _ => n - (intOf i).toNat)
  case atStart => exact ⟨0, Nat.zero_le _, rfl, rfl, fun j a hj => absurd hj (Nat.not_lt_zero _)⟩
  case round =>
    obtain ⟨k, hk, rfl, rfl, HQ⟩ := hrel
    by_cases hlt : k < n
    · obtain ⟨f, hf⟩ : ∃ f, D[k]? = some f := ⟨D[k]'(by have := HN.out; omega), List.getElem?_eq_getElem _⟩
      obtain ⟨g, rfl⟩ := hR.out.row.some hf
      obtain ⟨h0, -⟩ := hR.out.row.cells hf
      have hi : (k : Int) < (n : Int) := by omega
      have HF : Hid (D[k]? = some f) := hf
      clear hf
      by_cases hs : f.k = s.data.toList
      · have hb : (f.nm.toList == s.toList) = true := by rw [Lib.toList_data, Lib.toList_data]; exact beq_iff_eq.2 hs
        have HP : Hid (r = (k : Int)) := by
          rcases hr.out with ⟨k', a, h1, h2, h3⟩ | ⟨_, h2⟩
          · have : k' = k := by
              rcases Nat.lt_trichotomy k' k with q | q | q
              · exact absurd h3 (HQ.out k' a q h2)
              · exact q
              · exact absurd (hs.trans h3.symm) (srt_lt hR.out.srt HF.out h2 q)
            subst this
            exact h1
          · exact absurd hs (fnd_none h2 f (List.mem_of_getElem? HF.out))
        clear hs
        go_wp2_with fail
        go_ret
        exact ⟨by rw [HP.out]; rfl, rfl⟩
      · have hb : (f.nm.toList == s.toList) = false := by rw [Lib.toList_data, Lib.toList_data]; exact beq_eq_false_iff_ne.2 hs
        have HP : Hid (∀ (j : Nat) (a : Nd), j < k + 1 → D[j]? = some a → a.k ≠ s.data.toList) := fun j a hj ha => by
          by_cases e : j = k
          · subst e
            obtain rfl := Option.some.inj (HF.out.symm.trans ha)
            exact hs
          · exact HQ.out j a (by omega) ha
        clear hs
        go_wp2_with fail
        refine ⟨⟨k + 1, by omega, by simp, by first | rfl | trivial, HP.out⟩, ?_⟩
        simp [intOf]
        omega
    · have hi : ¬ (k : Int) < (n : Int) := by omega
      have HP : Hid (r = -1) := by
        rcases hr.out with ⟨k', a, h1, h2, h3⟩ | ⟨h1, _⟩
        · have := (List.getElem?_eq_some_iff.1 h2).1
          exact absurd h3 (HQ.out k' a (by have := HN.out; omega) h2)
        · exact h1
      go_wp2_with fail
      go_ret
      exact ⟨by rw [HP.out]; rfl, rfl⟩
theorem rfind_yes {w : World} {rb : Nat} {q : Option Addr} {n c : Nat} {D : List Nd} (h : RAt w rb q n c D) {k : Nat} {a : Nd} (hk : D[k]? = some a) {s : ByteArray} (hs : a.k = s.data.toList) :
    Calls Try.prog 39 #[.pointer (some ⟨rb, 0, none⟩), .string s] w fun e w' => e = .returned (.int .i64 k) ∧ w' = w := rfind_raw w rb q n c D s k h (.inl ⟨k, a, rfl, hk, hs⟩)
theorem rfind_no {w : World} {rb : Nat} {q : Option Addr} {n c : Nat} {D : List Nd} (h : RAt w rb q n c D) {s : ByteArray} (hs : fnd Nd.k s.data.toList D = none) :
    Calls Try.prog 39 #[.pointer (some ⟨rb, 0, none⟩), .string s] w fun e w' => e = .returned (.int .i64 (-1)) ∧ w' = w := rfind_raw w rb q n c D s (-1) h (.inr ⟨rfl, hs⟩)
end Go.Proofs.Ytihjmigjphljnaa
