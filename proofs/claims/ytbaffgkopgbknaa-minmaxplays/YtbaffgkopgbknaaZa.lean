/-
  The reference's heap: a row of entries; Len.
-/
import Derived.Test.YtbaffgkopgbknaaLa
namespace Go.Proofs.Ytbaffgkopgbknaa
open Go.RowKit Go.Maps

structure RE where
  k : K
  on : Bool
def RE.cs (e : RE) : List Value := [.int .i64 e.k.a, .int .i64 e.k.b, .int .i64 e.k.c, .bool e.on]
def rflat (l : List RE) : List Value := l.flatMap RE.cs
theorem rflat_len (l : List RE) : (rflat l).length = l.length * 4 := by
  induction l with
  | nil => rfl
  | cons e l ih =>
    show (e.cs ++ rflat l).length = _
    rw [List.length_append, ih, List.length_cons]
    show 4 + _ = _
    omega
theorem rflat_get : ∀ (l : List RE) (i : Nat) (e : RE) (j : Nat) (u : Value), l[i]? = some e → e.cs[j]? = some u → j < 4 → (rflat l)[i * 4 + j]? = some u
  | [], i, e, j, u, h, _, _ => by simp at h
  | p :: l, 0, e, j, u, h, hu, hj => by
    have q : p = e := by simpa using h
    subst q
    show (p.cs ++ rflat l)[0 * 4 + j]? = some u
    rw [Nat.zero_mul, Nat.zero_add, List.getElem?_append_left (by show j < 4; exact hj)]
    exact hu
  | p :: l, i + 1, e, j, u, h, hu, hj => by
    show (p.cs ++ rflat l)[(i + 1) * 4 + j]? = some u
    rw [List.getElem?_append_right (by show 4 ≤ _; omega)]
    rw [show (i + 1) * 4 + j - p.cs.length = i * 4 + j by show (i + 1) * 4 + j - 4 = _; omega]
    exact rflat_get l i e j u (by simpa using h) hu hj
/-- the reference's heap in memory -/
structure Rf (w : World) (rb : Nat) (v : Value) (l : List RE) : Prop where
  b : w.heap[rb]? = some (.cells #[v] 29 (0, 0))
  r : w.ownsRow 0 78 4 v l.length (rflat l)
section
variable {w w' : World} {rb : Nat} {v : Value} {l : List RE}
theorem c1 {w : World} {g : Nat} {a : Value} {t : TypeId} (h : w.heap[g]? = some (.cells #[a] t (0, 0))) : w.cell? ⟨g, 0, none⟩ = some a := by
  unfold World.cell?
  rw [h]
  rfl
theorem Rf.shape (h : Rf w rb v l) : ∃ a c, v = .slice a l.length c := by
  rcases h.r.2 with ⟨rfl, h0⟩ | ⟨g, cap, cur, rfl, _⟩
  · exact ⟨none, 0, by rw [h0]⟩
  · exact ⟨_, _, rfl⟩
theorem Rf.row (h : Rf w rb v l) (hl : l ≠ []) : ∃ g c, v = .slice (some ⟨g, 0, none⟩) l.length c := by
  rcases h.r.2 with ⟨rfl, h0⟩ | ⟨g, cap, cur, rfl, _⟩
  · exact absurd (List.eq_nil_of_length_eq_zero h0) hl
  · exact ⟨g, cap, rfl⟩
theorem Rf.cell {g n c : Nat} (h : Rf w rb (.slice (some ⟨g, 0, none⟩) n c) l) {i : Nat} {e : RE} (hi : l[i]? = some e) {j : Nat} {u : Value} (hu : e.cs[j]? = some u) (hj : j < 4) : w.cell? ⟨g, i * 4 + j, none⟩ = some u := by
  have := World.ownsRow.cells h.r (g := g) rfl (i * 4 + j) u (rflat_get l i e j u hi hu hj)
  rw [Addr.add_lit, Nat.zero_add] at this
  exact this
theorem Rf.keep (h : Rf w rb v l) (b : Below w.heap.size w w') : Rf w' rb v l := by
  have hlt : rb < w.heap.size := (Array.getElem?_eq_some_iff.1 h.b).1
  exact ⟨(b.block rb hlt).trans h.b, ownsKeep h.r fun g hg => b.block g (World.ownsRow.lt h.r g hg).2⟩
/-- how many are there -/
def rcount (l : List RE) : Nat := l.countP (·.on)
theorem rcount_take {i : Nat} {e : RE} (hi : l[i]? = some e) : rcount (l.take (i + 1)) = rcount (l.take i) + if e.on then 1 else 0 := by
  unfold rcount
  have h1 : l.take (i + 1) = l.take i ++ [e] := by rw [List.take_add_one, hi]; rfl
  rw [h1, List.countP_append]
  congr 1
  simp [List.countP_cons]
set_option maxHeartbeats 1000000 in
theorem rlen_any (h : Hid (Rf w rb v l)) (hs : l.length ≤ 1048576) : Calls Try.prog 29 #[.pointer (some ⟨rb, 0, none⟩)] w fun e w' => e = .returned (.int .i64 (rcount l : Nat)) ∧ w' = w := by
  obtain ⟨a, c, rfl⟩ := h.out.shape
  have e1 := c1 h.out.b
  have HS : Hid (l.length ≤ 1048576) := hs
  have hs' : (l.length : Int) ≤ 1048576 := by omega
  clear hs
  go_enter Try.func29, Try.ntmps29
  go_wp2_with fail
  go_loopw [3, 4] (fun nv iv wr => ∃ i : Nat, i ≤ l.length ∧ nv = .int .i64 (rcount (l.take i) : Nat) ∧ iv = .int .i64 i ∧ wr = w) (fun _ iv _ => l.length - (intOf iv).toNat)
  case atStart => exact ⟨0, Nat.zero_le _, rfl, rfl, rfl⟩
  case round =>
    obtain ⟨i, hi, rfl, rfl, rfl⟩ := hrel
    by_cases hil : i < l.length
    · have hi2 : (i : Int) < (l.length : Int) := by omega
      obtain ⟨x, hx⟩ : ∃ x, l[i]? = some x := ⟨_, List.getElem?_eq_getElem hil⟩
      obtain ⟨g, c', hg'⟩ := h.out.row (by intro e; rw [e] at hil; simp at hil)
      have ea : a = some ⟨g, 0, none⟩ ∧ c = c' := by simpa using hg'
      obtain ⟨rfl, rfl⟩ := ea
      have p3 : wr.cell? ⟨g, i * 4 + 3, none⟩ = some (.bool x.on) := h.out.cell hx rfl (by decide)
      have ht := rcount_take hx
      have hb : rcount (l.take i) ≤ i := Nat.le_trans List.countP_le_length (by rw [List.length_take]; omega)
      have HT : Hid (rcount (l.take (i + 1)) = rcount (l.take i) + if x.on then 1 else 0) := ht
      have HH : Hid (rcount (l.take i) ≤ 1048576) := Nat.le_trans hb (by have := HS.out; omega)
      clear hx hg' ht hb
      generalize rcount (l.take i) = n at *
      have n1 : (n : Int) ≤ 1048576 := by have := HH.out; omega
      cases ho : x.on with
      | true =>
        rw [ho] at p3
        go_wp2_with fail
        exact ⟨⟨i + 1, by omega, by rw [HT.out, ho]; go_num, by go_num, trivial⟩, by simp [intOf]; omega⟩
      | false =>
        rw [ho] at p3
        go_wp2_with fail
        exact ⟨⟨i + 1, by omega, by rw [HT.out, ho]; rfl, by go_num, trivial⟩, by simp [intOf]; omega⟩
    · have hi2 : ¬ (i : Int) < (l.length : Int) := by omega
      have he : l.take i = l := List.take_of_length_le (by omega)
      rw [he]
      go_wp2_with fail
      go_ret
      exact ⟨rfl, rfl⟩
end
end Go.Proofs.Ytbaffgkopgbknaa
