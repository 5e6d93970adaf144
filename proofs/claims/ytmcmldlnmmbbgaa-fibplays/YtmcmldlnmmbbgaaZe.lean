/-
  The reference's heap: a row of entries; Len. The reference's Get. An entry of the reference's heap is written; the reference's Delete. The reference's Decrease. The reference's Pop (Min's answer is a premise).
-/
import Derived.Test.YtmcmldlnmmbbgaaPu
namespace Go.Proofs.Ytmcmldlnmmbbgaa
open Go.RowKit Go.Maps

structure RE where
  k : K
  on : Bool
def RE.cs (e : RE) : List Value := [.int .u64 e.k.n, .int .u64 e.k.d, .int .i64 e.k.t, .bool e.on]
def rflat (l : List RE) : List Value := l.flatMap RE.cs
theorem rflat_len (l : List RE) : (rflat l).length = l.length * 4 := by
  induction l with
  | nil => rfl
  | cons e l ih =>
    show (e.cs ++ rflat l).length = _
    rw [List.length_append, ih, List.length_cons]
    show 4 + _ = _
    omega
theorem rflat_get : ∀ (l : List RE) (i : Nat) (e : RE) (j : Nat) (u : Value), l[i]? = some e → e.cs[j]? = some u → j < 4 → (rflat l)[i * 4 + j]? = some u
  | [], i, e, j, u, h, _, _ => by simp at h
  | p :: l, 0, e, j, u, h, hu, hj => by
    have q : p = e := by simpa using h
    subst q
    show (p.cs ++ rflat l)[0 * 4 + j]? = some u
    rw [Nat.zero_mul, Nat.zero_add, List.getElem?_append_left (by show j < 4; exact hj)]
    exact hu
  | p :: l, i + 1, e, j, u, h, hu, hj => by
    show (p.cs ++ rflat l)[(i + 1) * 4 + j]? = some u
    rw [List.getElem?_append_right (by show 4 ≤ _; omega)]
    rw [show (i + 1) * 4 + j - p.cs.length = i * 4 + j by show (i + 1) * 4 + j - 4 = _; omega]
    exact rflat_get l i e j u (by simpa using h) hu hj
/-- the reference's heap in memory -/
structure Rf (w : World) (rb : Nat) (v : Value) (l : List RE) : Prop where
  b : w.heap[rb]? = some (.cells #[v] 30 (0, 0))
  r : w.ownsRow 0 81 4 v l.length (rflat l)
section
variable {w w' : World} {rb : Nat} {v : Value} {l : List RE}
theorem c1 {w : World} {g : Nat} {a : Value} {t : TypeId} (h : w.heap[g]? = some (.cells #[a] t (0, 0))) : w.cell? ⟨g, 0, none⟩ = some a := by
  unfold World.cell?
  rw [h]
  rfl
theorem Rf.shape (h : Rf w rb v l) : ∃ a c, v = .slice a l.length c := by
  rcases h.r.2 with ⟨rfl, h0⟩ | ⟨g, cap, cur, rfl, _⟩
  · exact ⟨none, 0, by rw [h0]⟩
  · exact ⟨_, _, rfl⟩
theorem Rf.row (h : Rf w rb v l) (hl : l ≠ []) : ∃ g c, v = .slice (some ⟨g, 0, none⟩) l.length c := by
  rcases h.r.2 with ⟨rfl, h0⟩ | ⟨g, cap, cur, rfl, _⟩
  · exact absurd (List.eq_nil_of_length_eq_zero h0) hl
  · exact ⟨g, cap, rfl⟩
theorem Rf.cell {g n c : Nat} (h : Rf w rb (.slice (some ⟨g, 0, none⟩) n c) l) {i : Nat} {e : RE} (hi : l[i]? = some e) {j : Nat} {u : Value} (hu : e.cs[j]? = some u) (hj : j < 4) : w.cell? ⟨g, i * 4 + j, none⟩ = some u := by
  have := World.ownsRow.cells h.r (g := g) rfl (i * 4 + j) u (rflat_get l i e j u hi hu hj)
  rw [Addr.add_lit, Nat.zero_add] at this
  exact this
theorem Rf.keep (h : Rf w rb v l) (b : Below w.heap.size w w') : Rf w' rb v l := by
  have hlt : rb < w.heap.size := (Array.getElem?_eq_some_iff.1 h.b).1
  exact ⟨(b.block rb hlt).trans h.b, ownsKeep h.r fun g hg => b.block g (World.ownsRow.lt h.r g hg).2⟩
/-- how many are there -/
def rcount (l : List RE) : Nat := l.countP (·.on)
theorem rcount_take {i : Nat} {e : RE} (hi : l[i]? = some e) : rcount (l.take (i + 1)) = rcount (l.take i) + if e.on then 1 else 0 := by
  unfold rcount
  have h1 : l.take (i + 1) = l.take i ++ [e] := by rw [List.take_add_one, hi]; rfl
  rw [h1, List.countP_append]
  congr 1
  simp [List.countP_cons]
set_option maxHeartbeats 1000000 in
theorem rlen_any (h : Hid (Rf w rb v l)) (hs : l.length ≤ 1048576) : Calls Try.prog 12 #[.pointer (some ⟨rb, 0, none⟩)] w fun e w' => e = .returned (.int .i64 (rcount l : Nat)) ∧ w' = w := by
  obtain ⟨a, c, rfl⟩ := h.out.shape
  have e1 := c1 h.out.b
  have HS : Hid (l.length ≤ 1048576) := hs
  have hs' : (l.length : Int) ≤ 1048576 := by omega
  clear hs
  go_enter Try.func12, Try.ntmps12
  go_wp2_with fail
  go_loopw [3, 4] (fun nv iv wr => ∃ i : Nat, i ≤ l.length ∧ nv = .int .i64 (rcount (l.take i) : Nat) ∧ iv = .int .i64 i ∧ wr = w) (fun _ iv _ => l.length - (intOf iv).toNat)
  case atStart => exact ⟨0, Nat.zero_le _, rfl, rfl, rfl⟩
  case round =>
    obtain ⟨i, hi, rfl, rfl, rfl⟩ := hrel
    by_cases hil : i < l.length
    · have hi2 : (i : Int) < (l.length : Int) := by omega
      obtain ⟨x, hx⟩ : ∃ x, l[i]? = some x := ⟨_, List.getElem?_eq_getElem hil⟩
      obtain ⟨g, c', hg'⟩ := h.out.row (by intro e; rw [e] at hil; simp at hil)
      have ea : a = some ⟨g, 0, none⟩ ∧ c = c' := by simpa using hg'
      obtain ⟨rfl, rfl⟩ := ea
      have p3 : wr.cell? ⟨g, i * 4 + 3, none⟩ = some (.bool x.on) := h.out.cell hx rfl (by decide)
      have ht := rcount_take hx
      have hb : rcount (l.take i) ≤ i := Nat.le_trans List.countP_le_length (by rw [List.length_take]; omega)
      have HT : Hid (rcount (l.take (i + 1)) = rcount (l.take i) + if x.on then 1 else 0) := ht
      have HH : Hid (rcount (l.take i) ≤ 1048576) := Nat.le_trans hb (by have := HS.out; omega)
      clear hx hg' ht hb
      generalize rcount (l.take i) = n at *
      have n1 : (n : Int) ≤ 1048576 := by have := HH.out; omega
      cases ho : x.on with
      | true =>
        rw [ho] at p3
        go_wp2_with fail
        exact ⟨⟨i + 1, by omega, by rw [HT.out, ho]; go_num, by go_num, trivial⟩, by simp [intOf]; omega⟩
      | false =>
        rw [ho] at p3
        go_wp2_with fail
        exact ⟨⟨i + 1, by omega, by rw [HT.out, ho]; rfl, by go_num, trivial⟩, by simp [intOf]; omega⟩
    · have hi2 : ¬ (i : Int) < (l.length : Int) := by omega
      have he : l.take i = l := List.take_of_length_le (by omega)
      rw [he]
      go_wp2_with fail
      go_ret
      exact ⟨rfl, rfl⟩
end
end Go.Proofs.Ytmcmldlnmmbbgaa

namespace Go.Proofs.Ytmcmldlnmmbbgaa
open Go.RowKit Go.Maps

/-- what the reference's heap holds -/
def rcont (l : List RE) : Ct := fun x => if x < 0 then none else match l[x.toNat]? with
  | some e => if e.on then some e.k else none
  | none => none
theorem rcont_at {l : List RE} {i : Nat} {e : RE} (h : l[i]? = some e) : rcont l (i : Int) = if e.on then some e.k else none := by
  unfold rcont
  rw [if_neg (by omega), show ((i : Int)).toNat = i by omega, h]
section
variable {w w' : World} {rb : Nat} {v : Value} {l : List RE}
set_option maxHeartbeats 1000000 in
theorem rget_neg (x : Int) (hx : x < 0) : Calls Try.prog 28 #[.pointer (some ⟨rb, 0, none⟩), .int .i64 x] w fun e w' => e = .returned (.tuple #[ktup 0 0 0, .int .i64 3]) ∧ Below w.heap.size w w' := by
  go_enter Try.func28, Try.ntmps28
  go_wp2_with fail
  refine bodyPost_ret (v := .tuple #[ktup 0 0 0, .int .i64 3]) (by rw [results_cell_tmp rfl]; go_simp; rfl) rfl ?_
  exact ⟨rfl, by go_grown⟩
set_option maxHeartbeats 1000000 in
theorem rget_far (h : Rf w rb v l) (x : Int) (hx0 : 0 ≤ x) (hx : (l.length : Int) ≤ x) : Calls Try.prog 28 #[.pointer (some ⟨rb, 0, none⟩), .int .i64 x] w fun e w' => e = .returned (.tuple #[ktup 0 0 0, .int .i64 3]) ∧ Below w.heap.size w w' := by
  obtain ⟨a, c, rfl⟩ := h.shape
  have k1 : (w.alloc (.cells #[.int .u64 0, .int .u64 0, .int .i64 0] 49)).cell? ⟨rb, 0, none⟩ = _ := c1 (h.keep ((Below.refl _ w).alloc (Nat.le_refl _) _)).b
  clear h
  go_enter Try.func28, Try.ntmps28
  go_wp2_with fail
  refine bodyPost_ret (v := .tuple #[ktup 0 0 0, .int .i64 3]) (by rw [results_cell_tmp rfl]; go_simp; rfl) rfl ?_
  exact ⟨rfl, by go_grown⟩
set_option maxHeartbeats 1000000 in
theorem rget_off (h : Rf w rb v l) (i : Nat) {e : RE} (hi : l[i]? = some e) (ho : e.on = false) : Calls Try.prog 28 #[.pointer (some ⟨rb, 0, none⟩), .int .i64 i] w fun e w' => e = .returned (.tuple #[ktup 0 0 0, .int .i64 3]) ∧ Below w.heap.size w w' := by
  have hil : i < l.length := (List.getElem?_eq_some_iff.1 hi).1
  obtain ⟨g, c, rfl⟩ := h.row (by intro q; rw [q] at hil; simp at hil)
  have h1 := h.keep (w' := w.alloc (.cells #[.int .u64 0, .int .u64 0, .int .i64 0] 49)) ((Below.refl _ w).alloc (Nat.le_refl _) _)
  have k1 := c1 h1.b
  have p3 := h1.cell hi (j := 3) rfl (by decide)
  rw [ho] at p3
  have hil' : (i : Int) < (l.length : Int) := by omega
  have hi0 : 0 ≤ (i : Int) := by omega
  clear h h1 hi ho hil
  go_enter Try.func28, Try.ntmps28
  go_wp2_with fail
  refine bodyPost_ret (v := .tuple #[ktup 0 0 0, .int .i64 3]) (by rw [results_cell_tmp rfl]; go_simp; rfl) rfl ?_
  exact ⟨rfl, by go_grown⟩
set_option maxHeartbeats 1000000 in
theorem rget_on (h : Rf w rb v l) (i : Nat) {e : RE} (hi : l[i]? = some e) (ho : e.on = true) : Calls Try.prog 28 #[.pointer (some ⟨rb, 0, none⟩), .int .i64 i] w fun q w' => q = .returned (.tuple #[ktup e.k.n e.k.d e.k.t, .int .i64 0]) ∧ Below w.heap.size w w' := by
  have hil : i < l.length := (List.getElem?_eq_some_iff.1 hi).1
  obtain ⟨g, c, rfl⟩ := h.row (by intro q; rw [q] at hil; simp at hil)
  have h1 := h.keep (w' := w.alloc (.cells #[.int .u64 0, .int .u64 0, .int .i64 0] 49)) ((Below.refl _ w).alloc (Nat.le_refl _) _)
  have k1 := c1 h1.b
  have p0 := h1.cell hi (j := 0) rfl (by decide)
  have p1 := h1.cell hi (j := 1) rfl (by decide)
  have p2 := h1.cell hi (j := 2) rfl (by decide)
  have p3 := h1.cell hi (j := 3) rfl (by decide)
  rw [ho] at p3
  rw [Nat.add_zero] at p0
  have hil' : (i : Int) < (l.length : Int) := by omega
  have hi0 : 0 ≤ (i : Int) := by omega
  clear h h1 hi ho hil
  go_enter Try.func28, Try.ntmps28
  go_wp2_with fail
  refine bodyPost_ret (v := .tuple #[ktup e.k.n e.k.d e.k.t, .int .i64 0]) (by rw [results_cell_tmp rfl]; go_simp; rfl) rfl ?_
  exact ⟨rfl, by go_grown⟩
theorem rget_any (h : Rf w rb v l) (x : Int) : Calls Try.prog 28 #[.pointer (some ⟨rb, 0, none⟩), .int .i64 x] w fun e w' => (match rcont l x with
    | some k => e = .returned (.tuple #[ktup k.n k.d k.t, .int .i64 0])
    | none => e = .returned (.tuple #[ktup 0 0 0, .int .i64 3])) ∧ Below w.heap.size w w' := by
  by_cases h0 : x < 0
  · have : rcont l x = none := if_pos h0
    rw [this]
    exact rget_neg x h0
  · obtain ⟨i, rfl⟩ : ∃ i : Nat, x = i := ⟨x.toNat, by omega⟩
    cases hi : l[i]? with
    | none =>
      have : rcont l (i : Int) = none := by unfold rcont; rw [if_neg h0, show ((i : Int)).toNat = i by omega, hi]
      rw [this]
      exact rget_far h _ (by omega) (by have := List.getElem?_eq_none_iff.1 hi; omega)
    | some e =>
      rw [rcont_at hi]
      cases ho : e.on with
      | true => exact rget_on h i hi ho
      | false => exact rget_off h i hi ho
end
end Go.Proofs.Ytmcmldlnmmbbgaa

namespace Go.Proofs.Ytmcmldlnmmbbgaa
open Go.RowKit Go.Maps

theorem rflat_set : ∀ (l : List RE) (i : Nat) (e : RE), i < l.length → rflat (l.set i e) = ((((rflat l).set (i * 4) (.int .u64 e.k.n)).set (i * 4 + 1) (.int .u64 e.k.d)).set (i * 4 + 2) (.int .i64 e.k.t)).set (i * 4 + 3) (.bool e.on)
  | [], i, e, h => by simp at h
  | p :: l, 0, e, _ => rfl
  | p :: l, i + 1, e, h => by
    have ih := rflat_set l i e (by simpa using h)
    show p.cs ++ rflat (l.set i e) = ((((p.cs ++ rflat l).set ((i + 1) * 4) _).set ((i + 1) * 4 + 1) _).set ((i + 1) * 4 + 2) _).set ((i + 1) * 4 + 3) _
    rw [ih, show (i + 1) * 4 = i * 4 + 4 by omega, show i * 4 + 4 + 1 = i * 4 + 1 + 4 by omega, show i * 4 + 4 + 2 = i * 4 + 2 + 4 by omega, show i * 4 + 4 + 3 = i * 4 + 3 + 4 by omega]
    rfl
/-- the world behind the store of an entry -/
def wset (w : World) (g o : Nat) (e : RE) : World := (((w.setCell ⟨g, o, none⟩ (.int .u64 e.k.n)).setCell ⟨g, o + 1, none⟩ (.int .u64 e.k.d)).setCell ⟨g, o + 2, none⟩ (.int .i64 e.k.t)).setCell ⟨g, o + 3, none⟩ (.bool e.on)
section
variable {w w' : World} {rb : Nat} {v : Value} {l : List RE}
theorem wset_other {w : World} {g o k : Nat} {e : RE} (h : k ≠ g) : (wset w g o e).heap[k]? = w.heap[k]? := by
  unfold wset
  rw [Below.heap_setCell _ _ _ _ (by exact h), Below.heap_setCell _ _ _ _ (by exact h), Below.heap_setCell _ _ _ _ (by exact h), Below.heap_setCell _ _ _ _ (by exact h)]
theorem Rf.ne {g n c : Nat} (h : Rf w rb (.slice (some ⟨g, 0, none⟩) n c) l) : rb ≠ g := fun q => by
  rcases h.r.2 with ⟨e, _⟩ | ⟨g', cap, cur, e, _, hgg, _⟩
  · cases e
  · cases e
    rw [← q, h.b] at hgg
    cases hgg
theorem Rf.fz {g n c : Nat} (h : Rf w rb (.slice (some ⟨g, 0, none⟩) n c) l) (i : Nat) : w.frozen? ⟨g, i, none⟩ = false := by
  rcases h.r.2 with ⟨e, _⟩ | ⟨g', cap, cur, e, _, hgg, _⟩
  · cases e
  · cases e
    exact Go.Proofs.Ytmcmldlnmmbbgaa.fz hgg i
theorem Rf.set {g n c : Nat} (h : Rf w rb (.slice (some ⟨g, 0, none⟩) n c) l) {i : Nat} (e : RE) (hi : i < l.length) : Rf (wset w g (i * 4) e) rb (.slice (some ⟨g, 0, none⟩) n c) (l.set i e) := by
  refine ⟨(wset_other h.ne).trans h.b, by rw [rflat_len], ?_⟩
  rcases h.r.2 with ⟨q, _⟩ | ⟨g', cap, cur, q, hb, hgg, h1, h2, h3, h4⟩
  · cases q
  · cases q
    refine .inr ⟨g, c, _, by rw [List.length_set], hb, setB (setB (setB (setB hgg _) _) _) _, by rw [List.length_set]; exact h1, h2, by simp only [Array.size_setIfInBounds]; exact h3, ?_⟩
    rw [List.length_set, rflat_set l i e hi]
    simp only [Array.toList_setIfInBounds, List.take_set, h4]
def re0 : RE := ⟨⟨0, 0, 0⟩, false⟩
set_option maxHeartbeats 1000000 in
theorem rdel_no (x : Int) (H28 : Hid (Calls Try.prog 28 #[.pointer (some ⟨rb, 0, none⟩), .int .i64 x] w fun e w' => e = .returned (.tuple #[.agg #[.int .u64 0, .int .u64 0, .int .i64 0], .int .i64 3]) ∧ Below w.heap.size w w')) : Calls Try.prog 27 #[.pointer (some ⟨rb, 0, none⟩), .int .i64 x] w fun e w' => e = .returned (.int .i64 3) ∧ Below w.heap.size w w' := by
  go_enter Try.func27, Try.ntmps27
  go_wp2_with (go_at_call 28; refine H28.out.mono ?_; rintro e w1 ⟨rfl, b1⟩)
  go_ret
  exact ⟨rfl, b1.alloc b1.size _⟩
set_option maxHeartbeats 1000000 in
theorem rdel_yes (h : Hid (Rf w rb v l)) (i n d : Nat) (t : Int) (hi : i < l.length) (hs : l.length ≤ 1048576) (H28 : Hid (Calls Try.prog 28 #[.pointer (some ⟨rb, 0, none⟩), .int .i64 i] w fun e w' => e = .returned (.tuple #[.agg #[.int .u64 n, .int .u64 d, .int .i64 t], .int .i64 0]) ∧ Below w.heap.size w w')) :
    Calls Try.prog 27 #[.pointer (some ⟨rb, 0, none⟩), .int .i64 i] w fun e w' => e = .returned (.int .i64 0) ∧ Rf w' rb v (l.set i re0) ∧ Kp (fun k => v.ownBlock = some k) w w' := by
  obtain ⟨g, c, rfl⟩ := h.out.row (by intro q; rw [q] at hi; simp at hi)
  have HI : Hid (i < l.length ∧ l.length ≤ 1048576) := ⟨hi, hs⟩
  have hil' : (i : Int) < (l.length : Int) := by omega
  have hi0 : 0 ≤ (i : Int) := by omega
  clear hi hs
  go_enter Try.func27, Try.ntmps27
  go_upto_region 3 with (go_at_call 28; refine H28.out.mono ?_; rintro e w1 ⟨rfl, b1⟩)
  have b2 : Hid (Below w.heap.size w (w1.alloc (.cells #[.int .u64 n, .int .u64 d, .int .i64 t] 49))) := b1.alloc b1.size _
  clear b1
  generalize w1.alloc (.cells #[.int .u64 n, .int .u64 d, .int .i64 t] 49) = W at *
  have R2 : Hid (Rf W rb (.slice (some ⟨g, 0, none⟩) l.length c) l) := h.out.keep b2.out
  have k1 := c1 R2.out.b
  obtain ⟨e, he⟩ : ∃ e, l[i]? = some e := ⟨_, List.getElem?_eq_getElem HI.out.1⟩
  have p0 := R2.out.cell he (j := 0) rfl (by decide)
  have p1 := R2.out.cell he (j := 1) rfl (by decide)
  have p2 := R2.out.cell he (j := 2) rfl (by decide)
  have p3 := R2.out.cell he (j := 3) rfl (by decide)
  rw [Nat.add_zero] at p0
  have f0 := R2.out.fz (i * 4)
  have f1 := R2.out.fz (i * 4 + 1)
  have f2 := R2.out.fz (i * 4 + 2)
  have f3 := R2.out.fz (i * 4 + 3)
  have HR : Hid (Rf (wset W g (i * 4) re0) rb (.slice (some ⟨g, 0, none⟩) l.length c) (l.set i re0) ∧ Kp (fun k => (Value.slice (some ⟨g, 0, none⟩) l.length c).ownBlock = some k) w (wset W g (i * 4) re0)) := by
    refine ⟨R2.out.set re0 HI.out.1, ?_⟩
    have k2 : Kp (fun k => (Value.slice (some ⟨g, 0, none⟩) l.length c).ownBlock = some k) w W := Kp.of_below b2.out
    refine (((k2.trans (Kp.of_set _ ⟨g, i * 4, none⟩ _ rfl) fun _ _ q => congrArg some q).trans (Kp.of_set _ ⟨g, i * 4 + 1, none⟩ _ rfl) fun _ _ q => congrArg some q).trans (Kp.of_set _ ⟨g, i * 4 + 2, none⟩ _ rfl) fun _ _ q => congrArg some q).trans (Kp.of_set _ ⟨g, i * 4 + 3, none⟩ _ rfl) fun _ _ q => congrArg some q
  clear he h H28 b2 R2
  unfold wset re0 at HR
  go_wp2_with fail
  go_ret
  exact ⟨rfl, HR.out.1, HR.out.2⟩
end
end Go.Proofs.Ytmcmldlnmmbbgaa

namespace Go.Proofs.Ytmcmldlnmmbbgaa
open Go.RowKit Go.Maps

theorem rflat_key : ∀ (l : List RE) (i : Nat) (e : RE) (k : K), l[i]? = some e → rflat (l.set i ⟨k, e.on⟩) = (((rflat l).set (i * 4) (.int .u64 k.n)).set (i * 4 + 1) (.int .u64 k.d)).set (i * 4 + 2) (.int .i64 k.t)
  | [], i, e, k, h => by simp at h
  | p :: l, 0, e, k, h => by
    have q : p = e := by simpa using h
    subst q
    rfl
  | p :: l, i + 1, e, k, h => by
    have ih := rflat_key l i e k (by simpa using h)
    show p.cs ++ rflat (l.set i ⟨k, e.on⟩) = (((p.cs ++ rflat l).set ((i + 1) * 4) _).set ((i + 1) * 4 + 1) _).set ((i + 1) * 4 + 2) _
    rw [ih, show (i + 1) * 4 = i * 4 + 4 by omega, show i * 4 + 4 + 1 = i * 4 + 1 + 4 by omega, show i * 4 + 4 + 2 = i * 4 + 2 + 4 by omega]
    rfl
/-- the world behind the store of a key -/
def wkey (w : World) (g o : Nat) (k : K) : World := ((w.setCell ⟨g, o, none⟩ (.int .u64 k.n)).setCell ⟨g, o + 1, none⟩ (.int .u64 k.d)).setCell ⟨g, o + 2, none⟩ (.int .i64 k.t)
section
variable {w w' : World} {rb : Nat} {v : Value} {l : List RE}
theorem wkey_other {w : World} {g o x : Nat} {k : K} (h : x ≠ g) : (wkey w g o k).heap[x]? = w.heap[x]? := by
  unfold wkey
  rw [Below.heap_setCell _ _ _ _ (by exact h), Below.heap_setCell _ _ _ _ (by exact h), Below.heap_setCell _ _ _ _ (by exact h)]
theorem Rf.key {g n c : Nat} (h : Rf w rb (.slice (some ⟨g, 0, none⟩) n c) l) {i : Nat} {e : RE} (hi : l[i]? = some e) (k : K) : Rf (wkey w g (i * 4) k) rb (.slice (some ⟨g, 0, none⟩) n c) (l.set i ⟨k, e.on⟩) := by
  refine ⟨(wkey_other h.ne).trans h.b, by rw [rflat_len], ?_⟩
  rcases h.r.2 with ⟨q, _⟩ | ⟨g', cap, cur, q, hb, hgg, h1, h2, h3, h4⟩
  · cases q
  · cases q
    refine .inr ⟨g, c, _, by rw [List.length_set], hb, setB (setB (setB hgg _) _) _, by rw [List.length_set]; exact h1, h2, by simp only [Array.size_setIfInBounds]; exact h3, ?_⟩
    rw [List.length_set, rflat_key l i e k hi]
    simp only [Array.toList_setIfInBounds, List.take_set, h4]
set_option maxHeartbeats 1000000 in
theorem rdec_no (x : Int) (k : K) (H28 : Hid (∀ w1, Below w.heap.size w w1 → Calls Try.prog 28 #[.pointer (some ⟨rb, 0, none⟩), .int .i64 x] w1 fun e w' => e = .returned (.tuple #[.agg #[.int .u64 0, .int .u64 0, .int .i64 0], .int .i64 3]) ∧ Below w1.heap.size w1 w')) : Calls Try.prog 26 #[.pointer (some ⟨rb, 0, none⟩), .int .i64 x, .agg #[.int .u64 k.n, .int .u64 k.d, .int .i64 k.t]] w fun e w' => e = .returned (.int .i64 3) ∧ Below w.heap.size w w' := by
  have B0 : Below w.heap.size w (w.alloc (.cells #[.int .u64 k.n, .int .u64 k.d, .int .i64 k.t] 49)) := (Below.refl _ w).alloc (Nat.le_refl _) _
  have H := H28.out _ B0
  have HB : Hid (Below w.heap.size w (w.alloc (.cells #[.int .u64 k.n, .int .u64 k.d, .int .i64 k.t] 49))) := B0
  clear B0
  go_enter Try.func26, Try.ntmps26
  go_wp2_with (go_at_call 28; refine H.mono ?_; rintro e w1 ⟨rfl, b1⟩; have y1 : Hid (Below w.heap.size w w1) := below_from HB.out b1 HB.out.size; clear b1)
  go_ret
  exact ⟨rfl, y1.out.alloc y1.out.size _⟩
set_option maxHeartbeats 1000000 in
theorem rdec_form (x : Int) (k o : K) (hk : k.d = 0) (H28 : Hid (∀ w1, Below w.heap.size w w1 → Calls Try.prog 28 #[.pointer (some ⟨rb, 0, none⟩), .int .i64 x] w1 fun e w' => e = .returned (.tuple #[.agg #[.int .u64 o.n, .int .u64 o.d, .int .i64 o.t], .int .i64 0]) ∧ Below w1.heap.size w1 w')) : Calls Try.prog 26 #[.pointer (some ⟨rb, 0, none⟩), .int .i64 x, .agg #[.int .u64 k.n, .int .u64 k.d, .int .i64 k.t]] w fun e w' => e = .returned (.int .i64 4) ∧ Below w.heap.size w w' := by
  have HK : Hid (k.d = 0) := hk
  clear hk
  have B0 : Below w.heap.size w (w.alloc (.cells #[.int .u64 k.n, .int .u64 k.d, .int .i64 k.t] 49)) := (Below.refl _ w).alloc (Nat.le_refl _) _
  have N0 : Hid ((w.alloc (.cells #[.int .u64 k.n, .int .u64 k.d, .int .i64 k.t] 49)).heap[w.heap.size]? = some (.cells #[.int .u64 k.n, .int .u64 k.d, .int .i64 k.t] 49 (0, 0))) := new0
  have H := H28.out _ B0
  have HB : Hid (Below w.heap.size w (w.alloc (.cells #[.int .u64 k.n, .int .u64 k.d, .int .i64 k.t] 49))) := B0
  clear B0
  go_enter Try.func26, Try.ntmps26
  go_upto_region 4 with (go_at_call 28; refine H.mono ?_; rintro e w1 ⟨rfl, b1⟩; have y1 : Hid (Below w.heap.size w w1) := below_from HB.out b1 HB.out.size; have N1 : Hid (w1.heap[w.heap.size]? = some (.cells #[.int .u64 k.n, .int .u64 k.d, .int .i64 k.t] 49 (0, 0))) := at_below b1 (Nat.le_refl _) N0.out; clear b1)
  have Y2 : Hid (Below w.heap.size w (w1.alloc (.cells #[.int .u64 o.n, .int .u64 o.d, .int .i64 o.t] 49))) := y1.out.alloc y1.out.size _
  have N2 : Hid ((w1.alloc (.cells #[.int .u64 o.n, .int .u64 o.d, .int .i64 o.t] 49)).heap[w.heap.size]? = some (.cells #[.int .u64 k.n, .int .u64 k.d, .int .i64 k.t] 49 (0, 0))) := at_alloc N1.out
  have N3 : Hid ((w1.alloc (.cells #[.int .u64 o.n, .int .u64 o.d, .int .i64 o.t] 49)).heap[w1.heap.size]? = some (.cells #[.int .u64 o.n, .int .u64 o.d, .int .i64 o.t] 49 (0, 0))) := new0
  generalize w1.alloc (.cells #[.int .u64 o.n, .int .u64 o.d, .int .i64 o.t] 49) = W at *
  generalize w1.heap.size = bo at *
  clear y1 N1 N0 HB H
  obtain ⟨q0, q1, q2⟩ := c3 N2.out
  obtain ⟨q3, q4, q5⟩ := c3 N3.out
  rw [HK.out] at q1
  go_wp2_with fail
  go_ret
  exact ⟨rfl, Y2.out⟩
set_option maxHeartbeats 1000000 in
theorem rdec_more (x : Int) (k o : K) (cmp : Int) (hk : k.d ≠ 0) (hc : 0 < cmp) (H16 : Hid (∀ w, Calls Try.prog 16 #[.agg #[.int .u64 k.n, .int .u64 k.d, .int .i64 k.t], .agg #[.int .u64 o.n, .int .u64 o.d, .int .i64 o.t]] w fun e w' => e = .returned (.int .i64 cmp) ∧ Below w.heap.size w w')) (H28 : Hid (∀ w1, Below w.heap.size w w1 → Calls Try.prog 28 #[.pointer (some ⟨rb, 0, none⟩), .int .i64 x] w1 fun e w' => e = .returned (.tuple #[.agg #[.int .u64 o.n, .int .u64 o.d, .int .i64 o.t], .int .i64 0]) ∧ Below w1.heap.size w1 w')) : Calls Try.prog 26 #[.pointer (some ⟨rb, 0, none⟩), .int .i64 x, .agg #[.int .u64 k.n, .int .u64 k.d, .int .i64 k.t]] w fun e w' => e = .returned (.int .i64 2) ∧ Below w.heap.size w w' := by
  have hkd : ((k.d : Int) == 0) = false := by simp; omega
  clear hk
  have B0 : Below w.heap.size w (w.alloc (.cells #[.int .u64 k.n, .int .u64 k.d, .int .i64 k.t] 49)) := (Below.refl _ w).alloc (Nat.le_refl _) _
  have N0 : Hid ((w.alloc (.cells #[.int .u64 k.n, .int .u64 k.d, .int .i64 k.t] 49)).heap[w.heap.size]? = some (.cells #[.int .u64 k.n, .int .u64 k.d, .int .i64 k.t] 49 (0, 0))) := new0
  have H := H28.out _ B0
  have HB : Hid (Below w.heap.size w (w.alloc (.cells #[.int .u64 k.n, .int .u64 k.d, .int .i64 k.t] 49))) := B0
  clear B0
  go_enter Try.func26, Try.ntmps26
  go_upto_region 4 with (go_at_call 28; refine H.mono ?_; rintro e w1 ⟨rfl, b1⟩; have y1 : Hid (Below w.heap.size w w1) := below_from HB.out b1 HB.out.size; have N1 : Hid (w1.heap[w.heap.size]? = some (.cells #[.int .u64 k.n, .int .u64 k.d, .int .i64 k.t] 49 (0, 0))) := at_below b1 (Nat.le_refl _) N0.out; clear b1)
  have Y2 : Hid (Below w.heap.size w (w1.alloc (.cells #[.int .u64 o.n, .int .u64 o.d, .int .i64 o.t] 49))) := y1.out.alloc y1.out.size _
  have N2 : Hid ((w1.alloc (.cells #[.int .u64 o.n, .int .u64 o.d, .int .i64 o.t] 49)).heap[w.heap.size]? = some (.cells #[.int .u64 k.n, .int .u64 k.d, .int .i64 k.t] 49 (0, 0))) := at_alloc N1.out
  have N3 : Hid ((w1.alloc (.cells #[.int .u64 o.n, .int .u64 o.d, .int .i64 o.t] 49)).heap[w1.heap.size]? = some (.cells #[.int .u64 o.n, .int .u64 o.d, .int .i64 o.t] 49 (0, 0))) := new0
  generalize w1.alloc (.cells #[.int .u64 o.n, .int .u64 o.d, .int .i64 o.t] 49) = W at *
  generalize w1.heap.size = bo at *
  clear y1 N1 N0 HB H
  obtain ⟨q0, q1, q2⟩ := c3 N2.out
  obtain ⟨q3, q4, q5⟩ := c3 N3.out
  go_wp2_with (go_at_call 16; refine (H16.out _).mono ?_; rintro e w5 ⟨rfl, b5⟩)
  go_ret
  exact ⟨rfl, below_from Y2.out b5 Y2.out.size⟩
set_option maxHeartbeats 2000000 in
theorem rdec_less (h : Hid (Rf w rb v l)) (i : Nat) (k o : K) (cmp : Int) (hi : Hid (l[i]? = some ⟨o, true⟩)) (hk : k.d ≠ 0) (hc : ¬ 0 < cmp) (H16 : Hid (∀ w, Calls Try.prog 16 #[.agg #[.int .u64 k.n, .int .u64 k.d, .int .i64 k.t], .agg #[.int .u64 o.n, .int .u64 o.d, .int .i64 o.t]] w fun e w' => e = .returned (.int .i64 cmp) ∧ Below w.heap.size w w')) (H28 : Hid (∀ w1, Below w.heap.size w w1 → Calls Try.prog 28 #[.pointer (some ⟨rb, 0, none⟩), .int .i64 i] w1 fun e w' => e = .returned (.tuple #[.agg #[.int .u64 o.n, .int .u64 o.d, .int .i64 o.t], .int .i64 0]) ∧ Below w1.heap.size w1 w')) :
    Calls Try.prog 26 #[.pointer (some ⟨rb, 0, none⟩), .int .i64 i, .agg #[.int .u64 k.n, .int .u64 k.d, .int .i64 k.t]] w fun e w' => e = .returned (.int .i64 0) ∧ Rf w' rb v (l.set i ⟨k, true⟩) ∧ Kp (fun k => v.ownBlock = some k) w w' := by
  have hkd : ((k.d : Int) == 0) = false := by simp; omega
  have hil : i < l.length := (List.getElem?_eq_some_iff.1 hi.out).1
  obtain ⟨g, c, rfl⟩ := h.out.row (by intro q; rw [q] at hil; simp at hil)
  have hil' : (i : Int) < (l.length : Int) := by omega
  have hi0 : 0 ≤ (i : Int) := by omega
  clear hk hil
  have B0 : Below w.heap.size w (w.alloc (.cells #[.int .u64 k.n, .int .u64 k.d, .int .i64 k.t] 49)) := (Below.refl _ w).alloc (Nat.le_refl _) _
  have N0 : Hid ((w.alloc (.cells #[.int .u64 k.n, .int .u64 k.d, .int .i64 k.t] 49)).heap[w.heap.size]? = some (.cells #[.int .u64 k.n, .int .u64 k.d, .int .i64 k.t] 49 (0, 0))) := new0
  have H := H28.out _ B0
  have HB : Hid (Below w.heap.size w (w.alloc (.cells #[.int .u64 k.n, .int .u64 k.d, .int .i64 k.t] 49))) := B0
  clear B0
  go_enter Try.func26, Try.ntmps26
  go_upto_region 4 with (go_at_call 28; refine H.mono ?_; rintro e w1 ⟨rfl, b1⟩; have y1 : Hid (Below w.heap.size w w1) := below_from HB.out b1 HB.out.size; have N1 : Hid (w1.heap[w.heap.size]? = some (.cells #[.int .u64 k.n, .int .u64 k.d, .int .i64 k.t] 49 (0, 0))) := at_below b1 (Nat.le_refl _) N0.out; clear b1)
  have Y2 : Hid (Below w.heap.size w (w1.alloc (.cells #[.int .u64 o.n, .int .u64 o.d, .int .i64 o.t] 49))) := y1.out.alloc y1.out.size _
  have N2 : Hid ((w1.alloc (.cells #[.int .u64 o.n, .int .u64 o.d, .int .i64 o.t] 49)).heap[w.heap.size]? = some (.cells #[.int .u64 k.n, .int .u64 k.d, .int .i64 k.t] 49 (0, 0))) := at_alloc N1.out
  have N3 : Hid ((w1.alloc (.cells #[.int .u64 o.n, .int .u64 o.d, .int .i64 o.t] 49)).heap[w1.heap.size]? = some (.cells #[.int .u64 o.n, .int .u64 o.d, .int .i64 o.t] 49 (0, 0))) := new0
  generalize w1.alloc (.cells #[.int .u64 o.n, .int .u64 o.d, .int .i64 o.t] 49) = W at *
  generalize w1.heap.size = bo at *
  clear y1 N1 N0 HB H
  obtain ⟨q0, q1, q2⟩ := c3 N2.out
  obtain ⟨q3, q4, q5⟩ := c3 N3.out
  go_upto_region 8 with (go_at_call 16; refine (H16.out _).mono ?_; rintro e w5 ⟨rfl, b5⟩)
  have Y5 : Hid (Below w.heap.size w w5) := below_from Y2.out b5 Y2.out.size
  have N5 : Hid (w5.heap[w.heap.size]? = some (.cells #[.int .u64 k.n, .int .u64 k.d, .int .i64 k.t] 49 (0, 0))) := at_below b5 (Nat.le_refl _) N2.out
  clear q0 q1 q2 q3 q4 q5 b5 Y2 N2 N3 H16 H28
  obtain ⟨q0, q1, q2⟩ := c3 N5.out
  have R5 : Hid (Rf w5 rb (.slice (some ⟨g, 0, none⟩) l.length c) l) := h.out.keep Y5.out
  have k1 := c1 R5.out.b
  have p0 := R5.out.cell hi.out (j := 0) rfl (by decide)
  have p1 := R5.out.cell hi.out (j := 1) rfl (by decide)
  have p2 := R5.out.cell hi.out (j := 2) rfl (by decide)
  rw [Nat.add_zero] at p0
  have f0 := R5.out.fz (i * 4)
  have f1 := R5.out.fz (i * 4 + 1)
  have f2 := R5.out.fz (i * 4 + 2)
  have HR : Hid (Rf (wkey w5 g (i * 4) k) rb (.slice (some ⟨g, 0, none⟩) l.length c) (l.set i ⟨k, true⟩) ∧ Kp (fun k => (Value.slice (some ⟨g, 0, none⟩) l.length c).ownBlock = some k) w (wkey w5 g (i * 4) k)) := by
    refine ⟨R5.out.key hi.out k, ?_⟩
    have k2 : Kp (fun k => (Value.slice (some ⟨g, 0, none⟩) l.length c).ownBlock = some k) w w5 := Kp.of_below Y5.out
    exact ((k2.trans (Kp.of_set _ ⟨g, i * 4, none⟩ _ rfl) fun _ _ q => congrArg some q).trans (Kp.of_set _ ⟨g, i * 4 + 1, none⟩ _ rfl) fun _ _ q => congrArg some q).trans (Kp.of_set _ ⟨g, i * 4 + 2, none⟩ _ rfl) fun _ _ q => congrArg some q
  clear R5 Y5 N5 h
  unfold wkey at HR
  go_region
  all_goals go_wp2_with fail
  all_goals go_ret
  all_goals exact ⟨rfl, ⟨HR.out.1.b, HR.out.1.r⟩, ⟨HR.out.2.os, HR.out.2.tape, HR.out.2.output, HR.out.2.size, HR.out.2.block⟩⟩
end
end Go.Proofs.Ytmcmldlnmmbbgaa

namespace Go.Proofs.Ytmcmldlnmmbbgaa
open Go.RowKit Go.Maps
section
variable {w w' : World} {rb : Nat} {v : Value} {l : List RE}
set_option maxHeartbeats 2000000 in
theorem rpop_some (h : Hid (Rf w rb v l)) (i : Nat) (e0 : RE) (k : K) (hi : Hid (l[i]? = some e0)) (H24 : Hid (∀ w1, Below w.heap.size w w1 → Calls Try.prog 24 #[.pointer (some ⟨rb, 0, none⟩)] w1 fun e w' => e = .returned (.tuple #[.int .i64 i, .agg #[.int .u64 k.n, .int .u64 k.d, .int .i64 k.t], .int .i64 0]) ∧ Below w1.heap.size w1 w')) :
    Calls Try.prog 25 #[.pointer (some ⟨rb, 0, none⟩)] w fun e w' => e = .returned (.tuple #[.int .i64 i, ktup k.n k.d k.t, .int .i64 0]) ∧ Rf w' rb v (l.set i re0) ∧ Kp (fun k => v.ownBlock = some k) w w' := by
  have hil : i < l.length := (List.getElem?_eq_some_iff.1 hi.out).1
  obtain ⟨g, c, rfl⟩ := h.out.row (by intro q; rw [q] at hil; simp at hil)
  have hil' : (i : Int) < (l.length : Int) := by omega
  have hi0 : 0 ≤ (i : Int) := by omega
  have HI : Hid (i < l.length) := hil
  clear hil
  have B0 : Below w.heap.size w (w.alloc (.cells #[.int .u64 0, .int .u64 0, .int .i64 0] 49)) := (Below.refl _ w).alloc (Nat.le_refl _) _
  have N0 : Hid ((w.alloc (.cells #[.int .u64 0, .int .u64 0, .int .i64 0] 49)).heap[w.heap.size]? = some (.cells #[.int .u64 0, .int .u64 0, .int .i64 0] 49 (0, 0))) := new0
  have H := H24.out _ B0
  have HB : Hid (Below w.heap.size w (w.alloc (.cells #[.int .u64 0, .int .u64 0, .int .i64 0] 49))) := B0
  clear B0
  go_enter Try.func25, Try.ntmps25
  go_upto_region 3 with (go_at_call 24; refine H.mono ?_; rintro e w1 ⟨rfl, b1⟩; have y1 : Hid (Below w.heap.size w w1) := below_from HB.out b1 HB.out.size; have N1 : Hid (w1.heap[w.heap.size]? = some (.cells #[.int .u64 0, .int .u64 0, .int .i64 0] 49 (0, 0))) := at_below b1 (Nat.le_refl _) N0.out; clear b1)
  have Y2 : Hid (Below w.heap.size w (w1.alloc (.cells #[.int .u64 k.n, .int .u64 k.d, .int .i64 k.t] 49))) := y1.out.alloc y1.out.size _
  have N2 : Hid ((w1.alloc (.cells #[.int .u64 k.n, .int .u64 k.d, .int .i64 k.t] 49)).heap[w.heap.size]? = some (.cells #[.int .u64 0, .int .u64 0, .int .i64 0] 49 (0, 0))) := at_alloc N1.out
  have N3 : Hid ((w1.alloc (.cells #[.int .u64 k.n, .int .u64 k.d, .int .i64 k.t] 49)).heap[w1.heap.size]? = some (.cells #[.int .u64 k.n, .int .u64 k.d, .int .i64 k.t] 49 (0, 0))) := new0
  have HL : Hid (w.heap.size ≤ w1.heap.size) := y1.out.size
  generalize w1.alloc (.cells #[.int .u64 k.n, .int .u64 k.d, .int .i64 k.t] 49) = W at *
  generalize w1.heap.size = bo at *
  clear y1 N1 N0 HB H H24
  have R2 : Hid (Rf W rb (.slice (some ⟨g, 0, none⟩) l.length c) l) := h.out.keep Y2.out
  have k1 := c1 R2.out.b
  have p0 := R2.out.cell hi.out (j := 0) rfl (by decide)
  have p1 := R2.out.cell hi.out (j := 1) rfl (by decide)
  have p2 := R2.out.cell hi.out (j := 2) rfl (by decide)
  have p3 := R2.out.cell hi.out (j := 3) rfl (by decide)
  rw [Nat.add_zero] at p0
  have f0 := R2.out.fz (i * 4)
  have f1 := R2.out.fz (i * 4 + 1)
  have f2 := R2.out.fz (i * 4 + 2)
  have f3 := R2.out.fz (i * 4 + 3)
  have hgl : g < w.heap.size := (World.ownsRow.lt h.out.r g rfl).2
  have hrl : rb < w.heap.size := (Array.getElem?_eq_some_iff.1 h.out.b).1
  have HR : Hid (Rf (wset W g (i * 4) re0) rb (.slice (some ⟨g, 0, none⟩) l.length c) (l.set i re0) ∧ Kp (fun k => (Value.slice (some ⟨g, 0, none⟩) l.length c).ownBlock = some k) w (wset W g (i * 4) re0) ∧ (wset W g (i * 4) re0).heap[w.heap.size]? = some (.cells #[.int .u64 0, .int .u64 0, .int .i64 0] 49 (0, 0)) ∧ (wset W g (i * 4) re0).heap[bo]? = some (.cells #[.int .u64 k.n, .int .u64 k.d, .int .i64 k.t] 49 (0, 0))) := by
    refine ⟨R2.out.set re0 HI.out, ?_, (wset_other (by omega)).trans N2.out, (wset_other (by have := HL.out; omega)).trans N3.out⟩
    have k2 : Kp (fun k => (Value.slice (some ⟨g, 0, none⟩) l.length c).ownBlock = some k) w W := Kp.of_below Y2.out
    refine (((k2.trans (Kp.of_set _ ⟨g, i * 4, none⟩ _ rfl) fun _ _ q => congrArg some q).trans (Kp.of_set _ ⟨g, i * 4 + 1, none⟩ _ rfl) fun _ _ q => congrArg some q).trans (Kp.of_set _ ⟨g, i * 4 + 2, none⟩ _ rfl) fun _ _ q => congrArg some q).trans (Kp.of_set _ ⟨g, i * 4 + 3, none⟩ _ rfl) fun _ _ q => congrArg some q
  have HG : Hid (g < w.heap.size ∧ rb < w.heap.size) := ⟨hgl, hrl⟩
  clear hgl hrl R2 Y2 N2 N3 h
  unfold wset re0 at HR
  go_upto_region 4 with fail
  clear p0 p1 p2 p3 f0 f1 f2 f3 k1
  generalize (((W.setCell _ _).setCell _ _).setCell _ _).setCell _ _ = W3 at *
  obtain ⟨q0, q1, q2⟩ := c3 HR.out.2.2.1
  obtain ⟨q3, q4, q5⟩ := c3 HR.out.2.2.2
  obtain ⟨f0, f1, f2⟩ := f3 HR.out.2.2.1
  have HE : Hid (∀ w9, w9 = ((W3.setCell ⟨w.heap.size, 0, none⟩ (.int .u64 k.n)).setCell ⟨w.heap.size, 1, none⟩ (.int .u64 k.d)).setCell ⟨w.heap.size, 2, none⟩ (.int .i64 k.t) → Rf w9 rb (.slice (some ⟨g, 0, none⟩) l.length c) (l.set i ⟨⟨0, 0, 0⟩, false⟩) ∧ Kp (fun k => (Value.slice (some ⟨g, 0, none⟩) l.length c).ownBlock = some k) w w9) := fun w9 e => by
    subst e
    have hk3 : Kp (fun k => k = w.heap.size) W3 (((W3.setCell ⟨w.heap.size, 0, none⟩ (.int .u64 k.n)).setCell ⟨w.heap.size, 1, none⟩ (.int .u64 k.d)).setCell ⟨w.heap.size, 2, none⟩ (.int .i64 k.t)) := ((Kp.of_set (S := fun k => k = w.heap.size) W3 ⟨w.heap.size, 0, none⟩ _ rfl).trans (Kp.of_set (S := fun k => k = w.heap.size) _ ⟨w.heap.size, 1, none⟩ _ rfl) fun _ _ q => q).trans (Kp.of_set (S := fun k => k = w.heap.size) _ ⟨w.heap.size, 2, none⟩ _ rfl) fun _ _ q => q
    have hR := HR.out.1
    have hG := HG.out
    have hsz : w.heap.size ≤ W3.heap.size := HR.out.2.1.size
    refine ⟨⟨(hk3.block rb (by omega) (by omega)).trans hR.b, ownsKeep hR.r fun g' hg' => hk3.block g' (by have : g = g' := Option.some.inj hg'; omega) (by have : g = g' := Option.some.inj hg'; omega)⟩, HR.out.2.1.trans hk3 fun x hx q => by omega⟩
  go_region
  all_goals go_wp2_with fail
  all_goals refine bodyPost_ret (v := .tuple #[.int .i64 i, ktup k.n k.d k.t, .int .i64 0]) (by rw [results_tct rfl]; go_simp; rfl) rfl ?_
  all_goals obtain ⟨r1, r2⟩ := HE.out _ rfl
  all_goals exact ⟨rfl, ⟨r1.b, r1.r⟩, ⟨r2.os, r2.tape, r2.output, r2.size, r2.block⟩⟩
set_option maxHeartbeats 2000000 in
theorem rpop_none (H24 : Hid (∀ w1, Below w.heap.size w w1 → Calls Try.prog 24 #[.pointer (some ⟨rb, 0, none⟩)] w1 fun e w' => e = .returned (.tuple #[.int .i64 0, .agg #[.int .u64 0, .int .u64 0, .int .i64 0], .int .i64 3]) ∧ Below w1.heap.size w1 w')) :
    Calls Try.prog 25 #[.pointer (some ⟨rb, 0, none⟩)] w fun e w' => e = .returned (.tuple #[.int .i64 0, ktup 0 0 0, .int .i64 3]) ∧ Below w.heap.size w w' := by
  have B0 : Below w.heap.size w (w.alloc (.cells #[.int .u64 0, .int .u64 0, .int .i64 0] 49)) := (Below.refl _ w).alloc (Nat.le_refl _) _
  have N0 : Hid ((w.alloc (.cells #[.int .u64 0, .int .u64 0, .int .i64 0] 49)).heap[w.heap.size]? = some (.cells #[.int .u64 0, .int .u64 0, .int .i64 0] 49 (0, 0))) := new0
  have H := H24.out _ B0
  have HB : Hid (Below w.heap.size w (w.alloc (.cells #[.int .u64 0, .int .u64 0, .int .i64 0] 49))) := B0
  clear B0
  go_enter Try.func25, Try.ntmps25
  go_upto_region 4 with (go_at_call 24; refine H.mono ?_; rintro e w1 ⟨rfl, b1⟩; have y1 : Hid (Below w.heap.size w w1) := below_from HB.out b1 HB.out.size; have N1 : Hid (w1.heap[w.heap.size]? = some (.cells #[.int .u64 0, .int .u64 0, .int .i64 0] 49 (0, 0))) := at_below b1 (Nat.le_refl _) N0.out; clear b1)
  have Y2 : Hid (Below w.heap.size w (w1.alloc (.cells #[.int .u64 0, .int .u64 0, .int .i64 0] 49))) := y1.out.alloc y1.out.size _
  have N2 : Hid ((w1.alloc (.cells #[.int .u64 0, .int .u64 0, .int .i64 0] 49)).heap[w.heap.size]? = some (.cells #[.int .u64 0, .int .u64 0, .int .i64 0] 49 (0, 0))) := at_alloc N1.out
  have N3 : Hid ((w1.alloc (.cells #[.int .u64 0, .int .u64 0, .int .i64 0] 49)).heap[w1.heap.size]? = some (.cells #[.int .u64 0, .int .u64 0, .int .i64 0] 49 (0, 0))) := new0
  generalize w1.alloc (.cells #[.int .u64 0, .int .u64 0, .int .i64 0] 49) = W at *
  generalize w1.heap.size = bo at *
  clear y1 N1 N0 HB H H24
  obtain ⟨q0, q1, q2⟩ := c3 N2.out
  obtain ⟨q3, q4, q5⟩ := c3 N3.out
  obtain ⟨f0, f1, f2⟩ := f3 N2.out
  have HE : Hid (Below w.heap.size w (((W.setCell ⟨w.heap.size, 0, none⟩ (.int .u64 0)).setCell ⟨w.heap.size, 1, none⟩ (.int .u64 0)).setCell ⟨w.heap.size, 2, none⟩ (.int .i64 0))) := ((Y2.out.setCell (p := ⟨w.heap.size, 0, none⟩) (Nat.le_refl _) _).setCell (p := ⟨w.heap.size, 1, none⟩) (Nat.le_refl _) _).setCell (p := ⟨w.heap.size, 2, none⟩) (Nat.le_refl _) _
  clear N2 N3
  go_region
  all_goals go_wp2_with fail
  all_goals refine bodyPost_ret (v := .tuple #[.int .i64 0, ktup 0 0 0, .int .i64 3]) (by rw [results_tct rfl]; go_simp; rfl) rfl ?_
  all_goals exact ⟨rfl, ⟨HE.out.os, HE.out.tape, HE.out.output, HE.out.size, HE.out.block⟩⟩
end
end Go.Proofs.Ytmcmldlnmmbbgaa
