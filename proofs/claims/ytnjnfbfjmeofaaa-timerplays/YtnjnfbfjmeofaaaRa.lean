/-
  The reference's clock: a stretch of a row, in order; find, Get, Next.
-/
import Derived.Test.YtnjnfbfjmeofaaaLm
namespace Go.Proofs.Ytnjnfbfjmeofaaa
open Go.RowKit Go.Maps Go.WideMaps

theorem info47 : (Try.prog.info? 47).map (fun i => (i.zero, i.size, i.bytes)) = some (some (.agg #[.string ⟨#[]⟩, .int .i64 0]), 2, 24) := by kernel_rfl
/-- a stretch that lies in a row of the reference's alarms -/
structure Lie (w : World) (g o c : Nat) (l : List Al) : Prop where
  ex : ∃ cs, w.heap[g]? = some (.cells cs 47 (0, 0)) ∧ o + c * 2 ≤ cs.size ∧ (cs.toList.drop o).take (l.length * 2) = flat l
  le : l.length ≤ c
  mx : c ≤ maxLen
def RS (w : World) (v : Value) (l : List Al) : Prop := (v = .slice none 0 0 ∧ l = []) ∨ ∃ g o c, v = .slice (some ⟨g, o, none⟩) l.length c ∧ Lie w g o c l
section
variable {w w1 : World} {v : Value} {l : List Al} {g o c i : Nat}
theorem Lie.keep (h : Lie w g o c l) (e : w1.heap[g]? = w.heap[g]?) : Lie w1 g o c l := by
  obtain ⟨⟨cs, h1, h2⟩, h3, h4⟩ := h
  exact ⟨⟨cs, e.trans h1, h2⟩, h3, h4⟩
theorem Lie.lt (h : Lie w g o c l) : g < w.heap.size := by
  obtain ⟨cs, h1, _⟩ := h.ex
  exact (Array.getElem?_eq_some_iff.1 h1).1
theorem Lie.rowV (h : Lie w g o c l) : RowV w g o (flat l) := fun k x hk => by
  obtain ⟨cs, h1, h2, h3⟩ := h.ex
  rw [← h3] at hk
  have hk' : k < l.length * 2 := by
    have := (List.getElem?_eq_some_iff.1 hk).1
    rw [h3, flat_length] at this
    exact this
  rw [List.getElem?_take_of_lt hk', List.getElem?_drop] at hk
  rw [cell_of h1, ← Array.getElem?_toList]
  exact hk
theorem Lie.c0 (h : Lie w g o c l) {a : Al} (ha : l[i]? = some a) : w.cell? ⟨g, o + i * 2, none⟩ = some (.string a.nm) := h.rowV _ _ (flat_at ha).1
theorem Lie.c1 (h : Lie w g o c l) {a : Al} (ha : l[i]? = some a) : w.cell? ⟨g, o + i * 2 + 1, none⟩ = some (.int .i64 a.at') := by
  have := h.rowV _ _ (flat_at ha).2
  rwa [← Nat.add_assoc] at this
theorem Lie.fz (h : Lie w g o c l) (k : Nat) : w.frozen? ⟨g, k, none⟩ = false := by
  obtain ⟨cs, h1, _⟩ := h.ex
  exact Go.Proofs.Ytnjnfbfjmeofaaa.fz h1 k
theorem Lie.some (h : Lie w g o c l) (hi : i < c) : ∃ x y, w.cell? ⟨g, o + i * 2, none⟩ = Option.some x ∧ w.cell? ⟨g, o + i * 2 + 1, none⟩ = Option.some y := by
  obtain ⟨cs, h1, h2, _⟩ := h.ex
  obtain ⟨x, hx⟩ := cell_some h1 (i := o + i * 2) (by omega)
  obtain ⟨y, hy⟩ := cell_some h1 (i := o + i * 2 + 1) (by omega)
  exact ⟨x, y, hx, hy⟩
theorem Lie.set (h : Lie w g o c l) (i : Nat) (a : Al) : Lie ((w.setCell ⟨g, o + i * 2, none⟩ (.string a.nm)).setCell ⟨g, o + i * 2 + 1, none⟩ (.int .i64 a.at')) g o c (l.set i a) := by
  obtain ⟨cs, h1, h2, h3⟩ := h.ex
  refine ⟨⟨(cs.setIfInBounds (o + i * 2) (.string a.nm)).setIfInBounds (o + i * 2 + 1) (.int .i64 a.at'), setB (setB h1 _) _, by rw [Array.size_setIfInBounds, Array.size_setIfInBounds]; exact h2, ?_⟩, by rw [List.length_set]; exact h.le, h.mx⟩
  rw [List.length_set, Array.toList_setIfInBounds, Array.toList_setIfInBounds, List.drop_set, List.drop_set, if_neg (by omega), if_neg (by omega), show o + i * 2 - o = i * 2 by omega, show o + i * 2 + 1 - o = i * 2 + 1 by omega, List.take_set, List.take_set, h3, flat_set]
theorem Lie.of_own {n : Nat} {B : Nat} (h : w.ownsRow B 47 2 (.slice (.some ⟨g, 0, none⟩) n c) n (flat l)) (hn : l.length = n) : Lie w g 0 c l := by
  rcases h.2 with ⟨e, _⟩ | ⟨g', cap, cur, e, hb, hgg, h1, h2, h3, h4⟩
  · cases e
  · cases e
    refine ⟨⟨cur, hgg, by omega, ?_⟩, by omega, h2⟩
    rw [List.drop_zero, hn]
    exact h4
theorem RS.of_own {n B : Nat} (h : w.ownsRow B 47 2 v n (flat l)) (hn : l.length = n) : RS w v l := by
  rcases h.2 with ⟨rfl, h0⟩ | ⟨g', cap, cur, rfl, _⟩
  · exact .inl ⟨rfl, List.eq_nil_of_length_eq_zero (by omega)⟩
  · exact .inr ⟨g', 0, cap, by rw [hn], Lie.of_own h hn⟩
theorem RS.shape (h : RS w v l) : ∃ a c, v = .slice a l.length c := by
  rcases h with ⟨rfl, rfl⟩ | ⟨g, o, c, rfl, _⟩
  · exact ⟨none, 0, rfl⟩
  · exact ⟨_, _, rfl⟩
theorem RS.row (h : RS w v l) (hl : 0 < l.length) : ∃ g o c, v = .slice (some ⟨g, o, none⟩) l.length c ∧ Lie w g o c l := by
  rcases h with ⟨_, rfl⟩ | h
  · simp at hl
  · exact h
theorem RS.keep (h : RS w v l) (e : ∀ g, v.ownBlock = some g → w1.heap[g]? = w.heap[g]?) : RS w1 v l := by
  rcases h with h | ⟨g, o, c, rfl, h⟩
  · exact .inl h
  · exact .inr ⟨g, o, c, rfl, h.keep (e g rfl)⟩
theorem RS.lt (h : RS w v l) {g : Nat} (e : v.ownBlock = some g) : g < w.heap.size := by
  rcases h with ⟨rfl, _⟩ | ⟨g', o, c, rfl, h⟩
  · cases e
  · have : g' = g := Option.some.inj e
    exact this ▸ h.lt
theorem RS.ne (h : RS w v l) {b : Nat} {cs : Array Value} {t : TypeId} {f : Nat × Nat} (hb : w.heap[b]? = some (.cells cs t f)) (ht : t ≠ 47) : v.ownBlock ≠ some b := fun q => by
  rcases h with ⟨rfl, _⟩ | ⟨g', o, c, rfl, h⟩
  · cases q
  · have e : g' = b := Option.some.inj q
    obtain ⟨cs', h1, _⟩ := h.ex
    rw [e, hb] at h1
    cases h1
    exact ht rfl
end
/-- the reference's clock -/
structure Rf (w : World) (rb : Nat) (v : Value) (l : List Al) : Prop where
  b : w.heap[rb]? = some (.cells #[v] 29 (0, 0))
  r : RS w v l
theorem Rf.c {w : World} {rb : Nat} {v : Value} {l : List Al} (h : Rf w rb v l) : w.cell? ⟨rb, 0, none⟩ = some v := by rw [cell_of h.b]; rfl
theorem plc_first {s : List UInt8} : ∀ {l : List Al} {i : Nat}, (∀ j, j < i → (gt l j).k ≠ s) → i < l.length → (gt l i).k = s → plc s l = some i
  | [], i, _, h, _ => by simp at h
  | a :: r, 0, _, _, h => by
    unfold plc
    rw [List.findIdx?_cons]
    have : (a.k == s) = true := beq_iff_eq.2 h
    rw [this]
    rfl
  | a :: r, i + 1, hj, hi, h => by
    have h0 : (a.k == s) = false := beq_eq_false_iff_ne.2 (hj 0 (by omega))
    have ih := plc_first (l := r) (i := i) (fun j q => hj (j + 1) (by omega)) (by simpa using hi) h
    unfold plc at ih ⊢
    rw [List.findIdx?_cons, h0, ih]
    rfl
def fI (o : Option Nat) : Int := o.elim (-1) fun i => ((i : Nat) : Int)
set_option maxHeartbeats 1000000 in
theorem rfind_any {w : World} {rb : Nat} {v : Value} {l : List Al} (h : Hid (Rf w rb v l)) (s : ByteArray) (hl : l.length ≤ 1024) :
    Calls Try.prog 30 #[.pointer (some ⟨rb, 0, none⟩), .string s] w fun e w' => e = .returned (.int .i64 (fI (plc s.data.toList l))) ∧ w' = w := by
  obtain ⟨q, c, ev⟩ := h.out.r.shape
  have c0 := h.out.c
  rw [ev] at c0
  have hl' : (l.length : Int) ≤ 1024 := by omega
  go_enter Try.func30, Try.ntmps30
  go_wp2_with fail
  go_loopw [5] (fun t wr => ∃ i : Nat, t = .int .i64 i ∧ wr = w ∧ Hid (i ≤ l.length ∧ ∀ j, j < i → (gt l j).k ≠ s.data.toList)) (fun t _ => l.length - (intOf t).toNat)
  case atStart => exact ⟨0, rfl, rfl, Nat.zero_le _, fun j q => by omega⟩
  case round =>
    obtain ⟨i, rfl, rfl, HI⟩ := hrel
    by_cases hi : i < l.length
    · have hi' : (i : Int) < (l.length : Int) := by omega
      obtain ⟨g, o, c', e1, hL⟩ := h.out.r.row (by omega)
      rw [ev] at e1
      have eqa : q = some ⟨g, o, none⟩ ∧ c = c' := by simpa using e1
      obtain ⟨rfl, rfl⟩ := eqa
      have x0 := hL.c0 (gt_some hi)
      have Hi : Hid (i < l.length) := hi
      by_cases he : (gt l i).k = s.data.toList
      · have hb : ((gt l i).nm.toList == s.toList) = true := by rw [Lib.toList_data, Lib.toList_data]; simpa using he
        have HR : Hid (fI (plc s.data.toList l) = (i : Int)) := by
          have : plc s.data.toList l = some i := plc_first HI.out.2 hi he
          rw [this]
          rfl
        clear he hi HI hL e1
        go_wp2_with fail
        go_ret
        rw [HR.out]
        exact ⟨rfl, rfl⟩
      · have hb : ((gt l i).nm.toList == s.toList) = false := by rw [Lib.toList_data, Lib.toList_data]; simpa using he
        have HN : Hid (∀ j, j < i + 1 → (gt l j).k ≠ s.data.toList) := fun j hj => by
          by_cases q : j = i
          · rw [q]; exact he
          · exact HI.out.2 j (by omega)
        clear he hi HI hL e1
        go_wp2_with fail
        have := Hi.out
        refine ⟨⟨i + 1, by simp, by first | rfl | trivial, by show i + 1 ≤ l.length; omega, HN.out⟩, ?_⟩
        simp [intOf]
        omega
    · have hi' : ¬ (i : Int) < (l.length : Int) := by omega
      have hi2 : decide ((i : Int) < (l.length : Int)) = false := decide_eq_false hi'
      have HR : Hid (fI (plc s.data.toList l) = -1) := by
        have : plc s.data.toList l = none := by
          unfold plc
          rw [List.findIdx?_eq_none_iff]
          intro a ha
          obtain ⟨j, hj⟩ := List.getElem?_of_mem ha
          have hjl := (List.getElem?_eq_some_iff.1 hj).1
          have := HI.out.2 j (by have := HI.out.1; omega)
          rw [gt_of hj] at this
          simpa using this
        rw [this]
        rfl
      clear hi HI
      go_wp2_with fail
      go_ret
      rw [HR.out]
      exact ⟨rfl, rfl⟩
set_option maxHeartbeats 400000 in
theorem rget_no (w : World) (rb : Nat) (s : ByteArray) (H : Hid (Calls Try.prog 30 #[.pointer (some ⟨rb, 0, none⟩), .string s] w fun e w' => e = .returned (.int .i64 (-1)) ∧ w' = w)) :
    Calls Try.prog 22 #[.pointer (some ⟨rb, 0, none⟩), .string s] w fun e w' => e = .returned (.tuple #[.int .i64 0, .int .i64 3]) ∧ w' = w := by
  go_enter Try.func22, Try.ntmps22
  go_wp2_with (go_at_call 30; refine H.out.mono ?_; rintro e w1 ⟨rfl, rfl⟩)
  go_ret2
  exact ⟨rfl, rfl⟩
set_option maxHeartbeats 400000 in
theorem rget_yes (w : World) (rb g o n c i : Nat) (s : ByteArray) (x : Int) (hi : i < n) (c0 : w.cell? ⟨rb, 0, none⟩ = some (.slice (some ⟨g, o, none⟩) n c)) (x1 : w.cell? ⟨g, o + i * 2 + 1, none⟩ = some (.int .i64 x)) (H : Hid (Calls Try.prog 30 #[.pointer (some ⟨rb, 0, none⟩), .string s] w fun e w' => e = .returned (.int .i64 i) ∧ w' = w)) :
    Calls Try.prog 22 #[.pointer (some ⟨rb, 0, none⟩), .string s] w fun e w' => e = .returned (.tuple #[.int .i64 x, .int .i64 0]) ∧ w' = w := by
  have hi' : (i : Int) < (n : Int) := by omega
  have hi0 : 0 ≤ (i : Int) := by omega
  go_enter Try.func22, Try.ntmps22
  go_wp2_with (go_at_call 30; refine H.out.mono ?_; rintro e w1 ⟨rfl, rfl⟩)
  go_ret2
  exact ⟨rfl, rfl⟩
theorem rget_R {w : World} {rb : Nat} {v : Value} {l : List Al} (h : Rf w rb v l) (s : ByteArray) (hl : l.length ≤ 1024) :
    Calls Try.prog 22 #[.pointer (some ⟨rb, 0, none⟩), .string s] w fun e w' => e = .returned (getV (fnd s.data.toList l)) ∧ w' = w := by
  have hf := rfind_any h s hl
  rw [plc_fnd]
  cases hp : plc s.data.toList l with
  | none =>
    rw [hp] at hf
    exact rget_no w rb s hf
  | some i =>
    rw [hp] at hf
    obtain ⟨a, h1, h2⟩ := plc_some hp
    have hi := (List.getElem?_eq_some_iff.1 h1).1
    obtain ⟨g, o, c, e, hL⟩ := h.r.row (by omega)
    exact rget_yes w rb g o l.length c i s _ hi (by rw [h.c, e]) (hL.c1 (gt_some hi)) hf
set_option maxHeartbeats 400000 in
theorem rnext_no (w : World) (rb c : Nat) (q : Option Addr) (c0 : w.cell? ⟨rb, 0, none⟩ = some (.slice q 0 c)) :
    Calls Try.prog 24 #[.pointer (some ⟨rb, 0, none⟩)] w fun e w' => e = .returned (.tuple #[.agg #[.string ⟨#[]⟩, .int .i64 0], .int .i64 3]) ∧ Below w.heap.size w w' := by
  have l0 := cell_lt c0
  simp only at l0
  go_enter Try.func24, Try.ntmps24
  go_wp2_with fail
  refine bodyPost_ret (v := .tuple #[.agg #[.string ⟨#[]⟩, .int .i64 0], .int .i64 3]) (by rw [results_cell_tmp rfl]; go_simp) rfl ⟨rfl, ?_⟩
  go_grown
set_option maxHeartbeats 400000 in
theorem rnext_yes (w : World) (rb g o n c : Nat) (a : Al) (hn : 0 < n) (c0 : w.cell? ⟨rb, 0, none⟩ = some (.slice (some ⟨g, o, none⟩) n c)) (x0 : w.cell? ⟨g, o, none⟩ = some (.string a.nm)) (x1 : w.cell? ⟨g, o + 1, none⟩ = some (.int .i64 a.at')) :
    Calls Try.prog 24 #[.pointer (some ⟨rb, 0, none⟩)] w fun e w' => e = .returned (.tuple #[.agg #[.string a.nm, .int .i64 a.at'], .int .i64 0]) ∧ Below w.heap.size w w' := by
  have hn0 : ¬ (n : Int) = 0 := by omega
  have hn1 : (0 : Int) < n := by omega
  have l0 := cell_lt c0
  have l1 := cell_lt x0
  simp only at l0 l1
  obtain ⟨an, aa⟩ := a
  simp only at x0 x1 ⊢
  go_enter Try.func24, Try.ntmps24
  go_wp2_with fail
  refine bodyPost_ret (v := .tuple #[.agg #[.string an, .int .i64 aa], .int .i64 0]) (by rw [results_cell_tmp rfl]; go_simp) rfl ⟨rfl, ?_⟩
  go_grown
theorem rnext_R {w : World} {rb : Nat} {v : Value} {l : List Al} (h : Rf w rb v l) : Calls Try.prog 24 #[.pointer (some ⟨rb, 0, none⟩)] w fun e w' => e = .returned (nextV l.head?) ∧ Below w.heap.size w w' := by
  cases hl : l with
  | nil =>
    obtain ⟨q, c, e⟩ := h.r.shape
    rw [hl] at e
    exact rnext_no w rb c q (by rw [h.c, e]; rfl)
  | cons a r =>
    have h0 : l[0]? = some a := by rw [hl]; rfl
    have hp : 0 < l.length := by rw [hl]; simp
    obtain ⟨g, o, c, e, hL⟩ := h.r.row hp
    exact rnext_yes w rb g o l.length c a hp (by rw [h.c, e]) (hL.c0 (i := 0) h0) (hL.c1 (i := 0) h0)
end Go.Proofs.Ytnjnfbfjmeofaaa
