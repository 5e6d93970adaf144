/-
  Rows of numbers; numbers looked for in a list; lists held against one another.
-/
import Derived.Test.YtodldfgoieikcaaMb
namespace Go.Proofs.Ytodldfgoieikcaa
open Go.RowKit Go.Maps

def Ris (E : List Int) : Prop := E.Pairwise fun x y => x < y
theorem Ris.lt {E : List Int} (h : Ris E) {i j : Nat} {x y : Int} (hij : i < j) (hi : E[i]? = some x) (hj : E[j]? = some y) : x < y := by
  obtain ⟨h1, rfl⟩ := List.getElem?_eq_some_iff.1 hi
  obtain ⟨h2, rfl⟩ := List.getElem?_eq_some_iff.1 hj
  exact List.pairwise_iff_getElem.1 h i j h1 h2 hij
theorem ris_ins {E : List Int} (h : Ris E) {k : Nat} {x : Int} (h1 : ∀ (i : Nat) (y : Int), E[i]? = some y → i < k → y < x) (h2 : ∀ (i : Nat) (y : Int), E[i]? = some y → k ≤ i → x < y) : Ris (E.take k ++ x :: E.drop k) := by
  unfold Ris
  rw [List.pairwise_append, List.pairwise_cons]
  have hs := h
  rw [← List.take_append_drop k E] at hs
  unfold Ris at hs
  rw [List.pairwise_append] at hs
  refine ⟨hs.1, ⟨fun y hy => ?_, hs.2.1⟩, fun y hy z hz => ?_⟩
  · obtain ⟨i, hi⟩ := List.getElem?_of_mem hy
    rw [List.getElem?_drop] at hi
    exact h2 (k + i) y hi (by omega)
  · obtain ⟨i, hi⟩ := List.getElem?_of_mem hy
    rw [List.getElem?_take] at hi
    split at hi
    · have hyx := h1 i y hi (by assumption)
      rcases List.mem_cons.1 hz with rfl | hz
      · exact hyx
      · obtain ⟨j, hj⟩ := List.getElem?_of_mem hz
        rw [List.getElem?_drop] at hj
        have := h2 (k + j) z hj (by omega)
        omega
    · cases hi
def ints (E : List Int) : List Value := E.map (Value.int .i64)
theorem ints_at {E : List Int} {i : Nat} {x : Int} (h : E[i]? = some x) : (ints E)[i]? = some (.int .i64 x) := by unfold ints; rw [List.getElem?_map, h]; rfl
theorem ints_one {E : List Int} : ∀ v ∈ ints E, v.oneCell' = true := fun v hv => by
  obtain ⟨x, _, rfl⟩ := List.mem_map.1 hv
  rfl
/-- a row of ticks, made behind b -/
def IRow (b : Nat) (w : World) (v : Value) (E : List Int) : Prop := w.ownsRow b 2 1 v E.length (ints E)
section
variable {w w1 : World} {v : Value} {E : List Int} {b g n c i : Nat}
theorem IRow.nil (b : Nat) (w : World) : IRow b w (.slice none 0 0) [] := World.ownsRow_nil w b 2 1
theorem IRow.shape (h : IRow b w v E) : ∃ a c, v = .slice a E.length c := by
  rcases h.2 with ⟨rfl, h0⟩ | ⟨g, cap, cur, rfl, _⟩
  · exact ⟨none, 0, by rw [h0]⟩
  · exact ⟨_, _, rfl⟩
theorem IRow.lt (h : IRow b w v E) {g : Nat} (e : v.ownBlock = some g) : g < w.heap.size := (World.ownsRow.lt h g e).2
theorem IRow.ge (h : IRow b w v E) {g : Nat} (e : v.ownBlock = some g) : b ≤ g := (World.ownsRow.lt h g e).1
theorem IRow.keep (h : IRow b w v E) (k : ∀ g, v.ownBlock = some g → w1.heap[g]? = w.heap[g]?) : IRow b w1 v E := ownsKeep h k
theorem IRow.below (h : IRow b w v E) (k : Below w.heap.size w w1) : IRow b w1 v E := h.keep fun g e => k.block g (h.lt e)
theorem IRow.row (h : IRow b w v E) (hl : 0 < E.length) : ∃ g c, v = .slice (some ⟨g, 0, none⟩) E.length c := by
  rcases h.2 with ⟨rfl, h0⟩ | ⟨g, cap, cur, rfl, _⟩
  · omega
  · exact ⟨g, cap, rfl⟩
theorem IRow.cell (h : IRow b w (.slice (some ⟨g, 0, none⟩) n c) E) {x : Int} (hx : E[i]? = some x) : w.cell? ⟨g, i, none⟩ = some (.int .i64 x) := by
  have := World.ownsRow.cells h (g := g) rfl i _ (ints_at hx)
  rwa [Addr.add_lit, Nat.zero_add] at this
theorem IRow.fz (h : IRow b w (.slice (some ⟨g, 0, none⟩) n c) E) (k : Nat) : w.frozen? ⟨g, k, none⟩ = false := by
  rcases h.2 with ⟨e, _⟩ | ⟨g', cap, cur, e, hb, hgg, _⟩
  · cases e
  · cases e
    exact Go.Proofs.Ytodldfgoieikcaa.fz hgg k
theorem IRow.set (h : IRow b w (.slice (some ⟨g, 0, none⟩) n c) E) (i : Nat) (x : Int) : IRow b (w.setCell ⟨g, i, none⟩ (.int .i64 x)) (.slice (some ⟨g, 0, none⟩) n c) (E.set i x) := by
  unfold IRow
  rw [List.length_set]
  refine ⟨by simp [ints], ?_⟩
  rcases h.2 with ⟨e, _⟩ | ⟨g', cap, cur, e, hb, hgg, h1, h2, h3, h4⟩
  · cases e
  · cases e
    refine .inr ⟨g, c, cur.setIfInBounds i (.int .i64 x), rfl, hb, setB hgg _, h1, h2, by rw [Array.size_setIfInBounds]; exact h3, ?_⟩
    rw [Array.toList_setIfInBounds, List.take_set, h4]
    unfold ints
    rw [List.map_set]
end
/-- while a row is shifted -/
def shf (E : List Int) (x : Int) (j : Nat) : List Int := E.take j ++ (E[j]?.getD x) :: E.drop j
theorem shf_end (E : List Int) (x : Int) : shf E x E.length = E ++ [x] := by unfold shf; simp
theorem shf_length (E : List Int) (x : Int) (j : Nat) (h : j ≤ E.length) : (shf E x j).length = E.length + 1 := by unfold shf; simp; omega
theorem shf_prev {E : List Int} {x y : Int} {j : Nat} (h : E[j]? = some y) : (shf E x (j + 1))[j]? = some y := by
  have hl := (List.getElem?_eq_some_iff.1 h).1
  unfold shf
  rw [List.getElem?_append_left (by simp; omega), List.getElem?_take, if_pos (by omega), h]
theorem shf_step {E : List Int} {x y : Int} {j : Nat} (h : E[j]? = some y) : (shf E x (j + 1)).set (j + 1) y = shf E x j := by
  have hl := (List.getElem?_eq_some_iff.1 h).1
  unfold shf
  rw [List.set_append_right _ _ (by simp; omega)]
  simp only [List.length_take, Nat.min_eq_left (show j + 1 ≤ E.length by omega), Nat.sub_self, List.set_cons_zero]
  rw [h, Option.getD_some, List.take_add_one, h]
  rw [List.drop_eq_getElem_cons hl]
  have : E[j] = y := by rw [List.getElem?_eq_getElem hl] at h; exact Option.some.inj h
  rw [this]
  simp
theorem shf_done {E : List Int} {x : Int} {k : Nat} (hk : k ≤ E.length) : (shf E x k).set k x = E.take k ++ x :: E.drop k := by
  unfold shf
  rw [List.set_append_right _ _ (by simp; omega)]
  simp [Nat.min_eq_left hk]

theorem info2 : (Try.prog.info? 2).map (fun i => (i.zero, i.size, i.bytes)) = some (some (.int .i64 0), 1, 8) := by kernel_rfl
/-- numbers that lie at an address -/
def AI (w : World) (q : Option Addr) (E : List Int) : Prop := ∀ (k : Nat) (x : Int), E[k]? = some x → ∃ g o, q = some ⟨g, o, none⟩ ∧ w.cell? ⟨g, o + k, none⟩ = some (.int .i64 x)
theorem AI.nil (w : World) (q : Option Addr) : AI w q [] := fun k x h => by simp at h
theorem AI.below {w w1 : World} {q : Option Addr} {E : List Int} (h : AI w q E) (k : Below w.heap.size w w1) : AI w1 q E := fun i x hx => by
  obtain ⟨g, o, e, hc⟩ := h i x hx
  exact ⟨g, o, e, cell_below hc k⟩
theorem AI.some {w : World} {q : Option Addr} {E : List Int} (h : AI w q E) (hl : 0 < E.length) : ∃ g o, q = Option.some ⟨g, o, none⟩ ∧ ∀ (k : Nat) (x : Int), E[k]? = Option.some x → w.cell? ⟨g, o + k, none⟩ = Option.some (.int .i64 x) := by
  obtain ⟨g, o, e, _⟩ := h 0 E[0] (List.getElem?_eq_getElem hl)
  refine ⟨g, o, e, fun k x hx => ?_⟩
  obtain ⟨g', o', e', hc⟩ := h k x hx
  rw [e] at e'
  cases e'
  exact hc
theorem IRow.ai {b : Nat} {w : World} {q : Option Addr} {n c : Nat} {E : List Int} (h : IRow b w (.slice q n c) E) : AI w q E := fun k x hx => by
  obtain ⟨g, c', e⟩ := h.row (by have := (List.getElem?_eq_some_iff.1 hx).1; omega)
  injection e with e1 e2 e3
  subst e1
  exact ⟨g, 0, rfl, by rw [Nat.zero_add]; exact h.cell hx⟩
theorem IRow.mono {b b' : Nat} {w : World} {v : Value} {E : List Int} (h : IRow b w v E) (hb : b' ≤ b) : IRow b' w v E := by
  refine ⟨h.1, ?_⟩
  rcases h.2 with hn | ⟨g, cap, cur, rfl, h1, rest⟩
  · exact .inl hn
  · exact .inr ⟨g, cap, cur, rfl, Nat.le_trans hb h1, rest⟩
theorem IRow.up {b b' : Nat} {w : World} {g n c : Nat} {E : List Int} (h : IRow b w (.slice (some ⟨g, 0, none⟩) n c) E) (hb : b' ≤ g) : IRow b' w (.slice (some ⟨g, 0, none⟩) n c) E := by
  refine ⟨h.1, ?_⟩
  rcases h.2 with ⟨e, _⟩ | ⟨g', cap, cur, e, h1, rest⟩
  · cases e
  · cases e
    exact .inr ⟨g, c, cur, rfl, hb, rest⟩
theorem IRow.len {b : Nat} {w : World} {q : Option Addr} {n c : Nat} {E : List Int} (h : IRow b w (.slice q n c) E) : n = E.length := by
  obtain ⟨a, c', e⟩ := h.shape
  injection e
theorem below_grown {B : Nat} {w1 w2 : World} {r : Option Nat} (k : w1.grownBy w2 r) (hB : B ≤ w1.heap.size) (hr : ∀ g, r = some g → B ≤ g) : Below B w1 w2 :=
  ⟨k.os, k.tape, k.output, k.size, fun j hj => k.block j (Nat.lt_of_lt_of_le hj hB) fun e => by have := hr j e.symm; omega⟩
/-- numbers behind a row of numbers -/
theorem append_row {ops : Array Oper} {rest : List Oper} {o : Oper} {a : Act} {Q : Exit → Act → World → Prop} {wr : World} {B : Nat} (hgd : o.guard = none) (s x : Operand) (ho : o.op = .call { callee := .builtin .append, args := #[s, x], argTypes := #[32, 32] }) (p : Option Addr) (m c : Nat) (E : List Int) (hs : a.eval s = .slice p m c) (hr : IRow B wr (.slice p m c) E) (hB : B ≤ wr.heap.size)
    (q : Option Addr) (n cc : Nat) (F : List Int) (hx : a.eval x = .slice q n cc) (hn : n = F.length) (hF : AI wr q F) (hz : q = none → cc = 0) (hq : ∀ a, q = some a → a.spot = none) (h9 : m + n ≤ 10000000000000)
    (h : ∀ p3 c3 w3, IRow B w3 (.slice p3 (m + n) c3) (E ++ F) → Below B wr w3 → wpList Try.prog ops Q rest (a.put o.dst (.slice p3 (m + n) c3)) w3) :
    wpList Try.prog ops Q (o :: rest) a wr := by
  have hm := hr.len
  cases q with
  | none =>
    have hc0 := hz rfl
    have hF0 : F = [] := by
      rcases Nat.eq_zero_or_pos F.length with h0 | h0
      · exact List.eq_nil_of_length_eq_zero h0
      · obtain ⟨g, o, e, _⟩ := hF.some h0
        cases e
    subst hF0
    simp at hn
    subst hn hc0
    obtain ⟨i0, hi, _⟩ := info_parts info2
    refine wpList_append_own_none hgd s x 32 ho B 2 i0 1 Try.underlying32 hi (.slice p m c) m (ints E) hs (by have := hr; unfold IRow at this; rw [← hm] at this; exact this) hx ?_
    have := h p c wr (by rw [List.append_nil]; exact hr) (Below.refl _ _)
    exact this
  | some ad =>
    obtain ⟨g, o, pth⟩ := ad
    have hp := hq _ rfl
    simp at hp
    subst hp
    refine append_vals (w := wr) Try.underlying32 info2 rfl (by decide) hgd s x ho B (.slice p m c) m (ints E) hs (by have := hr; unfold IRow at this; rw [← hm] at this; exact this) g o cc n (ints F) hx (by simp [ints, hn]) (fun k u hu => ?_) ints_one (by unfold maxLen; omega) (by omega) hB fun v' w3 ho3 hg3 => ?_
    · unfold ints at hu
      rw [List.getElem?_map] at hu
      cases hk : F[k]? with
      | none => rw [hk] at hu; cases hu
      | some y =>
        rw [hk] at hu
        obtain ⟨g', o', e, hc⟩ := hF k y hk
        cases e
        cases hu
        exact hc
    · have R3 : IRow B w3 v' (E ++ F) := by
        unfold IRow
        rw [List.length_append, ← hm, ← hn]
        have e9 : ints (E ++ F) = ints E ++ ints F := by simp [ints]
        rw [e9]
        exact ho3
      have hB3 : Below B wr w3 := below_grown hg3 hB (fun g e => hr.ge e)
      obtain ⟨p3, c3, e3⟩ := R3.shape
      rw [List.length_append, ← hm, ← hn] at e3
      subst e3
      exact h p3 c3 w3 R3 hB3
/-- a number behind a row of numbers -/
theorem append_one {ops : Array Oper} {rest : List Oper} {o : Oper} {a : Act} {Q : Exit → Act → World → Prop} {wr : World} {B : Nat} (hgd : o.guard = none) (s x : Operand) (ho : o.op = .call { callee := .builtin .append, args := #[s, x], argTypes := #[32, 32] }) (p : Option Addr) (m c : Nat) (E : List Int) (y : Int) (hs : a.eval s = .slice p m c) (hr : IRow B wr (.slice p m c) E) (hB : B ≤ wr.heap.size)
    (g cc : Nat) (hx : a.eval x = .slice (some ⟨g, 0, none⟩) 1 cc) (hg : wr.cell? ⟨g, 0, none⟩ = some (.int .i64 y)) (h9 : m ≤ 1000000000000)
    (h : ∀ g3 c3 w3, IRow B w3 (.slice (some ⟨g3, 0, none⟩) (m + 1) c3) (E ++ [y]) → Below B wr w3 → wpList Try.prog ops Q rest (a.put o.dst (.slice (some ⟨g3, 0, none⟩) (m + 1) c3)) w3) :
    wpList Try.prog ops Q (o :: rest) a wr := by
  refine append_row hgd s x ho p m c E hs hr hB (some ⟨g, 0, none⟩) 1 cc [y] hx rfl (fun k u hu => ?_) (fun e => by cases e) (fun a e => by cases e; rfl) (by omega) fun p3 c3 w3 R3 hB3 => ?_
  · cases k with
    | zero => simp at hu; rw [← hu]; exact ⟨g, 0, rfl, hg⟩
    | succ k => simp at hu
  · obtain ⟨g3, c4, e3⟩ := R3.row (by simp)
    injection e3 with e1 e2 e4
    subst e1
    exact h g3 c3 w3 R3 hB3

/-- is a number in a list? -/
@[irreducible] def inB (E : List Int) (x : Int) : Bool := decide (x ∈ E)
theorem inB_iff {E : List Int} {x : Int} : inB E x = true ↔ x ∈ E := by unfold inB; exact decide_eq_true_iff
theorem inB_no {E : List Int} {x : Int} : inB E x = false ↔ x ∉ E := by unfold inB; exact decide_eq_false_iff_not
set_option maxHeartbeats 1000000 in
set_option maxRecDepth 100000 in
theorem in_any (w : World) (q : Option Addr) (n c : Nat) (E : List Int) (x : Int) (hn : n = E.length) (hE : AI w q E) (h9 : n ≤ 1152921504606846976) : Calls Try.prog 17 #[.slice q n c, .int .i64 x] w fun e w' => e = .returned (.bool (inB E x)) ∧ w' = w := by
  have HE : Hid (n = E.length ∧ AI w q E) := ⟨hn, hE⟩
  clear hn hE
  go_enter Try.func17, Try.ntmps17
  go_wp2_with fail
  go_loopw [5] (fun t wr => ∃ i : Nat, t = .int .i64 i ∧ i ≤ n ∧ wr = w ∧ Hid (∀ (j : Nat) (y : Int), j < i → E[j]? = some y → y ≠ x)) (fun t _ => n - (intOf t).toNat)
  case atStart => exact ⟨0, rfl, Nat.zero_le _, rfl, fun j _ hj => absurd hj (by omega)⟩
  case round =>
    obtain ⟨i, rfl, hin, rfl, HI⟩ := hrel
    by_cases hi : i < n
    · have hi' : (i : Int) < (n : Int) := by omega
      obtain ⟨y, hy⟩ : ∃ y, E[i]? = some y := ⟨_, List.getElem?_eq_getElem (by have := HE.out.1; omega)⟩
      obtain ⟨g, o, rfl, hc⟩ := HE.out.2 i y hy
      by_cases hxy : y = x
      · have hb : (y == x) = true := by simpa using hxy
        have HM : Hid (x ∈ E) := hxy ▸ List.mem_of_getElem? hy
        clear hxy hy
        go_wp2_with fail
        go_ret
        exact ⟨ret_b (inB_iff.2 HM.out).symm, rfl⟩
      · have hb : (y == x) = false := by simpa using hxy
        have HN : Hid (∀ (j : Nat) (y : Int), j < i + 1 → E[j]? = some y → y ≠ x) := fun j z hj hz => by
          by_cases e : j = i
          · subst e; rw [hy] at hz; cases hz; exact hxy
          · exact HI.out j z (by omega) hz
        clear hxy hy
        go_wp2_with fail
        refine ⟨⟨i + 1, by simp, by omega, by first | rfl | trivial, HN.out⟩, ?_⟩
        simp [intOf]
        omega
    · have hi' : ¬ (i : Int) < (n : Int) := by omega
      go_wp2_with fail
      go_ret
      refine ⟨ret_b (inB_no.2 fun hm => ?_).symm, rfl⟩
      obtain ⟨j, hj⟩ := List.getElem?_of_mem hm
      exact HI.out j x (by have := (List.getElem?_eq_some_iff.1 hj).1; have := HE.out.1; omega) hj rfl
set_option maxHeartbeats 1000000 in
set_option maxRecDepth 100000 in
theorem same_any (w : World) (q1 q2 : Option Addr) (n c1 c2 : Nat) (E : List Int) (hn : n = E.length) (h1 : AI w q1 E) (h2 : AI w q2 E) (h9 : n ≤ 1152921504606846976) :
    Calls Try.prog 21 #[.slice q1 n c1, .slice q2 n c2] w fun e w' => e = .returned (.bool true) ∧ Below w.heap.size w w' := by
  have HE : Hid (n = E.length ∧ AI w q1 E ∧ AI w q2 E) := ⟨hn, h1, h2⟩
  clear hn h1 h2
  go_enter Try.func21, Try.ntmps21
  go_wp2_with fail
  go_loopw [5] (fun t wx => ∃ i : Nat, t = .int .i64 i ∧ Hid (i ≤ n ∧ wx.heap = w.heap ∧ Below w.heap.size w wx)) (fun t _ => n - (intOf t).toNat)
  case atStart => exact ⟨0, rfl, Nat.zero_le _, rfl, Below.refl _ _⟩
  case round =>
    obtain ⟨i, rfl, HI⟩ := hrel
    have ew := HI.out.2.1
    have EW : Hid (wr.heap = w.heap ∧ Below w.heap.size w wr) := HI.out.2
    have ec : ∀ p, wr.cell? p = w.cell? p := fun p => by unfold World.cell?; rw [ew]
    by_cases hi : i < n
    · have hi' : (i : Int) < (n : Int) := by omega
      obtain ⟨y, hy⟩ : ∃ y, E[i]? = some y := ⟨_, List.getElem?_eq_getElem (by have := HE.out.1; omega)⟩
      obtain ⟨ga, oa, e1, x0⟩ := HE.out.2.1 i y hy
      obtain ⟨gb, ob, e2, y0⟩ := HE.out.2.2 i y hy
      subst e1 e2
      replace x0 := (ec _).trans x0
      replace y0 := (ec _).trans y0
      have Hi : Hid (i < n) := hi
      clear hi HI hy ec ew
      go_upto_region 6 with fail
      go_quiet (fail)
      go_wp2_with fail
      have := Hi.out
      refine ⟨⟨i + 1, by simp, by show i + 1 ≤ n; omega, EW.out.1, below_drewN EW.out.2 _⟩, ?_⟩
      simp [intOf]
      omega
    · have hi' : ¬ (i : Int) < (n : Int) := by omega
      have hi2 : decide ((i : Int) < (n : Int)) = false := decide_eq_false hi'
      clear hi HI ec ew
      go_wp2_with fail
      go_ret
      exact ⟨rfl, EW.out.2⟩
end Go.Proofs.Ytodldfgoieikcaa
