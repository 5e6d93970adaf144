/-
  Same of nodes and of names that say the same; the document's Live and Expire.
-/
import Derived.Test.YtihjmigjphljnaaAj
import Derived.Test.YtihjmigjphljnaaBe
import Derived.Laws.StructEq
namespace Go.Proofs.Ytihjmigjphljnaa
open Go.RowKit Go.Maps
open Tk

theorem eqv (a b c d : Int) (w : World) : (Op.equalIn 9999 32 (.agg #[.int .i64 a, .int .i64 b, .int .i64 c, .int .i64 d]) (.agg #[.int .i64 a, .int .i64 b, .int .i64 c, .int .i64 d])).run Try.prog w = .ok true w := by
  have eqi (a : Int) (w : World) : (Op.equalIn 9998 2 (.int .i64 a) (.int .i64 a)).run Try.prog w = .ok (a == a) w := run_equalIn_int w 9997 2 .i64 .i64 a a Try.underlying2
  rw [run_equalIn_array w 9998 _ _ Try.underlying32 (info_of_underlying Try.underlying2).choose_spec, cells2]
  rw [show List.range 4 = [0, 1, 2, 3] from rfl]
  simp [Op.eqItems, part0, part1, part2, part3, eqi]
theorem pn0 (a b c d e f g h : Value) (w : World) : (part 9 #[a, b, c, d, e, f, g, h] 0).run Try.prog w = .ok a w := by kernel_rfl
theorem pn1 (a b c d e f g h : Value) (w : World) : (part 2 #[a, b, c, d, e, f, g, h] 1).run Try.prog w = .ok b w := by kernel_rfl
theorem pn2 (a b c d e f g h : Value) (w : World) : (part 32 #[a, b, c, d, e, f, g, h] 2).run Try.prog w = .ok (.agg #[c, d, e, f]) w := by kernel_rfl
theorem pn6 (a b c d e f g h : Value) (w : World) : (part 2 #[a, b, c, d, e, f, g, h] 6).run Try.prog w = .ok g w := by kernel_rfl
theorem pn7 (a b c d e f g h : Value) (w : World) : (part 4 #[a, b, c, d, e, f, g, h] 7).run Try.prog w = .ok h w := by kernel_rfl
set_option maxRecDepth 100000 in
theorem eq46 (s : ByteArray) (ep a b c d sn : Int) (lv : Bool) (w : World) : (Op.equalIn 10000 46 (.agg #[.string s, .int .i64 ep, .int .i64 a, .int .i64 b, .int .i64 c, .int .i64 d, .int .i64 sn, .bool lv]) (.agg #[.string s, .int .i64 ep, .int .i64 a, .int .i64 b, .int .i64 c, .int .i64 d, .int .i64 sn, .bool lv])).run Try.prog w = .ok true w := by
  have eqs (w : World) : (Op.equalIn 9999 9 (.string s) (.string s)).run Try.prog w = .ok (s.toList == s.toList) w := run_equalIn_string w 9998 9 s s Try.underlying9
  have eqi (a : Int) (w : World) : (Op.equalIn 9999 2 (.int .i64 a) (.int .i64 a)).run Try.prog w = .ok (a == a) w := run_equalIn_int w 9998 2 .i64 .i64 a a Try.underlying2
  have eqb (a : Bool) (w : World) : (Op.equalIn 9999 4 (.bool a) (.bool a)).run Try.prog w = .ok (a == a) w := run_equalIn_bool' w 9998 4 a a Try.underlying4
  rw [run_equalIn_struct w 9999 46 _ _ Try.underlying46 (by kernel_rfl)]
  simp [Program.fieldsOf, Try.underlying46, Op.eqFields, pn0, pn1, pn2, pn6, pn7, eqv, eqs, eqi, eqb]
set_option maxHeartbeats 2000000 in
set_option maxRecDepth 100000 in
theorem same_any (w : World) (n c1' c2' : Nat) (q1 q2 : Option Addr) (L : List Nd) (h1 : Hid (VR w q1 L)) (h2 : Hid (VR w q2 L)) (hl : Hid (L.length = n)) (hn : n ≤ 1000000) :
    Calls Try.prog 12 #[.slice q1 n c1', .slice q2 n c2'] w fun e w' => e = .returned (.bool true) ∧ Hid (Below w.heap.size w w') := by
  go_enter Try.func12, Try.ntmps12
  go_wp2_with fail
  go_loopw [5] (fun x wr => ∃ k : Nat, x = .int .i64 k ∧ k ≤ n ∧ Hid (Below w.heap.size w wr)) (fun x _ => n - (intOf x).toNat)
  case atStart => exact ⟨0, rfl, Nat.zero_le _, Below.refl _ _⟩
  case round =>
    obtain ⟨k, rfl, hk, HB⟩ := hrel
    by_cases h0 : k = n
    · subst h0
      go_wp2_with fail
      go_ret
      exact ⟨rfl, HB⟩
    · have hlt' : (k : Int) < (n : Int) := by omega
      obtain ⟨a, ha⟩ : ∃ a, L[k]? = some a := ⟨L[k]'(by have := hl.out; omega), List.getElem?_eq_getElem _⟩
      obtain ⟨g1, rfl⟩ := h1.out.some ha
      obtain ⟨g2, rfl⟩ := h2.out.some ha
      obtain ⟨a0, a1, a2, a3, a4, a5, a6, a7⟩ := (h1.out.below HB.out).cells ha
      obtain ⟨b0, b1, b2, b3, b4, b5, b6, b7⟩ := (h2.out.below HB.out).cells ha
      have HD : Hid (∀ i, Below w.heap.size w (wr.drewN i)) := fun i => below_from HB.out (below_drewN (Below.refl _ wr) i) HB.out.size
      have q62 := eq46 a.nm a.ep a.v.a a.v.b a.v.c a.v.d a.sn a.lv
      clear ha h1 h2
      go_wp2_with fail
      go_region
      all_goals go_wp2_with fail
      all_goals exact ⟨⟨k + 1, by simp, by omega, HD.out _⟩, by simp only [intOf]; omega⟩
/-! ### names -/
set_option maxHeartbeats 2000000 in
set_option maxRecDepth 100000 in
theorem sames_any (w : World) (n c1' c2' : Nat) (q1 q2 : Option Addr) (L : List (List UInt8)) (h1 : Hid (SR w (.slice q1 n c1') L)) (h2 : Hid (SR w (.slice q2 n c2') L)) (hn : n ≤ 1000000) :
    Calls Try.prog 24 #[.slice q1 n c1', .slice q2 n c2'] w fun e w' => e = .returned (.bool true) ∧ Hid (Below w.heap.size w w') := by
  have hl : Hid (n = L.length) := h1.out.len
  go_enter Try.func24, Try.ntmps24
  go_wp2_with fail
  go_loopw [5] (fun x wr => ∃ k : Nat, x = .int .i64 k ∧ k ≤ n ∧ Hid (Below w.heap.size w wr)) (fun x _ => n - (intOf x).toNat)
  case atStart => exact ⟨0, rfl, Nat.zero_le _, Below.refl _ _⟩
  case round =>
    obtain ⟨k, rfl, hk, HB⟩ := hrel
    by_cases h0 : k = n
    · subst h0
      go_wp2_with fail
      go_ret
      exact ⟨rfl, HB⟩
    · have hlt' : (k : Int) < (n : Int) := by omega
      obtain ⟨a, ha⟩ : ∃ a, L[k]? = some a := ⟨L[k]'(by have := hl.out; omega), List.getElem?_eq_getElem _⟩
      obtain ⟨g1, rfl, a0⟩ := SR.at (h1.out.below HB.out) ha
      obtain ⟨g2, rfl, b0⟩ := SR.at (h2.out.below HB.out) ha
      have HD : Hid (∀ i, Below w.heap.size w (wr.drewN i)) := fun i => below_from HB.out (below_drewN (Below.refl _ wr) i) HB.out.size
      clear ha h1 h2
      go_wp2_with fail
      go_region
      all_goals go_wp2_with fail
      all_goals exact ⟨⟨k + 1, by simp, by omega, HD.out _⟩, by simp only [intOf]; omega⟩
/-! ### the document's Live -/
def LvP (w : World) (L : List Nd) (e : Ending) (w' : World) : Prop := ∃ q m c', e = .returned (.slice q m c') ∧ Hid (m = L.length ∧ VR w' q L ∧ Below w.heap.size w w' ∧ ∀ g, q = some ⟨g, 0, none⟩ → w.heap.size ≤ g)
structure LvS (w0 wr : World) (L : List Nd) (u : Value) (i : Nat) : Prop where
  b : Below w0.heap.size w0 wr
  out : AR wr u ((L.take i).filter Nd.lv)
  un : ∀ j, u.ownBlock = some j → w0.heap.size ≤ j
section
variable {w0 wr W w1 : World} {L : List Nd} {u u' : Value} {i : Nat} {n : Nd}
theorem LvS.below (h : LvS w0 wr L u i) (b : Below wr.heap.size wr W) : LvS w0 W L u i := ⟨below_from h.b b h.b.size, h.out.below b, h.un⟩
theorem LvS.next (h : LvS w0 W L u i) (hn : L[i]? = some n) (hl : n.lv = true) (hr : AR w1 u' ((L.take i).filter Nd.lv ++ [n])) (gr : W.grownBy w1 u.ownBlock) (hv : u'.ownBlock = u.ownBlock ∨ u'.ownBlock = some W.heap.size) : LvS w0 w1 L u' (i + 1) := by
  have k2 : Kp (fun j => u.ownBlock = some j) W w1 := Kp.of_grown gr fun j q => q
  refine ⟨h.b.trans (k2.below h.b.size fun k hk q => by have := h.un k q; omega), ?_, fun j q => ?_⟩
  · rw [List.take_add_one, hn, List.filter_append]
    have : List.filter Nd.lv (Option.toList (some n)) = [n] := by simp [hl]
    rw [this]
    exact hr
  · rcases hv with e | e
    · rw [e] at q
      exact h.un j q
    · rw [e] at q
      have e2 := Option.some.inj q
      subst e2
      exact h.b.size
theorem LvS.skip (h : LvS w0 W L u i) (hn : L[i]? = some n) (hl : n.lv = false) : LvS w0 W L u (i + 1) := by
  refine ⟨h.b, ?_, h.un⟩
  rw [List.take_add_one, hn, List.filter_append]
  have : List.filter Nd.lv (Option.toList (some n)) = [] := by simp [hl]
  rw [this, List.append_nil]
  exact h.out
end
set_option maxHeartbeats 4000000 in
set_option maxRecDepth 100000 in
theorem rlive_any {w : World} {T : Nat → Prop} {rb : Nat} {D : List Nd} (h : Ref w T rb D) :
    Calls Try.prog 15 #[.pointer (some ⟨rb, 0, none⟩)] w (LvP w (D.filter Nd.lv)) := by
  obtain ⟨⟨q, n, c, h1, -⟩, -⟩ := h
  have HR : Hid (RAt w rb q n c D) := h1
  have hn12 : n ≤ 12 := by have := h1.len; have := h1.n; omega
  have HN : Hid (n = D.length) := h1.n
  clear h1
  go_enter Try.func15, Try.ntmps15
  go_wp2_with fail
  go_loopw [3, 4] (fun u t wr => ∃ i m p c', i ≤ n ∧ u = .slice p m c' ∧ t = .int .i64 (i : Nat) ∧ Hid (LvS w wr D (.slice p m c') i)) (fun _ t _ => n - (intOf t).toNat)
  case atStart => exact ⟨0, 0, none, 0, Nat.zero_le _, rfl, rfl, Below.refl _ _, GRow.nil _ _ _ _ _, fun j q => by cases q⟩
  case round =>
    obtain ⟨i, m, p, c', hi, rfl, rfl, HI⟩ := hrel
    have R1 := HR.out.below HI.out.b
    have e0 := c1 R1.cell
    by_cases hlt : i < n
    · obtain ⟨y, hy⟩ : ∃ y, D[i]? = some y := ⟨D[i]'(by have := HN.out; omega), List.getElem?_eq_getElem _⟩
      obtain ⟨g, rfl⟩ := R1.row.some hy
      obtain ⟨x0, x1, x2, x3, x4, x5, x6, x7⟩ := R1.row.cells hy
      have hii : (i : Int) < (n : Int) := by omega
      have HY : Hid (D[i]? = some y) := hy
      have b5 : Below wr.heap.size wr (wr.alloc (.cells #[.string y.nm, .int .i64 y.ep, .int .i64 y.v.a, .int .i64 y.v.b, .int .i64 y.v.c, .int .i64 y.v.d, .int .i64 y.sn, .bool y.lv] 46)) := (Below.refl _ _).alloc (Nat.le_refl _) _
      have I5 : Hid (LvS w (wr.alloc (.cells #[.string y.nm, .int .i64 y.ep, .int .i64 y.v.a, .int .i64 y.v.b, .int .i64 y.v.c, .int .i64 y.v.d, .int .i64 y.sn, .bool y.lv] 46)) D (.slice p m c') i) := HI.out.below b5
      have HM : Hid (((D.take i).filter Nd.lv).length = m ∧ m + 1 ≤ 4096) := by
        have h1 : m = ((D.take i).filter Nd.lv).length := HI.out.out.len
        have h2 := List.length_filter_le Nd.lv (D.take i)
        rw [List.length_take] at h2
        exact ⟨h1.symm, by omega⟩
      have z9 : Hid ((wr.alloc (.cells #[.string y.nm, .int .i64 y.ep, .int .i64 y.v.a, .int .i64 y.v.b, .int .i64 y.v.c, .int .i64 y.v.d, .int .i64 y.sn, .bool y.lv] 46)).heap[wr.heap.size]? = some (.cells #[.string y.nm, .int .i64 y.ep, .int .i64 y.v.a, .int .i64 y.v.b, .int .i64 y.v.c, .int .i64 y.v.d, .int .i64 y.sn, .bool y.lv] 46 (0, 0))) := new0
      clear hy b5 R1
      cases hl : y.lv with
      | true =>
        have HL : Hid (y.lv = true) := hl
        rw [hl] at x7 I5 z9
        have I5' := I5
        clear hl HI
        go_wp2_with (at_builtin; refine append_n rfl _ _ rfl (.slice p m c') ((D.take i).filter Nd.lv) m HM.out.1 rfl I5.out.out wr.heap.size y rfl (by rw [HL.out]; exact z9.out) HM.out.2 ?_; intro u' w6 h1 h2 h4; have I6 : Hid _ := I5.out.next HY.out HL.out h1 h2 h4; obtain ⟨p3, c3, rfl⟩ := h1.shape; rw [List.length_append, HM.out.1])
        refine ⟨⟨i + 1, m + 1, p3, c3, by omega, rfl, by simp, ?_⟩, ?_⟩
        · have h6 := I6.out
          rw [List.length_append, HM.out.1] at h6
          exact h6
        · simp [intOf]
          omega
      | false =>
        have I6 : Hid (LvS w wr D (.slice p m c') (i + 1)) := HI.out.skip HY.out hl
        rw [hl] at x7
        clear hl HI I5 z9
        go_wp2_with fail
        exact ⟨⟨i + 1, m, p, c', by omega, rfl, by simp, I6.out⟩, by simp [intOf]; omega⟩
    · obtain rfl : i = n := by omega
      have hii : ¬ (i : Int) < (i : Int) := by omega
      have HE : Hid (m = (D.filter Nd.lv).length ∧ VR wr p (D.filter Nd.lv) ∧ Below w.heap.size w wr ∧ ∀ g, p = some ⟨g, 0, none⟩ → w.heap.size ≤ g) := by
        have h1 := HI.out.out
        rw [List.take_of_length_le (by have := HN.out; omega)] at h1
        exact ⟨h1.len, h1.vr, HI.out.b, fun g e => HI.out.un g (by rw [e]; rfl)⟩
      clear HI HR HN R1
      go_wp2_with fail
      go_ret
      exact ⟨p, m, c', rfl, HE.out⟩
/-! ### the document's Expire -/
def em (now : Int) (D : List Nd) (i : Nat) : List Nd := (D.take i).map (Nd.exp now) ++ D.drop i
theorem em_at {now : Int} {D : List Nd} {i : Nat} (hi : i < D.length) : (em now D i)[i]? = D[i]? := by
  unfold em
  rw [List.getElem?_append_right (by rw [List.length_map, List.length_take]; omega), List.length_map, List.length_take, List.getElem?_drop]
  congr 1
  omega
theorem em_next {now : Int} {D : List Nd} {i : Nat} {a : Nd} (ha : D[i]? = some a) : (em now D i).set i (a.exp now) = em now D (i + 1) := by
  have hi := (List.getElem?_eq_some_iff.1 ha).1
  unfold em
  have e : D.drop i = a :: D.drop (i + 1) := by
    rw [List.drop_eq_getElem_cons hi]
    congr 1
    rw [List.getElem?_eq_getElem hi] at ha
    exact Option.some.inj ha
  rw [List.set_append_right _ _ (by rw [List.length_map, List.length_take]; omega), List.length_map, List.length_take, show i - min i D.length = 0 by omega, e, List.set_cons_zero, List.take_add_one, ha, List.map_append, List.append_assoc]
  rfl
theorem em_same {now : Int} {D : List Nd} {i : Nat} {a : Nd} (ha : D[i]? = some a) (he : a.exp now = a) : em now D i = em now D (i + 1) := by
  have hi := (List.getElem?_eq_some_iff.1 ha).1
  have h1 := em_next (now := now) ha
  rw [he] at h1
  rw [← h1]
  obtain ⟨hj, e⟩ := List.getElem?_eq_some_iff.1 ((em_at (now := now) hi).trans ha)
  subst e
  exact (List.set_getElem_self hj).symm
theorem em_zero (now : Int) (D : List Nd) : em now D 0 = D := rfl
theorem em_all (now : Int) (D : List Nd) : em now D D.length = expR D now := by unfold em expR; rw [List.take_of_length_le (Nat.le_refl _), List.drop_of_length_le (Nat.le_refl _), List.append_nil]
structure XdS (w0 wr : World) (rb : Nat) (q : Option Addr) (n c : Nat) (D : List Nd) (now : Int) (u : Value) (i : Nat) : Prop where
  cell : wr.heap[rb]? = some (.cells #[.slice q n c] 29 (0, 0))
  row : AR wr (.slice q n c) (em now D i)
  out : SR wr u (((D.take i).filter (Nd.lost now)).map Nd.k)
  kp : Kp (fun j => (Value.slice q n c).ownBlock = some j) w0 wr
  un : ∀ j, u.ownBlock = some j → w0.heap.size ≤ j
section
variable {w0 wr W w1 : World} {rb n c i : Nat} {q : Option Addr} {D : List Nd} {now : Int} {u u' : Value} {a : Nd}
theorem XdS.skip (h : XdS w0 wr rb q n c D now u i) (ha : D[i]? = some a) (hl : a.lost now = false) : XdS w0 wr rb q n c D now u (i + 1) := by
  have he : a.exp now = a := by unfold Nd.exp; rw [hl]; rfl
  refine ⟨h.cell, by rw [← em_same ha he]; exact h.row, ?_, h.kp, h.un⟩
  rw [List.take_add_one, ha, List.filter_append]
  have : List.filter (Nd.lost now) (Option.toList (some a)) = [] := by simp [hl]
  rw [this, List.append_nil]
  exact h.out
/-- a node is made lost: its last cell -/
theorem XdS.off {g : Nat} (h : XdS w0 wr rb (some ⟨g, 0, none⟩) n c D now u i) (hg : g < w0.heap.size) (ha : D[i]? = some a) (hl : a.lost now = true) (hr : rb ≠ g) :
    (wr.setCell ⟨g, i * 8 + 7, none⟩ (.bool false)).heap[rb]? = some (.cells #[.slice (some ⟨g, 0, none⟩) n c] 29 (0, 0)) ∧ AR (wr.setCell ⟨g, i * 8 + 7, none⟩ (.bool false)) (.slice (some ⟨g, 0, none⟩) n c) (em now D (i + 1)) ∧ SR (wr.setCell ⟨g, i * 8 + 7, none⟩ (.bool false)) u (((D.take i).filter (Nd.lost now)).map Nd.k) ∧ Kp (fun j => (Value.slice (some ⟨g, 0, none⟩) n c).ownBlock = some j) w0 (wr.setCell ⟨g, i * 8 + 7, none⟩ (.bool false)) := by
  have he : a.exp now = a.off := by unfold Nd.exp; rw [hl]; rfl
  have hi := (List.getElem?_eq_some_iff.1 ha).1
  have h1 := h.row.set1 ((em_at (now := now) hi).trans ha) (j := 7) (u := .bool false) (a' := a.off) (by omega) rfl
  rw [← he, em_next ha] at h1
  exact ⟨(Below.heap_setCell _ _ _ _ hr).trans h.cell, h1, h.out.keep fun j e => Below.heap_setCell _ _ _ _ (by have := h.un j e; show j ≠ g; omega), h.kp.trans (Kp.of_set (S := fun j => (Value.slice (some ⟨g, 0, none⟩) n c).ownBlock = some j) _ _ _ rfl) fun _ _ e => e⟩
theorem XdS.put (hc : W.heap[rb]? = some (.cells #[.slice q n c] 29 (0, 0))) (hrow : AR W (.slice q n c) (em now D (i + 1))) (hk : Kp (fun j => (Value.slice q n c).ownBlock = some j) w0 W) (hu : ∀ j, u.ownBlock = some j → w0.heap.size ≤ j) (hq : ∀ j, (Value.slice q n c).ownBlock = some j → j < w0.heap.size) (hrb : rb < w0.heap.size)
    (ha : D[i]? = some a) (hl : a.lost now = true) (b : Below W.heap.size W w1) {w2 : World} (hr : SR w2 u' (((D.take i).filter (Nd.lost now)).map Nd.k ++ [a.k])) (gr : w1.grownBy w2 u.ownBlock) (hv : u'.ownBlock = u.ownBlock ∨ u'.ownBlock = some w1.heap.size) : XdS w0 w2 rb q n c D now u' (i + 1) := by
  have k2 : Kp (fun j => u.ownBlock = some j) w1 w2 := Kp.of_grown gr fun j q => q
  have s0 := hk.size
  have s1 := b.size
  have blk : ∀ j, j < w0.heap.size → w2.heap[j]? = W.heap[j]? := fun j hj => (k2.block j (by omega) fun e => by have := hu j e; omega).trans (b.block j (by omega))
  refine ⟨(blk rb hrb).trans hc, hrow.keep fun g e => blk g (hq g e), ?_, ⟨k2.os.trans (b.os.trans hk.os), k2.tape.trans (b.tape.trans hk.tape), k2.output.trans (b.output.trans hk.output), by have := k2.size; omega, fun j hj hn => (blk j hj).trans (hk.block j hj hn)⟩, fun j e => ?_⟩
  · rw [List.take_add_one, ha, List.filter_append]
    have : List.filter (Nd.lost now) (Option.toList (some a)) = [a] := by simp [hl]
    rw [this, List.map_append]
    exact hr
  · rcases hv with q | q
    · rw [q] at e
      exact hu j e
    · rw [q] at e
      have e2 := Option.some.inj e
      omega
end
def XdP (w : World) (rb : Nat) (T : Nat → Prop) (D : List Nd) (now : Int) (e : Ending) (w' : World) : Prop := ∃ p m c', e = .returned (.slice p m c') ∧ Hid (m = (expN D now).length ∧ SR w' (.slice p m c') ((expN D now).map Nd.k) ∧ Ref w' T rb (expR D now) ∧ Step T T w w' ∧ ∀ j, (Value.slice p m c').ownBlock = some j → w.heap.size ≤ j)
set_option maxHeartbeats 4000000 in
set_option maxRecDepth 100000 in
theorem rexp_any {w : World} {T : Nat → Prop} {rb : Nat} {D : List Nd} (h : Ref w T rb D) (now : Int) :
    Calls Try.prog 25 #[.pointer (some ⟨rb, 0, none⟩), .int .i64 now] w (XdP w rb T D now) := by
  obtain ⟨⟨q, n, c, h1, hT⟩, hlt⟩ := h
  have HR : Hid (RAt w rb q n c D) := h1
  have hn12 : n ≤ 12 := by have := h1.len; have := h1.n; omega
  have HN : Hid (n = D.length) := h1.n
  have HQ : Hid (∀ j, (Value.slice q n c).ownBlock = some j → j < w.heap.size) := fun j e => h1.row.lt e
  have HT : Hid ((∀ k, (k = rb ∨ (Value.slice q n c).ownBlock = some k) → T k) ∧ ∀ k, T k → k < w.heap.size) := ⟨hT, hlt⟩
  have hrb : rb < w.heap.size := h1.lt
  clear h1 hT hlt
  go_enter Try.func25, Try.ntmps25
  go_wp2_with fail
  go_loopw [5, 6] (fun u t wr => ∃ i m p c', i ≤ n ∧ u = .slice p m c' ∧ t = .int .i64 (i : Nat) ∧ Hid (XdS w wr rb q n c D now (.slice p m c') i)) (fun _ t _ => n - (intOf t).toNat)
  case atStart => exact ⟨0, 0, none, 0, Nat.zero_le _, rfl, rfl, HR.out.cell, by rw [em_zero]; exact HR.out.row, GRow.nil _ _ _ _ _, Kp.refl _ _, fun j q => by cases q⟩
  case round =>
    obtain ⟨i, m, p, c', hi, rfl, rfl, HI⟩ := hrel
    have e0 := c1 HI.out.cell
    by_cases hlt : i < n
    · obtain ⟨y, hy⟩ : ∃ y, D[i]? = some y := ⟨D[i]'(by have := HN.out; omega), List.getElem?_eq_getElem _⟩
      have hy2 := (em_at (now := now) (show i < D.length by have := HN.out; omega)).trans hy
      obtain ⟨g, rfl⟩ := HI.out.row.some hy2
      obtain ⟨x0, x1, x2, x3, x4, x5, x6, x7⟩ := HI.out.row.cells hy2
      have hii : (i : Int) < (n : Int) := by omega
      have HY : Hid (D[i]? = some y) := hy
      have hok := HR.out.ok y (List.mem_of_getElem? hy)
      have hw : IntKind.i64.wrap (y.sn + 10) = y.sn + 10 := by have := hok.2.2.2; rw [IntKind.wrap_i64]; omega
      have HM : Hid ((((D.take i).filter (Nd.lost now)).map Nd.k).length = m ∧ m + 1 ≤ 4096) := by
        have h1 : m = (((D.take i).filter (Nd.lost now)).map Nd.k).length := HI.out.out.len
        have h2 := List.length_filter_le (Nd.lost now) (D.take i)
        rw [List.length_take] at h2
        rw [List.length_map] at h1 ⊢
        exact ⟨h1.symm, by omega⟩
      have f7 := HI.out.row.fz (i * 8 + 7)
      have hgw : g < w.heap.size := HQ.out g rfl
      have hne : Hid (rb ≠ g) := fun e => HR.out.ne e.symm
      have HS : Hid (w.heap.size ≤ wr.heap.size) := HI.out.kp.size
      clear hy hy2 hok
      cases hl : y.lv with
      | false =>
        have I6 : Hid (XdS w wr rb (some ⟨g, 0, none⟩) n c D now (.slice p m c') (i + 1)) := HI.out.skip HY.out (by unfold Nd.lost; rw [hl]; rfl)
        rw [hl] at x7
        clear hl HI
        go_wp2_with fail
        exact ⟨⟨i + 1, m, p, c', by omega, rfl, by simp, I6.out⟩, by simp [intOf]; omega⟩
      | true =>
        by_cases hle : y.sn + 10 ≤ now
        · have hlo : y.lost now = true := by unfold Nd.lost; rw [hl, Bool.true_and]; exact decide_eq_true hle
          have HL : Hid (y.lost now = true) := hlo
          have HF : Hid _ := HI.out.off hgw HY.out hlo hne.out
          have HU : Hid (∀ j, (Value.slice p m c').ownBlock = some j → w.heap.size ≤ j) := HI.out.un
          rw [hl] at x7
          have hgr : g < wr.heap.size := by have := HS.out; omega
          clear hl HI hlo
          go_upto_region 7 with fail
          clear x0 x1 x2 x3 x4 x5 x6 x7 f7 e0
          generalize wr.setCell ⟨g, i * 8 + 7, none⟩ (.bool false) = W at *
          have e0 := c1 HF.out.1
          have hy2 := (em_at (now := now) (D := D.map id) (i := i))
          have y0 : W.cell? ⟨g, i * 8, none⟩ = some (.string y.nm) := by
            obtain ⟨z, hz⟩ : ∃ z, (em now D (i + 1))[i]? = some z := by
              rw [← em_next HY.out]
              exact ⟨_, List.getElem?_set_self (by unfold em; have := (List.getElem?_eq_some_iff.1 HY.out).1; simp; omega)⟩
            have hz2 : z = y.exp now := by
              rw [← em_next HY.out, List.getElem?_set_self (by unfold em; have := (List.getElem?_eq_some_iff.1 HY.out).1; simp; omega)] at hz
              exact (Option.some.inj hz).symm
            have h3 := (HF.out.2.1.cells hz).1
            rw [hz2] at h3
            have : (y.exp now).nm = y.nm := by unfold Nd.exp Nd.off; split <;> rfl
            rwa [this] at h3
          clear hy2
          have z9 : (W.alloc (.cells #[.string y.nm] 9)).cell? ⟨W.heap.size, 0, none⟩ = some (.string y.nm) := by rw [cell_of new0]; rfl
          have b5 : Hid (Below W.heap.size W (W.alloc (.cells #[.string y.nm] 9))) := (Below.refl _ _).alloc (Nat.le_refl _) _
          have HU5 : Hid (SR (W.alloc (.cells #[.string y.nm] 9)) (.slice p m c') (((D.take i).filter (Nd.lost now)).map Nd.k)) := HF.out.2.2.1.below b5.out
          go_wp2_with (at_builtin; refine append_s rfl _ _ rfl (.slice p m c') (((D.take i).filter (Nd.lost now)).map Nd.k) m HM.out.1 rfl HU5.out W.heap.size y.nm rfl z9 HM.out.2 ?_; intro u' w6 h1 h2 h4; have I6 : Hid _ := XdS.put HF.out.1 HF.out.2.1 HF.out.2.2.2 HU.out HQ.out hrb HY.out HL.out b5.out h1 h2 h4; obtain ⟨p3, c3, rfl⟩ := h1.shape; rw [List.length_append, HM.out.1])
          refine ⟨⟨i + 1, m + 1, p3, c3, by omega, rfl, by simp, ?_⟩, ?_⟩
          · have h6 := I6.out
            rw [List.length_append, HM.out.1] at h6
            exact h6
          · simp [intOf]
            omega
        · have I6 : Hid (XdS w wr rb (some ⟨g, 0, none⟩) n c D now (.slice p m c') (i + 1)) := HI.out.skip HY.out (by unfold Nd.lost; rw [hl, Bool.true_and]; exact decide_eq_false hle)
          rw [hl] at x7
          have hle2 : now < y.sn + 10 := by omega
          clear hl HI hle
          go_wp2_with fail
          exact ⟨⟨i + 1, m, p, c', by omega, rfl, by simp, I6.out⟩, by simp [intOf]; omega⟩
    · obtain rfl : i = n := by omega
      have hii : ¬ (i : Int) < (i : Int) := by omega
      have HE : Hid (m = (expN D now).length ∧ SR wr (.slice p m c') ((expN D now).map Nd.k) ∧ Ref wr T rb (expR D now) ∧ Step T T w wr ∧ ∀ j, (Value.slice p m c').ownBlock = some j → w.heap.size ≤ j) := by
        have h1 := HI.out.out
        have h2 := HI.out.row
        rw [HN.out, em_all] at h2
        rw [List.take_of_length_le (by have := HN.out; omega)] at h1
        have h3 : m = (((D.filter (Nd.lost now))).map Nd.k).length := h1.len
        rw [List.length_map] at h3
        rw [← HN.out] at h2
        have hD := HR.out
        refine ⟨h3, h1, ⟨⟨q, i, c, ⟨HI.out.cell, h2, srt_exp hD.srt now, by unfold expR; rw [List.length_map]; exact hD.len, fun y hy => ?_⟩, HT.out.1⟩, fun k hk => Nat.lt_of_lt_of_le (HT.out.2 k hk) HI.out.kp.size⟩, ⟨HI.out.kp.mono fun k _ e => HT.out.1 k (.inr e), fun _ h => .inl h⟩, HI.out.un⟩
        obtain ⟨z, hz, rfl⟩ := List.mem_map.1 hy
        have := hD.ok z hz
        unfold Nd.exp
        split
        · exact this
        · exact this
      clear HI HR HN HT HQ
      go_wp2_with fail
      go_ret
      exact ⟨p, m, c', rfl, HE.out⟩
end Go.Proofs.Ytihjmigjphljnaa
