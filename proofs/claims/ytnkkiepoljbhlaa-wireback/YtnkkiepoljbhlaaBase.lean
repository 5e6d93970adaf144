/-
  Rows of bytes, owned or not; the contract of SameBytes.
-/
import Derived.Test.YtnkkiepoljbhlaaPn
import Derived.BigQuiet
import Derived.Deep.QuietTactic
import Derived.Sort.AtCall
import Derived.Laws.AppendOwn
import Derived.Laws.AppendOwnNone
import Derived.OwnWalk
namespace Go.Proofs.Ytnkkiepoljbhlaa
open Go.RowKit

/-- bytes, one behind the other -/
def Row (w : World) (g o : Nat) (l : List UInt8) : Prop := ∀ (k : Nat) (x : UInt8), l[k]? = some x → w.cell? ⟨g, o + k, none⟩ = some (.int .u8 x.toNat)
def Lies (w : World) (a : Option Addr) (l : List UInt8) : Prop := l = [] ∨ ∃ g o, a = some ⟨g, o, none⟩ ∧ Row w g o l

theorem Row.keep {w w1 : World} {g o B : Nat} {l : List UInt8} (b : Below B w w1) (hB : w.heap.size ≤ B) (h : Row w g o l) : Row w1 g o l := fun k x hx => by
  have h0 := h k x hx
  exact (b.cell (Nat.lt_of_lt_of_le (block_lt_of_cell h0) hB)).trans h0
theorem Lies.keep {w w1 : World} {a : Option Addr} {B : Nat} {l : List UInt8} (b : Below B w w1) (hB : w.heap.size ≤ B) (h : Lies w a l) : Lies w1 a l := by
  rcases h with h | ⟨g, o, e, h⟩
  · exact .inl h
  · exact .inr ⟨g, o, e, h.keep b hB⟩

theorem take_snoc {l : List UInt8} {k : Nat} {x : UInt8} (h : l[k]? = some x) : l.take (k + 1) = l.take k ++ [x] := by
  obtain ⟨hk, rfl⟩ := List.getElem?_eq_some_iff.1 h
  exact List.take_succ_eq_append_getElem hk

theorem u8_bd (x : UInt8) : (x.toNat : Int) ≤ 255 := by have := x.toNat_lt; omega

theorem below_drewN {B : Nat} {a w : World} (h : Below B a w) (n : Nat) : Below B a (w.drewN n) := ⟨h.os, h.tape, h.output, h.size, h.block⟩
theorem below_from {B : Nat} {w W w1 : World} (h : Below B w W) (b : Below W.heap.size W w1) (hB : B ≤ W.heap.size) : Below B w w1 := h.trans (b.mono hB)
theorem at_below {W w1 : World} {g : Nat} {o : Obj} {B : Nat} (b : Below B W w1) (hB : W.heap.size ≤ B) (h : W.heap[g]? = some o) : w1.heap[g]? = some o :=
  (b.block g (Nat.lt_of_lt_of_le (Array.getElem?_eq_some_iff.1 h).1 hB)).trans h

theorem ret_b {a b : Bool} (h : a = b) : Ending.returned (.bool a) = .returned (.bool b) := by rw [h]

set_option maxHeartbeats 1000000 in
theorem same_some (l m : List UInt8) (g o g' o' c d n : Nat) (w : World) (hL : Hid (l.length = n)) (hM : Hid (m.length = n)) (hn : n < 1152921504606846976) (hr : Hid (Row w g o l)) (hr' : Hid (Row w g' o' m)) :
    Calls Try.prog 12 #[.slice (some ⟨g, o, none⟩) n c, .slice (some ⟨g', o', none⟩) n d] w fun e w' => e = .returned (.bool (decide (l = m))) ∧ Below w.heap.size w w' := by
  go_enter Try.func12, Try.ntmps12
  go_wp2_with fail
  go_loopw [5] (fun i wr => ∃ k : Nat, k ≤ n ∧ i = .int .i64 k ∧ l.take k = m.take k ∧ Below w.heap.size w wr) (fun i _ => n - (intOf i).toNat)
  case atStart => exact ⟨0, Nat.zero_le _, rfl, by rw [List.take_zero, List.take_zero], Below.refl _ _⟩
  case round =>
    obtain ⟨k, hk, rfl, hq, hb⟩ := hrel
    have HB : Hid (Below w.heap.size w wr) := hb
    have HQ : Hid (l.take k = m.take k) := hq
    clear hb hq
    by_cases hlt : k < n
    · obtain ⟨x, hx⟩ : ∃ x, l[k]? = some x := ⟨l[k]'(by have := hL.out; omega), List.getElem?_eq_getElem _⟩
      obtain ⟨y, hy⟩ : ∃ y, m[k]? = some y := ⟨m[k]'(by have := hM.out; omega), List.getElem?_eq_getElem _⟩
      have h0 := hr.out.keep HB.out (Nat.le_refl _) k x hx
      have h1 := hr'.out.keep HB.out (Nat.le_refl _) k y hy
      have hi : (k : Int) < (n : Int) := by omega
      by_cases hxy : x = y
      · have HN : Hid (l.take (k + 1) = m.take (k + 1)) := by rw [take_snoc hx, take_snoc hy, HQ.out, hxy]; exact rfl
        subst hxy
        clear hx hy
        go_wp2_with fail
        go_quiet (fail)
        go_wp2_with fail
        refine ⟨⟨k + 1, by omega, by go_num, HN.out, below_drewN HB.out _⟩, ?_⟩
        simp [intOf]; omega
      · have hne : ((x.toNat : Int) != (y.toNat : Int)) = true := by
          simp only [bne_iff_ne, ne_eq, Int.natCast_inj]
          exact fun h => hxy (UInt8.toNat_inj.1 h)
        have HF : Hid (decide (l = m) = false) := by
          refine (decide_eq_false fun h => hxy ?_ : decide (l = m) = false)
          rw [h, hy] at hx
          exact (Option.some.inj hx).symm
        clear hx hy hxy
        go_wp2_with fail
        go_quiet (fail)
        go_wp2_with fail
        go_ret
        exact ⟨ret_b HF.out.symm, below_drewN HB.out _⟩
    · have HT : Hid (decide (l = m) = true) := by
        refine (decide_eq_true ?_ : decide (l = m) = true)
        have := HQ.out
        rwa [List.take_of_length_le (by have := hL.out; omega), List.take_of_length_le (by have := hM.out; omega)] at this
      go_wp2_with fail
      go_ret
      exact ⟨ret_b HT.out.symm, HB.out⟩

set_option maxHeartbeats 400000 in
theorem same_len (a b : Option Addr) (n m c d : Nat) (w : World) (hne : ((n : Int) != (m : Int)) = true) :
    Calls Try.prog 12 #[.slice a n c, .slice b m d] w fun e w' => e = .returned (.bool false) ∧ w' = w := by
  go_enter Try.func12, Try.ntmps12
  go_wp2_with fail
  go_ret
  exact ⟨rfl, rfl⟩
set_option maxHeartbeats 400000 in
theorem same_none (a b : Option Addr) (c d : Nat) (w : World) :
    Calls Try.prog 12 #[.slice a 0 c, .slice b 0 d] w fun e w' => e = .returned (.bool true) ∧ w' = w := by
  go_enter Try.func12, Try.ntmps12
  go_wp2_with fail
  go_rounds 1
  go_ret
  exact ⟨rfl, rfl⟩

theorem same_any (l m : List UInt8) (a b : Option Addr) (c d : Nat) (w : World) (hl : l.length < 1152921504606846976) (ha : Lies w a l) (hb : Lies w b m) :
    Calls Try.prog 12 #[.slice a l.length c, .slice b m.length d] w fun e w' => e = .returned (.bool (decide (l = m))) ∧ Below w.heap.size w w' := by
  by_cases hn : l.length = m.length
  · by_cases h0 : l.length = 0
    · obtain rfl := List.eq_nil_of_length_eq_zero h0
      obtain rfl := List.eq_nil_of_length_eq_zero (hn.symm.trans h0)
      refine (same_none a b c d w).mono ?_
      rintro e w' ⟨rfl, rfl⟩
      exact ⟨rfl, Below.refl _ _⟩
    · rcases ha with rfl | ⟨g, o, rfl, ha⟩
      · exact absurd rfl h0
      rcases hb with rfl | ⟨g', o', rfl, hb⟩
      · exact absurd hn h0
      rw [← hn]
      exact same_some l m g o g' o' c d l.length w rfl hn.symm hl ha hb
  · refine (same_len a b _ _ c d w (by simp; omega)).mono ?_
    rintro e w' ⟨rfl, rfl⟩
    exact ⟨ret_b (decide_eq_false fun h => hn (by rw [h])).symm, Below.refl _ _⟩

def bv (l : List UInt8) : List Value := l.map fun x => .int .u8 x.toNat
theorem bv_length (l : List UInt8) : (bv l).length = l.length := List.length_map ..
theorem bv_append (l m : List UInt8) : bv (l ++ m) = bv l ++ bv m := List.map_append
theorem bv_get {l : List UInt8} {k : Nat} {x : UInt8} (h : l[k]? = some x) : (bv l)[k]? = some (.int .u8 x.toNat) := by
  unfold bv; rw [List.getElem?_map, h]; rfl
theorem bv_one (l : List UInt8) : ∀ u ∈ bv l, u.oneCell' = true := by
  intro u hu
  obtain ⟨x, _, rfl⟩ := List.mem_map.1 hu
  rfl

/-- a row of bytes that nobody else has, in a block from B on -/
def Own (w : World) (B : Nat) (v : Value) (l : List UInt8) : Prop := w.ownsRow B 5 1 v l.length (bv l)

theorem Own.nil (w : World) (B : Nat) : Own w B (.slice none 0 0) [] := World.ownsRow_nil w B 5 1
theorem Own.shape {w : World} {B : Nat} {v : Value} {l : List UInt8} (h : Own w B v l) : ∃ a c, v = .slice a l.length c ∧ Lies w a l ∧ (a = none → c = 0) ∧ (∀ g, v.ownBlock = some g → B ≤ g ∧ g < w.heap.size) := by
  have hlt := World.ownsRow.lt h
  rcases h.2 with ⟨rfl, h0⟩ | ⟨g, cap, cur, rfl, _⟩
  · obtain rfl := List.eq_nil_of_length_eq_zero h0
    exact ⟨none, 0, rfl, .inl rfl, fun _ => rfl, hlt⟩
  · refine ⟨some ⟨g, 0, none⟩, cap, rfl, .inr ⟨g, 0, rfl, fun k x hx => ?_⟩, (fun e => by cases e), hlt⟩
    have hc := World.ownsRow.cells h (g := g) rfl k _ (bv_get hx)
    rw [Addr.add_lit, Nat.zero_add] at hc
    rwa [Nat.zero_add]
theorem Own.keep {w w1 : World} {B : Nat} {v : Value} {l : List UInt8} (h : Own w B v l) (b : Below w.heap.size w w1) : Own w1 B v l := by
  refine ⟨h.1, ?_⟩
  rcases h.2 with hn | ⟨g, cap, cur, rfl, hb, hgg, rest⟩
  · exact .inl hn
  · exact .inr ⟨g, cap, cur, rfl, hb, at_below b (Nat.le_refl _) hgg, rest⟩
theorem Own.low {w : World} {B B' : Nat} {v : Value} {l : List UInt8} (h : Own w B v l) (hB : B' ≤ B) : Own w B' v l := by
  refine ⟨h.1, ?_⟩
  rcases h.2 with hn | ⟨g, cap, cur, rfl, hb, rest⟩
  · exact .inl hn
  · exact .inr ⟨g, cap, cur, rfl, Nat.le_trans hB hb, rest⟩

theorem info5 : (Try.prog.info? 5).map (fun i => (i.zero, i.size, i.bytes)) = some (some (.int .u8 0), 1, 1) := by kernel_rfl
theorem info_parts {t : TypeId} {z : Value} {s b : Nat} (h : (Try.prog.info? t).map (fun i => (i.zero, i.size, i.bytes)) = some (some z, s, b)) :
    ∃ i, Try.prog.info? t = some i ∧ i.zero = some z ∧ i.size = s ∧ i.bytes = b := by
  cases hq : Try.prog.info? t with
  | none => simp [hq] at h
  | some i =>
    simp [hq] at h
    exact ⟨i, rfl, h.1, h.2.1, h.2.2⟩

/-- bytes put behind an owned row -/
theorem append_bytes {ops : Array Oper} {rest : List Oper} {o : Oper} {a : Act} {Q : Exit → Act → World → Prop} {w : World} (hgd : o.guard = none) (s x : Operand)
    (ho : o.op = .call { callee := .builtin .append, args := #[s, x], argTypes := #[38, 38] }) (B : Nat) (v : Value) (l m : List UInt8) (hs : a.eval s = v) (hown : Own w B v l)
    (q : Option Addr) (c n : Nat) (hx : a.eval x = .slice q n c) (hn : m.length = n) (hq : q = none → c = 0) (hm : Lies w q m) (hb : l.length + m.length ≤ 140737488355328) (hB : B ≤ w.heap.size)
    (h : ∀ v' w', Own w' B v' (l ++ m) → Below B w w' → wpList Try.prog ops Q rest (a.put o.dst v') w') :
    wpList Try.prog ops Q (o :: rest) a w := by
  obtain ⟨i0, hi, hz0, hz1, hz2⟩ := info_parts info5
  have hlt := World.ownsRow.lt hown
  have fin : ∀ v' w', w'.ownsRow B 5 1 v' (l.length + m.length) (bv l ++ bv m) → w.grownBy w' v.ownBlock → wpList Try.prog ops Q rest (a.put o.dst v') w' := by
    intro v' w' h1 h2
    refine h v' w' ?_ ((Below.refl B w).grown h2 hB fun k hk => (hlt k hk).1)
    unfold Own
    rw [List.length_append, bv_append]
    exact h1
  cases q with
  | none =>
    have hm0 : m = [] := by
      rcases hm with h | ⟨g, o, e, _⟩
      · exact h
      · cases e
    subst hm0
    simp only [List.length_nil] at hn
    subst hn
    rw [hq rfl] at hx
    refine wpList_append_own_none hgd s x 38 ho B 5 i0 1 Try.underlying38 hi v l.length (bv l) hs hown hx ?_
    refine fin v w ?_ (World.grownBy.refl _ _)
    simp only [bv, List.map_nil, List.append_nil, List.length_nil, Nat.add_zero]
    exact hown
  | some ad =>
    subst hn
    refine wpList_append_own _ hgd s x 38 ho B 5 i0 (.int .u8 0) 1 1 Try.underlying38 hi hz0 hz1 hz2 rfl (by decide) v l.length (bv l) hs hown ad m.length c (bv m) hx (by rw [bv_length]; omega)
      (fun j u hu => ?_) (bv_one m) (by unfold maxLen; omega) (by omega) hB (fun v' w' h1 h2 _ => fin v' w' h1 h2)
    rcases hm with rfl | ⟨g, o, e, hr⟩
    · simp [bv] at hu
    · obtain rfl := Option.some.inj e
      unfold bv at hu
      rw [List.getElem?_map, Option.map_eq_some_iff] at hu
      obtain ⟨y, hy, rfl⟩ := hu
      rw [Addr.add_lit]
      exact hr j y hy

theorem own_parts {w : World} {B k : Nat} {q : Option Addr} {c : Nat} {l : List UInt8} (h : Own w B (.slice q k c) l) : Lies w q l ∧ (q = none → c = 0) ∧ l.length = k := by
  obtain ⟨a, c', e, h1, h2, _⟩ := h.shape
  cases e
  exact ⟨h1, h2, rfl⟩

theorem join {x k : Nat} (y : Nat) (hx : x < 2 ^ k) : x ||| (y * 2 ^ k) = x + y * 2 ^ k := by
  rw [Nat.or_comm, ← Nat.shiftLeft_eq, ← Nat.shiftLeft_add_eq_or_of_lt hx, Nat.add_comm]
end Go.Proofs.Ytnkkiepoljbhlaa
