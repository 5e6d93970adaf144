/-
  Owned rows of bytes; the contracts of four and addFour.
-/
import Derived.Test.YtefidmjekjhdaaaWalkB
import Derived.Laws.AppendOwn
import Derived.Laws.AppendOwnNone
import Derived.OwnWalk
namespace Go.Proofs.Ytefidmjekjhdaaa
open Go.RowKit

def bv (l : List UInt8) : List Value := l.map fun x => .int .u8 x.toNat
theorem bv_length (l : List UInt8) : (bv l).length = l.length := List.length_map ..
theorem bv_append (l m : List UInt8) : bv (l ++ m) = bv l ++ bv m := List.map_append
theorem bv_get {l : List UInt8} {k : Nat} {x : UInt8} (h : l[k]? = some x) : (bv l)[k]? = some (.int .u8 x.toNat) := by
  unfold bv; rw [List.getElem?_map, h]; rfl
theorem bv_one (l : List UInt8) : ∀ u ∈ bv l, u.oneCell' = true := by
  intro u hu
  obtain ⟨x, _, rfl⟩ := List.mem_map.1 hu
  rfl

/-- a row of bytes that nobody else has, in a block from B on -/
def Own (w : World) (B : Nat) (v : Value) (l : List UInt8) : Prop := w.ownsRow B 5 1 v l.length (bv l)

theorem Own.nil (w : World) (B : Nat) : Own w B (.slice none 0 0) [] := World.ownsRow_nil w B 5 1
theorem Own.shape {w : World} {B : Nat} {v : Value} {l : List UInt8} (h : Own w B v l) : ∃ a c, v = .slice a l.length c ∧ Lies w a l ∧ (a = none → c = 0) ∧ (∀ g, v.ownBlock = some g → B ≤ g ∧ g < w.heap.size) := by
  have hlt := World.ownsRow.lt h
  rcases h.2 with ⟨rfl, h0⟩ | ⟨g, cap, cur, rfl, _⟩
  · obtain rfl := List.eq_nil_of_length_eq_zero h0
    exact ⟨none, 0, rfl, .inl rfl, fun _ => rfl, hlt⟩
  · refine ⟨some ⟨g, 0, none⟩, cap, rfl, .inr ⟨g, 0, rfl, fun k x hx => ?_⟩, (fun e => by cases e), hlt⟩
    have hc := World.ownsRow.cells h (g := g) rfl k _ (bv_get hx)
    rw [Addr.add_lit, Nat.zero_add] at hc
    rwa [Nat.zero_add]
theorem Own.keep {w w1 : World} {B : Nat} {v : Value} {l : List UInt8} (h : Own w B v l) (b : Below w.heap.size w w1) : Own w1 B v l := by
  refine ⟨h.1, ?_⟩
  rcases h.2 with hn | ⟨g, cap, cur, rfl, hb, hgg, rest⟩
  · exact .inl hn
  · exact .inr ⟨g, cap, cur, rfl, hb, at_below b (Nat.le_refl _) hgg, rest⟩
theorem Own.low {w : World} {B B' : Nat} {v : Value} {l : List UInt8} (h : Own w B v l) (hB : B' ≤ B) : Own w B' v l := by
  refine ⟨h.1, ?_⟩
  rcases h.2 with hn | ⟨g, cap, cur, rfl, hb, rest⟩
  · exact .inl hn
  · exact .inr ⟨g, cap, cur, rfl, Nat.le_trans hB hb, rest⟩

theorem info5 : (Try.prog.info? 5).map (fun i => (i.zero, i.size, i.bytes)) = some (some (.int .u8 0), 1, 1) := by kernel_rfl
theorem info_parts {t : TypeId} {z : Value} {s b : Nat} (h : (Try.prog.info? t).map (fun i => (i.zero, i.size, i.bytes)) = some (some z, s, b)) :
    ∃ i, Try.prog.info? t = some i ∧ i.zero = some z ∧ i.size = s ∧ i.bytes = b := by
  cases hq : Try.prog.info? t with
  | none => simp [hq] at h
  | some i =>
    simp [hq] at h
    exact ⟨i, rfl, h.1, h.2.1, h.2.2⟩

/-- bytes put behind an owned row -/
theorem append_bytes {ops : Array Oper} {rest : List Oper} {o : Oper} {a : Act} {Q : Exit → Act → World → Prop} {w : World} (hgd : o.guard = none) (s x : Operand)
    (ho : o.op = .call { callee := .builtin .append, args := #[s, x], argTypes := #[22, 22] }) (B : Nat) (v : Value) (l m : List UInt8) (hs : a.eval s = v) (hown : Own w B v l)
    (q : Option Addr) (c n : Nat) (hx : a.eval x = .slice q n c) (hn : m.length = n) (hq : q = none → c = 0) (hm : Lies w q m) (hb : l.length + m.length ≤ 140737488355328) (hB : B ≤ w.heap.size)
    (h : ∀ v' w', Own w' B v' (l ++ m) → Below B w w' → wpList Try.prog ops Q rest (a.put o.dst v') w') :
    wpList Try.prog ops Q (o :: rest) a w := by
  obtain ⟨i0, hi, hz0, hz1, hz2⟩ := info_parts info5
  have hlt := World.ownsRow.lt hown
  have fin : ∀ v' w', w'.ownsRow B 5 1 v' (l.length + m.length) (bv l ++ bv m) → w.grownBy w' v.ownBlock → wpList Try.prog ops Q rest (a.put o.dst v') w' := by
    intro v' w' h1 h2
    refine h v' w' ?_ ((Below.refl B w).grown h2 hB fun k hk => (hlt k hk).1)
    unfold Own
    rw [List.length_append, bv_append]
    exact h1
  cases q with
  | none =>
    have hm0 : m = [] := by
      rcases hm with h | ⟨g, o, e, _⟩
      · exact h
      · cases e
    subst hm0
    simp only [List.length_nil] at hn
    subst hn
    rw [hq rfl] at hx
    refine wpList_append_own_none hgd s x 22 ho B 5 i0 1 Try.underlying22 hi v l.length (bv l) hs hown hx ?_
    refine fin v w ?_ (World.grownBy.refl _ _)
    simp only [bv, List.map_nil, List.append_nil, List.length_nil, Nat.add_zero]
    exact hown
  | some ad =>
    subst hn
    refine wpList_append_own _ hgd s x 22 ho B 5 i0 (.int .u8 0) 1 1 Try.underlying22 hi hz0 hz1 hz2 rfl (by decide) v l.length (bv l) hs hown ad m.length c (bv m) hx (by rw [bv_length]; omega)
      (fun j u hu => ?_) (bv_one m) (by unfold maxLen; omega) (by omega) hB (fun v' w' h1 h2 _ => fin v' w' h1 h2)
    rcases hm with rfl | ⟨g, o, e, hr⟩
    · simp [bv] at hu
    · obtain rfl := Option.some.inj e
      unfold bv at hu
      rw [List.getElem?_map, Option.map_eq_some_iff] at hu
      obtain ⟨y, hy, rfl⟩ := hu
      rw [Addr.add_lit]
      exact hr j y hy

/-- the four bytes of a number, as they are laid -/
def fourC (n : Nat) : Array Value := #[.int .u8 ((n : Int) % 256), .int .u8 ((n : Int) / 256 % 256), .int .u8 ((n : Int) / 65536 % 256), .int .u8 ((n : Int) / 16777216)]
theorem fourC_eq {n : Nat} (hn : n < 4294967296) : (fourC n).toList = bv (Crc.fourB n) := by
  simp only [fourC, bv, Crc.fourB, List.map_cons, List.map_nil, UInt8.toNat_ofNat', List.cons.injEq, Value.int.injEq, true_and, and_true]
  omega
theorem own_four {w : World} {n B : Nat} (hn : n < 4294967296) (hB : B ≤ w.heap.size) : Own (w.alloc (.cells (fourC n) 5)) B (.slice (some ⟨w.heap.size, 0, none⟩) 4 4) (Crc.fourB n) :=
  ⟨rfl, .inr ⟨w.heap.size, 4, fourC n, rfl, hB, new0, Nat.le_refl _, by decide, rfl, by rw [fourC_eq hn]; rfl⟩⟩
theorem lies_four {w : World} {n : Nat} (hn : n < 4294967296) : Lies (w.alloc (.cells (fourC n) 5)) (some ⟨w.heap.size, 0, none⟩) (Crc.fourB n) := by
  obtain ⟨a, c, e, h, _⟩ := (own_four (w := w) (B := 0) hn (Nat.zero_le _)).shape
  cases e
  exact h

set_option maxHeartbeats 400000 in
set_option maxRecDepth 100000 in
theorem addFour_at (B n k : Nat) (q : Option Addr) (c : Nat) (l : List UInt8) (w : World) (hn : n < 4294967296) (hk : Hid (l.length = k)) (hown : Hid (Own w B (.slice q k c) l)) (hB : B ≤ w.heap.size) (hl : k ≤ 70368744177664) :
    Calls Try.prog 14 #[.slice q k c, .int .u32 n] w fun e w' => ∃ v', e = .returned v' ∧ Own w' B v' (l ++ Crc.fourB n) ∧ Below B w w' := by
  go_enter Try.func14, Try.ntmps14
  go_wp2_with (at_builtin; refine append_bytes (w := w.alloc (.cells (fourC n) 5)) rfl _ _ rfl B (.slice q k c) l (Crc.fourB n) rfl (hown.out.keep ((Below.refl _ w).alloc (Nat.le_refl _) _)) (some ⟨w.heap.size, 0, none⟩) 4 4 rfl rfl (fun e => by cases e) (lies_four hn) (by rw [hk.out, Crc.fourB_length]; omega) (by simp; omega) ?_; intro v' w' h1 h2)
  go_ret
  exact ⟨v', rfl, h1, ((Below.refl B w).alloc hB _).trans h2⟩

theorem addFour_any (B n : Nat) (q : Option Addr) (c : Nat) (l : List UInt8) (w : World) (hn : n < 4294967296) (hown : Own w B (.slice q l.length c) l) (hB : B ≤ w.heap.size) (hl : l.length ≤ 70368744177664) :
    Calls Try.prog 14 #[.slice q l.length c, .int .u32 n] w fun e w' => ∃ q' c', e = .returned (.slice q' (l.length + 4 : Nat) c') ∧ Own w' B (.slice q' (l.length + 4 : Nat) c') (l ++ Crc.fourB n) ∧ Below B w w' := by
  refine (addFour_at B n l.length q c l w hn rfl hown hB hl).mono ?_
  rintro e w' ⟨v', rfl, h1, h2⟩
  obtain ⟨a, c', rfl, _⟩ := h1.shape
  rw [List.length_append, Crc.fourB_length] at h1 ⊢
  exact ⟨a, c', rfl, h1, h2⟩

theorem join {x k : Nat} (y : Nat) (hx : x < 2 ^ k) : x ||| (y * 2 ^ k) = x + y * 2 ^ k := by
  rw [Nat.or_comm, ← Nat.shiftLeft_eq, ← Nat.shiftLeft_add_eq_or_of_lt hx, Nat.add_comm]
theorem four_bits (a b c d : UInt8) : bits .or .u32 (bits .or .u32 (bits .or .u32 (a.toNat : Int) ((b.toNat : Int) * 256)) ((c.toNat : Int) * 65536)) ((d.toNat : Int) * 16777216) = ((a.toNat + b.toNat * 256 + c.toNat * 65536 + d.toNat * 16777216 : Nat) : Int) := by
  have := a.toNat_lt
  have := b.toNat_lt
  have := c.toNat_lt
  have := d.toNat_lt
  generalize a.toNat = a at *
  generalize b.toNat = b at *
  generalize c.toNat = c at *
  generalize d.toNat = d at *
  have e1 : bits .or .u32 (a : Int) ((b : Int) * 256) = ((a + b * 256 : Nat) : Int) := by
    rw [show ((b : Int) * 256) = ((b * 256 : Nat) : Int) by omega, u32_or_nat _ _ (by omega) (by omega), ← join (k := 8) b (by omega)]
  rw [e1]
  have e2 : bits .or .u32 ((a + b * 256 : Nat) : Int) ((c : Int) * 65536) = ((a + b * 256 + c * 65536 : Nat) : Int) := by
    rw [show ((c : Int) * 65536) = ((c * 65536 : Nat) : Int) by omega, u32_or_nat _ _ (by omega) (by omega), ← join (k := 16) c (by omega)]
  rw [e2, show ((d : Int) * 16777216) = ((d * 16777216 : Nat) : Int) by omega, u32_or_nat _ _ (by omega) (by omega), ← join (k := 24) d (by omega)]

set_option maxHeartbeats 400000 in
theorem four_at (a b c d : UInt8) (g o k cap r : Nat) (w : World) (hk : 4 ≤ k) (hr : Hid (Row w g o [a, b, c, d])) (hR : bits .or .u32 (bits .or .u32 (bits .or .u32 (a.toNat : Int) ((b.toNat : Int) * 256)) ((c.toNat : Int) * 65536)) ((d.toNat : Int) * 16777216) = (r : Int)) :
    Calls Try.prog 18 #[.slice (some ⟨g, o, none⟩) k cap] w fun e w' => e = .returned (.int .u32 r) ∧ ∃ n, w' = w.drewN n := by
  have h0 := hr.out 0 a rfl
  have h1 := hr.out 1 b rfl
  have h2 := hr.out 2 c rfl
  have h3 := hr.out 3 d rfl
  have ba := u8_bd a
  have bb := u8_bd b
  have bc := u8_bd c
  have bd := u8_bd d
  rw [Nat.add_zero] at h0
  go_enter Try.func18, Try.ntmps18
  go_wp2_with fail
  go_quiet (fail)
  go_wp2_with fail
  go_ret
  exact ⟨rfl, _, rfl⟩

theorem four_any (a b c d : UInt8) (l : List UInt8) (g o k cap : Nat) (w : World) (hk : 4 ≤ k) (hr : Row w g o (a :: b :: c :: d :: l)) :
    Calls Try.prog 18 #[.slice (some ⟨g, o, none⟩) k cap] w fun e w' => e = .returned (.int .u32 (Crc.fourN (a :: b :: c :: d :: l))) ∧ ∃ n, w' = w.drewN n := by
  refine four_at a b c d g o k cap _ w hk (fun j x hx => hr j x ?_) (four_bits a b c d)
  match j, hx with
  | 0, hx => exact hx
  | 1, hx => exact hx
  | 2, hx => exact hx
  | 3, hx => exact hx

set_option maxHeartbeats 400000 in
set_option maxRecDepth 100000 in
theorem rfour_any (n : Nat) (w : World) (hn : n < 4294967296) :
    Calls Try.prog 16 #[.int .u32 n] w fun e w' => ∃ g, e = .returned (.slice (some ⟨g, 0, none⟩) 4 4) ∧ Own w' w.heap.size (.slice (some ⟨g, 0, none⟩) 4 4) (Crc.fourB n) ∧ Below w.heap.size w w' := by
  go_enter Try.func16, Try.ntmps16
  go_wp2_with fail
  go_ret
  exact ⟨w.heap.size, rfl, own_four hn (Nat.le_refl _), (Below.refl _ w).alloc (Nat.le_refl _) _⟩

end Go.Proofs.Ytefidmjekjhdaaa
