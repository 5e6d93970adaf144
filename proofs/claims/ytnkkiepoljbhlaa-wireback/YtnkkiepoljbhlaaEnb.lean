/-
  Numbers and texts put behind a row, the program's and the reference's, and what stays: every block that is no row of bytes.
-/
import Derived.Test.YtnkkiepoljbhlaaEna
namespace Go.Proofs.Ytnkkiepoljbhlaa
open Go.RowKit

def NB (w w' : World) : Prop := ∀ (j : Nat) (o : Obj), w.heap[j]? = some o → (∀ cs, o ≠ Obj.cells cs 5 (0, 0)) → w'.heap[j]? = some o
structure Bw (B : Nat) (w w' : World) : Prop where
  b : Below B w w'
  n : NB w w'
section
variable {B : Nat} {w w1 w2 : World}
theorem Bw.refl (B : Nat) (w : World) : Bw B w w := ⟨Below.refl _ _, fun _ _ h _ => h⟩
theorem Bw.size (h : Bw B w w1) : w.heap.size ≤ w1.heap.size := h.b.size
theorem Bw.trans (h : Bw B w w1) (h' : Bw B w1 w2) : Bw B w w2 := ⟨h.b.trans h'.b, fun j o e c => h'.n j o (h.n j o e c) c⟩
theorem Bw.alloc (h : Bw B w w1) (hB : B ≤ w1.heap.size) (o : Obj) : Bw B w (w1.alloc o) := ⟨h.b.alloc hB o, fun j o' e c => by
  have h1 := h.n j o' e c
  rw [((Below.refl _ w1).alloc (Nat.le_refl _) o).block j (Array.getElem?_eq_some_iff.1 h1).1]
  exact h1⟩
theorem Bw.of_below (h : Below w.heap.size w w1) (hB : B ≤ w.heap.size) : Bw B w w1 := ⟨h.mono hB, fun j o e _ => by
  rw [h.block j (Array.getElem?_eq_some_iff.1 e).1]
  exact e⟩
theorem Bw.grown {v : Value} {l : List UInt8} (ho : Own w B v l) (hB : B ≤ w.heap.size) (h : w.grownBy w1 v.ownBlock) : Bw B w w1 := by
  have hlt := World.ownsRow.lt ho
  refine ⟨(Below.refl B w).grown h hB fun k hk => (hlt k hk).1, fun j o e c => ?_⟩
  rw [h.block j (Array.getElem?_eq_some_iff.1 e).1 fun q => ?_]
  · exact e
  · rcases ho.2 with ⟨rfl, _⟩ | ⟨g, cap, cur, rfl, _, hg, _⟩
    · cases q
    · have e1 : j = g := Option.some.inj q
      rw [e1, hg] at e
      exact c cur (Option.some.inj e).symm
end
theorem append_bytesN {ops : Array Oper} {rest : List Oper} {o : Oper} {a : Act} {Q : Exit → Act → World → Prop} {w : World} (hgd : o.guard = none) (s x : Operand)
    (ho : o.op = .call { callee := .builtin .append, args := #[s, x], argTypes := #[38, 38] }) (B : Nat) (v : Value) (l m : List UInt8) (hs : a.eval s = v) (hown : Own w B v l)
    (q : Option Addr) (c n : Nat) (hx : a.eval x = .slice q n c) (hn : m.length = n) (hq : q = none → c = 0) (hm : Lies w q m) (hb : l.length + m.length ≤ 140737488355328) (hB : B ≤ w.heap.size)
    (h : ∀ v' w', Own w' B v' (l ++ m) → Bw B w w' → wpList Try.prog ops Q rest (a.put o.dst v') w') :
    wpList Try.prog ops Q (o :: rest) a w := by
  obtain ⟨i0, hi, hz0, hz1, hz2⟩ := info_parts info5
  have fin : ∀ v' w', w'.ownsRow B 5 1 v' (l.length + m.length) (bv l ++ bv m) → w.grownBy w' v.ownBlock → wpList Try.prog ops Q rest (a.put o.dst v') w' := by
    intro v' w' h1 h2
    refine h v' w' ?_ (Bw.grown hown hB h2)
    unfold Own
    rw [List.length_append, bv_append]
    exact h1
  cases q with
  | none =>
    have hm0 : m = [] := by
      rcases hm with h | ⟨g, o, e, _⟩
      · exact h
      · cases e
    subst hm0
    simp only [List.length_nil] at hn
    subst hn
    rw [hq rfl] at hx
    refine wpList_append_own_none hgd s x 38 ho B 5 i0 1 Try.underlying38 hi v l.length (bv l) hs hown hx ?_
    refine fin v w ?_ (World.grownBy.refl _ _)
    simp only [bv, List.map_nil, List.append_nil, List.length_nil, Nat.add_zero]
    exact hown
  | some ad =>
    subst hn
    refine wpList_append_own _ hgd s x 38 ho B 5 i0 (.int .u8 0) 1 1 Try.underlying38 hi hz0 hz1 hz2 rfl (by decide) v l.length (bv l) hs hown ad m.length c (bv m) hx (by rw [bv_length]; omega)
      (fun j u hu => ?_) (bv_one m) (by unfold maxLen; omega) (by omega) hB (fun v' w' h1 h2 _ => fin v' w' h1 h2)
    rcases hm with rfl | ⟨g, o, e, hr⟩
    · simp [bv] at hu
    · obtain rfl := Option.some.inj e
      unfold bv at hu
      rw [List.getElem?_map, Option.map_eq_some_iff] at hu
      obtain ⟨y, hy, rfl⟩ := hu
      rw [Addr.add_lit]
      exact hr j y hy

/-- a text put behind an owned row -/
theorem append_textN {ops : Array Oper} {rest : List Oper} {o : Oper} {a : Act} {Q : Exit → Act → World → Prop} {w : World} (hgd : o.guard = none) (sl x : Operand)
    (ho : o.op = .call { callee := .builtin .append, args := #[sl, x], argTypes := #[38, 9] }) (B : Nat) (v : Value) (l : List UInt8) (hs : a.eval sl = v) (hown : Own w B v l)
    (s : ByteArray) (hx : a.eval x = .string s) (hb : l.length + s.size ≤ 140737488355328) (hB : B ≤ w.heap.size)
    (h : ∀ v' w', Own w' B v' (l ++ s.data.toList) → Bw B w w' → wpList Try.prog ops Q rest (a.put o.dst v') w') :
    wpList Try.prog ops Q (o :: rest) a w := by
  obtain ⟨i0, hi, hz0, hz1, hz2⟩ := info_parts info5
  refine Lib.wpList_append_own_string _ hgd sl x 38 9 ho B 5 i0 Try.underlying38 Try.underlying9 hi hz0 hz1 hz2 v l.length (bv l) hs hown s hx (by unfold maxLen; omega) (by omega) hB ?_
  intro v' w' h1 h2 _
  refine h v' w' ?_ (Bw.grown hown hB h2)
  unfold Own
  rw [List.length_append, bv_append, ← Lib.size_eq]
  exact h1

set_option maxHeartbeats 1000000 in
set_option maxRecDepth 100000 in
theorem addNumber_atN (B n k : Nat) (q : Option Addr) (c : Nat) (l : List UInt8) (w : World) (hn : n < 9223372036854775808) (hk : Hid (l.length = k)) (hown : Hid (Own w B (.slice q k c) l)) (hB : Hid (B ≤ w.heap.size)) (hl : k ≤ 70368744177664) :
    Calls Try.prog 48 #[.slice q k c, .int .i64 n] w fun e w' => ∃ v', e = .returned v' ∧ Own w' B v' (l ++ num n) ∧ Bw B w w' := by
  go_enter Try.func48, Try.ntmps48
  go_wp2_with fail
  go_loopw [0, 1] (fun b v wr => ∃ (m f j : Nat) (d : List UInt8) (q' : Option Addr) (c' : Nat), b = .slice q' j c' ∧ v = .int .i64 m ∧ m ≤ n ∧ m < 128 ^ (f + 1) ∧ d.length + f ≤ 9 ∧ j = k + d.length ∧ d ++ numF (f + 1) m = num n ∧ Own wr B (.slice q' j c') (l ++ d) ∧ Bw B w wr) (fun _ v _ => (intOf v).toNat)
  case atStart => exact ⟨n, 9, k, [], q, c, rfl, rfl, Nat.le_refl _, Nat.lt_trans hn (by decide), by decide, rfl, rfl, by rw [List.append_nil]; exact hown.out, Bw.refl _ _⟩
  case round =>
    obtain ⟨m, f, j, d, q', c', rfl, rfl, hmn, hmf, hdf, hj, hd, ho, hb⟩ := hrel
    have HO : Hid (Own wr B (.slice q' j c') (l ++ d)) := ho
    have HB : Hid (Bw B w wr) := hb
    have HD : Hid (d ++ numF (f + 1) m = num n) := hd
    have HS : Hid (B ≤ wr.heap.size) := Nat.le_trans hB.out hb.size
    have HJ : Hid (j = k + d.length) := hj
    have HL : Hid ((l ++ d).length = j) := by unfold Hid; rw [List.length_append, hk.out, hj]
    have HF : Hid (m < 128 ^ (f + 1)) := hmf
    have hjb : j ≤ 70368744177664 + 9 := by omega
    clear ho hb hd hj hmf
    by_cases h128 : m < 128
    · have hx := low_byte' h128
      have HN : Hid (num n = d ++ [UInt8.ofNat m]) := by rw [← HD.out, numF_low h128]; exact rfl
      have hx2 := low_byte m
      generalize UInt8.ofNat m = x at *
      have hx3 : IntKind.u8.wrap (m : Int) = (x.toNat : Int) := by rw [IntKind.wrap_u8']; omega
      have hgt : decide ((127 : Int) < (m : Int)) = false := decide_eq_false (by omega)
      clear hx hx2 h128
      go_wp2_with (at_builtin; refine append_bytesN (w := wr.alloc (.cells #[.int .u8 x.toNat] 5)) rfl _ _ rfl B (.slice q' j c') (l ++ d) [x] rfl (HO.out.keep ((Below.refl _ wr).alloc (Nat.le_refl _) _)) (some ⟨wr.heap.size, 0, none⟩) 1 1 rfl rfl (fun e => by cases e) lies_one (by rw [HL.out]; simp; omega) (by have := HS.out; simp; omega) ?_; intro v' w' h1 h2)
      go_ret
      refine ⟨v', rfl, ?_, HB.out.trans (((Bw.refl B wr).alloc HS.out _).trans h2)⟩
      rw [HN.out, ← List.append_assoc]
      exact h1
    · obtain ⟨f, rfl⟩ : ∃ f', f = f' + 1 := by
        refine ⟨f - 1, ?_⟩
        rcases Nat.eq_zero_or_pos f with h | h
        · subst h; have := HF.out; simp at this; omega
        · omega
      have hor := or_high m
      have HN : Hid (d ++ [UInt8.ofNat (m % 128 + 128)] ++ numF (f + 1) (m / 128) = num n) := by rw [← HD.out, numF_high h128, List.append_assoc]; exact rfl
      generalize UInt8.ofNat (m % 128 + 128) = x at *
      have hgt : (127 : Int) < (m : Int) := by omega
      have HF2 : Hid (m / 128 < 128 ^ (f + 1)) := by
        have h2 : m < 128 ^ (f + 1) * 128 := by have := HF.out; rwa [Nat.pow_succ] at this
        exact Nat.div_lt_of_lt_mul (by rw [Nat.mul_comm]; exact h2)
      clear h128 HF
      go_wp2_with (at_builtin; refine append_bytesN (w := wr.alloc (.cells #[.int .u8 x.toNat] 5)) rfl _ _ rfl B (.slice q' j c') (l ++ d) [x] rfl (HO.out.keep ((Below.refl _ wr).alloc (Nat.le_refl _) _)) (some ⟨wr.heap.size, 0, none⟩) 1 1 rfl rfl (fun e => by cases e) lies_one (by rw [HL.out]; simp; omega) (by have := HS.out; simp; omega) ?_; intro v' w' h1 h2)
      obtain ⟨q2, c2, rfl, _⟩ := h1.shape
      refine ⟨⟨m / 128, f, (l ++ d ++ [x]).length, d ++ [x], q2, c2, rfl, rfl, by omega, HF2.out, by simp; omega, by have := HL.out; have := HJ.out; simp at *; omega, HN.out, ?_, HB.out.trans (((Bw.refl B wr).alloc HS.out _).trans h2)⟩, ?_⟩
      · rw [← List.append_assoc]; exact h1
      · simp [intOf]; omega

theorem addNumber_anyN (B n k : Nat) (q : Option Addr) (c : Nat) (l : List UInt8) (w : World) (hn : n < 9223372036854775808) (hown : Own w B (.slice q k c) l) (hB : B ≤ w.heap.size) (hl : k ≤ 70368744177664) :
    Calls Try.prog 48 #[.slice q k c, .int .i64 n] w fun e w' => ∃ q' k' c', e = .returned (.slice q' k' c') ∧ Own w' B (.slice q' k' c') (l ++ num n) ∧ Bw B w w' := by
  refine (addNumber_atN B n k q c l w hn (own_parts hown).2.2 hown hB hl).mono ?_
  rintro e w' ⟨v', rfl, h1, h2⟩
  obtain ⟨a, c', rfl, _⟩ := h1.shape
  exact ⟨a, _, c', rfl, h1, h2⟩

set_option maxHeartbeats 400000 in
theorem addText_atN (B k : Nat) (q : Option Addr) (c : Nat) (l : List UInt8) (s : ByteArray) (w : World) (hown : Hid (Own w B (.slice q k c) l)) (hB : Hid (B ≤ w.heap.size)) (hl : k ≤ 35184372088832) (hs : s.size ≤ 35184372088832) :
    Calls Try.prog 47 #[.slice q k c, .string s] w fun e w' => ∃ v', e = .returned v' ∧ Own w' B v' (l ++ num s.size ++ s.data.toList) ∧ Bw B w w' := by
  have H : Hid (Calls Try.prog 48 #[.slice q k c, .int .i64 s.size] w fun e w' => ∃ q' k' c', e = .returned (.slice q' k' c') ∧ Own w' B (.slice q' k' c') (l ++ num s.size) ∧ Bw B w w') := addNumber_anyN B s.size k q c l w (by omega) hown.out hB.out (by omega)
  have HL : Hid ((l ++ num s.size).length ≤ 35184372088832 + 10) := by have := num_length s.size; have := (own_parts hown.out).2.2; unfold Hid; rw [List.length_append]; omega
  go_enter Try.func47, Try.ntmps47
  go_wp2_with (first
    | (go_at_call 48; refine H.out.mono ?_; rintro e w1 ⟨q1, k1, c1, rfl, o1, b1⟩)
    | (at_builtin; refine append_textN rfl _ _ rfl B (.slice q1 k1 c1) (l ++ num s.size) rfl o1 s rfl (by have := HL.out; omega) (Nat.le_trans hB.out b1.size) ?_; intro v' w' h1 h2))
  go_ret
  exact ⟨v', rfl, h1, b1.trans h2⟩

theorem addText_anyN (B k : Nat) (q : Option Addr) (c : Nat) (l : List UInt8) (s : ByteArray) (w : World) (hown : Own w B (.slice q k c) l) (hB : B ≤ w.heap.size) (hl : k ≤ 35184372088832) (hs : s.size ≤ 35184372088832) :
    Calls Try.prog 47 #[.slice q k c, .string s] w fun e w' => ∃ q' k' c', e = .returned (.slice q' k' c') ∧ Own w' B (.slice q' k' c') (l ++ num s.size ++ s.data.toList) ∧ Bw B w w' := by
  refine (addText_atN B k q c l s w hown hB hl hs).mono ?_
  rintro e w' ⟨v', rfl, h1, h2⟩
  obtain ⟨a, c', rfl, _⟩ := h1.shape
  exact ⟨a, _, c', rfl, h1, h2⟩

set_option maxHeartbeats 1000000 in
set_option maxRecDepth 100000 in
theorem refNumber_atN (B n k : Nat) (q : Option Addr) (c : Nat) (l : List UInt8) (w : World) (hn : n < 9223372036854775808) (hk : Hid (l.length = k)) (hown : Hid (Own w B (.slice q k c) l)) (hB : Hid (B ≤ w.heap.size)) (hl : k ≤ 70368744177664) :
    Calls Try.prog 24 #[.slice q k c, .int .i64 n] w fun e w' => ∃ v', e = .returned v' ∧ Own w' B v' (l ++ num n) ∧ Bw B w w' := by
  go_enter Try.func24, Try.ntmps24
  go_wp2_with fail
  go_loopw [0, 1] (fun b v wr => ∃ (m f j : Nat) (d : List UInt8) (q' : Option Addr) (c' : Nat), b = .slice q' j c' ∧ v = .int .i64 m ∧ m ≤ n ∧ m < 128 ^ (f + 1) ∧ d.length + f ≤ 9 ∧ j = k + d.length ∧ d ++ numF (f + 1) m = num n ∧ Own wr B (.slice q' j c') (l ++ d) ∧ Bw B w wr) (fun _ v _ => (intOf v).toNat)
  case atStart => exact ⟨n, 9, k, [], q, c, rfl, rfl, Nat.le_refl _, Nat.lt_trans hn (by decide), by decide, rfl, rfl, by rw [List.append_nil]; exact hown.out, Bw.refl _ _⟩
  case round =>
    obtain ⟨m, f, j, d, q', c', rfl, rfl, hmn, hmf, hdf, hj, hd, ho, hb⟩ := hrel
    have HO : Hid (Own wr B (.slice q' j c') (l ++ d)) := ho
    have HB : Hid (Bw B w wr) := hb
    have HD : Hid (d ++ numF (f + 1) m = num n) := hd
    have HS : Hid (B ≤ wr.heap.size) := Nat.le_trans hB.out hb.size
    have HJ : Hid (j = k + d.length) := hj
    have HL : Hid ((l ++ d).length = j) := by unfold Hid; rw [List.length_append, hk.out, hj]
    have HF : Hid (m < 128 ^ (f + 1)) := hmf
    have hjb : j ≤ 70368744177664 + 9 := by omega
    clear ho hb hd hj hmf
    by_cases h128 : m < 128
    · have hx := low_byte' h128
      have HN : Hid (num n = d ++ [UInt8.ofNat m]) := by rw [← HD.out, numF_low h128]; exact rfl
      have hx2 := low_byte m
      generalize UInt8.ofNat m = x at *
      have hx3 : IntKind.u8.wrap (m : Int) = (x.toNat : Int) := by rw [IntKind.wrap_u8']; omega
      have hgt : decide ((128 : Int) ≤ (m : Int)) = false := decide_eq_false (by omega)
      clear hx hx2 h128
      go_wp2_with (at_builtin; refine append_bytesN (w := wr.alloc (.cells #[.int .u8 x.toNat] 5)) rfl _ _ rfl B (.slice q' j c') (l ++ d) [x] rfl (HO.out.keep ((Below.refl _ wr).alloc (Nat.le_refl _) _)) (some ⟨wr.heap.size, 0, none⟩) 1 1 rfl rfl (fun e => by cases e) lies_one (by rw [HL.out]; simp; omega) (by have := HS.out; simp; omega) ?_; intro v' w' h1 h2)
      go_ret
      refine ⟨v', rfl, ?_, HB.out.trans (((Bw.refl B wr).alloc HS.out _).trans h2)⟩
      rw [HN.out, ← List.append_assoc]
      exact h1
    · obtain ⟨f, rfl⟩ : ∃ f', f = f' + 1 := by
        refine ⟨f - 1, ?_⟩
        rcases Nat.eq_zero_or_pos f with h | h
        · subst h; have := HF.out; simp at this; omega
        · omega
      have hor := rem_high m
      have HN : Hid (d ++ [UInt8.ofNat (m % 128 + 128)] ++ numF (f + 1) (m / 128) = num n) := by rw [← HD.out, numF_high h128, List.append_assoc]; exact rfl
      generalize UInt8.ofNat (m % 128 + 128) = x at *
      have hgt : (128 : Int) ≤ (m : Int) := by omega
      have HF2 : Hid (m / 128 < 128 ^ (f + 1)) := by
        have h2 : m < 128 ^ (f + 1) * 128 := by have := HF.out; rwa [Nat.pow_succ] at this
        exact Nat.div_lt_of_lt_mul (by rw [Nat.mul_comm]; exact h2)
      clear h128 HF
      go_wp2_with (at_builtin; refine append_bytesN (w := wr.alloc (.cells #[.int .u8 x.toNat] 5)) rfl _ _ rfl B (.slice q' j c') (l ++ d) [x] rfl (HO.out.keep ((Below.refl _ wr).alloc (Nat.le_refl _) _)) (some ⟨wr.heap.size, 0, none⟩) 1 1 rfl rfl (fun e => by cases e) lies_one (by rw [HL.out]; simp; omega) (by have := HS.out; simp; omega) ?_; intro v' w' h1 h2)
      obtain ⟨q2, c2, rfl, _⟩ := h1.shape
      refine ⟨⟨m / 128, f, (l ++ d ++ [x]).length, d ++ [x], q2, c2, rfl, rfl, by omega, HF2.out, by simp; omega, by have := HL.out; have := HJ.out; simp at *; omega, HN.out, ?_, HB.out.trans (((Bw.refl B wr).alloc HS.out _).trans h2)⟩, ?_⟩
      · rw [← List.append_assoc]; exact h1
      · simp [intOf]; omega

theorem refNumber_anyN (B n k : Nat) (q : Option Addr) (c : Nat) (l : List UInt8) (w : World) (hn : n < 9223372036854775808) (hown : Own w B (.slice q k c) l) (hB : B ≤ w.heap.size) (hl : k ≤ 70368744177664) :
    Calls Try.prog 24 #[.slice q k c, .int .i64 n] w fun e w' => ∃ q' k' c', e = .returned (.slice q' k' c') ∧ Own w' B (.slice q' k' c') (l ++ num n) ∧ Bw B w w' := by
  refine (refNumber_atN B n k q c l w hn (own_parts hown).2.2 hown hB hl).mono ?_
  rintro e w' ⟨v', rfl, h1, h2⟩
  obtain ⟨a, c', rfl, _⟩ := h1.shape
  exact ⟨a, _, c', rfl, h1, h2⟩

set_option maxHeartbeats 400000 in
theorem refText_atN (B k : Nat) (q : Option Addr) (c : Nat) (l : List UInt8) (s : ByteArray) (w : World) (hown : Hid (Own w B (.slice q k c) l)) (hB : Hid (B ≤ w.heap.size)) (hl : k ≤ 35184372088832) (hs : s.size ≤ 35184372088832) :
    Calls Try.prog 23 #[.slice q k c, .string s] w fun e w' => ∃ v', e = .returned v' ∧ Own w' B v' (l ++ num s.size ++ s.data.toList) ∧ Bw B w w' := by
  have H : Hid (Calls Try.prog 24 #[.slice q k c, .int .i64 s.size] w fun e w' => ∃ q' k' c', e = .returned (.slice q' k' c') ∧ Own w' B (.slice q' k' c') (l ++ num s.size) ∧ Bw B w w') := refNumber_anyN B s.size k q c l w (by omega) hown.out hB.out (by omega)
  have HL : Hid ((l ++ num s.size).length ≤ 35184372088832 + 10) := by have := num_length s.size; have := (own_parts hown.out).2.2; unfold Hid; rw [List.length_append]; omega
  go_enter Try.func23, Try.ntmps23
  go_wp2_with (first
    | (go_at_call 24; refine H.out.mono ?_; rintro e w1 ⟨q1, k1, c1, rfl, o1, b1⟩)
    | (at_builtin; refine append_textN rfl _ _ rfl B (.slice q1 k1 c1) (l ++ num s.size) rfl o1 s rfl (by have := HL.out; omega) (Nat.le_trans hB.out b1.size) ?_; intro v' w' h1 h2))
  go_ret
  exact ⟨v', rfl, h1, b1.trans h2⟩

theorem refText_anyN (B k : Nat) (q : Option Addr) (c : Nat) (l : List UInt8) (s : ByteArray) (w : World) (hown : Own w B (.slice q k c) l) (hB : B ≤ w.heap.size) (hl : k ≤ 35184372088832) (hs : s.size ≤ 35184372088832) :
    Calls Try.prog 23 #[.slice q k c, .string s] w fun e w' => ∃ q' k' c', e = .returned (.slice q' k' c') ∧ Own w' B (.slice q' k' c') (l ++ num s.size ++ s.data.toList) ∧ Bw B w w' := by
  refine (refText_atN B k q c l s w hown hB hl hs).mono ?_
  rintro e w' ⟨v', rfl, h1, h2⟩
  obtain ⟨a, c', rfl, _⟩ := h1.shape
  exact ⟨a, _, c', rfl, h1, h2⟩

end Go.Proofs.Ytnkkiepoljbhlaa
