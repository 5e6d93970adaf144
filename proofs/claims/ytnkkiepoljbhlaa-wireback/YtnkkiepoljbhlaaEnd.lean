/-
  Lists as bytes: addList of numbers, of texts, of vectors.
-/
import Derived.Test.YtnkkiepoljbhlaaEnc
import Derived.Test.YtnkkiepoljbhlaaLst
import Derived.Test.YtnkkiepoljbhlaaFmj
namespace Go.Proofs.Ytnkkiepoljbhlaa
open Go.RowKit

def numI (x : Int) : List UInt8 := num x.toNat
def txtB (s : ByteArray) : List UInt8 := num s.size ++ s.data.toList
def vecB (v : V4) : List UInt8 := nums [v.a.toNat, v.b.toNat, v.c.toNat, v.d.toNat]
def V4.pos (v : V4) : Prop := 0 ≤ v.a ∧ v.a < 9223372036854775808 ∧ 0 ≤ v.b ∧ v.b < 9223372036854775808 ∧ 0 ≤ v.c ∧ v.c < 9223372036854775808 ∧ 0 ≤ v.d ∧ v.d < 9223372036854775808
theorem fl_take {α : Type} (f : α → List UInt8) {L : List α} {k : Nat} {x : α} (h : L[k]? = some x) : (L.take (k + 1)).flatMap f = (L.take k).flatMap f ++ f x := by
  rw [List.take_add_one, h]
  simp
theorem fl_le {α : Type} (f : α → List UInt8) (L : List α) (k : Nat) : ((L.take k).flatMap f).length ≤ (L.flatMap f).length := by
  have h : L.flatMap f = (L.take k).flatMap f ++ (L.drop k).flatMap f := by rw [← List.flatMap_append, List.take_append_drop]
  rw [h, List.length_append]
  omega
theorem addNum1 (B : Nat) (x : Int) (k : Nat) (q : Option Addr) (c : Nat) (l : List UInt8) (w : World) (hx : 0 ≤ x ∧ x < 9223372036854775808) (hown : Own w B (.slice q k c) l) (hB : B ≤ w.heap.size) (hl : k ≤ 70368744177664) :
    Calls Try.prog 48 #[.slice q k c, .int .i64 x] w fun e w' => ∃ q' k' c', e = .returned (.slice q' k' c') ∧ Own w' B (.slice q' k' c') (l ++ numI x) ∧ Bw B w w' := by
  have h := addNumber_anyN B x.toNat k q c l w (by omega) hown hB hl
  rwa [Int.toNat_of_nonneg hx.1] at h
theorem refNum1 (B : Nat) (x : Int) (k : Nat) (q : Option Addr) (c : Nat) (l : List UInt8) (w : World) (hx : 0 ≤ x ∧ x < 9223372036854775808) (hown : Own w B (.slice q k c) l) (hB : B ≤ w.heap.size) (hl : k ≤ 70368744177664) :
    Calls Try.prog 24 #[.slice q k c, .int .i64 x] w fun e w' => ∃ q' k' c', e = .returned (.slice q' k' c') ∧ Own w' B (.slice q' k' c') (l ++ numI x) ∧ Bw B w w' := by
  have h := refNumber_anyN B x.toNat k q c l w (by omega) hown hB hl
  rwa [Int.toNat_of_nonneg hx.1] at h
theorem addTxt1 (B k : Nat) (q : Option Addr) (c : Nat) (l : List UInt8) (s : ByteArray) (w : World) (hown : Own w B (.slice q k c) l) (hB : B ≤ w.heap.size) (hl : k ≤ 35184372088832) (hs : s.size ≤ 35184372088832) :
    Calls Try.prog 47 #[.slice q k c, .string s] w fun e w' => ∃ q' k' c', e = .returned (.slice q' k' c') ∧ Own w' B (.slice q' k' c') (l ++ txtB s) ∧ Bw B w w' := by
  have h := addText_anyN B k q c l s w hown hB hl hs
  rw [List.append_assoc] at h
  exact h
theorem refTxt1 (B k : Nat) (q : Option Addr) (c : Nat) (l : List UInt8) (s : ByteArray) (w : World) (hown : Own w B (.slice q k c) l) (hB : B ≤ w.heap.size) (hl : k ≤ 35184372088832) (hs : s.size ≤ 35184372088832) :
    Calls Try.prog 23 #[.slice q k c, .string s] w fun e w' => ∃ q' k' c', e = .returned (.slice q' k' c') ∧ Own w' B (.slice q' k' c') (l ++ txtB s) ∧ Bw B w w' := by
  have h := refText_anyN B k q c l s w hown hB hl hs
  rw [List.append_assoc] at h
  exact h
theorem addVec1 (B n : Nat) (q : Option Addr) (cp : Nat) (l : List UInt8) (v : V4) (w : World) (hv : v.pos) (hown : Own w B (.slice q n cp) l) (hB : B ≤ w.heap.size) (hl : n ≤ 35184372088832) :
    Calls Try.prog 49 #[.slice q n cp, .agg #[.int .i64 v.a, .int .i64 v.b, .int .i64 v.c, .int .i64 v.d]] w fun e w' => ∃ q' k' c', e = .returned (.slice q' k' c') ∧ Own w' B (.slice q' k' c') (l ++ vecB v) ∧ Bw B w w' := by
  obtain ⟨h1, h2, h3, h4, h5, h6, h7, h8⟩ := hv
  have h := addVec B n q cp l v.a.toNat v.b.toNat v.c.toNat v.d.toNat w (by omega) (by omega) (by omega) (by omega) hown hB hl
  rwa [Int.toNat_of_nonneg h1, Int.toNat_of_nonneg h3, Int.toNat_of_nonneg h5, Int.toNat_of_nonneg h7] at h
theorem refVec1 (B n : Nat) (q : Option Addr) (cp : Nat) (l : List UInt8) (v : V4) (w : World) (hv : v.pos) (hown : Own w B (.slice q n cp) l) (hB : B ≤ w.heap.size) (hl : n ≤ 35184372088832) :
    Calls Try.prog 25 #[.slice q n cp, .agg #[.int .i64 v.a, .int .i64 v.b, .int .i64 v.c, .int .i64 v.d]] w fun e w' => ∃ q' k' c', e = .returned (.slice q' k' c') ∧ Own w' B (.slice q' k' c') (l ++ vecB v) ∧ Bw B w w' := by
  obtain ⟨h1, h2, h3, h4, h5, h6, h7, h8⟩ := hv
  have h := refVec B n q cp l v.a.toNat v.b.toNat v.c.toNat v.d.toNat w (by omega) (by omega) (by omega) (by omega) hown hB hl
  rwa [Int.toNat_of_nonneg h1, Int.toNat_of_nonneg h3, Int.toNat_of_nonneg h5, Int.toNat_of_nonneg h7] at h
set_option maxHeartbeats 2000000 in
set_option maxRecDepth 100000 in
theorem addInts (B n : Nat) (q : Option Addr) (cp : Nat) (l : List UInt8) (L : List Int) (qa : Option Addr) (m ca : Nat) (w : World) (hm : L.length = m) (h1 : m ≤ 1000) (hL : ∀ W, Bw B w W → LiesV W qa (intsV L)) (hx : ∀ x ∈ L, 0 ≤ x ∧ x < 9223372036854775808) (hown : Own w B (.slice q n cp) l) (hB : B ≤ w.heap.size) (hl : n + 10 + (L.flatMap numI).length ≤ 35184372088832) :
    Calls Try.prog 70 #[.slice q n cp, .slice qa m ca, .func (.func 48) #[] #[]] w fun e w' => ∃ q' k' c', e = .returned (.slice q' k' c') ∧ Own w' B (.slice q' k' c') (l ++ num m ++ L.flatMap numI) ∧ Bw B w w' := by
  have h1' : (m : Int) ≤ 1000 := by omega
  have HM : Hid (L.length = m ∧ m ≤ 1000 ∧ (∀ W, Bw B w W → LiesV W qa (intsV L)) ∧ (∀ x ∈ L, 0 ≤ x ∧ x < 9223372036854775808) ∧ B ≤ w.heap.size ∧ l.length + 10 + (L.flatMap numI).length ≤ 35184372088832) := ⟨hm, h1, hL, hx, hB, by rw [(own_parts hown).2.2]; exact hl⟩
  have H48 : Hid (Calls Try.prog 48 #[.slice q n cp, .int .i64 m] w fun e w' => ∃ q' k' c', e = .returned (.slice q' k' c') ∧ Hid (Own w' B (.slice q' k' c') (l ++ num m) ∧ Bw B w w')) := addNumber_anyN B m n q cp l w (by omega) hown hB (by omega)
  clear hm h1 hL hx hown hB hl
  go_enter Try.func70, Try.ntmps70
  go_upto_region 2 with (go_at_call 48; refine H48.out.mono ?_; rintro e w1 ⟨q1, n1, c1, rfl, h1⟩)
  clear H48
  go_wp2_with fail
  go_loopw [0, 15] (fun bv iv wr => ∃ (k j : Nat) (q' : Option Addr) (c' : Nat), iv = .int .i64 k ∧ bv = .slice q' j c' ∧ Hid (k ≤ m ∧ Own wr B (.slice q' j c') (l ++ num m ++ (L.take k).flatMap numI) ∧ Bw B w wr)) (fun _ iv _ => m - (intOf iv).toNat)
  case atStart => exact ⟨0, n1, q1, c1, rfl, rfl, Nat.zero_le _, by simpa using h1.out.1, h1.out.2⟩
  case round =>
    clear h1
    obtain ⟨k, j, q', c', rfl, rfl, HK⟩ := hrel
    by_cases hk : k < m
    · have hk' : (k : Int) < (m : Int) := by omega
      obtain ⟨x, hx⟩ : ∃ x, L[k]? = some x := ⟨L[k]'(by have := HM.out.1; omega), List.getElem?_eq_getElem _⟩
      obtain ⟨g, o, eq1, row⟩ : ∃ g o, qa = some ⟨g, o, none⟩ ∧ RowV wr g o (intsV L) := by
        rcases HM.out.2.2.1 wr HK.out.2.2 with h | h
        · exfalso
          have := ints_get hx
          rw [h] at this
          simp at this
        · exact h
      have t0 := row k _ (ints_get hx)
      have HE : Hid (Calls Try.prog 48 #[.slice q' j c', .int .i64 x] wr fun e w' => ∃ q2 k2 c2, e = .returned (.slice q2 k2 c2) ∧ Hid (k + 1 ≤ m ∧ Own w' B (.slice q2 k2 c2) (l ++ num m ++ (L.take (k + 1)).flatMap numI) ∧ Bw B w w')) := by
        have g1 := (own_parts HK.out.2.1).2.2
        have g2 := fl_le numI L k
        have g3 := num_length m
        have g4 := HM.out.2.2.2.2
        have g5 := HM.out.2.2.2.1 x (List.mem_of_getElem? hx)
        rw [List.length_append, List.length_append] at g1
        refine (addNum1 B x j q' c' _ wr g5 HK.out.2.1 (Nat.le_trans g4.1 HK.out.2.2.size) (by omega)).mono ?_
        rintro e w' ⟨q2, k2, c2, rfl, o2, b2⟩
        refine ⟨q2, k2, c2, rfl, hk, ?_, HK.out.2.2.trans b2⟩
        rw [fl_take numI hx, ← List.append_assoc]
        exact o2
      have Hk : Hid (k < m) := hk
      subst eq1
      clear hx row HK hk
      go_wp2_with (go_at_call 48; refine HE.out.mono ?_; rintro e w2 ⟨q2, k2, c2, rfl, h2⟩)
      have := Hk.out
      refine ⟨⟨k + 1, k2, q2, c2, by simp, rfl, h2.out⟩, ?_⟩
      simp [intOf]
      omega
    · have hk' : ¬ (k : Int) < (m : Int) := by omega
      have hk2 : decide ((k : Int) < (m : Int)) = false := decide_eq_false hk'
      have HF : Hid (Own wr B (.slice q' j c') (l ++ num m ++ L.flatMap numI) ∧ Bw B w wr) := by
        have h := HK.out
        rw [List.take_of_length_le (by have := HM.out.1; omega)] at h
        exact h.2
      clear HK hk
      go_wp2_with fail
      go_ret
      exact ⟨q', j, c', rfl, by simpa only [List.append_assoc] using HF.out.1, HF.out.2⟩
set_option maxHeartbeats 2000000 in
set_option maxRecDepth 100000 in
theorem addTexts (B n : Nat) (q : Option Addr) (cp : Nat) (l : List UInt8) (L : List ByteArray) (qa : Option Addr) (m ca : Nat) (w : World) (hm : L.length = m) (h1 : m ≤ 1000) (hL : ∀ W, Bw B w W → LiesV W qa (textsV L)) (hx : ∀ x ∈ L, x.size ≤ 35184372088832) (hown : Own w B (.slice q n cp) l) (hB : B ≤ w.heap.size) (hl : n + 10 + (L.flatMap txtB).length ≤ 35184372088832) :
    Calls Try.prog 51 #[.slice q n cp, .slice qa m ca, .func (.func 47) #[] #[]] w fun e w' => ∃ q' k' c', e = .returned (.slice q' k' c') ∧ Own w' B (.slice q' k' c') (l ++ num m ++ L.flatMap txtB) ∧ Bw B w w' := by
  have h1' : (m : Int) ≤ 1000 := by omega
  have HM : Hid (L.length = m ∧ m ≤ 1000 ∧ (∀ W, Bw B w W → LiesV W qa (textsV L)) ∧ (∀ x ∈ L, x.size ≤ 35184372088832) ∧ B ≤ w.heap.size ∧ l.length + 10 + (L.flatMap txtB).length ≤ 35184372088832) := ⟨hm, h1, hL, hx, hB, by rw [(own_parts hown).2.2]; exact hl⟩
  have H48 : Hid (Calls Try.prog 48 #[.slice q n cp, .int .i64 m] w fun e w' => ∃ q' k' c', e = .returned (.slice q' k' c') ∧ Hid (Own w' B (.slice q' k' c') (l ++ num m) ∧ Bw B w w')) := addNumber_anyN B m n q cp l w (by omega) hown hB (by omega)
  clear hm h1 hL hx hown hB hl
  go_enter Try.func51, Try.ntmps51
  go_upto_region 2 with (go_at_call 48; refine H48.out.mono ?_; rintro e w1 ⟨q1, n1, c1, rfl, h1⟩)
  clear H48
  go_wp2_with fail
  go_loopw [0, 15] (fun bv iv wr => ∃ (k j : Nat) (q' : Option Addr) (c' : Nat), iv = .int .i64 k ∧ bv = .slice q' j c' ∧ Hid (k ≤ m ∧ Own wr B (.slice q' j c') (l ++ num m ++ (L.take k).flatMap txtB) ∧ Bw B w wr)) (fun _ iv _ => m - (intOf iv).toNat)
  case atStart => exact ⟨0, n1, q1, c1, rfl, rfl, Nat.zero_le _, by simpa using h1.out.1, h1.out.2⟩
  case round =>
    clear h1
    obtain ⟨k, j, q', c', rfl, rfl, HK⟩ := hrel
    by_cases hk : k < m
    · have hk' : (k : Int) < (m : Int) := by omega
      obtain ⟨x, hx⟩ : ∃ x, L[k]? = some x := ⟨L[k]'(by have := HM.out.1; omega), List.getElem?_eq_getElem _⟩
      obtain ⟨g, o, eq1, row⟩ : ∃ g o, qa = some ⟨g, o, none⟩ ∧ RowV wr g o (textsV L) := by
        rcases HM.out.2.2.1 wr HK.out.2.2 with h | h
        · exfalso
          have := texts_get hx
          rw [h] at this
          simp at this
        · exact h
      have t0 := row k _ (texts_get hx)
      have HE : Hid (Calls Try.prog 47 #[.slice q' j c', .string x] wr fun e w' => ∃ q2 k2 c2, e = .returned (.slice q2 k2 c2) ∧ Hid (k + 1 ≤ m ∧ Own w' B (.slice q2 k2 c2) (l ++ num m ++ (L.take (k + 1)).flatMap txtB) ∧ Bw B w w')) := by
        have g1 := (own_parts HK.out.2.1).2.2
        have g2 := fl_le txtB L k
        have g3 := num_length m
        have g4 := HM.out.2.2.2.2
        have g5 := HM.out.2.2.2.1 x (List.mem_of_getElem? hx)
        rw [List.length_append, List.length_append] at g1
        refine (addTxt1 B j q' c' _ x wr HK.out.2.1 (Nat.le_trans g4.1 HK.out.2.2.size) (by omega) g5).mono ?_
        rintro e w' ⟨q2, k2, c2, rfl, o2, b2⟩
        refine ⟨q2, k2, c2, rfl, hk, ?_, HK.out.2.2.trans b2⟩
        rw [fl_take txtB hx, ← List.append_assoc]
        exact o2
      have Hk : Hid (k < m) := hk
      subst eq1
      clear hx row HK hk
      go_wp2_with (go_at_call 47; refine HE.out.mono ?_; rintro e w2 ⟨q2, k2, c2, rfl, h2⟩)
      have := Hk.out
      refine ⟨⟨k + 1, k2, q2, c2, by simp, rfl, h2.out⟩, ?_⟩
      simp [intOf]
      omega
    · have hk' : ¬ (k : Int) < (m : Int) := by omega
      have hk2 : decide ((k : Int) < (m : Int)) = false := decide_eq_false hk'
      have HF : Hid (Own wr B (.slice q' j c') (l ++ num m ++ L.flatMap txtB) ∧ Bw B w wr) := by
        have h := HK.out
        rw [List.take_of_length_le (by have := HM.out.1; omega)] at h
        exact h.2
      clear HK hk
      go_wp2_with fail
      go_ret
      exact ⟨q', j, c', rfl, by simpa only [List.append_assoc] using HF.out.1, HF.out.2⟩
set_option maxHeartbeats 2000000 in
set_option maxRecDepth 100000 in
theorem addVecs (B n : Nat) (q : Option Addr) (cp : Nat) (l : List UInt8) (L : List V4) (qa : Option Addr) (m ca : Nat) (w : World) (hm : L.length = m) (h1 : m ≤ 1000) (hL : ∀ W, Bw B w W → LiesV W qa (flat L)) (hx : ∀ x ∈ L, x.pos) (hown : Own w B (.slice q n cp) l) (hB : B ≤ w.heap.size) (hl : n + 10 + (L.flatMap vecB).length ≤ 35184372088832) :
    Calls Try.prog 71 #[.slice q n cp, .slice qa m ca, .func (.func 49) #[] #[]] w fun e w' => ∃ q' k' c', e = .returned (.slice q' k' c') ∧ Own w' B (.slice q' k' c') (l ++ num m ++ L.flatMap vecB) ∧ Bw B w w' := by
  have h1' : (m : Int) ≤ 1000 := by omega
  have HM : Hid (L.length = m ∧ m ≤ 1000 ∧ (∀ W, Bw B w W → LiesV W qa (flat L)) ∧ (∀ x ∈ L, x.pos) ∧ B ≤ w.heap.size ∧ l.length + 10 + (L.flatMap vecB).length ≤ 35184372088832) := ⟨hm, h1, hL, hx, hB, by rw [(own_parts hown).2.2]; exact hl⟩
  have H48 : Hid (Calls Try.prog 48 #[.slice q n cp, .int .i64 m] w fun e w' => ∃ q' k' c', e = .returned (.slice q' k' c') ∧ Hid (Own w' B (.slice q' k' c') (l ++ num m) ∧ Bw B w w')) := addNumber_anyN B m n q cp l w (by omega) hown hB (by omega)
  clear hm h1 hL hx hown hB hl
  go_enter Try.func71, Try.ntmps71
  go_upto_region 2 with (go_at_call 48; refine H48.out.mono ?_; rintro e w1 ⟨q1, n1, c1, rfl, h1⟩)
  clear H48
  go_wp2_with fail
  go_loopw [0, 15] (fun bv iv wr => ∃ (k j : Nat) (q' : Option Addr) (c' : Nat), iv = .int .i64 k ∧ bv = .slice q' j c' ∧ Hid (k ≤ m ∧ Own wr B (.slice q' j c') (l ++ num m ++ (L.take k).flatMap vecB) ∧ Bw B w wr)) (fun _ iv _ => m - (intOf iv).toNat)
  case atStart => exact ⟨0, n1, q1, c1, rfl, rfl, Nat.zero_le _, by simpa using h1.out.1, h1.out.2⟩
  case round =>
    clear h1
    obtain ⟨k, j, q', c', rfl, rfl, HK⟩ := hrel
    by_cases hk : k < m
    · have hk' : (k : Int) < (m : Int) := by omega
      obtain ⟨x, hx⟩ : ∃ x, L[k]? = some x := ⟨L[k]'(by have := HM.out.1; omega), List.getElem?_eq_getElem _⟩
      obtain ⟨g, o, eq1, row⟩ : ∃ g o, qa = some ⟨g, o, none⟩ ∧ RowV wr g o (flat L) := by
        rcases HM.out.2.2.1 wr HK.out.2.2 with h | h
        · exfalso
          have := congrArg List.length h
          rw [flat_length] at this
          have := HM.out.1
          simp only [List.length_nil] at *
          omega
        · exact h
      obtain ⟨t0, t1, t2, t3⟩ := row_vec row hx
      have HE : Hid (Calls Try.prog 49 #[.slice q' j c', .agg #[.int .i64 x.a, .int .i64 x.b, .int .i64 x.c, .int .i64 x.d]] (wr.alloc (.cells #[.int .i64 x.a, .int .i64 x.b, .int .i64 x.c, .int .i64 x.d] 23)) fun e w' => ∃ q2 k2 c2, e = .returned (.slice q2 k2 c2) ∧ Hid (k + 1 ≤ m ∧ Own w' B (.slice q2 k2 c2) (l ++ num m ++ (L.take (k + 1)).flatMap vecB) ∧ Bw B w w')) := by
        have g1 := (own_parts HK.out.2.1).2.2
        have g2 := fl_le vecB L k
        have g3 := num_length m
        have g4 := HM.out.2.2.2.2
        have g5 := HM.out.2.2.2.1 x (List.mem_of_getElem? hx)
        rw [List.length_append, List.length_append] at g1
        refine (addVec1 B j q' c' _ x (wr.alloc (.cells #[.int .i64 x.a, .int .i64 x.b, .int .i64 x.c, .int .i64 x.d] 23)) g5 (HK.out.2.1.keep ((Below.refl _ wr).alloc (Nat.le_refl _) _)) (Nat.le_trans g4.1 (HK.out.2.2.alloc (Nat.le_trans g4.1 HK.out.2.2.size) _).size) (by omega)).mono ?_
        rintro e w' ⟨q2, k2, c2, rfl, o2, b2⟩
        refine ⟨q2, k2, c2, rfl, hk, ?_, (HK.out.2.2.alloc (Nat.le_trans g4.1 HK.out.2.2.size) _).trans b2⟩
        rw [fl_take vecB hx, ← List.append_assoc]
        exact o2
      have Hk : Hid (k < m) := hk
      subst eq1
      clear hx row HK hk
      go_wp2_with (go_at_call 49; refine HE.out.mono ?_; rintro e w2 ⟨q2, k2, c2, rfl, h2⟩)
      have := Hk.out
      refine ⟨⟨k + 1, k2, q2, c2, by simp, rfl, h2.out⟩, ?_⟩
      simp [intOf]
      omega
    · have hk' : ¬ (k : Int) < (m : Int) := by omega
      have hk2 : decide ((k : Int) < (m : Int)) = false := decide_eq_false hk'
      have HF : Hid (Own wr B (.slice q' j c') (l ++ num m ++ L.flatMap vecB) ∧ Bw B w wr) := by
        have h := HK.out
        rw [List.take_of_length_le (by have := HM.out.1; omega)] at h
        exact h.2
      clear HK hk
      go_wp2_with fail
      go_ret
      exact ⟨q', j, c', rfl, by simpa only [List.append_assoc] using HF.out.1, HF.out.2⟩
end Go.Proofs.Ytnkkiepoljbhlaa
