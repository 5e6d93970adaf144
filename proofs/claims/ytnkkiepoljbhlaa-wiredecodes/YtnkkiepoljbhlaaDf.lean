/-
  The program's reader: lists.
-/
import Derived.Test.YtnkkiepoljbhlaaDe
import Derived.Test.YtnkkiepoljbhlaaCpy
namespace Go.Proofs.Ytnkkiepoljbhlaa
open Go.RowKit

/-- a number as a signed one; a text as a string -/
def pInt (st : Option (List UInt8)) : Int × Option (List UInt8) := (((pNum st).1 : Nat), (pNum st).2)
def pStr (st : Option (List UInt8)) : ByteArray × Option (List UInt8) := (⟨⟨(pTxt st).1⟩⟩, (pTxt st).2)
/-- so many of them -/
def pRep {α : Type} (f : Option (List UInt8) → α × Option (List UInt8)) : Nat → Option (List UInt8) → List α × Option (List UInt8)
  | 0, st => ([], st)
  | n + 1, st => ((f st).1 :: (pRep f n (f st).2).1, (pRep f n (f st).2).2)
theorem pRep_length {α : Type} (f : Option (List UInt8) → α × Option (List UInt8)) : ∀ (n : Nat) (st : Option (List UInt8)), (pRep f n st).1.length = n
  | 0, _ => rfl
  | n + 1, st => by show _ + 1 = _; rw [pRep_length f n]
/-- while a list is read -/
structure LS (w0 w : World) (rb : Nat) (st : Option (List UInt8)) (e size : Nat) (v : Value) (k : Nat) (xs : List Value) : Prop where
  rd : Rd w rb st
  lt : rb < w0.heap.size
  own : w.ownsRow w0.heap.size e size v k xs
  kp : RdK rb w0 w
theorem LS.start {w : World} {rb : Nat} {st : Option (List UInt8)} (h : Rd w rb st) (e size : Nat) : LS w w rb st e size (.slice none 0 0) 0 [] := ⟨h, h.lt, World.ownsRow_nil w _ e size, RdK.refl rb w⟩
theorem LS.read {w0 w w' : World} {rb : Nat} {st st' : Option (List UInt8)} {e size : Nat} {v : Value} {k : Nat} {xs : List Value} (h : LS w0 w rb st e size v k xs) (hr : Rd w' rb st') (kk : RdK rb w w') : LS w0 w' rb st' e size v k xs := by
  refine ⟨hr, h.lt, ⟨h.own.1, ?_⟩, h.kp.trans kk⟩
  rcases h.own.2 with h1 | ⟨g, cap, cur, h1, h2, h3, h4⟩
  · exact .inl h1
  · have := h.lt
    exact .inr ⟨g, cap, cur, h1, h2, (kk.block g (Array.getElem?_eq_some_iff.1 h3).1 (by omega)).trans h3, h4⟩
theorem LS.alloc {w0 w : World} {rb : Nat} {st : Option (List UInt8)} {e size : Nat} {v : Value} {k : Nat} {xs : List Value} (h : LS w0 w rb st e size v k xs) (o : Obj) : LS w0 (w.alloc o) rb st e size v k xs :=
  have hB : Below w.heap.size w (w.alloc o) := (Below.refl _ w).alloc (Nat.le_refl _) _
  ⟨h.rd.below hB, h.lt, h.own.alloc o, h.kp.trans (RdK.of_below hB)⟩
theorem Rd.under {w w1 : World} {rb B : Nat} {st : Option (List UInt8)} (h : Rd w rb st) (b : Below B w w1) (hr : rb < B) : Rd w1 rb st := by
  cases st with
  | none => exact (b.block rb hr).trans h
  | some l =>
    obtain ⟨p, c, h1, h2⟩ := h
    refine ⟨p, c, (b.block rb hr).trans h1, ?_, h2.nc, h2.bl, h2.cm⟩
    rcases h2.ly with e | ⟨g, o, rfl, hrow⟩
    · exact .inl e
    · refine .inr ⟨g, o, rfl, fun i x hx => ?_⟩
      have h3 := (h2.bl _ rfl).1
      have h1 := hrow i x hx
      unfold World.cell? at h1 ⊢
      rw [b.block g (by simp only at h3; omega)]
      exact h1
theorem LS.grow {w0 w w' : World} {rb : Nat} {st : Option (List UInt8)} {e size : Nat} {v v' : Value} {k k' : Nat} {xs xs' : List Value} (h : LS w0 w rb st e size v k xs) (ho : w'.ownsRow w0.heap.size e size v' k' xs') (b : Below w0.heap.size w w') : LS w0 w' rb st e size v' k' xs' :=
  ⟨h.rd.under b h.lt, h.lt, ho, ⟨b.os.trans h.kp.os, b.tape.trans h.kp.tape, b.output.trans h.kp.output, Nat.le_trans h.kp.size b.size, fun j hj hn => (b.block j hj).trans (h.kp.block j hj hn)⟩⟩
theorem flat_snoc (l : List V4) (x : V4) : flat (l ++ [x]) = flat l ++ [.int .i64 x.a, .int .i64 x.b, .int .i64 x.c, .int .i64 x.d] := by
  induction l with
  | nil => rfl
  | cons v l ih => simp only [List.cons_append, flat, ih]
theorem ints_snoc (l : List Int) (x : Int) : intsV (l ++ [x]) = intsV l ++ [.int .i64 x] := by unfold intsV; rw [List.map_append]; rfl
theorem strs_snoc (l : List ByteArray) (x : ByteArray) : textsV (l ++ [x]) = textsV l ++ [.string x] := by unfold textsV; rw [List.map_append]; rfl
theorem lies_four {w : World} {a b c d : Value} {t : TypeId} : LiesV (w.alloc (.cells #[a, b, c, d] t)) (some ⟨w.heap.size, 0, none⟩) [a, b, c, d] := by
  refine .inr ⟨w.heap.size, 0, rfl, fun j u hj => ?_⟩
  have h : (w.alloc (.cells #[a, b, c, d] t)).heap[w.heap.size]? = some (.cells #[a, b, c, d] t (0, 0)) := new0
  obtain ⟨⟨e0, e1, e2, e3⟩, -⟩ := four_cells h
  match j, hj with
  | 0, hj => cases hj; exact e0
  | 1, hj => cases hj; exact e1
  | 2, hj => cases hj; exact e2
  | 3, hj => cases hj; exact e3
theorem rep_next {α : Type} {f : Option (List UInt8) → α × Option (List UInt8)} {n i : Nat} {st s : Option (List UInt8)} {acc : List α} (hi : i < n) (h : pRep f n st = (acc ++ (pRep f (n - i) s).1, (pRep f (n - i) s).2)) : pRep f n st = ((acc ++ [(f s).1]) ++ (pRep f (n - (i + 1)) (f s).2).1, (pRep f (n - (i + 1)) (f s).2).2) := by
  rw [h, show n - i = n - (i + 1) + 1 by omega]
  simp only [pRep, List.append_assoc, List.singleton_append]
set_option maxHeartbeats 2000000 in
set_option maxRecDepth 100000 in
theorem list_vec (w : World) (rb n : Nat) (st : Option (List UInt8)) (h : Rd w rb st) (hn : n < 1048576) : Calls Try.prog 74 #[.int .i64 n, .func (.func 57) #[.pointer (some ⟨rb, 0, none⟩)] #[]] w fun e w' => ∃ v, e = .returned v ∧ Hid (LS w w' rb (pRep pVec n st).2 23 4 v n (flat (pRep pVec n st).1)) := by
  have HI : Hid (∀ W s v k xs, LS w W rb s 23 4 v k xs → Calls Try.prog 57 #[.pointer (some ⟨rb, 0, none⟩)] W fun e w' => e = .returned (.agg #[.int .i64 (pVec s).1.a, .int .i64 (pVec s).1.b, .int .i64 (pVec s).1.c, .int .i64 (pVec s).1.d]) ∧ Hid (LS w w' rb (pVec s).2 23 4 v k xs)) := fun W s v k xs hv => (vector_any W rb s hv.rd).mono (by rintro e w' ⟨h1, h2⟩; exact ⟨h1, hv.read h2.out.1 h2.out.2⟩)
  have HS : Hid (LS w w rb st 23 4 (.slice none 0 0) 0 []) := LS.start h 23 4
  clear h
  go_enter Try.func74, Try.ntmps74
  go_wp2_with fail
  go_loopw [5, 7] (fun x y wr => ∃ (i : Nat) (q : Option Addr) (j c : Nat), x = .slice q j c ∧ y = .int .i64 i ∧ i ≤ n ∧ Hid (∃ acc s, LS w wr rb s 23 4 (.slice q j c) i (flat acc) ∧ pRep pVec n st = (acc ++ (pRep pVec (n - i) s).1, (pRep pVec (n - i) s).2))) (fun _ y _ => n - (intOf y).toNat)
  case atStart => exact ⟨0, none, 0, 0, rfl, rfl, Nat.zero_le _, [], st, HS.out, by simp⟩
  case round =>
    obtain ⟨i, q, j, c, rfl, rfl, hi, HX⟩ := hrel
    by_cases h0 : i = n
    · subst h0
      have HE : Hid (LS w wr rb (pRep pVec i st).2 23 4 (.slice q j c) i (flat (pRep pVec i st).1)) := by
        obtain ⟨acc, s, h1, h2⟩ := HX.out
        rw [Nat.sub_self] at h2
        rw [h2]
        show LS _ _ _ _ _ _ _ _ _
        simpa [pRep] using h1
      clear HX
      go_wp2_with fail
      go_ret
      exact ⟨_, rfl, HE.out⟩
    · have hin : (i : Int) < (n : Int) := by omega
      obtain ⟨acc, s, h1, h2⟩ := HX.out
      have H1 : Hid (LS w wr rb s 23 4 (.slice q j c) i (flat acc)) := h1
      have H2 : Hid (pRep pVec n st = ((acc ++ [(pVec s).1]) ++ (pRep pVec (n - (i + 1)) (pVec s).2).1, (pRep pVec (n - (i + 1)) (pVec s).2).2)) := rep_next (by omega) h2
      have HF : Hid (flat (acc ++ [(pVec s).1]) = flat acc ++ [.int .i64 (pVec s).1.a, .int .i64 (pVec s).1.b, .int .i64 (pVec s).1.c, .int .i64 (pVec s).1.d]) := flat_snoc _ _
      clear h1 h2 HX
      go_wp2_with (go_at_call 57; refine (HI.out _ _ _ _ _ H1.out).mono ?_)
      rintro e w2 ⟨rfl, k1⟩
      have K2 : Hid (LS w (w2.alloc (.cells #[.int .i64 (pVec s).1.a, .int .i64 (pVec s).1.b, .int .i64 (pVec s).1.c, .int .i64 (pVec s).1.d] 23)) rb (pVec s).2 23 4 (.slice q j c) i (flat acc)) := k1.out.alloc _
      go_wp2_with (at_builtin; refine append_vals (w := w2.alloc (.cells #[.int .i64 (pVec s).1.a, .int .i64 (pVec s).1.b, .int .i64 (pVec s).1.c, .int .i64 (pVec s).1.d] 23)) Try.underlying27 info23 rfl (by decide) rfl _ _ rfl w.heap.size (.slice q j c) i (flat acc) rfl K2.out.own ⟨w2.heap.size, 0, none⟩ 1 1 [.int .i64 (pVec s).1.a, .int .i64 (pVec s).1.b, .int .i64 (pVec s).1.c, .int .i64 (pVec s).1.d] rfl rfl lies_four (fun u hu => by simp at hu; first | (subst hu; rfl) | (rcases hu with rfl | rfl | rfl | rfl <;> rfl)) (by unfold maxLen; omega) (by omega) K2.out.kp.size ?_; intro v' w4 o1 b1)
      obtain ⟨s', rfl, -⟩ := slh_own o1
      refine ⟨⟨i + 1, s'.a, s'.n, s'.c, rfl, by go_num, by omega, acc ++ [(pVec s).1], (pVec s).2, ?_, H2.out⟩, ?_⟩
      · rw [HF.out]; exact K2.out.grow o1 b1
      · simp [intOf]; omega
set_option maxHeartbeats 2000000 in
set_option maxRecDepth 100000 in
theorem list_int (w : World) (rb n : Nat) (st : Option (List UInt8)) (h : Rd w rb st) (hn : n < 1048576) : Calls Try.prog 73 #[.int .i64 n, .func (.func 56) #[.pointer (some ⟨rb, 0, none⟩)] #[]] w fun e w' => ∃ v, e = .returned v ∧ Hid (LS w w' rb (pRep pInt n st).2 2 1 v n (intsV (pRep pInt n st).1)) := by
  have HI : Hid (∀ W s v k xs, LS w W rb s 2 1 v k xs → Calls Try.prog 56 #[.pointer (some ⟨rb, 0, none⟩)] W fun e w' => e = .returned (.int .i64 (pInt s).1) ∧ Hid (LS w w' rb (pInt s).2 2 1 v k xs)) := fun W s v k xs hv => (number_any W rb s hv.rd).mono (by rintro e w' ⟨h1, h2⟩; exact ⟨h1, hv.read h2.out.1 h2.out.2⟩)
  have HS : Hid (LS w w rb st 2 1 (.slice none 0 0) 0 []) := LS.start h 2 1
  clear h
  go_enter Try.func73, Try.ntmps73
  go_wp2_with fail
  go_loopw [5, 7] (fun x y wr => ∃ (i : Nat) (q : Option Addr) (j c : Nat), x = .slice q j c ∧ y = .int .i64 i ∧ i ≤ n ∧ Hid (∃ acc s, LS w wr rb s 2 1 (.slice q j c) i (intsV acc) ∧ pRep pInt n st = (acc ++ (pRep pInt (n - i) s).1, (pRep pInt (n - i) s).2))) (fun _ y _ => n - (intOf y).toNat)
  case atStart => exact ⟨0, none, 0, 0, rfl, rfl, Nat.zero_le _, [], st, HS.out, by simp⟩
  case round =>
    obtain ⟨i, q, j, c, rfl, rfl, hi, HX⟩ := hrel
    by_cases h0 : i = n
    · subst h0
      have HE : Hid (LS w wr rb (pRep pInt i st).2 2 1 (.slice q j c) i (intsV (pRep pInt i st).1)) := by
        obtain ⟨acc, s, h1, h2⟩ := HX.out
        rw [Nat.sub_self] at h2
        rw [h2]
        show LS _ _ _ _ _ _ _ _ _
        simpa [pRep] using h1
      clear HX
      go_wp2_with fail
      go_ret
      exact ⟨_, rfl, HE.out⟩
    · have hin : (i : Int) < (n : Int) := by omega
      obtain ⟨acc, s, h1, h2⟩ := HX.out
      have H1 : Hid (LS w wr rb s 2 1 (.slice q j c) i (intsV acc)) := h1
      have H2 : Hid (pRep pInt n st = ((acc ++ [(pInt s).1]) ++ (pRep pInt (n - (i + 1)) (pInt s).2).1, (pRep pInt (n - (i + 1)) (pInt s).2).2)) := rep_next (by omega) h2
      have HF : Hid (intsV (acc ++ [(pInt s).1]) = intsV acc ++ [.int .i64 (pInt s).1]) := ints_snoc _ _
      clear h1 h2 HX
      go_wp2_with (go_at_call 56; refine (HI.out _ _ _ _ _ H1.out).mono ?_)
      rintro e w2 ⟨rfl, k1⟩
      have K2 : Hid (LS w (w2.alloc (.cells #[.int .i64 (pInt s).1] 2)) rb (pInt s).2 2 1 (.slice q j c) i (intsV acc)) := k1.out.alloc _
      go_wp2_with (at_builtin; refine append_vals (w := w2.alloc (.cells #[.int .i64 (pInt s).1] 2)) Try.underlying26 info2 rfl (by decide) rfl _ _ rfl w.heap.size (.slice q j c) i (intsV acc) rfl K2.out.own ⟨w2.heap.size, 0, none⟩ 1 1 [.int .i64 (pInt s).1] rfl rfl liesv_one (fun u hu => by simp at hu; first | (subst hu; rfl) | (rcases hu with rfl | rfl | rfl | rfl <;> rfl)) (by unfold maxLen; omega) (by omega) K2.out.kp.size ?_; intro v' w4 o1 b1)
      obtain ⟨s', rfl, -⟩ := slh_own o1
      refine ⟨⟨i + 1, s'.a, s'.n, s'.c, rfl, by go_num, by omega, acc ++ [(pInt s).1], (pInt s).2, ?_, H2.out⟩, ?_⟩
      · rw [HF.out]; exact K2.out.grow o1 b1
      · simp [intOf]; omega
set_option maxHeartbeats 2000000 in
set_option maxRecDepth 100000 in
theorem list_txt (w : World) (rb n : Nat) (st : Option (List UInt8)) (h : Rd w rb st) (hn : n < 1048576) : Calls Try.prog 59 #[.int .i64 n, .func (.func 55) #[.pointer (some ⟨rb, 0, none⟩)] #[]] w fun e w' => ∃ v, e = .returned v ∧ Hid (LS w w' rb (pRep pStr n st).2 9 1 v n (textsV (pRep pStr n st).1)) := by
  have HI : Hid (∀ W s v k xs, LS w W rb s 9 1 v k xs → Calls Try.prog 55 #[.pointer (some ⟨rb, 0, none⟩)] W fun e w' => e = .returned (.string (pStr s).1) ∧ Hid (LS w w' rb (pStr s).2 9 1 v k xs)) := fun W s v k xs hv => (text_any W rb s hv.rd).mono (by rintro e w' ⟨h1, h2⟩; exact ⟨h1, hv.read h2.out.1 h2.out.2⟩)
  have HS : Hid (LS w w rb st 9 1 (.slice none 0 0) 0 []) := LS.start h 9 1
  clear h
  go_enter Try.func59, Try.ntmps59
  go_wp2_with fail
  go_loopw [5, 7] (fun x y wr => ∃ (i : Nat) (q : Option Addr) (j c : Nat), x = .slice q j c ∧ y = .int .i64 i ∧ i ≤ n ∧ Hid (∃ acc s, LS w wr rb s 9 1 (.slice q j c) i (textsV acc) ∧ pRep pStr n st = (acc ++ (pRep pStr (n - i) s).1, (pRep pStr (n - i) s).2))) (fun _ y _ => n - (intOf y).toNat)
  case atStart => exact ⟨0, none, 0, 0, rfl, rfl, Nat.zero_le _, [], st, HS.out, by simp⟩
  case round =>
    obtain ⟨i, q, j, c, rfl, rfl, hi, HX⟩ := hrel
    by_cases h0 : i = n
    · subst h0
      have HE : Hid (LS w wr rb (pRep pStr i st).2 9 1 (.slice q j c) i (textsV (pRep pStr i st).1)) := by
        obtain ⟨acc, s, h1, h2⟩ := HX.out
        rw [Nat.sub_self] at h2
        rw [h2]
        show LS _ _ _ _ _ _ _ _ _
        simpa [pRep] using h1
      clear HX
      go_wp2_with fail
      go_ret
      exact ⟨_, rfl, HE.out⟩
    · have hin : (i : Int) < (n : Int) := by omega
      obtain ⟨acc, s, h1, h2⟩ := HX.out
      have H1 : Hid (LS w wr rb s 9 1 (.slice q j c) i (textsV acc)) := h1
      have H2 : Hid (pRep pStr n st = ((acc ++ [(pStr s).1]) ++ (pRep pStr (n - (i + 1)) (pStr s).2).1, (pRep pStr (n - (i + 1)) (pStr s).2).2)) := rep_next (by omega) h2
      have HF : Hid (textsV (acc ++ [(pStr s).1]) = textsV acc ++ [.string (pStr s).1]) := strs_snoc _ _
      clear h1 h2 HX
      go_wp2_with (go_at_call 55; refine (HI.out _ _ _ _ _ H1.out).mono ?_)
      rintro e w2 ⟨rfl, k1⟩
      have K2 : Hid (LS w (w2.alloc (.cells #[.string (pStr s).1] 9)) rb (pStr s).2 9 1 (.slice q j c) i (textsV acc)) := k1.out.alloc _
      go_wp2_with (at_builtin; refine append_vals (w := w2.alloc (.cells #[.string (pStr s).1] 9)) Try.underlying28 info9 rfl (by decide) rfl _ _ rfl w.heap.size (.slice q j c) i (textsV acc) rfl K2.out.own ⟨w2.heap.size, 0, none⟩ 1 1 [.string (pStr s).1] rfl rfl liesv_one (fun u hu => by simp at hu; first | (subst hu; rfl) | (rcases hu with rfl | rfl | rfl | rfl <;> rfl)) (by unfold maxLen; omega) (by omega) K2.out.kp.size ?_; intro v' w4 o1 b1)
      obtain ⟨s', rfl, -⟩ := slh_own o1
      refine ⟨⟨i + 1, s'.a, s'.n, s'.c, rfl, by go_num, by omega, acc ++ [(pStr s).1], (pStr s).2, ?_, H2.out⟩, ?_⟩
      · rw [HF.out]; exact K2.out.grow o1 b1
      · simp [intOf]; omega
end Go.Proofs.Ytnkkiepoljbhlaa
