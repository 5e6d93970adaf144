/-
  WireDecodes: the kinds without lists (by tools/mkkb.py). WireDecodes: bytes that hold no kind; a kind with lists, put together.
-/
import Derived.Test.YtnkkiepoljbhlaaKa
import Derived.Test.YtnkkiepoljbhlaaDi
import Derived.Test.YtnkkiepoljbhlaaFmc
import Derived.Test.YtnkkiepoljbhlaaFmd
import Derived.Test.YtnkkiepoljbhlaaFme
namespace Go.Proofs.Ytnkkiepoljbhlaa
open Go.RowKit

theorem nmd_size : ∀ (f : Nat) (l : List UInt8) (c : Nat), l.length ≤ f → c ≤ 16 → Txt.nm f l c = true → l.length ≤ 4 * (16 - c)
  | 0, l, c, hf, _, _ => by omega
  | f + 1, l, c, hf, hc, h => by
    by_cases h0 : l.length = 0
    · omega
    · cases hs : Txt.seq l with
      | none => rw [Txt.nm_none f l c h0 hs] at h; cases h
      | some rn =>
        obtain ⟨r, n⟩ := rn
        rw [Txt.nm_some f l c r n h0 hs] at h
        split at h
        · cases h
        · rename_i hq
          have hw := Txt.seq_width (by intro e; rw [e] at h0; exact h0 rfl) hs
          have hd : (l.drop n).length = l.length - n := List.length_drop ..
          have := nmd_size f (l.drop n) (c + 1) (by omega) (by omega) h
          omega
theorem named_len {s : List UInt8} (h : Txt.name ⟨⟨s⟩⟩ = true) : s.length ≤ 64 := by
  have h1 := nmd_size (ByteArray.size ⟨⟨s⟩⟩) s 0 (Nat.le_refl _) (by omega) h
  omega
theorem wi_in {x lo hi : Int} (h : wi x lo hi = true) : lo ≤ x ∧ x ≤ hi := by
  unfold wi at h
  simpa using h
theorem fm_lt {a b c d : Int} (h : fm a b c d = true) : V4.lt49 ⟨a, b, c, d⟩ := by
  unfold fm okI at h
  simp only [Bool.and_eq_true, decide_eq_true_eq] at h
  unfold V4.lt49
  simp only
  omega
theorem es_in {s : Nat} (h : es (s : Int) = true) : s ≤ 6 := by
  unfold es at h
  simp only [Bool.or_eq_true, decide_eq_true_eq] at h
  omega
theorem pTxt_len (st : Option (List UInt8)) : (pTxt st).1.length ≤ 64 := by
  have h := pUp_le (most := 64) (st := st)
  unfold pTxt
  split
  · exact Nat.zero_le _
  · split
    · exact Nat.zero_le _
    · rw [List.length_take]; omega
theorem txtD_len {l s r : List UInt8} (h : txtD l = some (s, r)) : s.length < 562949953421312 := by
  obtain ⟨n, q, h1, h2, h3, h4, h5⟩ := txtD_some h
  rw [h5]
  exact num_lt7 h1
theorem pVec_st {st : Option (List UInt8)} {v : V4} {r : List UInt8} (h : pVec st = (v, some r)) : ∃ l, st = some l := by
  cases st with
  | none => cases h
  | some l => exact ⟨l, rfl⟩
theorem bD_some {α β : Type} {D : List UInt8 → Option (α × List UInt8)} {E : List UInt8 → Option (β × List UInt8)} {l r : List UInt8} {x : α} {y : β} (h : bD D E l = some ((x, y), r)) : ∃ r1, D l = some (x, r1) ∧ E r1 = some (y, r) := by
  unfold bD at h
  obtain ⟨⟨x1, r1⟩, h1, h2⟩ := Option.bind_eq_some_iff.1 h
  obtain ⟨⟨y1, r2⟩, h3, h4⟩ := Option.bind_eq_some_iff.1 h2
  have h5 := Option.some.inj h4
  simp only [Prod.mk.injEq] at h5
  obtain ⟨⟨rfl, rfl⟩, rfl⟩ := h5
  exact ⟨r1, h1, h3⟩
theorem bD_of {α β : Type} {D : List UInt8 → Option (α × List UInt8)} {E : List UInt8 → Option (β × List UInt8)} {l r r1 : List UInt8} {x : α} {y : β} (h1 : D l = some (x, r1)) (h2 : E r1 = some (y, r)) : bD D E l = some ((x, y), r) := by
  unfold bD
  rw [h1]
  show (E r1).bind _ = _
  rw [h2]
  rfl
set_option maxRecDepth 100000 in
theorem dec1 (w : World) (a : Option Addr) (c : Nat) (r : List UInt8) (kd : UInt8) (hkd : kd.toNat = 1) (hB : Byt w w.heap.size a c (kd :: r)) : Calls Try.prog 4 #[.slice a (kd :: r).length c] w fun e w' => e = .returned (.bool true) ∧ Below w.heap.size w w' := by
  obtain ⟨v1, s1, e1⟩ : ∃ v s, pTxt (some r) = (v, s) := ⟨_, _, rfl⟩
  have l1 : v1.length ≤ 64 := by have := pTxt_len (some r); rw [e1] at this; exact this
  obtain ⟨v2, s2, e2⟩ : ∃ v s, pNum s1 = (v, s) := ⟨_, _, rfl⟩
  obtain ⟨v3, s3, e3⟩ : ∃ v s, pVec s2 = (v, s) := ⟨_, _, rfl⟩
  refine kind_law w a c (kd :: r) kd 1 (bD txtD (bD (numD 7) vecD)) (fun x : List UInt8 × Nat × V4 => { PL.zero with kind := 1, tn := ⟨⟨x.1⟩⟩, tw := (x.2.1 : Nat), q0 := x.2.2.a, q1 := x.2.2.b, q2 := x.2.2.c, q3 := x.2.2.d }) (fun x : List UInt8 × Nat × V4 => (Txt.name ⟨⟨x.1⟩⟩ && wi (x.2.1 : Nat) 1 1000 && fm x.2.2.a x.2.2.b x.2.2.c x.2.2.d)) { PL.zero with kind := 1, tn := ⟨⟨v1⟩⟩, tw := (v2 : Nat), q0 := v3.a, q1 := v3.b, q2 := v3.c, q3 := v3.d } s3 (Txt.name ⟨⟨v1⟩⟩ && wi (v2 : Nat) 1 1000 && fm v3.a v3.b v3.c v3.d) hB rfl hkd (by omega) ?_ ?_ ?_ ?_ ?_ ?_ ?_ rfl rfl rfl
  · intro rb W h
    have R := record1 W rb (some (kd :: r)) h hkd
    rw [show (pKnd (some (kd :: r))).2 = some r from rfl, e1] at R
    dsimp only at R
    rw [e2] at R
    dsimp only at R
    rw [e3] at R
    exact R
  · intro W
    exact formed1 _ _ _ _ _ _ W (show v1.length ≤ _ by omega)
  · intro rb W h hl
    exact plain1 W rb 1 (kd :: r) false h hl
  · rintro ⟨x1, x2, x3⟩ W h
    obtain ⟨r1, h1, g1⟩ := bD_some h
    obtain ⟨r2, h2, g2⟩ := bD_some g1
    have h3 := g2
    have hle := txtD_len h1
    exact rformed1 _ rfl W (show x1.length ≤ _ by omega)
  · intro hs ho
    subst hs
    have ho0 := ho
    simp only [Bool.and_eq_true] at ho
    obtain ⟨q2, rfl⟩ := pVec_st e3
    obtain ⟨q1, rfl⟩ := pNum_st e2
    have f1 := (txt_from e1).1
    have f2 := num_from e2 (by have := wi_in ho.1.2; omega)
    have f3 := vec_from e3 (fm_lt ho.2)
    exact ⟨(v1, v2, v3), (bD_of f1 (bD_of f2 f3)), ho0, rfl⟩
  · rintro ⟨x1, x2, x3⟩ h hF
    have hF0 := hF
    simp only [Bool.and_eq_true] at hF
    obtain ⟨r1, h1, g1⟩ := bD_some h
    obtain ⟨r2, h2, g2⟩ := bD_some g1
    have h3 := g2
    have t1 := txt_to h1 (named_len hF.1.1)
    rw [show List.drop 1 (kd :: r) = r from rfl] at t1
    rw [e1] at t1
    obtain ⟨rfl, rfl⟩ := Prod.mk.inj t1
    have t2 := num_to h2
    rw [e2] at t2
    obtain ⟨rfl, rfl⟩ := Prod.mk.inj t2
    have t3 := vec_to h3
    rw [e3] at t3
    obtain ⟨rfl, rfl⟩ := Prod.mk.inj t3
    exact ⟨rfl, hF0⟩
  · intro W
    exact plainly1 _ W
set_option maxRecDepth 100000 in
theorem dec2 (w : World) (a : Option Addr) (c : Nat) (r : List UInt8) (kd : UInt8) (hkd : kd.toNat = 2) (hB : Byt w w.heap.size a c (kd :: r)) : Calls Try.prog 4 #[.slice a (kd :: r).length c] w fun e w' => e = .returned (.bool true) ∧ Below w.heap.size w w' := by
  obtain ⟨v1, s1, e1⟩ : ∃ v s, pTxt (some r) = (v, s) := ⟨_, _, rfl⟩
  have l1 : v1.length ≤ 64 := by have := pTxt_len (some r); rw [e1] at this; exact this
  obtain ⟨v2, s2, e2⟩ : ∃ v s, pNum s1 = (v, s) := ⟨_, _, rfl⟩
  obtain ⟨v3, s3, e3⟩ : ∃ v s, pVec s2 = (v, s) := ⟨_, _, rfl⟩
  refine kind_law w a c (kd :: r) kd 2 (bD txtD (bD (numD 7) vecD)) (fun x : List UInt8 × Nat × V4 => { PL.zero with kind := 2, nd := ⟨⟨x.1⟩⟩, ep := (x.2.1 : Nat), v0 := x.2.2.a, v1 := x.2.2.b, v2 := x.2.2.c, v3 := x.2.2.d }) (fun x : List UInt8 × Nat × V4 => (Txt.name ⟨⟨x.1⟩⟩ && wi (x.2.1 : Nat) 1 2147483647 && fm x.2.2.a x.2.2.b x.2.2.c x.2.2.d)) { PL.zero with kind := 2, nd := ⟨⟨v1⟩⟩, ep := (v2 : Nat), v0 := v3.a, v1 := v3.b, v2 := v3.c, v3 := v3.d } s3 (Txt.name ⟨⟨v1⟩⟩ && wi (v2 : Nat) 1 2147483647 && fm v3.a v3.b v3.c v3.d) hB rfl hkd (by omega) ?_ ?_ ?_ ?_ ?_ ?_ ?_ rfl rfl rfl
  · intro rb W h
    have R := record2 W rb (some (kd :: r)) h hkd
    rw [show (pKnd (some (kd :: r))).2 = some r from rfl, e1] at R
    dsimp only at R
    rw [e2] at R
    dsimp only at R
    rw [e3] at R
    exact R
  · intro W
    exact formed2 _ _ _ _ _ _ W _ _ _ (show v1.length ≤ _ by omega) rfl rfl rfl
  · intro rb W h hl
    exact plain2 W rb 1 (kd :: r) false h hl
  · rintro ⟨x1, x2, x3⟩ W h
    obtain ⟨r1, h1, g1⟩ := bD_some h
    obtain ⟨r2, h2, g2⟩ := bD_some g1
    have h3 := g2
    have hle := txtD_len h1
    exact rformed2 _ rfl _ _ W (show x1.length ≤ _ by omega) rfl rfl
  · intro hs ho
    subst hs
    have ho0 := ho
    simp only [Bool.and_eq_true] at ho
    obtain ⟨q2, rfl⟩ := pVec_st e3
    obtain ⟨q1, rfl⟩ := pNum_st e2
    have f1 := (txt_from e1).1
    have f2 := num_from e2 (by have := wi_in ho.1.2; omega)
    have f3 := vec_from e3 (fm_lt ho.2)
    exact ⟨(v1, v2, v3), (bD_of f1 (bD_of f2 f3)), ho0, rfl⟩
  · rintro ⟨x1, x2, x3⟩ h hF
    have hF0 := hF
    simp only [Bool.and_eq_true] at hF
    obtain ⟨r1, h1, g1⟩ := bD_some h
    obtain ⟨r2, h2, g2⟩ := bD_some g1
    have h3 := g2
    have t1 := txt_to h1 (named_len hF.1.1)
    rw [show List.drop 1 (kd :: r) = r from rfl] at t1
    rw [e1] at t1
    obtain ⟨rfl, rfl⟩ := Prod.mk.inj t1
    have t2 := num_to h2
    rw [e2] at t2
    obtain ⟨rfl, rfl⟩ := Prod.mk.inj t2
    have t3 := vec_to h3
    rw [e3] at t3
    obtain ⟨rfl, rfl⟩ := Prod.mk.inj t3
    exact ⟨rfl, hF0⟩
  · intro W
    exact plainly2 _ W
set_option maxRecDepth 100000 in
theorem dec3 (w : World) (a : Option Addr) (c : Nat) (r : List UInt8) (kd : UInt8) (hkd : kd.toNat = 3) (hB : Byt w w.heap.size a c (kd :: r)) : Calls Try.prog 4 #[.slice a (kd :: r).length c] w fun e w' => e = .returned (.bool true) ∧ Below w.heap.size w w' := by
  obtain ⟨v1, s1, e1⟩ : ∃ v s, pTxt (some r) = (v, s) := ⟨_, _, rfl⟩
  have l1 : v1.length ≤ 64 := by have := pTxt_len (some r); rw [e1] at this; exact this
  refine kind_law w a c (kd :: r) kd 3 txtD (fun x : List UInt8 => { PL.zero with kind := 3, nd := ⟨⟨x⟩⟩ }) (fun x : List UInt8 => (Txt.name ⟨⟨x⟩⟩)) { PL.zero with kind := 3, nd := ⟨⟨v1⟩⟩ } s1 (Txt.name ⟨⟨v1⟩⟩) hB rfl hkd (by omega) ?_ ?_ ?_ ?_ ?_ ?_ ?_ rfl rfl rfl
  · intro rb W h
    have R := record3 W rb (some (kd :: r)) h hkd
    rw [show (pKnd (some (kd :: r))).2 = some r from rfl, e1] at R
    exact R
  · intro W
    exact formed3 _ _ W (show v1.length ≤ _ by omega) rfl
  · intro rb W h hl
    exact plain3 W rb 1 (kd :: r) false h hl
  · rintro x1 W h
    have h1 := h
    have hle := txtD_len h1
    exact rformed3 _ rfl _ W (show x1.length ≤ _ by omega) rfl
  · intro hs ho
    subst hs
    have ho0 := ho
    have f1 := (txt_from e1).1
    exact ⟨v1, f1, ho0, rfl⟩
  · rintro x1 h hF
    have hF0 := hF
    have h1 := h
    have t1 := txt_to h1 (named_len hF)
    rw [show List.drop 1 (kd :: r) = r from rfl] at t1
    rw [e1] at t1
    obtain ⟨rfl, rfl⟩ := Prod.mk.inj t1
    exact ⟨rfl, hF0⟩
  · intro W
    exact plainly3 _ W
set_option maxRecDepth 100000 in
theorem dec4 (w : World) (a : Option Addr) (c : Nat) (r : List UInt8) (kd : UInt8) (hkd : kd.toNat = 4) (hB : Byt w w.heap.size a c (kd :: r)) : Calls Try.prog 4 #[.slice a (kd :: r).length c] w fun e w' => e = .returned (.bool true) ∧ Below w.heap.size w w' := by
  obtain ⟨v1, s1, e1⟩ : ∃ v s, pTxt (some r) = (v, s) := ⟨_, _, rfl⟩
  have l1 : v1.length ≤ 64 := by have := pTxt_len (some r); rw [e1] at this; exact this
  refine kind_law w a c (kd :: r) kd 4 txtD (fun x : List UInt8 => { PL.zero with kind := 4, nd := ⟨⟨x⟩⟩ }) (fun x : List UInt8 => (Txt.name ⟨⟨x⟩⟩)) { PL.zero with kind := 4, nd := ⟨⟨v1⟩⟩ } s1 (Txt.name ⟨⟨v1⟩⟩) hB rfl hkd (by omega) ?_ ?_ ?_ ?_ ?_ ?_ ?_ rfl rfl rfl
  · intro rb W h
    have R := record4 W rb (some (kd :: r)) h hkd
    rw [show (pKnd (some (kd :: r))).2 = some r from rfl, e1] at R
    exact R
  · intro W
    exact formed4 _ _ W (show v1.length ≤ _ by omega) rfl
  · intro rb W h hl
    exact plain4 W rb 1 (kd :: r) false h hl
  · rintro x1 W h
    have h1 := h
    have hle := txtD_len h1
    exact rformed4 _ rfl _ W (show x1.length ≤ _ by omega) rfl
  · intro hs ho
    subst hs
    have ho0 := ho
    have f1 := (txt_from e1).1
    exact ⟨v1, f1, ho0, rfl⟩
  · rintro x1 h hF
    have hF0 := hF
    have h1 := h
    have t1 := txt_to h1 (named_len hF)
    rw [show List.drop 1 (kd :: r) = r from rfl] at t1
    rw [e1] at t1
    obtain ⟨rfl, rfl⟩ := Prod.mk.inj t1
    exact ⟨rfl, hF0⟩
  · intro W
    exact plainly4 _ W
set_option maxRecDepth 100000 in
theorem dec6 (w : World) (a : Option Addr) (c : Nat) (r : List UInt8) (kd : UInt8) (hkd : kd.toNat = 6) (hB : Byt w w.heap.size a c (kd :: r)) : Calls Try.prog 4 #[.slice a (kd :: r).length c] w fun e w' => e = .returned (.bool true) ∧ Below w.heap.size w w' := by
  obtain ⟨v1, s1, e1⟩ : ∃ v s, pNum (some r) = (v, s) := ⟨_, _, rfl⟩
  refine kind_law w a c (kd :: r) kd 6 (numD 7) (fun x : Nat => { PL.zero with kind := 6, id := (x : Nat) }) (fun x : Nat => (wi (x : Nat) 1 100)) { PL.zero with kind := 6, id := (v1 : Nat) } s1 (wi (v1 : Nat) 1 100) hB rfl hkd (by omega) ?_ ?_ ?_ ?_ ?_ ?_ ?_ rfl rfl rfl
  · intro rb W h
    have R := record6 W rb (some (kd :: r)) h hkd
    rw [show (pKnd (some (kd :: r))).2 = some r from rfl, e1] at R
    exact R
  · intro W
    exact formed6 _ W
  · intro rb W h hl
    exact plain6 W rb 1 (kd :: r) false h hl
  · rintro x1 W h
    have h1 := h
    exact rformed6 _ rfl W
  · intro hs ho
    subst hs
    have ho0 := ho
    have f1 := num_from e1 (by have := wi_in ho; omega)
    exact ⟨v1, f1, ho0, rfl⟩
  · rintro x1 h hF
    have hF0 := hF
    have h1 := h
    have t1 := num_to h1
    rw [show List.drop 1 (kd :: r) = r from rfl] at t1
    rw [e1] at t1
    obtain ⟨rfl, rfl⟩ := Prod.mk.inj t1
    exact ⟨rfl, hF0⟩
  · intro W
    exact plainly6 _ W
set_option maxRecDepth 100000 in
theorem dec8 (w : World) (a : Option Addr) (c : Nat) (r : List UInt8) (kd : UInt8) (hkd : kd.toNat = 8) (hB : Byt w w.heap.size a c (kd :: r)) : Calls Try.prog 4 #[.slice a (kd :: r).length c] w fun e w' => e = .returned (.bool true) ∧ Below w.heap.size w w' := by
  obtain ⟨v1, s1, e1⟩ : ∃ v s, pNum (some r) = (v, s) := ⟨_, _, rfl⟩
  refine kind_law w a c (kd :: r) kd 8 (numD 7) (fun x : Nat => { PL.zero with kind := 8, id := (x : Nat) }) (fun x : Nat => (wi (x : Nat) 1 100)) { PL.zero with kind := 8, id := (v1 : Nat) } s1 (wi (v1 : Nat) 1 100) hB rfl hkd (by omega) ?_ ?_ ?_ ?_ ?_ ?_ ?_ rfl rfl rfl
  · intro rb W h
    have R := record8 W rb (some (kd :: r)) h hkd
    rw [show (pKnd (some (kd :: r))).2 = some r from rfl, e1] at R
    exact R
  · intro W
    exact formed8 _ W
  · intro rb W h hl
    exact plain8 W rb 1 (kd :: r) false h hl
  · rintro x1 W h
    have h1 := h
    exact rformed8 _ rfl W
  · intro hs ho
    subst hs
    have ho0 := ho
    have f1 := num_from e1 (by have := wi_in ho; omega)
    exact ⟨v1, f1, ho0, rfl⟩
  · rintro x1 h hF
    have hF0 := hF
    have h1 := h
    have t1 := num_to h1
    rw [show List.drop 1 (kd :: r) = r from rfl] at t1
    rw [e1] at t1
    obtain ⟨rfl, rfl⟩ := Prod.mk.inj t1
    exact ⟨rfl, hF0⟩
  · intro W
    exact plainly8 _ W
set_option maxRecDepth 100000 in
theorem dec9 (w : World) (a : Option Addr) (c : Nat) (r : List UInt8) (kd : UInt8) (hkd : kd.toNat = 9) (hB : Byt w w.heap.size a c (kd :: r)) : Calls Try.prog 4 #[.slice a (kd :: r).length c] w fun e w' => e = .returned (.bool true) ∧ Below w.heap.size w w' := by
  obtain ⟨v1, s1, e1⟩ : ∃ v s, pNum (some r) = (v, s) := ⟨_, _, rfl⟩
  obtain ⟨v2, s2, e2⟩ : ∃ v s, pTxt s1 = (v, s) := ⟨_, _, rfl⟩
  have l2 : v2.length ≤ 64 := by have := pTxt_len s1; rw [e2] at this; exact this
  refine kind_law w a c (kd :: r) kd 9 (bD (numD 7) txtD) (fun x : Nat × List UInt8 => { PL.zero with kind := 9, id := (x.1 : Nat), nd := ⟨⟨x.2⟩⟩ }) (fun x : Nat × List UInt8 => (wi (x.1 : Nat) 1 100 && Txt.name ⟨⟨x.2⟩⟩)) { PL.zero with kind := 9, id := (v1 : Nat), nd := ⟨⟨v2⟩⟩ } s2 (wi (v1 : Nat) 1 100 && Txt.name ⟨⟨v2⟩⟩) hB rfl hkd (by omega) ?_ ?_ ?_ ?_ ?_ ?_ ?_ rfl rfl rfl
  · intro rb W h
    have R := record9 W rb (some (kd :: r)) h hkd
    rw [show (pKnd (some (kd :: r))).2 = some r from rfl, e1] at R
    dsimp only at R
    rw [e2] at R
    exact R
  · intro W
    exact formed9 _ _ _ _ W (show v2.length ≤ _ by omega) rfl rfl
  · intro rb W h hl
    exact plain9 W rb 1 (kd :: r) false h hl
  · rintro ⟨x1, x2⟩ W h
    obtain ⟨r1, h1, g1⟩ := bD_some h
    have h2 := g1
    have hle := txtD_len h2
    exact rformed9 _ rfl _ _ W (show x2.length ≤ _ by omega) rfl rfl
  · intro hs ho
    subst hs
    have ho0 := ho
    simp only [Bool.and_eq_true] at ho
    obtain ⟨q1, rfl⟩ := pTxt_st e2
    have f1 := num_from e1 (by have := wi_in ho.1; omega)
    have f2 := (txt_from e2).1
    exact ⟨(v1, v2), (bD_of f1 f2), ho0, rfl⟩
  · rintro ⟨x1, x2⟩ h hF
    have hF0 := hF
    simp only [Bool.and_eq_true] at hF
    obtain ⟨r1, h1, g1⟩ := bD_some h
    have h2 := g1
    have t1 := num_to h1
    rw [show List.drop 1 (kd :: r) = r from rfl] at t1
    rw [e1] at t1
    obtain ⟨rfl, rfl⟩ := Prod.mk.inj t1
    have t2 := txt_to h2 (named_len hF.2)
    rw [e2] at t2
    obtain ⟨rfl, rfl⟩ := Prod.mk.inj t2
    exact ⟨rfl, hF0⟩
  · intro W
    exact plainly9 _ W
set_option maxRecDepth 100000 in
theorem dec10 (w : World) (a : Option Addr) (c : Nat) (r : List UInt8) (kd : UInt8) (hkd : kd.toNat = 10) (hB : Byt w w.heap.size a c (kd :: r)) : Calls Try.prog 4 #[.slice a (kd :: r).length c] w fun e w' => e = .returned (.bool true) ∧ Below w.heap.size w w' := by
  obtain ⟨v1, s1, e1⟩ : ∃ v s, pNum (some r) = (v, s) := ⟨_, _, rfl⟩
  obtain ⟨v2, s2, e2⟩ : ∃ v s, pUp 6 s1 = (v, s) := ⟨_, _, rfl⟩
  refine kind_law w a c (kd :: r) kd 10 (bD (numD 7) (numD 7)) (fun x : Nat × Nat => { PL.zero with kind := 10, id := (x.1 : Nat), st := (x.2 : Nat) }) (fun x : Nat × Nat => (wi (x.1 : Nat) 1 100 && es (x.2 : Nat))) { PL.zero with kind := 10, id := (v1 : Nat), st := (v2 : Nat) } s2 (wi (v1 : Nat) 1 100 && es (v2 : Nat)) hB rfl hkd (by omega) ?_ ?_ ?_ ?_ ?_ ?_ ?_ rfl rfl rfl
  · intro rb W h
    have R := record10 W rb (some (kd :: r)) h hkd
    rw [show (pKnd (some (kd :: r))).2 = some r from rfl, e1] at R
    dsimp only at R
    rw [e2] at R
    exact R
  · intro W
    exact formed10 _ _ _ _ W rfl rfl
  · intro rb W h hl
    exact plain10 W rb 1 (kd :: r) false h hl
  · rintro ⟨x1, x2⟩ W h
    obtain ⟨r1, h1, g1⟩ := bD_some h
    have h2 := g1
    exact rformed10 _ rfl _ W rfl
  · intro hs ho
    subst hs
    have ho0 := ho
    simp only [Bool.and_eq_true] at ho
    obtain ⟨u1, u2⟩ := pUp_st e2
    obtain ⟨q1, rfl⟩ := pNum_st u2
    have f1 := num_from e1 (by have := wi_in ho.1; omega)
    have f2 := num_from u2 (by omega)
    exact ⟨(v1, v2), (bD_of f1 f2), ho0, rfl⟩
  · rintro ⟨x1, x2⟩ h hF
    have hF0 := hF
    simp only [Bool.and_eq_true] at hF
    obtain ⟨r1, h1, g1⟩ := bD_some h
    have h2 := g1
    have t1 := num_to h1
    rw [show List.drop 1 (kd :: r) = r from rfl] at t1
    rw [e1] at t1
    obtain ⟨rfl, rfl⟩ := Prod.mk.inj t1
    have t2 := up_to (m := 6) h2 (es_in hF.2)
    rw [e2] at t2
    obtain ⟨rfl, rfl⟩ := Prod.mk.inj t2
    exact ⟨rfl, hF0⟩
  · intro W
    exact plainly10 _ W
set_option maxRecDepth 100000 in
theorem dec11 (w : World) (a : Option Addr) (c : Nat) (r : List UInt8) (kd : UInt8) (hkd : kd.toNat = 11) (hB : Byt w w.heap.size a c (kd :: r)) : Calls Try.prog 4 #[.slice a (kd :: r).length c] w fun e w' => e = .returned (.bool true) ∧ Below w.heap.size w w' := by
  refine kind_law w a c (kd :: r) kd 11 noD (fun _ : Unit => { PL.zero with kind := 11 }) (fun _ : Unit => true) { PL.zero with kind := 11 } (some r) true hB rfl hkd (by omega) ?_ ?_ ?_ ?_ ?_ ?_ ?_ rfl rfl rfl
  · intro rb W h
    have R := record11 W rb (some (kd :: r)) h hkd
    exact R
  · intro W
    exact formed11 W
  · intro rb W h hl
    exact plain11 W rb 1 (kd :: r) false h hl
  · rintro _ W h
    exact rformed11 _ rfl W
  · intro hs ho
    exact ⟨(), congrArg (fun q => some ((), q)) (Option.some.inj hs), rfl, rfl⟩
  · rintro _ h hF
    have hr := (Prod.mk.inj (Option.some.inj h)).2
    exact ⟨congrArg some hr, rfl⟩
  · intro W
    exact plainly11 _ W
end Go.Proofs.Ytnkkiepoljbhlaa

namespace Go.Proofs.Ytnkkiepoljbhlaa
open Go.RowKit

set_option maxHeartbeats 4000000 in
set_option maxRecDepth 100000 in
theorem rdecode_no (w : World) (p : Option Addr) (c : Nat) (l : List UInt8) (hB : Byt w w.heap.size p c l) (hk : ∀ kd, l[0]? = some kd → ¬ (1 ≤ kd.toNat ∧ kd.toNat ≤ 11)) :
    Calls Try.prog 16 #[.slice p l.length c] w fun e w' => e = .returned (.tuple #[.agg PL.zero.cells, .int .i64 12]) ∧ Below w.heap.size w w' := by
  have Z0 : Hid ((w.alloc (Obj.cells PL.zero.cells 32)).heap[w.heap.size]? = some (.cells PL.zero.cells 32 (0, 0)) ∧ Below w.heap.size w (w.alloc (Obj.cells PL.zero.cells 32))) := ⟨new0, (Below.refl _ w).alloc (Nat.le_refl _) _⟩
  cases l with
  | nil =>
    clear hB hk
    show Calls Try.prog 16 #[.slice p 0 c] w _
    go_enter Try.func16, Try.ntmps16
    go_upto_region 1 with fail
    refine (?_ : ∀ W, Hid (W.heap[w.heap.size]? = some (.cells PL.zero.cells 32 (0, 0)) ∧ Below w.heap.size w W) → Code.wp Try.prog _ _ _ W) _ Z0
    intro W0 H0
    go_wp2_with (first
      | refine wpList_buildTo rfl 32 _ rfl (some 21) rfl PL.zero.cells built32z ?_
      | refine wpList_store_rowTo rfl 32 _ _ rfl rfl w.heap.size PL.zero.cells rfl rfl 32 PL.zero.cells H0.out.1 (size32p _) rfl (PL.cells_one _) ?_)
    refine bodyPost_ret (back16 PL.zero _ _ w.heap.size (.int .i64 12) rfl rfl (setRow_heap _ _ _ _ 32 (0, 0) H0.out.1)) rfl ?_
    exact ⟨rfl, below_setRow H0.out.2 (Nat.le_refl _)⟩
  | cons kd r =>
    have h1 := hk kd rfl
    obtain ⟨n, hn⟩ : ∃ n, (kd :: r).length = n := ⟨_, rfl⟩
    obtain ⟨m, hm⟩ : ∃ m, kd.toNat = m := ⟨_, rfl⟩
    have hn0 : 0 < n := by rw [← hn]; exact Nat.succ_pos _
    have y6 : m < 256 := by rw [← hm]; exact kd.toNat_lt
    obtain ⟨g, o, rfl, hrow⟩ : ∃ g o, p = some ⟨g, o, none⟩ ∧ Row w g o (kd :: r) := by
      rcases hB.ly with e | h
      · cases e
      · exact h
    have D0 : Hid (∀ W, Below w.heap.size w W → W.cell? ⟨g, o, none⟩ = some (.int .u8 (m : Nat))) := fun W b => by
      have h1 := hrow 0 kd rfl
      have h2 := (b.cell (block_lt_of_cell h1)).trans h1
      rw [hm] at h2
      exact h2
    rw [hm] at h1
    have y5 : (0 : Int) < (n : Int) := by omega
    have hX : ((((m : Int) < 1) = True ∧ decide ((m : Int) < 1) = true)) ∨ ((((m : Int) < 1) = False ∧ decide ((m : Int) < 1) = false) ∧ ((11 < (m : Int)) = True ∧ decide (11 < (m : Int)) = true)) := by
      by_cases h2 : m < 1
      · exact .inl ⟨by simp; omega, by simp; omega⟩
      · exact .inr ⟨⟨by simp; omega, by simp; omega⟩, ⟨by simp; omega, by simp; omega⟩⟩
    rw [hn]
    clear hn hm hB hrow hk h1
    rcases hX with ⟨x1, x2⟩ | ⟨⟨x1, x2⟩, x3, x4⟩
    all_goals
      go_enter Try.func16, Try.ntmps16
      go_upto_region 1 with fail
      refine (?_ : ∀ W, Hid (W.heap[w.heap.size]? = some (.cells PL.zero.cells 32 (0, 0)) ∧ Below w.heap.size w W) → Code.wp Try.prog _ _ _ W) _ Z0
      intro W0 H0
      have d0 := D0.out W0 H0.out.2
      go_wp2_with (first
        | refine wpList_buildTo rfl 32 _ rfl (some 21) rfl PL.zero.cells built32z ?_
        | refine wpList_store_rowTo rfl 32 _ _ rfl rfl w.heap.size PL.zero.cells rfl rfl 32 PL.zero.cells H0.out.1 (size32p _) rfl (PL.cells_one _) ?_)
      refine bodyPost_ret (back16 PL.zero _ _ w.heap.size (.int .i64 12) rfl rfl (setRow_heap _ _ _ _ 32 (0, 0) H0.out.1)) rfl ?_
      exact ⟨rfl, below_setRow H0.out.2 (Nat.le_refl _)⟩
/-- no kind: both refuse -/
theorem dec0 (w : World) (a : Option Addr) (c : Nat) (l : List UInt8) (hB : Byt w w.heap.size a c l) (hk : ∀ kd, l[0]? = some kd → ¬ (1 ≤ kd.toNat ∧ kd.toNat ≤ 11)) : Calls Try.prog 4 #[.slice a l.length c] w fun e w' => e = .returned (.bool true) ∧ Below w.heap.size w w' := by
  have hp : ¬ (1 ≤ (pKnd (some l)).1 ∧ (pKnd (some l)).1 ≤ 11) := by
    cases l with
    | nil => exact fun h => absurd h.1 (by decide)
    | cons kd r => exact hk kd rfl
  refine law_dec12 a l.length c w (fun r _ => r = .nilIface) (fun r q _ => r = .nilIface ∧ q = PL.zero) (fun p q _ => p = PL.zero ∧ q = PL.zero) (fun W b => ?_) (fun r W b hr => ?_) (fun _ _ _ _ h _ => h) (fun r q W h => ?_) (fun p q W h => ?_)
  · refine (decode_gen W a c l (hB.on b) (fun _ : Unit => .nilIface) (pKnd (some l)).2 (fun _ _ => True) false (fun W' h1 _ => (record0 W' _ (some l) h1 hp).mono fun e w' ⟨q1, q2⟩ => ⟨(), q1, q2.out.1, q2.out.2, trivial⟩) (fun _ W' _ => formed0 W') (fun _ _ _ _ _ => trivial)).mono ?_
    rintro e w' ⟨q1, ⟨-, q2, -⟩ | ⟨-, q2⟩⟩
    · cases q2
    · exact ⟨q2, rfl, q1⟩
  · exact (rdecode_no W a c l (hB.on b) hk).mono fun e w' ⟨q1, q2⟩ => ⟨PL.zero, q1, ⟨hr, rfl⟩, q2⟩
  · obtain ⟨rfl, rfl⟩ := h
    exact (plainly0 PL.zero W).mono fun e w' ⟨q1, q2⟩ => ⟨PL.zero, q1, ⟨rfl, rfl⟩, q2⟩
  · obtain ⟨rfl, rfl⟩ := h
    exact same_plain _ rfl rfl W
theorem own_slh {w : World} {B e size n : Nat} {s : SL} {xs : List Value} (h : w.ownsRow B e size s.v n xs) : SLh w s n xs ∧ s.far B := by
  obtain ⟨t, h1, h2, h3⟩ := slh_own h
  obtain ⟨a, n', c⟩ := s
  obtain ⟨a2, n2, c2⟩ := t
  unfold SL.v at h1
  simp only [Value.slice.injEq] at h1
  obtain ⟨rfl, rfl, rfl⟩ := h1
  exact ⟨h2, h3⟩
theorem SLh.oth {W W' : World} {s : SL} {n g : Nat} {xs : List Value} (h : SLh W s n xs) (hf : s.far (g + 1)) (ho : Oth g W W') : SLh W' s n xs := by
  refine ⟨?_, h.2⟩
  rcases h.1 with e | ⟨b, o, e, hr⟩
  · exact .inl e
  · refine .inr ⟨b, o, e, fun k u hu => ?_⟩
    have h1 := hr k u hu
    have h2 := block_lt_of_cell h1
    have h3 : g + 1 ≤ b := hf _ e
    unfold World.cell? at h1 ⊢
    rw [ho.2 b (by omega) h2]
    exact h1
section
variable {α β γ : Type} (w : World) (a : Option Addr) (c : Nat) (l : List UInt8) (kd : UInt8) (kn : Nat) (D : List UInt8 → Option (α × List UInt8)) (R : β → PL) (M : β → World → Prop) (P : γ → PL) (val : γ → α) (N : Nat → γ → World → Prop) (F : α → Bool) (st : Option (List UInt8)) (ok : Bool)
theorem kind_mem (hB : Byt w w.heap.size a c l) (h0 : l[0]? = some kd) (hkn : kd.toNat = kn) (hk : 1 ≤ kn ∧ kn ≤ 11)
    (HRec : ∀ rb W, Rd W rb (some l) → Calls Try.prog 33 #[.pointer (some ⟨rb, 0, none⟩)] W fun e w' => ∃ y, e = .returned ((R y).rcd kn) ∧ Hid (Rd w' rb st ∧ RdK rb W w' ∧ M y w'))
    (HF15 : ∀ y W, M y W → Calls Try.prog 21 #[(R y).rcd kn] W fun e w' => e = .returned (.bool ok) ∧ Below W.heap.size W w')
    (HM : ∀ y W W', M y W → Below W.heap.size W W' → M y W')
    (HPl : ∀ g rb W, Rf W rb l 1 false → 1 ≤ l.length → g < rb → Calls Try.prog 34 #[.pointer (some ⟨rb, 0, none⟩), .int .i64 (kn : Nat)] W fun e w' => ∃ z k b', e = .returned (.agg (P z).cells) ∧ k ≤ l.length ∧ Rf w' rb l k b' ∧ RdK rb W w' ∧ OneX D l 1 false (val z) k b' ∧ N g z w')
    (HN : ∀ g z W W', N g z W → Oth g W W' → N g z W')
    (HF16 : ∀ g z W, D (l.drop 1) = some (val z, []) → N g z W → Calls Try.prog 14 #[.agg (P z).cells] W fun e w' => e = .returned (.bool (F (val z))) ∧ Below W.heap.size W w')
    (HE1 : st = some [] → ok = true → ∃ x, D (l.drop 1) = some (x, []) ∧ F x = true)
    (HE2 : ∀ x, D (l.drop 1) = some (x, []) → F x = true → st = some [] ∧ ok = true)
    (HPn : ∀ y W, Calls Try.prog 9 #[(R y).rcd kn] W fun e w' => e = .returned (.agg ((R y).norm kn).cells) ∧ Below W.heap.size W w')
    (hno : ∀ y, (R y).norm kn = R y)
    (HS : ∀ g y z W, M y W → N g z W → D (l.drop 1) = some (val z, []) → st = some [] → ok = true → Calls Try.prog 17 #[.agg (R y).cells, .agg (P z).cells] W fun e w' => e = .returned (.bool true) ∧ Below W.heap.size W w') :
    Calls Try.prog 4 #[.slice a l.length c] w fun e w' => e = .returned (.bool true) ∧ Below w.heap.size w w' := by
  have hl : 1 ≤ l.length := (List.getElem?_eq_some_iff.1 h0).1
  have P15 : ∀ W, Below w.heap.size w W → Calls Try.prog 15 #[.slice a l.length c] W fun e w' => Below W.heap.size W w' ∧ ((st = some [] ∧ ok = true ∧ ∃ y, e = .returned (.tuple #[(R y).rcd kn, .int .i64 0]) ∧ M y w') ∨ (¬ (st = some [] ∧ ok = true) ∧ e = .returned (.tuple #[.nilIface, .int .i64 12]))) := fun W b =>
    decode_gen W a c l (hB.on b) (fun y => (R y).rcd kn) st M ok (fun W' h1 _ => HRec _ W' h1) HF15 HM
  have P16 : ∀ W, Below w.heap.size w W → Calls Try.prog 16 #[.slice a l.length c] W fun e w' => RDec W l.length P (fun z k b w' => (OneX D l 1 false (val z) k b ∧ k ≤ l.length) ∧ N W.heap.size z w') (fun z => F (val z)) e w' := fun W b =>
    rdecode_gen W a c l kd (hB.on b) h0 (by rw [hkn]; exact hk) P (fun z k b w' => (OneX D l 1 false (val z) k b ∧ k ≤ l.length) ∧ N W.heap.size z w') (fun z => F (val z)) (fun rb W' h1 h2 => by
      rw [hkn]
      refine (HPl _ rb W' h1 hl h2).mono ?_
      rintro e w' ⟨x, k, b', q1, q2, q3, q4, q5, q6⟩
      exact ⟨x, k, b', q1, q2, q3, q4, ⟨q5, q2⟩, q6⟩) (fun z W' h1 => HF16 _ z W' h1.1.1.done h1.2) (fun z k b W1 W2 h ho => ⟨h.1, HN _ _ _ _ h.2 ho⟩)
  by_cases hg : st = some [] ∧ ok = true
  · obtain ⟨x, hx, hF⟩ := HE1 hg.1 hg.2
    refine law_dec0 a l.length c w (fun r W => ∃ y, r = (R y).rcd kn ∧ M y W) (fun r q W => ∃ y g z, r = (R y).rcd kn ∧ M y W ∧ q = P z ∧ N g z W ∧ D (l.drop 1) = some (val z, [])) (fun p q W => ∃ y g z, p = R y ∧ M y W ∧ q = P z ∧ N g z W ∧ D (l.drop 1) = some (val z, [])) (fun W b => ?_) (fun r W b hr => ?_) (fun r q W W' h hb => ?_) (fun r q W h => ?_) (fun p q W h => ?_)
    · refine (P15 W b).mono ?_
      rintro e w' ⟨q1, ⟨-, -, y, q2, q3⟩ | ⟨q2, -⟩⟩
      · exact ⟨_, q2, ⟨y, rfl, q3⟩, q1⟩
      · exact absurd hg q2
    · obtain ⟨y, rfl, hy⟩ := hr
      refine (P16 W b).mono ?_
      rintro e w' ⟨q1, ⟨z, q2, q3, q4⟩ | ⟨⟨z, k, b', q2, q3⟩, q4⟩⟩
      · exact ⟨P z, q4, ⟨y, W.heap.size, z, rfl, HM _ _ _ hy q1, rfl, q2.2, q2.1.1.done⟩, q1⟩
      · obtain ⟨e1, rfl, rfl⟩ := q2.1.1.all hx q2.1.2
        exact absurd ⟨rfl, rfl, (congrArg F e1).trans hF⟩ q3
    · obtain ⟨y, g, z, h1, h2, h3, h4, h5⟩ := h
      exact ⟨y, g, z, h1, HM _ _ _ h2 hb, h3, HN _ _ _ _ h4 (Oth.of_below hb), h5⟩
    · obtain ⟨y, g, z, rfl, h2, rfl, h4, h5⟩ := h
      refine (HPn y W).mono ?_
      rintro e w' ⟨q1, q2⟩
      rw [hno] at q1
      exact ⟨_, q1, ⟨y, g, z, rfl, HM _ _ _ h2 q2, rfl, HN _ _ _ _ h4 (Oth.of_below q2), h5⟩, q2⟩
    · obtain ⟨y, g, z, rfl, h2, rfl, h4, h5⟩ := h
      exact HS g y z W h2 h4 h5 hg.1 hg.2
  · refine law_dec12 a l.length c w (fun r _ => r = .nilIface) (fun r q _ => r = .nilIface ∧ q = PL.zero) (fun p q _ => p = PL.zero ∧ q = PL.zero) (fun W b => ?_) (fun r W b hr => ?_) (fun _ _ _ _ h _ => h) (fun r q W h => ?_) (fun p q W h => ?_)
    · refine (P15 W b).mono ?_
      rintro e w' ⟨q1, ⟨q2, q3, -⟩ | ⟨-, q2⟩⟩
      · exact absurd ⟨q2, q3⟩ hg
      · exact ⟨q2, rfl, q1⟩
    · refine (P16 W b).mono ?_
      rintro e w' ⟨q1, ⟨y, q2, q3, q4⟩ | ⟨-, q4⟩⟩
      · exact absurd (HE2 _ q2.1.1.done q3) hg
      · exact ⟨PL.zero, q4, ⟨hr, rfl⟩, q1⟩
    · obtain ⟨rfl, rfl⟩ := h
      refine (plainly0 PL.zero W).mono ?_
      rintro e w' ⟨q1, q2⟩
      exact ⟨PL.zero, q1, ⟨rfl, rfl⟩, q2⟩
    · obtain ⟨rfl, rfl⟩ := h
      exact same_plain _ rfl rfl W
end
end Go.Proofs.Ytnkkiepoljbhlaa
