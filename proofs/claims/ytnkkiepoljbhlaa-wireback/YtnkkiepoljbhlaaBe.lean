/-
  WireBack: the kinds without lists (by tools/mkbe.py).
-/
import Derived.Test.YtnkkiepoljbhlaaBd
import Derived.Test.YtnkkiepoljbhlaaBy
import Derived.Test.YtnkkiepoljbhlaaDh
import Derived.Test.YtnkkiepoljbhlaaDi
import Derived.Test.YtnkkiepoljbhlaaFmc
import Derived.Test.YtnkkiepoljbhlaaFmd
set_option linter.unusedSimpArgs false
namespace Go.Proofs.Ytnkkiepoljbhlaa
open Go.RowKit

theorem bnm_size : ∀ (f : Nat) (l : List UInt8) (c : Nat), l.length ≤ f → c ≤ 16 → Txt.nm f l c = true → l.length ≤ 4 * (16 - c)
  | 0, l, c, hf, _, _ => by omega
  | f + 1, l, c, hf, hc, h => by
    by_cases h0 : l.length = 0
    · omega
    · cases hs : Txt.seq l with
      | none => rw [Txt.nm_none f l c h0 hs] at h; cases h
      | some rn =>
        obtain ⟨r, n⟩ := rn
        rw [Txt.nm_some f l c r n h0 hs] at h
        split at h
        · cases h
        · rename_i hq
          have hw := Txt.seq_width (by intro e; rw [e] at h0; exact h0 rfl) hs
          have hd : (l.drop n).length = l.length - n := List.length_drop ..
          have := bnm_size f (l.drop n) (c + 1) (by omega) (by omega) h
          omega
theorem bname_size {s : ByteArray} (h : Txt.name s = true) : s.data.toList.length ≤ 64 := by
  have h1 := bnm_size s.size s.data.toList 0 (by rw [Lib.size_eq]; exact Nat.le_refl _) (by omega) h
  omega
theorem bwi {x lo hi : Int} (h : wi x lo hi = true) : lo ≤ x ∧ x ≤ hi := by
  unfold wi at h
  simpa using h
theorem bfm {a b c d : Int} (h : fm a b c d = true) : (0 ≤ a ∧ a < 9223372036854775808) ∧ (0 ≤ b ∧ b < 9223372036854775808) ∧ (0 ≤ c ∧ c < 9223372036854775808) ∧ (0 ≤ d ∧ d < 9223372036854775808) := by
  unfold fm okI at h
  simp only [Bool.and_eq_true, decide_eq_true_eq] at h
  omega
theorem bpos {a b c d : Int} (h : fm a b c d = true) : (⟨a, b, c, d⟩ : V4).pos := by
  obtain ⟨h1, h2, h3, h4⟩ := bfm h
  exact ⟨h1.1, h1.2, h2.1, h2.2, h3.1, h3.2, h4.1, h4.2⟩
theorem bes {s : Int} (h : es s = true) : 0 ≤ s ∧ s ≤ 6 := by
  unfold es at h
  simp only [Bool.or_eq_true, decide_eq_true_eq] at h
  omega
theorem bTxt_len (st : Option (List UInt8)) : (pTxt st).1.length ≤ 64 := by
  have h := pUp_le (most := 64) (st := st)
  unfold pTxt
  split
  · exact Nat.zero_le _
  · split
    · exact Nat.zero_le _
    · rw [List.length_take]; omega
theorem bVec_on {st : Option (List UInt8)} {v : V4} {r : List UInt8} (h : pVec st = (v, some r)) : ∃ l, st = some l := by
  cases st with
  | none => cases h
  | some l => exact ⟨l, rfl⟩
theorem btxt_eq (s : ByteArray) : txtB s = num s.data.toList.length ++ s.data.toList := by
  unfold txtB
  rw [Lib.size_eq]
theorem kd_eq {kd : UInt8} {k : Nat} (h : kd.toNat = k) (hk : k < 256) : kd = UInt8.ofNat k := by
  apply UInt8.toNat_inj.1
  rw [h, UInt8.toNat_ofNat']
  omega
theorem btxt_len {s : ByteArray} (h : s.data.toList.length ≤ 64) : (txtB s).length ≤ 74 := by
  have h1 := num_length s.data.toList.length
  rw [btxt_eq, List.length_append]
  omega
theorem bvec_len (v : V4) : (vecB v).length ≤ 40 := by
  have := nums_length [v.a.toNat, v.b.toNat, v.c.toNat, v.d.toNat]
  unfold vecB
  simpa using this
theorem bvec_eq (v : V4) : vecB v = num v.a.toNat ++ (num v.b.toNat ++ (num v.c.toNat ++ num v.d.toNat)) := by
  simp [vecB, nums]
theorem bsame (p : PL) (hj : p.jb = .zero) (hn : p.ns = .nil) (w : World) : Calls Try.prog 17 #[.agg p.cells, .agg p.cells] w fun e w' => e = .returned (.bool true) ∧ Below w.heap.size w w' :=
  bsame17 p p .zero .nil .nil [] w (by rw [← hj, ← hn]) (by rw [hj]; exact zero_has w) (zero_has w) (by rw [hj]; exact ⟨rfl, rfl, rfl, rfl, rfl, rfl, rfl⟩) zero_fits (by rw [hn]; exact ⟨.inl rfl, rfl, fun _ => ⟨rfl, rfl, rfl⟩⟩) ⟨.inl rfl, rfl, fun _ => ⟨rfl, rfl, rfl⟩⟩ (by decide)
set_option maxRecDepth 100000 in
theorem backB1 (w : World) (a : Option Addr) (c : Nat) (r : List UInt8) (kd : UInt8) (hkd : kd.toNat = 1) (hB : Byt w w.heap.size a c (kd :: r)) : HalfB a (kd :: r).length c w := by
  obtain ⟨v1, s1, e1⟩ : ∃ v s, pTxt (some r) = (v, s) := ⟨_, _, rfl⟩
  have l1 : v1.length ≤ 64 := by have := bTxt_len (some r); rw [e1] at this; exact this
  obtain ⟨v2, s2, e2⟩ : ∃ v s, pNum s1 = (v, s) := ⟨_, _, rfl⟩
  obtain ⟨v3, s3, e3⟩ : ∃ v s, pVec s2 = (v, s) := ⟨_, _, rfl⟩
  refine halfB_kind w a c (kd :: r) 1 (fun _ : Unit => { PL.zero with kind := 1, tn := ⟨⟨v1⟩⟩, tw := (v2 : Nat), q0 := v3.a, q1 := v3.b, q2 := v3.c, q3 := v3.d }) (fun _ _ => True) s3 (Txt.name ⟨⟨v1⟩⟩ && wi (v2 : Nat) 1 1000 && fm v3.a v3.b v3.c v3.d) hB ?_ ?_ (fun _ _ _ _ _ => trivial) (fun _ W => plainly1 _ W) (fun _ W => make1 _ rfl W) ?_
  · intro rb W h
    have R := record1 W rb (some (kd :: r)) h hkd
    rw [show (pKnd (some (kd :: r))).2 = some r from rfl, e1] at R
    dsimp only at R
    rw [e2] at R
    dsimp only at R
    rw [e3] at R
    refine R.mono ?_
    rintro e w' ⟨q1, q2⟩
    exact ⟨(), q1, q2.out.1, q2.out.2, trivial⟩
  · intro _ W _
    exact formed1 _ _ _ _ _ _ W (show v1.length ≤ _ by omega)
  · intro hs ho _ W _
    subst hs
    simp only [Bool.and_eq_true] at ho
    obtain ⟨q2, rfl⟩ := bVec_on e3
    obtain ⟨q1, rfl⟩ := pNum_on e2
    have t1 := pTxt_was e1
    have z1 := l1
    have t2 := (pNum_was e2).1
    have z2 := bwi ho.1.2
    have t3 := pVec_was e3
    have z3 := bpos ho.2
    have hb : kd :: r = [1] ++ txtB ⟨⟨v1⟩⟩ ++ numI (v2 : Nat) ++ vecB v3 := by
      rw [kd_eq hkd (by decide), t1, t2, t3]
      simp [btxt_eq, bvec_eq, numI]
    rw [hb]
    have zs : (ByteArray.mk ⟨v1⟩).size ≤ 64 := l1
    exact recB1 ⟨⟨v1⟩⟩ (v2 : Nat) v3 W (by omega) (by omega) z3 (by omega)
set_option maxRecDepth 100000 in
theorem backA1 (p : PL) (w : World) (hk : p.kind = 1) (ht : p.tn.size ≤ 9223372036854775000) : HalfA p w := by
  have hb : [1] ++ txtB p.tn ++ numI p.tw ++ vecB ⟨p.q0, p.q1, p.q2, p.q3⟩ = (1 :: (num p.tn.data.toList.length ++ (p.tn.data.toList ++ (num p.tw.toNat ++ (num p.q0.toNat ++ (num p.q1.toNat ++ (num p.q2.toNat ++ (num p.q3.toNat ++ []))))))) : List UInt8) := by simp [btxt_eq, bvec_eq, numI]
  refine halfA_kind p w 1 (Txt.name p.tn && wi p.tw 1 1000 && fm p.q0 p.q1 p.q2 p.q3) (1 :: (num p.tn.data.toList.length ++ (p.tn.data.toList ++ (num p.tw.toNat ++ (num p.q0.toNat ++ (num p.q1.toNat ++ (num p.q2.toNat ++ (num p.q3.toNat ++ []))))))) : List UInt8) (fun _ : Unit => p.norm 1) (fun _ _ => True) (fun ho => ?_) (make1 p hk) (plainly1 p) (remade_is p 1 (plainly1 p) (make1 (p.norm 1) rfl)) (fun W _ => formed1 _ _ _ _ _ _ W ht) (fun ho W _ => ?_) (fun ho rb W h => ?_) (fun ho _ W _ => ?_) (fun _ _ _ _ _ => trivial) (fun _ W => plainly1 (p.norm 1) W) (fun _ _ W _ _ => bsame (p.norm 1) rfl rfl W)
  · simp only [Bool.and_eq_true] at ho
    have z1 := bname_size ho.1.1
    have z2 := bwi ho.1.2
    have z3 := bpos ho.2
    rw [← hb]
    have y1 := btxt_len z1
    have y2 : (numI p.tw).length ≤ 10 := num_length _
    have y3 := bvec_len ⟨p.q0, p.q1, p.q2, p.q3⟩
    simp only [List.length_append, List.length_cons, List.length_nil]
    omega
  · simp only [Bool.and_eq_true] at ho
    have z1 := bname_size ho.1.1
    have z2 := bwi ho.1.2
    have z3 := bpos ho.2
    rw [← hb]
    have zs : p.tn.size ≤ 64 := by rw [Lib.size_eq]; exact z1
    exact recB1 p.tn p.tw ⟨p.q0, p.q1, p.q2, p.q3⟩ W (by omega) (by omega) z3 (by omega)
  · simp only [Bool.and_eq_true] at ho
    have z1 := bname_size ho.1.1
    have z2 := bwi ho.1.2
    have z3 := bpos ho.2
    have z4 := bfm ho.2
    have R := record1 W rb (some (1 :: (num p.tn.data.toList.length ++ (p.tn.data.toList ++ (num p.tw.toNat ++ (num p.q0.toNat ++ (num p.q1.toNat ++ (num p.q2.toNat ++ (num p.q3.toNat ++ []))))))) : List UInt8)) h rfl
    rw [show (pKnd (some (1 :: (num p.tn.data.toList.length ++ (p.tn.data.toList ++ (num p.tw.toNat ++ (num p.q0.toNat ++ (num p.q1.toNat ++ (num p.q2.toNat ++ (num p.q3.toNat ++ []))))))) : List UInt8))).2 = some (num p.tn.data.toList.length ++ (p.tn.data.toList ++ (num p.tw.toNat ++ (num p.q0.toNat ++ (num p.q1.toNat ++ (num p.q2.toNat ++ (num p.q3.toNat ++ []))))))) from rfl, pTxt_laid z1] at R
    dsimp only at R
    rw [pNum_laid (by omega)] at R
    dsimp only at R
    rw [pVec_laid (by omega) (by omega) (by omega) (by omega)] at R
    dsimp only at R
    rw [Int.toNat_of_nonneg (show 0 ≤ p.tw by omega), Int.toNat_of_nonneg (show 0 ≤ p.q0 by omega), Int.toNat_of_nonneg (show 0 ≤ p.q1 by omega), Int.toNat_of_nonneg (show 0 ≤ p.q2 by omega), Int.toNat_of_nonneg (show 0 ≤ p.q3 by omega)] at R
    refine R.mono ?_
    rintro e w' ⟨q1, q2⟩
    exact ⟨(), q1, q2.out.1, q2.out.2, trivial⟩
  · exact ho ▸ formed1 _ _ _ _ _ _ W ht
set_option maxRecDepth 100000 in
theorem backB2 (w : World) (a : Option Addr) (c : Nat) (r : List UInt8) (kd : UInt8) (hkd : kd.toNat = 2) (hB : Byt w w.heap.size a c (kd :: r)) : HalfB a (kd :: r).length c w := by
  obtain ⟨v1, s1, e1⟩ : ∃ v s, pTxt (some r) = (v, s) := ⟨_, _, rfl⟩
  have l1 : v1.length ≤ 64 := by have := bTxt_len (some r); rw [e1] at this; exact this
  obtain ⟨v2, s2, e2⟩ : ∃ v s, pNum s1 = (v, s) := ⟨_, _, rfl⟩
  obtain ⟨v3, s3, e3⟩ : ∃ v s, pVec s2 = (v, s) := ⟨_, _, rfl⟩
  refine halfB_kind w a c (kd :: r) 2 (fun _ : Unit => { PL.zero with kind := 2, nd := ⟨⟨v1⟩⟩, ep := (v2 : Nat), v0 := v3.a, v1 := v3.b, v2 := v3.c, v3 := v3.d }) (fun _ _ => True) s3 (Txt.name ⟨⟨v1⟩⟩ && wi (v2 : Nat) 1 2147483647 && fm v3.a v3.b v3.c v3.d) hB ?_ ?_ (fun _ _ _ _ _ => trivial) (fun _ W => plainly2 _ W) (fun _ W => make2 _ rfl W) ?_
  · intro rb W h
    have R := record2 W rb (some (kd :: r)) h hkd
    rw [show (pKnd (some (kd :: r))).2 = some r from rfl, e1] at R
    dsimp only at R
    rw [e2] at R
    dsimp only at R
    rw [e3] at R
    refine R.mono ?_
    rintro e w' ⟨q1, q2⟩
    exact ⟨(), q1, q2.out.1, q2.out.2, trivial⟩
  · intro _ W _
    exact formed2 _ _ _ _ _ _ W _ _ _ (show v1.length ≤ _ by omega) rfl rfl rfl
  · intro hs ho _ W _
    subst hs
    simp only [Bool.and_eq_true] at ho
    obtain ⟨q2, rfl⟩ := bVec_on e3
    obtain ⟨q1, rfl⟩ := pNum_on e2
    have t1 := pTxt_was e1
    have z1 := l1
    have t2 := (pNum_was e2).1
    have z2 := bwi ho.1.2
    have t3 := pVec_was e3
    have z3 := bpos ho.2
    have hb : kd :: r = [2] ++ txtB ⟨⟨v1⟩⟩ ++ numI (v2 : Nat) ++ vecB v3 := by
      rw [kd_eq hkd (by decide), t1, t2, t3]
      simp [btxt_eq, bvec_eq, numI]
    rw [hb]
    have zs : (ByteArray.mk ⟨v1⟩).size ≤ 64 := l1
    exact recB2 ⟨⟨v1⟩⟩ (v2 : Nat) v3 W (by omega) (by omega) z3 (by omega)
set_option maxRecDepth 100000 in
theorem backA2 (p : PL) (w : World) (hk : p.kind = 2) (ht : p.nd.size ≤ 9223372036854775000) : HalfA p w := by
  have hb : [2] ++ txtB p.nd ++ numI p.ep ++ vecB ⟨p.v0, p.v1, p.v2, p.v3⟩ = (2 :: (num p.nd.data.toList.length ++ (p.nd.data.toList ++ (num p.ep.toNat ++ (num p.v0.toNat ++ (num p.v1.toNat ++ (num p.v2.toNat ++ (num p.v3.toNat ++ []))))))) : List UInt8) := by simp [btxt_eq, bvec_eq, numI]
  refine halfA_kind p w 2 (Txt.name p.nd && wi p.ep 1 2147483647 && fm p.v0 p.v1 p.v2 p.v3) (2 :: (num p.nd.data.toList.length ++ (p.nd.data.toList ++ (num p.ep.toNat ++ (num p.v0.toNat ++ (num p.v1.toNat ++ (num p.v2.toNat ++ (num p.v3.toNat ++ []))))))) : List UInt8) (fun _ : Unit => p.norm 2) (fun _ _ => True) (fun ho => ?_) (make2 p hk) (plainly2 p) (remade_is p 2 (plainly2 p) (make2 (p.norm 2) rfl)) (fun W _ => formed2 _ _ _ _ _ _ W _ _ _ ht rfl rfl rfl) (fun ho W _ => ?_) (fun ho rb W h => ?_) (fun ho _ W _ => ?_) (fun _ _ _ _ _ => trivial) (fun _ W => plainly2 (p.norm 2) W) (fun _ _ W _ _ => bsame (p.norm 2) rfl rfl W)
  · simp only [Bool.and_eq_true] at ho
    have z1 := bname_size ho.1.1
    have z2 := bwi ho.1.2
    have z3 := bpos ho.2
    rw [← hb]
    have y1 := btxt_len z1
    have y2 : (numI p.ep).length ≤ 10 := num_length _
    have y3 := bvec_len ⟨p.v0, p.v1, p.v2, p.v3⟩
    simp only [List.length_append, List.length_cons, List.length_nil]
    omega
  · simp only [Bool.and_eq_true] at ho
    have z1 := bname_size ho.1.1
    have z2 := bwi ho.1.2
    have z3 := bpos ho.2
    rw [← hb]
    have zs : p.nd.size ≤ 64 := by rw [Lib.size_eq]; exact z1
    exact recB2 p.nd p.ep ⟨p.v0, p.v1, p.v2, p.v3⟩ W (by omega) (by omega) z3 (by omega)
  · simp only [Bool.and_eq_true] at ho
    have z1 := bname_size ho.1.1
    have z2 := bwi ho.1.2
    have z3 := bpos ho.2
    have z4 := bfm ho.2
    have R := record2 W rb (some (2 :: (num p.nd.data.toList.length ++ (p.nd.data.toList ++ (num p.ep.toNat ++ (num p.v0.toNat ++ (num p.v1.toNat ++ (num p.v2.toNat ++ (num p.v3.toNat ++ []))))))) : List UInt8)) h rfl
    rw [show (pKnd (some (2 :: (num p.nd.data.toList.length ++ (p.nd.data.toList ++ (num p.ep.toNat ++ (num p.v0.toNat ++ (num p.v1.toNat ++ (num p.v2.toNat ++ (num p.v3.toNat ++ []))))))) : List UInt8))).2 = some (num p.nd.data.toList.length ++ (p.nd.data.toList ++ (num p.ep.toNat ++ (num p.v0.toNat ++ (num p.v1.toNat ++ (num p.v2.toNat ++ (num p.v3.toNat ++ []))))))) from rfl, pTxt_laid z1] at R
    dsimp only at R
    rw [pNum_laid (by omega)] at R
    dsimp only at R
    rw [pVec_laid (by omega) (by omega) (by omega) (by omega)] at R
    dsimp only at R
    rw [Int.toNat_of_nonneg (show 0 ≤ p.ep by omega), Int.toNat_of_nonneg (show 0 ≤ p.v0 by omega), Int.toNat_of_nonneg (show 0 ≤ p.v1 by omega), Int.toNat_of_nonneg (show 0 ≤ p.v2 by omega), Int.toNat_of_nonneg (show 0 ≤ p.v3 by omega)] at R
    refine R.mono ?_
    rintro e w' ⟨q1, q2⟩
    exact ⟨(), q1, q2.out.1, q2.out.2, trivial⟩
  · exact ho ▸ formed2 _ _ _ _ _ _ W _ _ _ ht rfl rfl rfl
set_option maxRecDepth 100000 in
theorem backB3 (w : World) (a : Option Addr) (c : Nat) (r : List UInt8) (kd : UInt8) (hkd : kd.toNat = 3) (hB : Byt w w.heap.size a c (kd :: r)) : HalfB a (kd :: r).length c w := by
  obtain ⟨v1, s1, e1⟩ : ∃ v s, pTxt (some r) = (v, s) := ⟨_, _, rfl⟩
  have l1 : v1.length ≤ 64 := by have := bTxt_len (some r); rw [e1] at this; exact this
  refine halfB_kind w a c (kd :: r) 3 (fun _ : Unit => { PL.zero with kind := 3, nd := ⟨⟨v1⟩⟩ }) (fun _ _ => True) s1 (Txt.name ⟨⟨v1⟩⟩) hB ?_ ?_ (fun _ _ _ _ _ => trivial) (fun _ W => plainly3 _ W) (fun _ W => make3 _ rfl W) ?_
  · intro rb W h
    have R := record3 W rb (some (kd :: r)) h hkd
    rw [show (pKnd (some (kd :: r))).2 = some r from rfl, e1] at R
    refine R.mono ?_
    rintro e w' ⟨q1, q2⟩
    exact ⟨(), q1, q2.out.1, q2.out.2, trivial⟩
  · intro _ W _
    exact formed3 _ _ W (show v1.length ≤ _ by omega) rfl
  · intro hs ho _ W _
    subst hs
    have t1 := pTxt_was e1
    have z1 := l1
    have hb : kd :: r = [3] ++ txtB ⟨⟨v1⟩⟩ := by
      rw [kd_eq hkd (by decide), t1]
      simp [btxt_eq, bvec_eq, numI]
    rw [hb]
    have zs : (ByteArray.mk ⟨v1⟩).size ≤ 64 := l1
    exact recB3 ⟨⟨v1⟩⟩ W (by omega)
set_option maxRecDepth 100000 in
theorem backA3 (p : PL) (w : World) (hk : p.kind = 3) (ht : p.nd.size ≤ 9223372036854775000) : HalfA p w := by
  have hb : [3] ++ txtB p.nd = (3 :: (num p.nd.data.toList.length ++ (p.nd.data.toList ++ [])) : List UInt8) := by simp [btxt_eq, bvec_eq, numI]
  refine halfA_kind p w 3 (Txt.name p.nd) (3 :: (num p.nd.data.toList.length ++ (p.nd.data.toList ++ [])) : List UInt8) (fun _ : Unit => p.norm 3) (fun _ _ => True) (fun ho => ?_) (make3 p hk) (plainly3 p) (remade_is p 3 (plainly3 p) (make3 (p.norm 3) rfl)) (fun W _ => formed3 _ _ W ht rfl) (fun ho W _ => ?_) (fun ho rb W h => ?_) (fun ho _ W _ => ?_) (fun _ _ _ _ _ => trivial) (fun _ W => plainly3 (p.norm 3) W) (fun _ _ W _ _ => bsame (p.norm 3) rfl rfl W)
  · have z1 := bname_size ho
    rw [← hb]
    have y1 := btxt_len z1
    simp only [List.length_append, List.length_cons, List.length_nil]
    omega
  · have z1 := bname_size ho
    rw [← hb]
    have zs : p.nd.size ≤ 64 := by rw [Lib.size_eq]; exact z1
    exact recB3 p.nd W (by omega)
  · have z1 := bname_size ho
    have R := record3 W rb (some (3 :: (num p.nd.data.toList.length ++ (p.nd.data.toList ++ [])) : List UInt8)) h rfl
    rw [show (pKnd (some (3 :: (num p.nd.data.toList.length ++ (p.nd.data.toList ++ [])) : List UInt8))).2 = some (num p.nd.data.toList.length ++ (p.nd.data.toList ++ [])) from rfl, pTxt_laid z1] at R
    refine R.mono ?_
    rintro e w' ⟨q1, q2⟩
    exact ⟨(), q1, q2.out.1, q2.out.2, trivial⟩
  · exact ho ▸ formed3 _ _ W ht rfl
set_option maxRecDepth 100000 in
theorem backB4 (w : World) (a : Option Addr) (c : Nat) (r : List UInt8) (kd : UInt8) (hkd : kd.toNat = 4) (hB : Byt w w.heap.size a c (kd :: r)) : HalfB a (kd :: r).length c w := by
  obtain ⟨v1, s1, e1⟩ : ∃ v s, pTxt (some r) = (v, s) := ⟨_, _, rfl⟩
  have l1 : v1.length ≤ 64 := by have := bTxt_len (some r); rw [e1] at this; exact this
  refine halfB_kind w a c (kd :: r) 4 (fun _ : Unit => { PL.zero with kind := 4, nd := ⟨⟨v1⟩⟩ }) (fun _ _ => True) s1 (Txt.name ⟨⟨v1⟩⟩) hB ?_ ?_ (fun _ _ _ _ _ => trivial) (fun _ W => plainly4 _ W) (fun _ W => make4 _ rfl W) ?_
  · intro rb W h
    have R := record4 W rb (some (kd :: r)) h hkd
    rw [show (pKnd (some (kd :: r))).2 = some r from rfl, e1] at R
    refine R.mono ?_
    rintro e w' ⟨q1, q2⟩
    exact ⟨(), q1, q2.out.1, q2.out.2, trivial⟩
  · intro _ W _
    exact formed4 _ _ W (show v1.length ≤ _ by omega) rfl
  · intro hs ho _ W _
    subst hs
    have t1 := pTxt_was e1
    have z1 := l1
    have hb : kd :: r = [4] ++ txtB ⟨⟨v1⟩⟩ := by
      rw [kd_eq hkd (by decide), t1]
      simp [btxt_eq, bvec_eq, numI]
    rw [hb]
    have zs : (ByteArray.mk ⟨v1⟩).size ≤ 64 := l1
    exact recB4 ⟨⟨v1⟩⟩ W (by omega)
set_option maxRecDepth 100000 in
theorem backA4 (p : PL) (w : World) (hk : p.kind = 4) (ht : p.nd.size ≤ 9223372036854775000) : HalfA p w := by
  have hb : [4] ++ txtB p.nd = (4 :: (num p.nd.data.toList.length ++ (p.nd.data.toList ++ [])) : List UInt8) := by simp [btxt_eq, bvec_eq, numI]
  refine halfA_kind p w 4 (Txt.name p.nd) (4 :: (num p.nd.data.toList.length ++ (p.nd.data.toList ++ [])) : List UInt8) (fun _ : Unit => p.norm 4) (fun _ _ => True) (fun ho => ?_) (make4 p hk) (plainly4 p) (remade_is p 4 (plainly4 p) (make4 (p.norm 4) rfl)) (fun W _ => formed4 _ _ W ht rfl) (fun ho W _ => ?_) (fun ho rb W h => ?_) (fun ho _ W _ => ?_) (fun _ _ _ _ _ => trivial) (fun _ W => plainly4 (p.norm 4) W) (fun _ _ W _ _ => bsame (p.norm 4) rfl rfl W)
  · have z1 := bname_size ho
    rw [← hb]
    have y1 := btxt_len z1
    simp only [List.length_append, List.length_cons, List.length_nil]
    omega
  · have z1 := bname_size ho
    rw [← hb]
    have zs : p.nd.size ≤ 64 := by rw [Lib.size_eq]; exact z1
    exact recB4 p.nd W (by omega)
  · have z1 := bname_size ho
    have R := record4 W rb (some (4 :: (num p.nd.data.toList.length ++ (p.nd.data.toList ++ [])) : List UInt8)) h rfl
    rw [show (pKnd (some (4 :: (num p.nd.data.toList.length ++ (p.nd.data.toList ++ [])) : List UInt8))).2 = some (num p.nd.data.toList.length ++ (p.nd.data.toList ++ [])) from rfl, pTxt_laid z1] at R
    refine R.mono ?_
    rintro e w' ⟨q1, q2⟩
    exact ⟨(), q1, q2.out.1, q2.out.2, trivial⟩
  · exact ho ▸ formed4 _ _ W ht rfl
set_option maxRecDepth 100000 in
theorem backB6 (w : World) (a : Option Addr) (c : Nat) (r : List UInt8) (kd : UInt8) (hkd : kd.toNat = 6) (hB : Byt w w.heap.size a c (kd :: r)) : HalfB a (kd :: r).length c w := by
  obtain ⟨v1, s1, e1⟩ : ∃ v s, pNum (some r) = (v, s) := ⟨_, _, rfl⟩
  refine halfB_kind w a c (kd :: r) 6 (fun _ : Unit => { PL.zero with kind := 6, id := (v1 : Nat) }) (fun _ _ => True) s1 (wi (v1 : Nat) 1 100) hB ?_ ?_ (fun _ _ _ _ _ => trivial) (fun _ W => plainly6 _ W) (fun _ W => make6 _ rfl W) ?_
  · intro rb W h
    have R := record6 W rb (some (kd :: r)) h hkd
    rw [show (pKnd (some (kd :: r))).2 = some r from rfl, e1] at R
    refine R.mono ?_
    rintro e w' ⟨q1, q2⟩
    exact ⟨(), q1, q2.out.1, q2.out.2, trivial⟩
  · intro _ W _
    exact formed6 _ W
  · intro hs ho _ W _
    subst hs
    have t1 := (pNum_was e1).1
    have z1 := bwi ho
    have hb : kd :: r = [6] ++ numI (v1 : Nat) := by
      rw [kd_eq hkd (by decide), t1]
      simp [btxt_eq, bvec_eq, numI]
    rw [hb]
    exact recB6 (v1 : Nat) W (by omega)
set_option maxRecDepth 100000 in
theorem backA6 (p : PL) (w : World) (hk : p.kind = 6) : HalfA p w := by
  have hb : [6] ++ numI p.id = (6 :: (num p.id.toNat ++ []) : List UInt8) := by simp [btxt_eq, bvec_eq, numI]
  refine halfA_kind p w 6 (wi p.id 1 100) (6 :: (num p.id.toNat ++ []) : List UInt8) (fun _ : Unit => p.norm 6) (fun _ _ => True) (fun ho => ?_) (make6 p hk) (plainly6 p) (remade_is p 6 (plainly6 p) (make6 (p.norm 6) rfl)) (fun W _ => formed6 _ W) (fun ho W _ => ?_) (fun ho rb W h => ?_) (fun ho _ W _ => ?_) (fun _ _ _ _ _ => trivial) (fun _ W => plainly6 (p.norm 6) W) (fun _ _ W _ _ => bsame (p.norm 6) rfl rfl W)
  · have z1 := bwi ho
    rw [← hb]
    have y1 : (numI p.id).length ≤ 10 := num_length _
    simp only [List.length_append, List.length_cons, List.length_nil]
    omega
  · have z1 := bwi ho
    rw [← hb]
    exact recB6 p.id W (by omega)
  · have z1 := bwi ho
    have R := record6 W rb (some (6 :: (num p.id.toNat ++ []) : List UInt8)) h rfl
    rw [show (pKnd (some (6 :: (num p.id.toNat ++ []) : List UInt8))).2 = some (num p.id.toNat ++ []) from rfl, pNum_laid (by omega)] at R
    rw [Int.toNat_of_nonneg (show 0 ≤ p.id by omega)] at R
    refine R.mono ?_
    rintro e w' ⟨q1, q2⟩
    exact ⟨(), q1, q2.out.1, q2.out.2, trivial⟩
  · exact ho ▸ formed6 _ W
set_option maxRecDepth 100000 in
theorem backB8 (w : World) (a : Option Addr) (c : Nat) (r : List UInt8) (kd : UInt8) (hkd : kd.toNat = 8) (hB : Byt w w.heap.size a c (kd :: r)) : HalfB a (kd :: r).length c w := by
  obtain ⟨v1, s1, e1⟩ : ∃ v s, pNum (some r) = (v, s) := ⟨_, _, rfl⟩
  refine halfB_kind w a c (kd :: r) 8 (fun _ : Unit => { PL.zero with kind := 8, id := (v1 : Nat) }) (fun _ _ => True) s1 (wi (v1 : Nat) 1 100) hB ?_ ?_ (fun _ _ _ _ _ => trivial) (fun _ W => plainly8 _ W) (fun _ W => make8 _ rfl W) ?_
  · intro rb W h
    have R := record8 W rb (some (kd :: r)) h hkd
    rw [show (pKnd (some (kd :: r))).2 = some r from rfl, e1] at R
    refine R.mono ?_
    rintro e w' ⟨q1, q2⟩
    exact ⟨(), q1, q2.out.1, q2.out.2, trivial⟩
  · intro _ W _
    exact formed8 _ W
  · intro hs ho _ W _
    subst hs
    have t1 := (pNum_was e1).1
    have z1 := bwi ho
    have hb : kd :: r = [8] ++ numI (v1 : Nat) := by
      rw [kd_eq hkd (by decide), t1]
      simp [btxt_eq, bvec_eq, numI]
    rw [hb]
    exact recB8 (v1 : Nat) W (by omega)
set_option maxRecDepth 100000 in
theorem backA8 (p : PL) (w : World) (hk : p.kind = 8) : HalfA p w := by
  have hb : [8] ++ numI p.id = (8 :: (num p.id.toNat ++ []) : List UInt8) := by simp [btxt_eq, bvec_eq, numI]
  refine halfA_kind p w 8 (wi p.id 1 100) (8 :: (num p.id.toNat ++ []) : List UInt8) (fun _ : Unit => p.norm 8) (fun _ _ => True) (fun ho => ?_) (make8 p hk) (plainly8 p) (remade_is p 8 (plainly8 p) (make8 (p.norm 8) rfl)) (fun W _ => formed8 _ W) (fun ho W _ => ?_) (fun ho rb W h => ?_) (fun ho _ W _ => ?_) (fun _ _ _ _ _ => trivial) (fun _ W => plainly8 (p.norm 8) W) (fun _ _ W _ _ => bsame (p.norm 8) rfl rfl W)
  · have z1 := bwi ho
    rw [← hb]
    have y1 : (numI p.id).length ≤ 10 := num_length _
    simp only [List.length_append, List.length_cons, List.length_nil]
    omega
  · have z1 := bwi ho
    rw [← hb]
    exact recB8 p.id W (by omega)
  · have z1 := bwi ho
    have R := record8 W rb (some (8 :: (num p.id.toNat ++ []) : List UInt8)) h rfl
    rw [show (pKnd (some (8 :: (num p.id.toNat ++ []) : List UInt8))).2 = some (num p.id.toNat ++ []) from rfl, pNum_laid (by omega)] at R
    rw [Int.toNat_of_nonneg (show 0 ≤ p.id by omega)] at R
    refine R.mono ?_
    rintro e w' ⟨q1, q2⟩
    exact ⟨(), q1, q2.out.1, q2.out.2, trivial⟩
  · exact ho ▸ formed8 _ W
set_option maxRecDepth 100000 in
theorem backB9 (w : World) (a : Option Addr) (c : Nat) (r : List UInt8) (kd : UInt8) (hkd : kd.toNat = 9) (hB : Byt w w.heap.size a c (kd :: r)) : HalfB a (kd :: r).length c w := by
  obtain ⟨v1, s1, e1⟩ : ∃ v s, pNum (some r) = (v, s) := ⟨_, _, rfl⟩
  obtain ⟨v2, s2, e2⟩ : ∃ v s, pTxt s1 = (v, s) := ⟨_, _, rfl⟩
  have l2 : v2.length ≤ 64 := by have := bTxt_len s1; rw [e2] at this; exact this
  refine halfB_kind w a c (kd :: r) 9 (fun _ : Unit => { PL.zero with kind := 9, id := (v1 : Nat), nd := ⟨⟨v2⟩⟩ }) (fun _ _ => True) s2 (wi (v1 : Nat) 1 100 && Txt.name ⟨⟨v2⟩⟩) hB ?_ ?_ (fun _ _ _ _ _ => trivial) (fun _ W => plainly9 _ W) (fun _ W => make9 _ rfl W) ?_
  · intro rb W h
    have R := record9 W rb (some (kd :: r)) h hkd
    rw [show (pKnd (some (kd :: r))).2 = some r from rfl, e1] at R
    dsimp only at R
    rw [e2] at R
    refine R.mono ?_
    rintro e w' ⟨q1, q2⟩
    exact ⟨(), q1, q2.out.1, q2.out.2, trivial⟩
  · intro _ W _
    exact formed9 _ _ _ _ W (show v2.length ≤ _ by omega) rfl rfl
  · intro hs ho _ W _
    subst hs
    simp only [Bool.and_eq_true] at ho
    obtain ⟨q1, rfl⟩ := pTxt_on e2
    have t1 := (pNum_was e1).1
    have z1 := bwi ho.1
    have t2 := pTxt_was e2
    have z2 := l2
    have hb : kd :: r = [9] ++ numI (v1 : Nat) ++ txtB ⟨⟨v2⟩⟩ := by
      rw [kd_eq hkd (by decide), t1, t2]
      simp [btxt_eq, bvec_eq, numI]
    rw [hb]
    have zs : (ByteArray.mk ⟨v2⟩).size ≤ 64 := l2
    exact recB9 (v1 : Nat) ⟨⟨v2⟩⟩ W (by omega) (by omega)
set_option maxRecDepth 100000 in
theorem backA9 (p : PL) (w : World) (hk : p.kind = 9) (ht : p.nd.size ≤ 9223372036854775000) : HalfA p w := by
  have hb : [9] ++ numI p.id ++ txtB p.nd = (9 :: (num p.id.toNat ++ (num p.nd.data.toList.length ++ (p.nd.data.toList ++ []))) : List UInt8) := by simp [btxt_eq, bvec_eq, numI]
  refine halfA_kind p w 9 (wi p.id 1 100 && Txt.name p.nd) (9 :: (num p.id.toNat ++ (num p.nd.data.toList.length ++ (p.nd.data.toList ++ []))) : List UInt8) (fun _ : Unit => p.norm 9) (fun _ _ => True) (fun ho => ?_) (make9 p hk) (plainly9 p) (remade_is p 9 (plainly9 p) (make9 (p.norm 9) rfl)) (fun W _ => formed9 _ _ _ _ W ht rfl rfl) (fun ho W _ => ?_) (fun ho rb W h => ?_) (fun ho _ W _ => ?_) (fun _ _ _ _ _ => trivial) (fun _ W => plainly9 (p.norm 9) W) (fun _ _ W _ _ => bsame (p.norm 9) rfl rfl W)
  · simp only [Bool.and_eq_true] at ho
    have z1 := bwi ho.1
    have z2 := bname_size ho.2
    rw [← hb]
    have y1 : (numI p.id).length ≤ 10 := num_length _
    have y2 := btxt_len z2
    simp only [List.length_append, List.length_cons, List.length_nil]
    omega
  · simp only [Bool.and_eq_true] at ho
    have z1 := bwi ho.1
    have z2 := bname_size ho.2
    rw [← hb]
    have zs : p.nd.size ≤ 64 := by rw [Lib.size_eq]; exact z2
    exact recB9 p.id p.nd W (by omega) (by omega)
  · simp only [Bool.and_eq_true] at ho
    have z1 := bwi ho.1
    have z2 := bname_size ho.2
    have R := record9 W rb (some (9 :: (num p.id.toNat ++ (num p.nd.data.toList.length ++ (p.nd.data.toList ++ []))) : List UInt8)) h rfl
    rw [show (pKnd (some (9 :: (num p.id.toNat ++ (num p.nd.data.toList.length ++ (p.nd.data.toList ++ []))) : List UInt8))).2 = some (num p.id.toNat ++ (num p.nd.data.toList.length ++ (p.nd.data.toList ++ []))) from rfl, pNum_laid (by omega)] at R
    dsimp only at R
    rw [pTxt_laid z2] at R
    rw [Int.toNat_of_nonneg (show 0 ≤ p.id by omega)] at R
    refine R.mono ?_
    rintro e w' ⟨q1, q2⟩
    exact ⟨(), q1, q2.out.1, q2.out.2, trivial⟩
  · exact ho ▸ formed9 _ _ _ _ W ht rfl rfl
set_option maxRecDepth 100000 in
theorem backB10 (w : World) (a : Option Addr) (c : Nat) (r : List UInt8) (kd : UInt8) (hkd : kd.toNat = 10) (hB : Byt w w.heap.size a c (kd :: r)) : HalfB a (kd :: r).length c w := by
  obtain ⟨v1, s1, e1⟩ : ∃ v s, pNum (some r) = (v, s) := ⟨_, _, rfl⟩
  obtain ⟨v2, s2, e2⟩ : ∃ v s, pUp 6 s1 = (v, s) := ⟨_, _, rfl⟩
  refine halfB_kind w a c (kd :: r) 10 (fun _ : Unit => { PL.zero with kind := 10, id := (v1 : Nat), st := (v2 : Nat) }) (fun _ _ => True) s2 (wi (v1 : Nat) 1 100 && es (v2 : Nat)) hB ?_ ?_ (fun _ _ _ _ _ => trivial) (fun _ W => plainly10 _ W) (fun _ W => make10 _ rfl W) ?_
  · intro rb W h
    have R := record10 W rb (some (kd :: r)) h hkd
    rw [show (pKnd (some (kd :: r))).2 = some r from rfl, e1] at R
    dsimp only at R
    rw [e2] at R
    refine R.mono ?_
    rintro e w' ⟨q1, q2⟩
    exact ⟨(), q1, q2.out.1, q2.out.2, trivial⟩
  · intro _ W _
    exact formed10 _ _ _ _ W rfl rfl
  · intro hs ho _ W _
    subst hs
    simp only [Bool.and_eq_true] at ho
    obtain ⟨q1, rfl⟩ := pUp_on e2
    have t1 := (pNum_was e1).1
    have z1 := bwi ho.1
    have t2 := (pUp_was e2).1
    have z2 := bes ho.2
    have hb : kd :: r = [10] ++ numI (v1 : Nat) ++ numI (v2 : Nat) := by
      rw [kd_eq hkd (by decide), t1, t2]
      simp [btxt_eq, bvec_eq, numI]
    rw [hb]
    exact recB10 (v1 : Nat) (v2 : Nat) W (by omega) (by omega)
set_option maxRecDepth 100000 in
theorem backA10 (p : PL) (w : World) (hk : p.kind = 10) : HalfA p w := by
  have hb : [10] ++ numI p.id ++ numI p.st = (10 :: (num p.id.toNat ++ (num p.st.toNat ++ [])) : List UInt8) := by simp [btxt_eq, bvec_eq, numI]
  refine halfA_kind p w 10 (wi p.id 1 100 && es p.st) (10 :: (num p.id.toNat ++ (num p.st.toNat ++ [])) : List UInt8) (fun _ : Unit => p.norm 10) (fun _ _ => True) (fun ho => ?_) (make10 p hk) (plainly10 p) (remade_is p 10 (plainly10 p) (make10 (p.norm 10) rfl)) (fun W _ => formed10 _ _ _ _ W rfl rfl) (fun ho W _ => ?_) (fun ho rb W h => ?_) (fun ho _ W _ => ?_) (fun _ _ _ _ _ => trivial) (fun _ W => plainly10 (p.norm 10) W) (fun _ _ W _ _ => bsame (p.norm 10) rfl rfl W)
  · simp only [Bool.and_eq_true] at ho
    have z1 := bwi ho.1
    have z2 := bes ho.2
    rw [← hb]
    have y1 : (numI p.id).length ≤ 10 := num_length _
    have y2 : (numI p.st).length ≤ 10 := num_length _
    simp only [List.length_append, List.length_cons, List.length_nil]
    omega
  · simp only [Bool.and_eq_true] at ho
    have z1 := bwi ho.1
    have z2 := bes ho.2
    rw [← hb]
    exact recB10 p.id p.st W (by omega) (by omega)
  · simp only [Bool.and_eq_true] at ho
    have z1 := bwi ho.1
    have z2 := bes ho.2
    have R := record10 W rb (some (10 :: (num p.id.toNat ++ (num p.st.toNat ++ [])) : List UInt8)) h rfl
    rw [show (pKnd (some (10 :: (num p.id.toNat ++ (num p.st.toNat ++ [])) : List UInt8))).2 = some (num p.id.toNat ++ (num p.st.toNat ++ [])) from rfl, pNum_laid (by omega)] at R
    dsimp only at R
    rw [pUp_laid (by omega) (by omega)] at R
    rw [Int.toNat_of_nonneg (show 0 ≤ p.id by omega), Int.toNat_of_nonneg (show 0 ≤ p.st by omega)] at R
    refine R.mono ?_
    rintro e w' ⟨q1, q2⟩
    exact ⟨(), q1, q2.out.1, q2.out.2, trivial⟩
  · exact ho ▸ formed10 _ _ _ _ W rfl rfl
set_option maxRecDepth 100000 in
theorem backB11 (w : World) (a : Option Addr) (c : Nat) (r : List UInt8) (kd : UInt8) (hkd : kd.toNat = 11) (hB : Byt w w.heap.size a c (kd :: r)) : HalfB a (kd :: r).length c w := by
  refine halfB_kind w a c (kd :: r) 11 (fun _ : Unit => { PL.zero with kind := 11 }) (fun _ _ => True) (some r) true hB ?_ ?_ (fun _ _ _ _ _ => trivial) (fun _ W => plainly11 _ W) (fun _ W => make11 _ rfl W) ?_
  · intro rb W h
    have R := record11 W rb (some (kd :: r)) h hkd
    refine R.mono ?_
    rintro e w' ⟨q1, q2⟩
    exact ⟨(), q1, q2.out.1, q2.out.2, trivial⟩
  · intro _ W _
    exact formed11 W
  · intro hs ho _ W _
    have hr : r = [] := Option.some.inj hs
    have hb : kd :: r = [11] := by
      rw [kd_eq hkd (by decide), hr]
      simp [btxt_eq, bvec_eq, numI]
    rw [hb]
    exact recB11 W
set_option maxRecDepth 100000 in
theorem backA11 (p : PL) (w : World) (hk : p.kind = 11) : HalfA p w := by
  have hb : [11] = (11 :: [] : List UInt8) := by simp [btxt_eq, bvec_eq, numI]
  refine halfA_kind p w 11 true (11 :: [] : List UInt8) (fun _ : Unit => p.norm 11) (fun _ _ => True) (fun ho => ?_) (make11 p hk) (plainly11 p) (remade_is p 11 (plainly11 p) (make11 (p.norm 11) rfl)) (fun W _ => formed11 W) (fun ho W _ => ?_) (fun ho rb W h => ?_) (fun ho _ W _ => ?_) (fun _ _ _ _ _ => trivial) (fun _ W => plainly11 (p.norm 11) W) (fun _ _ W _ _ => bsame (p.norm 11) rfl rfl W)
  · rw [← hb]
    simp only [List.length_append, List.length_cons, List.length_nil]
    decide
  · rw [← hb]
    exact recB11 W
  · have R := record11 W rb (some (11 :: [] : List UInt8)) h rfl
    refine R.mono ?_
    rintro e w' ⟨q1, q2⟩
    exact ⟨(), q1, q2.out.1, q2.out.2, trivial⟩
  · exact formed11 W
end Go.Proofs.Ytnkkiepoljbhlaa
