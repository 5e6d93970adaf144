/-
  Plain mathematics, for WireBack: what is laid is read back, what is read was laid so.
-/
import Derived.Test.YtnkkiepoljbhlaaDg
namespace Go.Proofs.Ytnkkiepoljbhlaa
open Go.RowKit

theorem p128 (i : Nat) : 128 ^ (i + 1) = 128 * 128 ^ i := by rw [Nat.pow_succ, Nat.mul_comm]
theorem numF_fuel : ∀ (f x : Nat), 1 ≤ f → x < 128 ^ f → numF (f + 1) x = numF f x
  | 0, _, h, _ => by omega
  | f + 1, x, _, hx => by
    by_cases h : x < 128
    · rw [numF_low h, numF_low h]
    · rw [numF_high h, numF_high h]
      have h1 : x / 128 < 128 ^ f := by
        rw [p128] at hx
        exact Nat.div_lt_of_lt_mul hx
      have h2 : 1 ≤ f := by
        rcases Nat.eq_zero_or_pos f with rfl | q
        · simp at hx; omega
        · exact q
      rw [numF_fuel f (x / 128) h2 h1]
theorem num_fuel {x : Nat} (h : x < 9223372036854775808) : num x = numF 9 x := numF_fuel 9 x (by decide) (by rw [show (128 : Nat) ^ 9 = 9223372036854775808 from by decide]; exact h)
theorem split128 (n x i : Nat) : n + x % 128 * 128 ^ i + x / 128 * 128 ^ (i + 1) = n + x * 128 ^ i := by
  rw [p128, ← Nat.mul_assoc, Nat.add_assoc, ← Nat.add_mul]
  congr 2
  omega
theorem numA_laid {lim : Nat} (r : List UInt8) : ∀ (f i n x : Nat), 1 ≤ f → x < 128 ^ f → i + f ≤ lim → (x ≠ 0 ∨ i = 0) → numA lim i n (numF f x ++ r) = some (n + x * 128 ^ i, r)
  | 0, _, _, _, h, _, _, _ => by omega
  | f + 1, i, n, x, _, hx, hi, h0 => by
    by_cases h : x < 128
    · have hb : (UInt8.ofNat x).toNat = x := by rw [UInt8.toNat_ofNat']; omega
      rw [numF_low h]
      show numA lim i n (UInt8.ofNat x :: r) = _
      unfold numA
      rw [if_neg (by omega), hb, if_neg (by omega), if_neg (by omega), Nat.mod_eq_of_lt h]
    · have hb : (UInt8.ofNat (x % 128 + 128)).toNat = x % 128 + 128 := by rw [UInt8.toNat_ofNat']; omega
      rw [numF_high h]
      show numA lim i n (UInt8.ofNat (x % 128 + 128) :: (numF f (x / 128) ++ r)) = _
      have h1 : x / 128 < 128 ^ f := by
        rw [p128] at hx
        exact Nat.div_lt_of_lt_mul hx
      have h2 : 1 ≤ f := by
        rcases Nat.eq_zero_or_pos f with rfl | q
        · simp at hx; omega
        · exact q
      unfold numA
      rw [if_neg (by omega), hb, if_pos (by omega), show (x % 128 + 128) % 128 = x % 128 by omega]
      rw [numA_laid r f (i + 1) _ (x / 128) h2 h1 (by omega) (.inl (by omega)), split128]
/-- a number that was laid is read back -/
theorem pNum_laid {x : Nat} (h : x < 9223372036854775808) (r : List UInt8) : pNum (some (num x ++ r)) = (x, some r) := by
  have h1 : numD 9 (num x ++ r) = some (x, r) := by
    rw [num_fuel h]
    unfold numD
    rw [numA_laid r 9 0 0 x (by decide) (by rw [show (128 : Nat) ^ 9 = 9223372036854775808 from by decide]; exact h) (by decide) (.inr rfl)]
    simp
  simp only [pNum, h1]
theorem numA_was {lim : Nat} : ∀ {l : List UInt8} {i n m : Nat} {r : List UInt8}, numA lim i n l = some (m, r) → ∃ x, m = n + x * 128 ^ i ∧ x < 128 ^ (lim - i) ∧ (0 < i → x ≠ 0) ∧ ∀ f, 1 ≤ f → x < 128 ^ f → l = numF f x ++ r
  | [], i, n, m, r, h => by cases h
  | b :: t, i, n, m, r, h => by
    have hb : b.toNat < 256 := b.toNat_lt
    unfold numA at h
    by_cases h1 : lim ≤ i
    · rw [if_pos h1] at h; cases h
    · rw [if_neg h1] at h
      have hpow : 128 ^ (lim - i) = 128 * 128 ^ (lim - (i + 1)) := by rw [← p128]; congr 1; omega
      by_cases h2 : 128 ≤ b.toNat
      · rw [if_pos h2] at h
        obtain ⟨x, e1, e2, e3, e4⟩ := numA_was h
        have hx : x ≠ 0 := e3 (Nat.succ_pos _)
        have hm : (b.toNat % 128 + x * 128) % 128 = b.toNat % 128 := by omega
        have hd : (b.toNat % 128 + x * 128) / 128 = x := by omega
        refine ⟨b.toNat % 128 + x * 128, ?_, ?_, fun _ => by omega, fun f hf hlt => ?_⟩
        · rw [e1, ← split128 n (b.toNat % 128 + x * 128) i, hm, hd]
        · rw [hpow]
          have : x + 1 ≤ 128 ^ (lim - (i + 1)) := e2
          have := Nat.mul_le_mul_left 128 this
          omega
        · cases f with
          | zero => omega
          | succ f =>
            rw [numF_high (by omega), hm, hd]
            have hlt' : x < 128 ^ f := by rw [p128] at hlt; exact (by omega : x < 128 ^ f)
            have hf' : 1 ≤ f := by
              rcases Nat.eq_zero_or_pos f with rfl | q
              · simp at hlt'; omega
              · exact q
            rw [show b.toNat % 128 + 128 = b.toNat by omega, UInt8.ofNat_toNat, e4 f hf' hlt']
            rfl
      · rw [if_neg h2] at h
        by_cases h3 : b.toNat = 0 ∧ 0 < i
        · rw [if_pos h3] at h; cases h
        · rw [if_neg h3] at h
          obtain ⟨e1, e2⟩ := Prod.mk.inj (Option.some.inj h)
          have hm : b.toNat % 128 = b.toNat := Nat.mod_eq_of_lt (by omega)
          refine ⟨b.toNat, by rw [← e1, hm], ?_, fun q => fun e => h3 ⟨e, q⟩, fun f hf hlt => ?_⟩
          · rw [hpow]
            have := Nat.pow_pos (n := lim - (i + 1)) (show 0 < 128 by decide)
            omega
          · cases f with
            | zero => omega
            | succ f =>
              rw [numF_low (by omega), UInt8.ofNat_toNat, e2]
              rfl
/-- a number that was read was laid so -/
theorem pNum_was {l : List UInt8} {m : Nat} {r : List UInt8} (h : pNum (some l) = (m, some r)) : l = num m ++ r ∧ m < 9223372036854775808 := by
  cases hd : numD 9 l with
  | none => simp only [pNum, hd] at h; cases h
  | some q =>
    obtain ⟨n, t⟩ := q
    simp only [pNum, hd] at h
    obtain ⟨rfl, h2⟩ := Prod.mk.inj h
    obtain rfl := Option.some.inj h2
    obtain ⟨x, e1, e2, _, e4⟩ := numA_was hd
    have ex : n = x := by rw [e1]; simp
    have hx : x < 9223372036854775808 := by
      have : (128 : Nat) ^ (9 - 0) = 9223372036854775808 := by decide
      omega
    subst ex
    exact ⟨by rw [num_fuel hx]; exact e4 9 (by decide) (by rw [show (128 : Nat) ^ 9 = 9223372036854775808 from by decide]; exact hx), hx⟩
theorem pUp_laid {x m : Nat} (h : x < 9223372036854775808) (hm : x ≤ m) (r : List UInt8) : pUp m (some (num x ++ r)) = (x, some r) := by
  unfold pUp
  rw [pNum_laid h, if_neg (by simp only; omega)]
theorem pUp_was {m : Nat} {l : List UInt8} {x : Nat} {r : List UInt8} (h : pUp m (some l) = (x, some r)) : l = num x ++ r ∧ x ≤ m := by
  unfold pUp at h
  by_cases q : m < (pNum (some l)).1
  · rw [if_pos q] at h; cases h
  · rw [if_neg q] at h
    refine ⟨(pNum_was h).1, ?_⟩
    rw [h] at q
    exact Nat.le_of_not_lt q
/-- a text that was laid is read back -/
theorem pTxt_laid {s : List UInt8} (h : s.length ≤ 64) (r : List UInt8) : pTxt (some (num s.length ++ (s ++ r))) = (s, some r) := by
  unfold pTxt
  rw [pUp_laid (by omega) h]
  simp only
  rw [if_neg (by rw [List.length_append]; omega), List.take_left, List.drop_left]
theorem pTxt_was {l s r : List UInt8} (h : pTxt (some l) = (s, some r)) : l = num s.length ++ (s ++ r) := by
  unfold pTxt at h
  cases hq : pUp 64 (some l) with
  | mk n q =>
    rw [hq] at h
    cases q with
    | none => cases h
    | some q =>
      have h' : (if q.length < n then (([], none) : List UInt8 × Option (List UInt8)) else (q.take n, some (q.drop n))) = (s, some r) := h
      by_cases h1 : q.length < n
      · rw [if_pos h1] at h'; cases h'
      · rw [if_neg h1] at h'
        obtain ⟨h2, h3⟩ := Prod.mk.inj h'
        have h3 := Option.some.inj h3
        have hl : s.length = n := by rw [← h2, List.length_take]; omega
        rw [hl, (pUp_was hq).1, ← h2, ← h3, List.take_append_drop]
theorem pNum_on {st : Option (List UInt8)} {n : Nat} {r : List UInt8} (h : pNum st = (n, some r)) : ∃ l, st = some l := by
  cases st with
  | none => cases h
  | some l => exact ⟨l, rfl⟩
/-- four numbers -/
theorem pVec_laid {a b c d : Nat} (ha : a < 9223372036854775808) (hb : b < 9223372036854775808) (hc : c < 9223372036854775808) (hd : d < 9223372036854775808) (r : List UInt8) : pVec (some (num a ++ (num b ++ (num c ++ (num d ++ r))))) = (⟨(a : Nat), (b : Nat), (c : Nat), (d : Nat)⟩, some r) := by
  unfold pVec
  simp only [pNum_laid ha, pNum_laid hb, pNum_laid hc, pNum_laid hd]
theorem pVec_was {l : List UInt8} {v : V4} {r : List UInt8} (h : pVec (some l) = (v, some r)) : l = num v.a.toNat ++ (num v.b.toNat ++ (num v.c.toNat ++ (num v.d.toNat ++ r))) := by
  unfold pVec at h
  obtain ⟨a, s1, e1⟩ : ∃ n s, pNum (some l) = (n, s) := ⟨_, _, rfl⟩
  rw [e1] at h
  obtain ⟨b, s2, e2⟩ : ∃ n s, pNum s1 = (n, s) := ⟨_, _, rfl⟩
  simp only at h
  rw [e2] at h
  obtain ⟨c, s3, e3⟩ : ∃ n s, pNum s2 = (n, s) := ⟨_, _, rfl⟩
  simp only at h
  rw [e3] at h
  obtain ⟨d, s4, e4⟩ : ∃ n s, pNum s3 = (n, s) := ⟨_, _, rfl⟩
  simp only at h
  rw [e4] at h
  simp only at h
  obtain ⟨rfl, rfl⟩ := Prod.mk.inj h
  obtain ⟨q3, rfl⟩ := pNum_on e4
  obtain ⟨q2, rfl⟩ := pNum_on e3
  obtain ⟨q1, rfl⟩ := pNum_on e2
  rw [(pNum_was e1).1, (pNum_was e2).1, (pNum_was e3).1, (pNum_was e4).1]
  rfl
/-- so many of them -/
theorem pRep_laid {α : Type} {g : Option (List UInt8) → α × Option (List UInt8)} {f : α → List UInt8} {P : α → Prop} (H : ∀ x r, P x → g (some (f x ++ r)) = (x, some r)) (r : List UInt8) : ∀ (L : List α), (∀ x ∈ L, P x) → pRep g L.length (some (L.flatMap f ++ r)) = (L, some r)
  | [], _ => rfl
  | x :: L, h => by
    rw [List.flatMap_cons, List.append_assoc]
    show ((g _).1 :: (pRep g L.length (g _).2).1, (pRep g L.length (g _).2).2) = _
    rw [H x _ (h x (List.mem_cons_self ..)), pRep_laid H r L fun y hy => h y (List.mem_cons_of_mem _ hy)]
theorem pRep_off {α : Type} {g : Option (List UInt8) → α × Option (List UInt8)} (h0 : (g none).2 = none) : ∀ n, (pRep g n none).2 = none
  | 0 => rfl
  | n + 1 => by
    show (pRep g n (g none).2).2 = none
    rw [h0]
    exact pRep_off h0 n
theorem pRep_was {α : Type} {g : Option (List UInt8) → α × Option (List UInt8)} {f : α → List UInt8} (h0 : (g none).2 = none) (H : ∀ l x r, g (some l) = (x, some r) → l = f x ++ r) : ∀ {n : Nat} {l : List UInt8} {L : List α} {r : List UInt8}, pRep g n (some l) = (L, some r) → l = L.flatMap f ++ r
  | 0, l, L, r, h => by
    obtain ⟨rfl, h2⟩ := Prod.mk.inj (show (([] : List α), some l) = (L, some r) from h)
    rw [Option.some.inj h2]
    rfl
  | n + 1, l, L, r, h => by
    have h' : ((g (some l)).1 :: (pRep g n (g (some l)).2).1, (pRep g n (g (some l)).2).2) = (L, some r) := h
    obtain ⟨x, s, e⟩ : ∃ x s, g (some l) = (x, s) := ⟨_, _, rfl⟩
    rw [e] at h'
    obtain ⟨e1, e2⟩ := Prod.mk.inj h'
    simp only at e1 e2
    cases s with
    | none => rw [pRep_off h0 n] at e2; cases e2
    | some q =>
      have := pRep_was h0 H (n := n) (l := q) (L := (pRep g n (some q)).1) (r := r) (Prod.ext rfl e2)
      rw [H l x q e, ← e1, List.flatMap_cons, List.append_assoc, ← this]
/-- a vector's bytes -/
def vB (v : V4) : List UInt8 := num v.a.toNat ++ (num v.b.toNat ++ (num v.c.toNat ++ num v.d.toNat))
/-- a job's bytes -/
def jB (j : JD) : List UInt8 := num j.id ++ (num j.tn.length ++ (j.tn ++ (num j.pr ++ (num j.rt ++ (num j.pa.length ++ (j.pa.flatMap (fun x => num x.toNat) ++ (num j.tk.length ++ j.tk.flatMap vB)))))))
def V4.in63 (v : V4) : Prop := (0 ≤ v.a ∧ v.a < 9223372036854775808) ∧ (0 ≤ v.b ∧ v.b < 9223372036854775808) ∧ (0 ≤ v.c ∧ v.c < 9223372036854775808) ∧ (0 ≤ v.d ∧ v.d < 9223372036854775808)
theorem vB_laid (v : V4) (r : List UInt8) (h : v.in63) : pVec (some (vB v ++ r)) = (v, some r) := by
  obtain ⟨a, b, c, d⟩ := v
  obtain ⟨ha, hb, hc, hd⟩ := h
  simp only at ha hb hc hd
  have := pVec_laid (a := a.toNat) (b := b.toNat) (c := c.toNat) (d := d.toNat) (by omega) (by omega) (by omega) (by omega) r
  rw [Int.toNat_of_nonneg ha.1, Int.toNat_of_nonneg hb.1, Int.toNat_of_nonneg hc.1, Int.toNat_of_nonneg hd.1] at this
  unfold vB
  simp only [List.append_assoc]
  exact this
theorem vB_was (l : List UInt8) (v : V4) (r : List UInt8) (h : pVec (some l) = (v, some r)) : l = vB v ++ r := by
  rw [pVec_was h]
  unfold vB
  simp only [List.append_assoc]
theorem pInt_laid (x : Int) (r : List UInt8) (h : 0 ≤ x ∧ x < 9223372036854775808) : pInt (some (num x.toNat ++ r)) = (x, some r) := by
  unfold pInt
  rw [pNum_laid (by omega)]
  simp only
  rw [Int.toNat_of_nonneg h.1]
theorem pInt_was (l : List UInt8) (x : Int) (r : List UInt8) (h : pInt (some l) = (x, some r)) : l = num x.toNat ++ r := by
  unfold pInt at h
  obtain ⟨n, s, e⟩ : ∃ n s, pNum (some l) = (n, s) := ⟨_, _, rfl⟩
  rw [e] at h
  obtain ⟨rfl, rfl⟩ := Prod.mk.inj h
  exact (pNum_was e).1
theorem pStr_laid (t : ByteArray) (r : List UInt8) (h : t.size ≤ 64) : pStr (some ((num t.size ++ t.data.toList) ++ r)) = (t, some r) := by
  have h1 : t.data.toList.length ≤ 64 := h
  have := pTxt_laid h1 r
  unfold pStr
  rw [List.append_assoc]
  rw [show num t.size = num t.data.toList.length from rfl, this]
theorem pStr_was (l : List UInt8) (t : ByteArray) (r : List UInt8) (h : pStr (some l) = (t, some r)) : l = (num t.size ++ t.data.toList) ++ r := by
  unfold pStr at h
  obtain ⟨s, q, e⟩ : ∃ s q, pTxt (some l) = (s, q) := ⟨_, _, rfl⟩
  rw [e] at h
  obtain ⟨rfl, rfl⟩ := Prod.mk.inj h
  rw [pTxt_was e, List.append_assoc]
  rfl
/-- a job that was laid is read back -/
theorem pJob_laid (j : JD) (r : List UInt8) (h1 : j.id < 9223372036854775808) (h2 : j.tn.length ≤ 64) (h3 : j.pr < 9223372036854775808) (h4 : j.rt < 9223372036854775808) (h5 : j.pa.length ≤ 4) (h6 : ∀ x ∈ j.pa, 0 ≤ x ∧ x < 9223372036854775808) (h7 : j.tk.length ≤ 6) (h8 : ∀ v ∈ j.tk, v.in63) : pJob (some (jB j ++ r)) = (j, some r) := by
  unfold jB
  simp only [List.append_assoc]
  unfold pJob
  simp only [pNum_laid h1, pTxt_laid h2, pNum_laid h3, pNum_laid h4, pUp_laid (show j.pa.length < 9223372036854775808 by omega) h5, pRep_laid (f := fun x : Int => num x.toNat) (P := fun x => 0 ≤ x ∧ x < 9223372036854775808) (fun x r h => pInt_laid x r h) _ j.pa h6, pUp_laid (show j.tk.length < 9223372036854775808 by omega) h7, pRep_laid (f := vB) (P := V4.in63) (fun v r h => vB_laid v r h) _ j.tk h8]
theorem pTxt_on {st : Option (List UInt8)} {s r : List UInt8} (h : pTxt st = (s, some r)) : ∃ l, st = some l := by
  cases st with
  | none => cases h
  | some l => exact ⟨l, rfl⟩
theorem pUp_on {m : Nat} {st : Option (List UInt8)} {x : Nat} {r : List UInt8} (h : pUp m st = (x, some r)) : ∃ l, st = some l := by
  cases st with
  | none =>
    unfold pUp at h
    split at h <;> cases h
  | some l => exact ⟨l, rfl⟩
theorem pRep_on {α : Type} {g : Option (List UInt8) → α × Option (List UInt8)} (h0 : (g none).2 = none) {n : Nat} {st : Option (List UInt8)} {L : List α} {r : List UInt8} (h : pRep g n st = (L, some r)) : ∃ l, st = some l := by
  cases st with
  | none =>
    have := pRep_off h0 n
    rw [h] at this
    cases this
  | some l => exact ⟨l, rfl⟩
theorem pJob_was {l : List UInt8} {j : JD} {r : List UInt8} (h : pJob (some l) = (j, some r)) : l = jB j ++ r := by
  obtain ⟨a, s1, e1⟩ : ∃ n s, pNum (some l) = (n, s) := ⟨_, _, rfl⟩
  obtain ⟨b, s2, e2⟩ : ∃ n s, pTxt s1 = (n, s) := ⟨_, _, rfl⟩
  obtain ⟨c, s3, e3⟩ : ∃ n s, pNum s2 = (n, s) := ⟨_, _, rfl⟩
  obtain ⟨d, s4, e4⟩ : ∃ n s, pNum s3 = (n, s) := ⟨_, _, rfl⟩
  obtain ⟨e, s5, e5⟩ : ∃ n s, pUp 4 s4 = (n, s) := ⟨_, _, rfl⟩
  obtain ⟨f, s6, e6⟩ : ∃ n s, pRep pInt e s5 = (n, s) := ⟨_, _, rfl⟩
  obtain ⟨g, s7, e7⟩ : ∃ n s, pUp 6 s6 = (n, s) := ⟨_, _, rfl⟩
  obtain ⟨k, s8, e8⟩ : ∃ n s, pRep pVec g s7 = (n, s) := ⟨_, _, rfl⟩
  unfold pJob at h
  simp only [e1, e2, e3, e4, e5, e6, e7, e8] at h
  obtain ⟨rfl, rfl⟩ := Prod.mk.inj h
  obtain ⟨q7, rfl⟩ := pRep_on rfl e8
  obtain ⟨q6, rfl⟩ := pUp_on e7
  obtain ⟨q5, rfl⟩ := pRep_on rfl e6
  obtain ⟨q4, rfl⟩ := pUp_on e5
  obtain ⟨q3, rfl⟩ := pNum_on e4
  obtain ⟨q2, rfl⟩ := pNum_on e3
  obtain ⟨q1, rfl⟩ := pTxt_on e2
  have l6 : f.length = e := by have := pRep_length pInt e (some q5); rw [e6] at this; exact this
  have l8 : k.length = g := by have := pRep_length pVec g (some q7); rw [e8] at this; exact this
  unfold jB
  simp only [List.append_assoc, l6, l8]
  rw [(pNum_was e1).1, pTxt_was e2, (pNum_was e3).1, (pNum_was e4).1, (pUp_was e5).1, pRep_was (f := fun x : Int => num x.toNat) rfl pInt_was e6, (pUp_was e7).1, pRep_was (f := vB) rfl vB_was e8]
/-- a list of names' bytes -/
def nB (L : List ByteArray) : List UInt8 := num L.length ++ L.flatMap (fun t => num t.size ++ t.data.toList)
theorem nds_laid (L : List ByteArray) (r : List UInt8) (h : L.length ≤ 6) (h2 : ∀ t ∈ L, t.size ≤ 64) : pRep pStr (pUp 6 (some (nB L ++ r))).1 (pUp 6 (some (nB L ++ r))).2 = (L, some r) := by
  have h1 : pUp 6 (some (nB L ++ r)) = (L.length, some (L.flatMap (fun t => num t.size ++ t.data.toList) ++ r)) := by
    unfold nB
    rw [List.append_assoc]
    exact pUp_laid (by omega) h _
  rw [h1]
  exact pRep_laid (f := fun t : ByteArray => num t.size ++ t.data.toList) (P := fun t => t.size ≤ 64) (fun t r h => pStr_laid t r h) r L h2
theorem nds_was {l : List UInt8} {L : List ByteArray} {r : List UInt8} (h : pRep pStr (pUp 6 (some l)).1 (pUp 6 (some l)).2 = (L, some r)) : l = nB L ++ r := by
  obtain ⟨n, s, e⟩ : ∃ n s, pUp 6 (some l) = (n, s) := ⟨_, _, rfl⟩
  rw [e] at h
  simp only at h
  obtain ⟨q, rfl⟩ := pRep_on rfl h
  have hl : L.length = n := by have := pRep_length pStr n (some q); rw [h] at this; exact this
  unfold nB
  rw [(pUp_was e).1, pRep_was (f := fun t : ByteArray => num t.size ++ t.data.toList) rfl pStr_was h, hl, List.append_assoc]
end Go.Proofs.Ytnkkiepoljbhlaa
