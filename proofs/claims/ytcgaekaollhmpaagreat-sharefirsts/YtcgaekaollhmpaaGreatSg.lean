/-
  What is popped one by one is the order of tenants; the order's uniqueness.
-/
import Derived.Test.YtcgaekaollhmpaaGreatSf
namespace Go.Proofs.YtcgaekaollhmpaaGreat
open Go.RowKit Go.Maps

/-- the order of tenants -/
def tb (a b : Tn) : Prop := a.n * b.d < b.n * a.d ∨ (a.n * b.d = b.n * a.d ∧ bytesBefore a.nm b.nm = true)
def tD : Tn := ⟨[], 0, 0⟩
def tA (S : List Tn) (x : Nat) : Tn := S.getD x tD
def kyS (S : List Tn) (x : Nat) : K := ⟨(tA S x).n, (tA S x).d, x⟩
def dC (S : List Tn) (P : List Nat) : Ct := fun x => if 0 ≤ x ∧ x < (S.length : Int) ∧ x.toNat ∉ P then some (kyS S x.toNat) else none
structure IxP (S : List Tn) (P : List Nat) : Prop where
  nd : P.Nodup
  lt : ∀ a ∈ P, a < S.length
  pw : P.Pairwise fun a b => el (kyS S a) a (kyS S b) b
  ot : ∀ a ∈ P, ∀ y, y < S.length → y ∉ P → el (kyS S a) a (kyS S y) y
theorem tA_at {S : List Tn} {x : Nat} {t : Tn} (h : S[x]? = some t) : tA S x = t := by unfold tA; rw [List.getD_eq_getElem?_getD, h]; rfl
theorem tA_lt {S : List Tn} {x : Nat} (h : x < S.length) : S[x]? = some (tA S x) := by
  have := List.getElem?_eq_getElem h
  rw [tA_at this]; exact this
theorem dC_nil (S : List Tn) : dC S [] = kC S S.length := by
  funext x
  unfold dC kC
  by_cases q : 0 ≤ x ∧ x < (S.length : Int)
  · rw [if_pos ⟨q.1, q.2, by simp⟩, if_pos q, tA_lt (x := x.toNat) (by omega)]
    unfold kyS
    simp only [Option.map_some]
    congr 2
    omega
  · rw [if_neg (fun e => q ⟨e.1, e.2.1⟩), if_neg q]
theorem dC_del {S : List Tn} {P : List Nat} (x : Nat) : (dC S P).del x = dC S (P ++ [x]) := by
  funext y
  unfold Ct.del dC
  by_cases e : y = (x : Int)
  · rw [if_pos e, if_neg]
    rintro ⟨_, _, h⟩
    apply h
    simp [e]
  · rw [if_neg e]
    by_cases q : 0 ≤ y ∧ y < (S.length : Int) ∧ y.toNat ∉ P
    · show (if 0 ≤ y ∧ y < (S.length : Int) ∧ y.toNat ∉ P then _ else _) = _
      rw [if_pos q, if_pos ⟨q.1, q.2.1, by simp only [List.mem_append, List.mem_singleton, not_or]; exact ⟨q.2.2, by omega⟩⟩]
    · show (if 0 ≤ y ∧ y < (S.length : Int) ∧ y.toNat ∉ P then _ else _) = _
      rw [if_neg q, if_neg (fun h => q ⟨h.1, h.2.1, fun hm => h.2.2 (List.mem_append_left _ hm)⟩)]
theorem ixp_nil (S : List Tn) : IxP S [] := ⟨List.nodup_nil, (fun _ h => nomatch h), List.Pairwise.nil, (fun _ h => nomatch h)⟩
theorem dC_some {S : List Tn} {P : List Nat} {x : Nat} {k : K} (h : dC S P x = some k) : x < S.length ∧ x ∉ P ∧ k = kyS S x := by
  unfold dC at h
  split at h
  · rename_i q
    rw [Int.toNat_natCast] at q h
    exact ⟨by omega, q.2.2, (Option.some.inj h).symm⟩
  · cases h
theorem dC_is {S : List Tn} {P : List Nat} {x : Nat} (h1 : x < S.length) (h2 : x ∉ P) : dC S P x = some (kyS S x) := by
  unfold dC
  rw [Int.toNat_natCast, if_pos ⟨by omega, by omega, h2⟩]
theorem IxP.pop {S : List Tn} {P : List Nat} {x : Nat} {k : K} (h : IxP S P) (hm : (dC S P).min x k) : IxP S (P ++ [x]) ∧ x < S.length ∧ k = kyS S x := by
  obtain ⟨h1, h2, h3⟩ := dC_some hm.1
  subst h3
  have hx : ∀ y, y < S.length → y ∉ P → y = x ∨ el (kyS S x) x (kyS S y) y := fun y hy hn => hm.2 y _ (dC_is hy hn)
  refine ⟨⟨?_, ?_, ?_, ?_⟩, h1, rfl⟩
  · rw [List.nodup_append]
    refine ⟨h.nd, by simp, fun a ha b hb => ?_⟩
    rw [List.mem_singleton] at hb
    subst hb
    exact fun e => h2 (e ▸ ha)
  · intro a ha
    rcases List.mem_append.1 ha with q | q
    · exact h.lt a q
    · rw [List.mem_singleton.1 q]; exact h1
  · refine List.pairwise_append.2 ⟨h.pw, List.pairwise_singleton _ _, fun a ha b hb => ?_⟩
    rw [List.mem_singleton.1 hb]
    exact h.ot a ha x h1 h2
  · intro a ha y hy hn
    have hn1 : y ∉ P := fun q => hn (List.mem_append_left _ q)
    rcases List.mem_append.1 ha with q | q
    · exact h.ot a q y hy hn1
    · rw [List.mem_singleton.1 q]
      rcases hx y hy hn1 with e | e
      · exact absurd (by rw [e]; exact List.mem_append_right _ (List.mem_singleton.2 rfl)) hn
      · exact e
theorem map_range {S : List Tn} : (List.range S.length).map (tA S) = S := by
  apply List.ext_getElem?
  intro i
  rw [List.getElem?_map]
  by_cases h : i < S.length
  · rw [List.getElem?_range h, tA_lt h]; rfl
  · rw [List.getElem?_eq_none (by simpa using h), List.getElem?_eq_none (by omega)]; rfl
theorem IxP.all {S : List Tn} {P : List Nat} (h : IxP S P) (hs : S.Pairwise fun a b => bytesBefore a.nm b.nm = true) (hC : dC S P = Ct.nil) : (P.map (tA S)).Perm S ∧ (P.map (tA S)).Pairwise tb := by
  have hall : ∀ y, y < S.length → y ∈ P := fun y hy => by
    by_cases q : y ∈ P
    · exact q
    · have := dC_is hy q
      rw [hC] at this
      cases this
  constructor
  · have : P.Perm (List.range S.length) := (List.perm_ext_iff_of_nodup h.nd List.nodup_range).2 fun a => ⟨fun q => List.mem_range.2 (h.lt a q), fun q => hall a (List.mem_range.1 q)⟩
    have h2 := this.map (tA S)
    rwa [map_range] at h2
  · refine List.pairwise_map.2 (List.Pairwise.imp_of_mem (fun {a b} ha hb hab => ?_) h.pw)
    have la := h.lt a ha
    have lb := h.lt b hb
    have hne : (kyS S a).t = (kyS S b).t → a = b := fun e => by have e' : (a : Int) = (b : Int) := e; omega
    have hlt : (kyS S a).t < (kyS S b).t → bytesBefore (tA S a).nm (tA S b).nm = true := fun e => by
      have e' : a < b := by unfold kyS at e; simpa using e
      have := List.pairwise_iff_getElem.1 hs a b la lb e'
      rwa [← tA_at (List.getElem?_eq_getElem la), ← tA_at (List.getElem?_eq_getElem lb)] at this
    rcases hab with (q | ⟨q1, q2⟩) | ⟨q, q2⟩
    · exact .inl q
    · exact .inr ⟨q1, hlt q2⟩
    · have := hne q.2
      omega
/-- what Order answers -/
def OrdR (all : Vs.V) (L : List U) (err : Nat) (R : List Tn) : Prop :=
  (err = fstE all L ∧ err ≠ 0 ∧ R = []) ∨ (fstE all L = 0 ∧ ¬ Nd L ∧ err = 5 ∧ R = []) ∨ (fstE all L = 0 ∧ Nd L ∧ err = 0 ∧ R.Perm (L.map (ten all)) ∧ R.Pairwise tb)
theorem tb_asym {a b : Tn} (h : tb a b) (k : tb b a) : False := by
  rcases h with h | ⟨h1, h2⟩ <;> rcases k with k | ⟨k1, k2⟩
  · omega
  · omega
  · omega
  · have := WideShapes.bytes_trans _ _ _ h2 k2
    rw [WideAt.bytes_irrefl] at this
    cases this
theorem OrdR.uniq {all : Vs.V} {L : List U} {e e' : Nat} {R R' : List Tn} (h : OrdR all L e R) (h' : OrdR all L e' R') : e = e' ∧ R = R' := by
  rcases h with ⟨h1, h2, h3⟩ | ⟨h1, h2, h3, h4⟩ | ⟨h1, h2, h3, h4, h5⟩ <;> rcases h' with ⟨k1, k2, k3⟩ | ⟨k1, k2, k3, k4⟩ | ⟨k1, k2, k3, k4, k5⟩
  · exact ⟨h1.trans k1.symm, h3.trans k3.symm⟩
  · rw [k1] at h1; contradiction
  · rw [k1] at h1; contradiction
  · rw [h1] at k1; contradiction
  · exact ⟨h3.trans k3.symm, h4.trans k4.symm⟩
  · contradiction
  · rw [h1] at k1; contradiction
  · contradiction
  · exact ⟨h3.trans k3.symm, List.Perm.eq_of_pairwise (le := tb) (fun a b _ _ q r => (tb_asym q r).elim) h5 k5 (h4.trans k4.symm)⟩
/-- a share that is answered is formed -/
theorem ten_ok {all : Vs.V} {u : U} (h : er all u = 0) : Tok (ten all u) := by
  unfold er sh at h
  unfold ten sh
  unfold Vs.shareR at *
  split at h
  · rename_i hf
    split at h
    · simp at h
    · rename_i hw
      have hv : u.v.ok = true ∧ all.ok = true := by simpa using hf
      obtain ⟨b1, b2, b3⟩ := Vs.fS_bound hv.1 hv.2 4
      rw [if_pos hf, if_neg hw]
      have hw1 : 1 ≤ u.wt.toNat ∧ u.wt.toNat ≤ 1000 := by omega
      have hd : 0 < (Vs.fS u.v all 4).2 * u.wt.toNat := Nat.mul_pos b2 (by omega)
      have hd2 : (Vs.fS u.v all 4).2 * u.wt.toNat ≤ 1099511627776 * 1000 := Nat.mul_le_mul b3 hw1.2
      unfold Vs.Q.newR
      rw [if_neg (by omega)]
      refine ⟨Vs.div_lt (by omega), Vs.div_lt (by omega), ?_⟩
      have := Vs.div_gcd_pos (n := (Vs.fS u.v all 4).1) hd
      exact Nat.pos_iff_ne_zero.1 this
  · simp at h
theorem Lin.empty {w wr : World} {lb : Nat} {C : Ct} {T : Nat → Prop} (h : Lin w wr lb C 0 T) : C = Ct.nil := by
  rcases h with ⟨_, h2, _⟩ | ⟨g, hb, hr, cap, T', h⟩
  · exact h2
  · obtain ⟨S, tg, q⟩ := h.h
    funext x
    have hc := q.h.c
    have hn := q.h.n
    rw [← hc]
    cases e : S.cont x with
    | none => rfl
    | some k =>
      obtain ⟨b, hb, _⟩ := cont_some e
      rw [List.length_eq_zero_iff.1 hn] at hb
      cases hb
end Go.Proofs.YtcgaekaollhmpaaGreat
