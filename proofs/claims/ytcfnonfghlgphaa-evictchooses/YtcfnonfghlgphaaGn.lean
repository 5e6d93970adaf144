/-
  What follows of what Choose answers; rows of numbers held against each other; the laws' arguments.
-/
import Derived.Test.YtcfnonfghlgphaaGm
namespace Go.Proofs.Ytcfnonfghlgphaa
open Go.RowKit Go.Maps

/-! ### mathematics -/
theorem chR_ok {T : List V} {p : Int} {L : List Vi} {S : List Sl} (h : (chR T p L S).1 = 0) : ((fitR T S).1 = 0 ∨ (fitR T S).1 = 6) ∧ Uj L ∧ (gvG L S).1 = 0 ∧ ∃ k, goN T (blw p (srtV L)) S = some k ∧ chR T p L S = (0, (blw p (srtV L)).take k, (fitR T (slA ((blw p (srtV L)).take k) S)).2) := by
  unfold chR at h
  by_cases h1 : (fitR T S).1 = 0 ∨ (fitR T S).1 = 6
  · rw [if_neg (fun q => q h1)] at h
    by_cases h2 : Uj L
    · rw [if_neg (fun q => q h2)] at h
      by_cases h3 : (gvG L S).1 = 0
      · rw [if_neg (fun q => q h3)] at h
        refine ⟨h1, h2, h3, ?_⟩
        cases hg : goN T (blw p (srtV L)) S with
        | none => rw [goA_none hg] at h; simp at h
        | some k => exact ⟨k, rfl, (chR_some h1 h2 h3).trans (goA_some hg)⟩
      · rw [if_pos h3] at h; exact absurd h h3
    · rw [if_pos h2] at h; simp at h
  · rw [if_pos h1] at h; exact absurd (.inl h) h1
theorem chR_bad {T : List V} {p : Int} {L : List Vi} {S : List Sl} (h : (chR T p L S).1 ≠ 0) : chR T p L S = ((chR T p L S).1, [], []) := by
  unfold chR at h ⊢
  split
  · rfl
  · split
    · rfl
    · split
      · rfl
      · rename_i h1 h2 h3
        rw [if_neg h1, if_neg h2, if_neg h3] at h
        cases hg : goN T (blw p (srtV L)) S with
        | none => rw [goA_none hg]
        | some k => rw [goA_some hg] at h; exact absurd rfl h
theorem blw_prefix {p p' : Int} (hp : p ≤ p') : ∀ {L : List Vi}, Tu L → ∃ t, blw p' L = blw p L ++ t
  | [], _ => ⟨[], rfl⟩
  | x :: r, h => by
    have h1 := List.pairwise_cons.1 h
    by_cases q : x.p < p
    · obtain ⟨t, ht⟩ := blw_prefix hp h1.2
      refine ⟨t, ?_⟩
      show List.filter _ _ = List.filter _ _ ++ t
      rw [List.filter_cons_of_pos (by simpa using (by omega : x.p < p')), List.filter_cons_of_pos (by simpa using q)]
      exact congrArg (x :: ·) ht
    · refine ⟨blw p' (x :: r), ?_⟩
      have : blw p (x :: r) = [] := List.filter_eq_nil_iff.2 fun y hy => by
        rcases List.mem_cons.1 hy with rfl | hy
        · simpa using q
        · have := h1.1 y hy
          unfold vb at this
          have : ¬ y.p < p := by omega
          simpa using this
      rw [this]; rfl
theorem goN_more {T : List V} {R t : List Vi} {S : List Sl} {k : Nat} (h : goN T R S = some k) : goN T (R ++ t) S = some k ∧ (R ++ t).take k = R.take k := by
  obtain ⟨h1, h2, h3⟩ := some_goN h
  have e : ∀ i, i ≤ k → (R ++ t).take i = R.take i := fun i hi => List.take_append_of_le_length (by omega)
  exact ⟨goN_some (by rw [List.length_append]; omega) (by rw [e k (Nat.le_refl _)]; exact h2) (fun i hi => by rw [e i (by omega)]; exact h3 i hi), e k (Nat.le_refl _)⟩
theorem ch_more {T : List V} {p p' : Int} {L : List Vi} {S : List Sl} (hp : p ≤ p') (h : (chR T p L S).1 = 0) : chR T p' L S = chR T p L S := by
  obtain ⟨h1, h2, h3, k, h4, h5⟩ := chR_ok h
  obtain ⟨t, ht⟩ := blw_prefix hp (srtV_tu L h2)
  obtain ⟨h6, h7⟩ := goN_more (t := t) h4
  rw [chR_some h1 h2 h3, ht, goA_some h6, h7, h5]
theorem ch_perm {T : List V} {p : Int} {L M : List Vi} {S : List Sl} (hp : L.Perm M) (h : (chR T p L S).1 = 0) : chR T p M S = chR T p L S := by
  obtain ⟨h1, h2, h3, _⟩ := chR_ok h
  have hu := h2.perm hp
  have hS : allS S = true := (chk_ok (fitR_chk h1)).2.1
  have hg : Gv M S := (all_give L S hS h3).sub (K := []) hS (by rw [List.append_nil]; exact hp.symm)
  have h4 : (gvG M S).1 = 0 := by rw [give_all M S hS hg]
  rw [chR_some h1 hu h4, chR_some h1 h2 h3, ← srt_eq (srtV_tu L h2) hu ((srtV_perm L).trans hp)]
theorem ch_perm0 {T : List V} {p : Int} {L M : List Vi} {S : List Sl} (hp : L.Perm M) (h : (chR T p L S).1 ≠ 0) : (chR T p M S).1 ≠ 0 := fun q => h (by rw [ch_perm hp.symm q]; exact q)
theorem goN_nil (T : List V) (S : List Sl) : goN T [] S = if (fitR T S).1 = 0 then some 0 else none := by
  by_cases h : (fitR T S).1 = 0
  · rw [if_pos h]
    exact goN_some (Nat.le_refl _) (by rw [List.take_zero, slA_nil]; exact h) (fun i hi => absurd hi (Nat.not_lt_zero _))
  · rw [if_neg h]
    exact goN_none fun i hi => by rw [List.take_nil, slA_nil]; exact h
theorem ch_nobody {T : List V} {p : Int} {L : List Vi} {S : List Sl} (hp : ∀ v ∈ L, p ≤ v.p) : ((chR T p L S).1 = 0 → (fitR T S).1 = 0 ∧ chR T p L S = (0, [], (fitR T S).2)) ∧ ((chR T p L S).1 ≠ 0 → (fitR T S).1 ≠ 0 ∨ L ≠ []) := by
  have hb : blw p (srtV L) = [] := List.filter_eq_nil_iff.2 fun y hy => by
    have := hp y ((srtV_perm L).mem_iff.1 hy)
    have : ¬ y.p < p := by omega
    simpa using this
  constructor
  · intro h
    obtain ⟨h1, h2, h3, k, h4, h5⟩ := chR_ok h
    rw [hb, goN_nil] at h4
    by_cases q : (fitR T S).1 = 0
    · refine ⟨q, ?_⟩
      rw [h5, hb, List.take_nil, slA_nil]
    · rw [if_neg q] at h4; cases h4
  · intro h
    by_cases q : (fitR T S).1 = 0
    · refine .inr fun e => h ?_
      subst e
      rw [chR_some (.inl q) List.Pairwise.nil rfl]
      have : goN T (blw p (srtV [])) S = some 0 := by rw [hb, goN_nil, if_pos q]
      rw [goA_some this]
    · exact .inl q
/-! ### what Choose answers, by the case -/
def ChG (w : World) (G : List Vi) (N : List (List UInt8)) (e : Ending) (w' : World) : Prop :=
  ∃ pj cj pn cn, e = .returned (.tuple #[.slice pj G.length cj, .slice pn N.length cn, .int .i64 0]) ∧ Hid (GA 1 jC w' pj (G.map Vi.j) ∧ NA w' pn N ∧ Below w.heap.size w w')
theorem ChoP.good {w w' : World} {T : List V} {p : Int} {L : List Vi} {S : List Sl} {e : Ending} {G : List Vi} {N : List (List UInt8)} (h : ChoP w T p L S e w') (hc : chR T p L S = (0, G, N)) : ChG w G N e w' := by
  obtain ⟨pj, kj, cj, pn, kn, cn, rfl, h1, h2, h3⟩ := h
  rw [hc] at h1 h2 h3 ⊢
  obtain rfl : G.length = kj := h1
  obtain rfl : N.length = kn := h2
  exact ⟨pj, cj, pn, cn, rfl, h3.out.1.ga jC_len, h3.out.2⟩
theorem ChoP.no {w w' : World} {T : List V} {p : Int} {L : List Vi} {S : List Sl} {e : Ending} {en : Nat} (h : ChoP w T p L S e w') (hc : chR T p L S = (en, [], [])) : ∃ pj cj pn cn, e = .returned (.tuple #[.slice pj 0 cj, .slice pn 0 cn, .int .i64 (en : Int)]) ∧ Hid (Below w.heap.size w w') := by
  obtain ⟨pj, kj, cj, pn, kn, cn, rfl, h1, h2, h3⟩ := h
  rw [hc] at h1 h2 h3 ⊢
  obtain rfl : 0 = kj := h1
  obtain rfl : 0 = kn := h2
  exact ⟨pj, cj, pn, cn, rfl, h3.out.2.2⟩
/-! ### rows of numbers -/
theorem JA.at {w : World} {q : Option Addr} {J : List Int} (h : GA 1 jC w q J) {i : Nat} {x : Int} (hi : J[i]? = some x) : ∃ g o, q = some ⟨g, o, none⟩ ∧ w.cell? ⟨g, o + i, none⟩ = some (.int .i64 x) := by
  obtain ⟨g, o, e, hc⟩ := h i x hi
  have := hc 0 _ rfl
  rw [Nat.mul_one, Nat.add_zero] at this
  exact ⟨g, o, e, this⟩
set_option maxHeartbeats 2000000 in
set_option maxRecDepth 100000 in
theorem sames_any (w : World) (n c1' c2' : Nat) (q1 q2 : Option Addr) (L : List Int) (h1 : Hid (GA 1 jC w q1 L)) (h2 : Hid (GA 1 jC w q2 L)) (hl : Hid (L.length = n)) (hn : n ≤ 1000000) :
    Calls Try.prog 13 #[.slice q1 n c1', .slice q2 n c2'] w fun e w' => e = .returned (.bool true) ∧ Hid (Below w.heap.size w w') := by
  go_enter Try.func13, Try.ntmps13
  go_wp2_with fail
  go_loopw [5] (fun x wr => ∃ k : Nat, x = .int .i64 k ∧ k ≤ n ∧ Hid (Below w.heap.size w wr)) (fun x _ => n - (intOf x).toNat)
  case atStart => exact ⟨0, rfl, Nat.zero_le _, Below.refl _ _⟩
  case round =>
    obtain ⟨k, rfl, hk, HB⟩ := hrel
    by_cases h0 : k = n
    · subst h0
      go_wp2_with fail
      go_ret
      exact ⟨rfl, HB⟩
    · have hlt' : (k : Int) < (n : Int) := by omega
      obtain ⟨a, ha⟩ : ∃ a, L[k]? = some a := ⟨L[k]'(by have := hl.out; omega), List.getElem?_eq_getElem _⟩
      obtain ⟨g1, o1, rfl, l1⟩ := JA.at (h1.out.below HB.out) ha
      obtain ⟨g2, o2, rfl, l2⟩ := JA.at (h2.out.below HB.out) ha
      have HD : Hid (∀ i, Below w.heap.size w (wr.drewN i)) := fun i => below_from HB.out (below_drewN (Below.refl _ wr) i) HB.out.size
      clear ha h1 h2
      go_wp2_with fail
      go_region
      all_goals go_wp2_with fail
      all_goals exact ⟨⟨k + 1, by simp, by omega, HD.out _⟩, by simp only [intOf]; omega⟩
/-! ### the laws' arguments -/
structure Vi.pre (w : World) (v : Vi) : Prop where
  i : v.in6
  t : TA w v.qT v.T
  ct : v.qT = none → v.cT = 0
  lt : v.T.length = v.nT
  n : NA w v.qN v.N
  cn : v.qN = none → v.cN = 0
  ln : v.N.length = v.nN
  sn : ∀ s ∈ v.N, s.length ≤ 281474976710656
structure LwA (w : World) (q : Option Addr) (n c : Nat) (T : List V) (qv : Option Addr) (nv : Nat) (L : List Vi) (r : Option Addr) (m d : Nat) (S : List Sl) : Prop where
  t : TA w q T
  ct : q = none → c = 0
  tn : T.length = n
  v : VA w qv L
  o : ∀ v ∈ L, v.pre w
  vl : L.length = nv
  s : SlS w r m d S
  h63 : nv ≤ 9223372036854775807
theorem fewV_le {n m : Nat} {L : List Vi} (h : fewV n L m = true) : L.all vS = true ∧ n ≤ 100 ∧ L.length ≤ 60 ∧ m ≤ 40 := by
  unfold fewV at h
  simp only [Bool.and_eq_true, decide_eq_true_eq] at h
  exact h
section
variable {w w1 : World} {q qv r : Option Addr} {n c nv m d : Nat} {T : List V} {L : List Vi} {S : List Sl}
theorem LwA.ch (h : LwA w q n c T qv nv L r m d S) (hf : fewV n L m = true) : ChA w q n c T qv nv L r m d S := by
  obtain ⟨h1, h2, h3, h4⟩ := fewV_le hf
  refine ⟨h.t, h.ct, h.tn, h.v, fun v hv => ?_, h.vl, h.s, by omega, by have := h.vl; omega, by omega⟩
  have h5 := h.o v hv
  have h6 := List.all_eq_true.1 h1 v hv
  unfold vS at h6
  simp only [Bool.and_eq_true, decide_eq_true_eq] at h6
  exact ⟨h5.i.1, h5.i.2.1, h5.i.2.2, h5.t, h5.ct, h5.lt, h5.n, h5.cn, h5.ln, h5.sn, by omega, by omega⟩
theorem LwA.few (h : LwA w q n c T qv nv L r m d S) (cv : Nat) : ∀ W, Below w.heap.size w W → Calls Try.prog 14 #[.slice q n c, .slice qv nv cv, .slice r m d] W fun e w' => e = .returned (.bool (fewV n L m)) ∧ Hid (Below W.heap.size W w') := fun W b => few17 L q qv r n c nv cv m d W (h.v.below b) h.vl h.h63
end
theorem awk (w : World) : ∀ W, Below w.heap.size w W → Calls Try.prog 9 #[] W fun e w' => e = .returned (.bool true) ∧ Hid (Below w.heap.size w w') := fun W b => (awake17 W).mono fun _ _ q => ⟨q.1, below_from b q.2 b.size⟩
end Go.Proofs.Ytcfnonfghlgphaa
