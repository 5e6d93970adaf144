/-
  Start.
-/
import Derived.Test.YtjgibngnjlciaaaFf
import Derived.Test.YtjgibngnjlciaaaFj
namespace Go.Proofs.Ytjgibngnjlciaaa
open Go.RowKit Go.Maps Go.WideMaps Go.Sort

/-- what Start is handed -/
structure StG (w : World) (qT : Option Addr) (nT cT : Nat) (q : Option Addr) (n : Nat) (r : Option Addr) (m d : Nat) (T : List V) (R : List Vi) (S : List Sl) : Prop where
  t : TA w qT T
  lt : T.length = nT
  s : SlS w r m d S
  v : VA w q R
  o : VOk w R
  lr : R.length = n
  n1 : nT ≤ 1000000
  n2 : n ≤ 1000000
  n3 : m ≤ 1000
  ct : qT = none → cT = 0
theorem StG.below {w w1 : World} {qT : Option Addr} {nT cT : Nat} {q : Option Addr} {n : Nat} {r : Option Addr} {m d : Nat} {T : List V} {R : List Vi} {S : List Sl} (h : StG w qT nT cT q n r m d T R S) (b : Below w.heap.size w w1) : StG w1 qT nT cT q n r m d T R S := ⟨h.t.below b, h.lt, h.s.below b, h.v.below b, h.o.below b, h.lr, h.n1, h.n2, h.n3, h.ct⟩
/-- what Start answers -/
def StP (w : World) (now : Int) (T : List V) (R : List Vi) (S : List Sl) (e : Ending) (w' : World) : Prop :=
  ∃ p k c, e = .returned (.tuple #[.int .i64 (startR now T R S).1, .slice p k c, .int .i64 ((startR now T R S).2.2 : Nat)]) ∧ (startR now T R S).2.1.length = k ∧ (p = none → c = 0) ∧ Hid (NA w' p (startR now T R S).2.1 ∧ Below w.heap.size w w')
section
variable {w : World} {qT : Option Addr} {nT cT : Nat} {q : Option Addr} {n : Nat} {r : Option Addr} {m d : Nat} {T : List V} {R : List Vi} {S : List Sl}
theorem StG.fit (h : StG w qT nT cT q n r m d T R S) : Calls Try.prog 16 #[.slice qT nT cT, .slice r m d] w (FitP w T S) :=
  fit_any T S qT r nT cT m d w h.t h.s.s h.s.h h.s.d h.lt h.s.m h.n1 (by have := h.n3; omega)
end
theorem st_no {w w' : World} {now : Int} {T : List V} {R : List Vi} {S : List Sl} {f : Nat} (h : startR now T R S = (0, [], f)) (b : Below w.heap.size w w') : StP w now T R S (.returned (.tuple #[.int .i64 0, .slice none 0 0, .int .i64 (f : Nat)])) w' := by
  refine ⟨none, 0, 0, by rw [h], by rw [h]; rfl, fun _ => rfl, ?_, b⟩
  rw [h]
  exact fun i a hi => by simp at hi
set_option maxHeartbeats 1000000 in
theorem start_range (now : Int) (qT q r : Option Addr) (nT cT n c m d : Nat) (T : List V) (R : List Vi) (S : List Sl) (w : World) (h : Hid (StG w qT nT cT q n r m d T R S)) (hw : Hid (wthn now R = false)) : Calls Try.prog 9 #[.int .i64 now, .slice qT nT cT, .slice q n c, .slice r m d] w (StP w now T R S) := by
  have H18 : Hid (Calls Try.prog 18 #[.int .i64 now, .slice q n c] w fun e w' => e = .returned (.bool false) ∧ Hid (Below w.heap.size w w')) := by
    have := within_any now R q n c w h.out.v h.out.lr h.out.n2
    rwa [hw.out] at this
  go_enter Try.func9, Try.ntmps9
  go_wp2_with (go_at_call 18; refine H18.out.mono ?_; rintro e w1 ⟨rfl, b1⟩)
  go_ret3
  exact st_no (startR_range hw.out) b1.out
theorem i64_ne {f : Nat} {k : Int} (h : (f : Int) ≠ k) : ((f : Int) != k) = true := by simpa using h
set_option maxHeartbeats 1000000 in
theorem start_fit (now : Int) (qT q r : Option Addr) (nT cT n c m d : Nat) (T : List V) (R : List Vi) (S : List Sl) (w : World) (h : Hid (StG w qT nT cT q n r m d T R S)) (hw : Hid (wthn now R = true)) (hf : Hid (¬ ((fitR T S).1 = 0 ∨ (fitR T S).1 = 6))) : Calls Try.prog 9 #[.int .i64 now, .slice qT nT cT, .slice q n c, .slice r m d] w (StP w now T R S) := by
  have H18 : Hid (Calls Try.prog 18 #[.int .i64 now, .slice q n c] w fun e w' => e = .returned (.bool true) ∧ Hid (Below w.heap.size w w')) := by
    have := within_any now R q n c w h.out.v h.out.lr h.out.n2
    rwa [hw.out] at this
  have HS := startR_fit hw.out hf.out
  obtain ⟨f, hfe⟩ : ∃ f, (fitR T S).1 = f := ⟨_, rfl⟩
  have H16 : Hid (∀ w1, Below w.heap.size w w1 → Calls Try.prog 16 #[.slice qT nT cT, .slice r m d] w1 fun e w' => ∃ p k c, e = .returned (.tuple #[.slice p k c, .int .i64 (f : Nat)]) ∧ Hid (Below w1.heap.size w1 w')) := fun w1 b => (h.out.below b).fit.mono fun e w' ⟨p, k, c, e1, _, _, h4⟩ => ⟨p, k, c, by rw [e1, hfe], h4.out.2⟩
  rw [hfe] at HS
  have f0 : ¬ (f : Int) = 0 := by have := hf.out; rw [hfe] at this; omega
  have f6 : ¬ (f : Int) = 6 := by have := hf.out; rw [hfe] at this; omega
  have f0' : ((f : Int) == 0) = false := by simpa using f0
  have f6' : ((f : Int) == 6) = false := by simpa using f6
  have f0n : ((f : Int) != 0) = true := i64_ne f0
  have f6n : ((f : Int) != 6) = true := i64_ne f6
  have HS' : Hid (startR now T R S = (0, [], f)) := HS
  clear hf HS hfe
  go_enter Try.func9, Try.ntmps9
  go_wp2_with (first
    | (go_at_call 18; refine H18.out.mono ?_; rintro e w1 ⟨rfl, b1⟩; clear H18)
    | (go_at_call 16; refine (H16.out _ b1.out).mono ?_; rintro e w2 ⟨p, k, c, rfl, b2⟩; clear H16))
  go_ret3
  exact st_no HS'.out (below_from b1.out b2.out b1.out.size)
set_option maxHeartbeats 1000000 in
theorem start_give (now : Int) (qT q r : Option Addr) (nT cT n c m d : Nat) (T : List V) (R : List Vi) (S : List Sl) (w : World) (h : Hid (StG w qT nT cT q n r m d T R S)) (hw : Hid (wthn now R = true)) (hf : Hid ((fitR T S).1 = 0 ∨ (fitR T S).1 = 6)) (hg : Hid (¬ (gvG R S).1 = 0)) : Calls Try.prog 9 #[.int .i64 now, .slice qT nT cT, .slice q n c, .slice r m d] w (StP w now T R S) := by
  have H18 : Hid (Calls Try.prog 18 #[.int .i64 now, .slice q n c] w fun e w' => e = .returned (.bool true) ∧ Hid (Below w.heap.size w w')) := by
    have := within_any now R q n c w h.out.v h.out.lr h.out.n2
    rwa [hw.out] at this
  have HS := startR_give hw.out hf.out hg.out
  obtain ⟨f, hfe⟩ : ∃ f, (fitR T S).1 = f := ⟨_, rfl⟩
  have H16 : Hid (∀ w1, Below w.heap.size w w1 → Calls Try.prog 16 #[.slice qT nT cT, .slice r m d] w1 fun e w' => ∃ p k c, e = .returned (.tuple #[.slice p k c, .int .i64 (f : Nat)]) ∧ Hid (Below w1.heap.size w1 w')) := fun w1 b => (h.out.below b).fit.mono fun e w' ⟨p, k, c, e1, _, _, h4⟩ => ⟨p, k, c, by rw [e1, hfe], h4.out.2⟩
  have hf' : f = 0 ∨ f = 6 := by have := hf.out; rw [hfe] at this; exact this
  obtain ⟨x, hx⟩ : ∃ x, (gvG R S).1 = x := ⟨_, rfl⟩
  have H19 : Hid (∀ w1, Below w.heap.size w w1 → Calls Try.prog 19 #[.slice q n c, .slice r m d] w1 fun e w' => ∃ p k c, e = .returned (.tuple #[.slice p k c, .int .i64 (x : Nat)]) ∧ Hid (Below w1.heap.size w1 w')) := fun w1 b => (given_any R S q r n c m d w1 (h.out.v.below b) (h.out.o.below b) (h.out.s.below b) h.out.lr h.out.n2 (by have := h.out.n3; show m ≤ _; omega)).mono fun e w' ⟨p, k, c, e1, h4⟩ => ⟨p, k, c, by rw [e1, hx], h4.out.1⟩
  rw [hx] at HS
  have x0 : ¬ (x : Int) = 0 := by have := hg.out; rw [hx] at this; omega
  have x0' : ((x : Int) == 0) = false := by simpa using x0
  have HS' : Hid (startR now T R S = (0, [], x)) := HS
  clear hf HS hfe hx hg
  rcases hf' with rfl | rfl
  all_goals
    go_enter Try.func9, Try.ntmps9
    go_wp2_with (first
      | (go_at_call 18; refine H18.out.mono ?_; rintro e w1 ⟨rfl, b1⟩; clear H18)
      | (go_at_call 16; refine (H16.out _ b1.out).mono ?_; rintro e w2 ⟨p, k, c, rfl, b2⟩; clear H16; have b3 : Hid (Below w.heap.size w w2) := below_from b1.out b2.out b1.out.size)
      | (go_at_call 19; refine (H19.out _ b3.out).mono ?_; rintro e w4 ⟨p4, k4, c4, rfl, b4⟩; clear H19))
    go_ret3
    exact st_no HS'.out (below_from b3.out b4.out b3.out.size)
theorem atS_st {now : Int} {R : List Vi} {S : List Sl} {t : Int} (h : now ≤ t) : atS (slA R S) (fun nm => oprs now R nm) t = stA now R S t := by
  rw [stA_fr h, slA_cap]
  unfold atS
  rw [List.map_map]
  refine List.map_congr_left fun s _ => ?_
  show (⟨s.nm, plF (fun _ => capS R s) (oprs now R s.nm) t⟩ : Sl) = ⟨s.nm, frT now R s t⟩
  rw [plF_sum]
  rfl
/-- what is known behind foreseen -/
structure StK (now : Int) (T : List V) (R : List Vi) (S : List Sl) (Ts : List Int) : Prop where
  a : ∀ t ∈ Ts, t ∈ cand now R
  b : ∀ u ∈ cand now R, ∃ t ∈ Ts, t ≤ u ∧ stA now R S t = stA now R S u
  c : ∀ t ∈ Ts, now ≤ t
  d : Ts.Pairwise (· < ·)
  e : wthn now R = true
  f : (fitR T S).1 = 0 ∨ (fitR T S).1 = 6
  g : (gvG R S).1 = 0
theorem StK.found {now : Int} {T : List V} {R : List Vi} {S : List Sl} {Ts : List Int} (h : StK now T R S Ts) {j : Nat} {t : Int} (ht : Ts[j]? = some t) (hf : (fitR T (stA now R S t)).1 = 0) (hn : ∀ u ∈ Ts.take j, ¬ fitT now T R S u) : startR now T R S = (t, (fitR T (stA now R S t)).2, 0) := by
  refine startR_some h.e h.f h.g ((sta_of h.a h.b).1 t (List.mem_of_getElem? ht) hf fun u hu hfu => ?_)
  obtain ⟨i, hi⟩ := List.mem_iff_getElem?.1 hu
  by_cases hij : i < j
  · exact absurd hfu (hn u (List.mem_of_getElem? (i := i) (by rw [List.getElem?_take, if_pos hij]; exact hi)))
  · by_cases e : i = j
    · subst e
      rw [ht] at hi
      cases hi
      exact Int.le_refl _
    · obtain ⟨h1, rfl⟩ := List.getElem?_eq_some_iff.1 hi
      obtain ⟨h2, rfl⟩ := List.getElem?_eq_some_iff.1 ht
      exact Int.le_of_lt (List.pairwise_iff_getElem.1 h.d j i h2 h1 (by omega))
theorem StK.no {now : Int} {T : List V} {R : List Vi} {S : List Sl} {Ts : List Int} (h : StK now T R S Ts) (hn : ∀ u ∈ Ts, ¬ fitT now T R S u) : startR now T R S = (0, [], 6) := startR_none h.e h.f h.g ((sta_of h.a h.b).2 hn)
/-- the ticks of a course -/
theorem st_ticks {w : World} {now : Int} {R : List Vi} {S : List Sl} {T : List V} {B mb : Nat} {pb : Nat → Nat} {Q : Nat → PS} {Ts : List Int} (hw : wthn now R = true) (hf : (fitR T S).1 = 0 ∨ (fitR T S).1 = 6) (hg : (gvG R S).1 = 0) (hc : Crs w B mb (slA R S) (fun nm => oprs now R nm) pb Q) (hd : Ts.Pairwise (· < ·)) (hT : ∀ x, x ∈ Ts ↔ x = now ∨ ∃ i s, (slA R S)[i]? = some s ∧ ∃ st ∈ (Q i).l, st.at' = x) : StK now T R S Ts := by
  have hi : ∀ i s, S[i]? = some s → (slA R S)[i]? = some (⟨s.nm, capS R s⟩ : Sl) := fun i s h => by rw [slA_cap, List.getElem?_map, h]; rfl
  obtain ⟨h1, h2, h3⟩ := tick_cover (now := now) (R := R) (S := S) (Q := fun i => (Q i).l) (Ts := Ts) (fun i s hs => by
    have hp := hc.m i _ (hi i s hs)
    have ho := hp.o.p
    have hcc : (Q i).C = capS R s := hp.c
    rw [hcc] at ho
    refine ⟨ho, fun u => ?_⟩
    have := hp.f u
    rw [hcc] at this
    rw [this]
    show plF (fun _ => capS R s) (oprs now R s.nm) u = _
    rw [plF_sum]
    rfl) fun x => by
      rw [hT]
      constructor
      · rintro (q | ⟨i, s, hs, q⟩)
        · exact .inl q
        · rw [slA_cap, List.getElem?_map] at hs
          obtain ⟨a, ha, _⟩ := Option.map_eq_some_iff.1 hs
          exact .inr ⟨i, a, ha, q⟩
      · rintro (q | ⟨i, s, hs, q⟩)
        · exact .inl q
        · exact .inr ⟨i, _, hi i s hs, q⟩
  exact ⟨h1, h2, h3, hd, hw, hf, hg⟩
set_option maxHeartbeats 4000000 in
set_option maxRecDepth 100000 in
theorem start_go (now : Int) (qT q r : Option Addr) (nT cT n c m d : Nat) (T : List V) (R : List Vi) (S : List Sl) (w : World) (h : Hid (StG w qT nT cT q n r m d T R S)) (hw : Hid (wthn now R = true)) (hf : Hid ((fitR T S).1 = 0 ∨ (fitR T S).1 = 6)) (hg : Hid ((gvG R S).1 = 0)) : Calls Try.prog 9 #[.int .i64 now, .slice qT nT cT, .slice q n c, .slice r m d] w (StP w now T R S) := by
  have H18 : Hid (Calls Try.prog 18 #[.int .i64 now, .slice q n c] w fun e w' => e = .returned (.bool true) ∧ Hid (Below w.heap.size w w')) := by
    have := within_any now R q n c w h.out.v h.out.lr h.out.n2
    rwa [hw.out] at this
  obtain ⟨f, hfe⟩ : ∃ f, (fitR T S).1 = f := ⟨_, rfl⟩
  have H16 : Hid (∀ w1, Below w.heap.size w w1 → Calls Try.prog 16 #[.slice qT nT cT, .slice r m d] w1 fun e w' => ∃ p k c, e = .returned (.tuple #[.slice p k c, .int .i64 (f : Nat)]) ∧ Hid (Below w1.heap.size w1 w')) := fun w1 b => (h.out.below b).fit.mono fun e w' ⟨p, k, c, e1, _, _, h4⟩ => ⟨p, k, c, by rw [e1, hfe], h4.out.2⟩
  have hf' : f = 0 ∨ f = 6 := by have := hf.out; rw [hfe] at this; exact this
  have hS := fit_chk hf.out
  have hGv := all_give R S hS.2.1 hg.out
  have hgv := give_all R S hS.2.1 hGv
  have HW : Hid ((slA R S).length = m ∧ Nod (slA R S) ∧ allS (slA R S) = true ∧ (∀ s ∈ slA R S, AllT (fun _ => s.v) (oprs now R s.nm)) ∧ ∀ v ∈ R, v.N.length = v.T.length ∧ v.T.length ≤ 6 ∧ knB v.N (slA R S) = true) := by
    refine ⟨(slA_length _ _).trans h.out.s.m, nod_nm (slA_nm _ _) hS.2.2.1, slA_ok hGv.2, fun s hs => ?_, fun v hv => ?_⟩
    · rw [slA_cap] at hs
      obtain ⟨u, hu, rfl⟩ := List.mem_map.1 hs
      exact opr_all hw.out hS.2.1 hGv hu
    · obtain ⟨g1, g2, g3⟩ := hGv.1 v hv
      obtain ⟨k1, k2, k3, k4, k5⟩ := chk_ok g1
      exact ⟨g2, by omega, by rw [knB_nm (slA_nm _ _)]; exact g3⟩
  have H19 : Hid (∀ w1, Below w.heap.size w w1 → Calls Try.prog 19 #[.slice q n c, .slice r m d] w1 fun e w' => ∃ p c, e = .returned (.tuple #[.slice p m c, .int .i64 0]) ∧ Hid (Below w1.heap.size w1 w' ∧ SlS w' p m c (slA R S))) := fun w1 b => (given_any R S q r n c m d w1 (h.out.v.below b) (h.out.o.below b) (h.out.s.below b) h.out.lr h.out.n2 (by have := h.out.n3; show m ≤ _; omega)).mono fun e w' ⟨p, k, c, e1, h4⟩ => by
    have h5 := h4.out.2 hg.out
    rw [hgv] at h5 e1
    have : k = m := h5.m.symm.trans HW.out.1
    subst this
    exact ⟨p, c, e1, h4.out.1, h5⟩
  obtain ⟨wa, wb, wc, wd⟩ := wthn_true hw.out
  have hn100 : n ≤ 100 := by have := h.out.lr; omega
  have hm1 : m ≤ 1000 := h.out.n3
  have H20 : Hid (∀ w1 p c', Below w.heap.size w w1 → SlS w1 p m c' (slA R S) → Calls Try.prog 20 #[.int .i64 now, .slice q n c, .slice p m c'] w1 (ForP w1 now R (slA R S) p m c')) := fun w1 p c' b hs => foreseen_any now R (slA R S) q p n c m c' w1 (h.out.v.below b) (h.out.o.below b) h.out.lr ⟨hs.s, hs.h, HW.out.1, HW.out.2.1, HW.out.2.2.1⟩ hn100 (by omega) HW.out.2.2.2.1 HW.out.2.2.2.2 wa wb
  have H21 : Hid (∀ w1 B mb p c' pb Q, Crs w1 B mb (slA R S) (fun nm => oprs now R nm) pb Q → Calls Try.prog 21 #[.agg #[.int .i64 now, .slice p m c', .map (some mb)]] w1 (TkP w1 now (slA R S) Q)) := fun w1 B mb p c' pb Q hc => ticks_any now B mb (slA R S) _ pb Q p m c' w1 hc HW.out.2.1 (by show _ ≤ _; rw [HW.out.1]; exact hm1)
  have H22 : Hid (∀ w1 B mb p c' pb Q t, Crs w1 B mb (slA R S) (fun nm => oprs now R nm) pb Q → SlS w1 p m c' (slA R S) → now ≤ t → Calls Try.prog 22 #[.agg #[.int .i64 now, .slice p m c', .map (some mb)], .int .i64 t] w1 (AtP w1 m (stA now R S t))) := fun w1 B mb p c' pb Q t hc hs ht => by
    have := at_any now t B mb (slA R S) _ pb Q p m c' w1 hc ⟨hs.s, hs.h, HW.out.1, HW.out.2.1, hs.d⟩ (by omega)
    rwa [atS_st ht] at this
  clear hS hGv hgv hfe wa wb wc wd HW hn100 hm1
  rcases hf' with rfl | rfl
  all_goals
    go_enter Try.func9, Try.ntmps9
    go_upto_region 10 with (first
      | (go_at_call 18; refine H18.out.mono ?_; rintro e w1 ⟨rfl, b1⟩; clear H18)
      | (go_at_call 16; refine (H16.out _ b1.out).mono ?_; rintro e w2 ⟨p, k, c0, rfl, b2⟩; clear H16; have b3 : Hid (Below w.heap.size w w2) := below_from b1.out b2.out b1.out.size)
      | (go_at_call 19; refine (H19.out _ b3.out).mono ?_; rintro e w4 ⟨p4, c4, rfl, b4⟩; clear H19; have b5 : Hid (Below w.heap.size w w4) := below_from b3.out b4.out.1 b3.out.size)
      | (go_at_call 20; refine (H20.out _ _ _ b5.out b4.out.2).mono ?_; rintro e w6 ⟨mb, rfl, b6⟩; clear H20))
    obtain ⟨B, pb, Q, hc, hb⟩ := b6.out
    have HB7 : Hid (Below w.heap.size w (w6.alloc (.cells #[.int .i64 now, .slice p4 m c4, .map (some mb)] 55)) ∧ Crs (w6.alloc (.cells #[.int .i64 now, .slice p4 m c4, .map (some mb)] 55)) B mb (slA R S) (fun nm => oprs now R nm) pb Q ∧ SlS (w6.alloc (.cells #[.int .i64 now, .slice p4 m c4, .map (some mb)] 55)) p4 m c4 (slA R S) ∧ (w6.alloc (.cells #[.int .i64 now, .slice p4 m c4, .map (some mb)] 55)).heap[w6.heap.size]? = some (.cells #[.int .i64 now, .slice p4 m c4, .map (some mb)] 55)) := by
      have b7 := below_from b5.out hb b5.out.size
      have b8 : Below w6.heap.size w6 (w6.alloc (.cells #[.int .i64 now, .slice p4 m c4, .map (some mb)] 55)) := (Below.refl _ _).alloc (Nat.le_refl _) _
      exact ⟨below_from b7 b8 b7.size, hc.keep b8, (b4.out.2.below hb).below b8, new0⟩
    clear hc hb b6 b5 b4 b3 b2 b1
    generalize w6.alloc (.cells #[.int .i64 now, .slice p4 m c4, .map (some mb)] 55) = W7 at *
    generalize w6.heap.size = cb at *
    have e0 := Lib.cell_of_heap HB7.out.2.2.2 0
    have e1 := Lib.cell_of_heap HB7.out.2.2.2 1
    have e2 := Lib.cell_of_heap HB7.out.2.2.2 2
    go_upto_region 11 with (go_at_call 21; refine (H21.out _ B mb p4 c4 pb Q HB7.out.2.1).mono ?_; rintro e w8 ⟨p8, k8, c8, rfl, h8⟩)
    obtain ⟨Ts, t1, t2, t3, t4, t5⟩ := h8.out
    have HK : Hid (StK now T R S Ts) := st_ticks hw.out hf.out hg.out HB7.out.2.1 t2 t3
    have HT : Hid (Ts.length = k8 ∧ TR W7.heap.size w8 (.slice p8 k8 c8) Ts) := ⟨t1, t4⟩
    have hk8 : k8 ≤ 9223372036854775807 := by
      rcases t4.2 with ⟨_, h0⟩ | ⟨g, cap, cur, e, h1, h2, h3, h4, _⟩
      · omega
      · unfold maxLen at h4; omega
    have HB8 : Hid (Below w.heap.size w w8 ∧ Crs w8 B mb (slA R S) (fun nm => oprs now R nm) pb Q ∧ SlS w8 p4 m c4 (slA R S) ∧ w8.heap[cb]? = some (.cells #[.int .i64 now, .slice p4 m c4, .map (some mb)] 55)) := ⟨below_from HB7.out.1 t5 HB7.out.1.size, HB7.out.2.1.keep t5, HB7.out.2.2.1.below t5, at_below t5 (Nat.le_refl _) HB7.out.2.2.2⟩
    clear t1 t2 t3 t4 t5 h8 e0 e1 e2 HB7 H21
    go_wp2_with fail
    go_loopw [53] (fun x wr => ∃ j : Nat, x = .int .i64 j ∧ j ≤ k8 ∧ Hid (Below w8.heap.size w8 wr ∧ ∀ u ∈ Ts.take j, ¬ fitT now T R S u)) (fun x _ => k8 - (intOf x).toNat)
    case atStart => exact ⟨0, rfl, Nat.zero_le _, Below.refl _ _, fun u hu => by simp at hu⟩
    case round =>
      obtain ⟨j, rfl, hj, HJ⟩ := hrel
      by_cases hjk : j = k8
      · subst hjk
        have HE : Hid (startR now T R S = (0, [], 6) ∧ Below w.heap.size w wr) := by
          have h1 := HJ.out.2
          rw [List.take_of_length_le (Nat.le_of_eq HT.out.1)] at h1
          exact ⟨HK.out.no h1, below_from HB8.out.1 HJ.out.1 HB8.out.1.size⟩
        clear HJ hj
        go_wp2_with fail
        go_ret3
        exact st_no HE.out.1 HE.out.2
      · have hlt' : (j : Int) < (k8 : Int) := by omega
        have hd : decide ((j : Int) < (k8 : Int)) = true := decide_eq_true hlt'
        obtain ⟨x, hx⟩ : ∃ x, Ts[j]? = some x := ⟨Ts[j]'(by have := HT.out.1; omega), List.getElem?_eq_getElem _⟩
        have hne : Ts ≠ [] := fun e => by rw [e] at hx; simp at hx
        obtain ⟨g8, cur8, rfl, -, -, -⟩ := tr_blk HT.out.2 hne
        have y0 : wr.cell? ⟨g8, j, none⟩ = some (.int .i64 x) := by
          have := World.ownsRow.cells HT.out.2 (g := g8) rfl j (.int .i64 x) (by rw [List.getElem?_map, hx]; rfl)
          rw [Addr.add_lit, Nat.zero_add] at this
          exact cell_below this HJ.out.1
        have HX : Hid (Ts[j]? = some x ∧ now ≤ x) := ⟨hx, HK.out.c x (List.mem_of_getElem? hx)⟩
        have H22' : Hid (Calls Try.prog 22 #[.agg #[.int .i64 now, .slice p4 m c4, .map (some mb)], .int .i64 x] wr (AtP wr m (stA now R S x))) := H22.out wr B mb p4 c4 pb Q x (HB8.out.2.1.keep HJ.out.1) (HB8.out.2.2.1.below HJ.out.1) HX.out.2
        have hcb := at_below HJ.out.1 (Nat.le_refl _) HB8.out.2.2.2
        have e0 := Lib.cell_of_heap hcb 0
        have e1 := Lib.cell_of_heap hcb 1
        have e2 := Lib.cell_of_heap hcb 2
        clear hx hne hcb
        obtain ⟨y, hy⟩ : ∃ y, (fitR T (stA now R S x)).1 = y := ⟨_, rfl⟩
        have H16 : Hid (∀ w1 p c', Below w.heap.size w w1 → SR wr.heap.size w1 (.slice p m c') (stA now R S x) → Calls Try.prog 16 #[.slice qT nT cT, .slice p m c'] w1 fun e w' => ∃ q k c, e = .returned (.tuple #[.slice q k c, .int .i64 (y : Nat)]) ∧ (fitR T (stA now R S x)).2.length = k ∧ (q = none → c = 0) ∧ Hid (NA w' q (fitR T (stA now R S x)).2 ∧ Below w1.heap.size w1 w')) := fun w1 p c' b hs => by
          have hl : (stA now R S x).length = m := (slA_length _ _).trans h.out.s.m
          have := fit_any T (stA now R S x) qT p nT cT m c' w1 (h.out.t.below b) (hs.ga slC_len) (short_nm h.out.s.h (slA_nm _ _)) (fun e => by subst e; exact hs.nilc) h.out.lt hl h.out.n1 (by have := h.out.n3; omega)
          refine this.mono ?_
          rintro e w' ⟨q, k, c, e1, h4⟩
          exact ⟨q, k, c, by rw [e1, hy], h4⟩
        have HY : Hid ((fitR T (stA now R S x)).1 = y) := hy
        clear hy H22
        by_cases hy0 : y = 0
        · subst hy0
          have HF : Hid (startR now T R S = (x, (fitR T (stA now R S x)).2, 0)) := HK.out.found HX.out.1 HY.out HJ.out.2
          go_wp2_with (first
            | (go_at_call 22; refine H22'.out.mono ?_; rintro e w9 ⟨p9, c9, rfl, h9⟩; clear H22'; have b9 : Hid (Below w.heap.size w w9) := below_from (below_from HB8.out.1 HJ.out.1 HB8.out.1.size) h9.out.2 (Nat.le_trans HB8.out.1.size HJ.out.1.size))
            | (go_at_call 16; refine (H16.out _ _ _ b9.out h9.out.1).mono ?_; rintro e w10 ⟨p10, k10, c10, rfl, h10, h11, h12⟩; clear H16))
          go_ret3
          refine ⟨p10, k10, c10, by rw [HF.out]; rfl, by rw [HF.out]; exact h10, h11, ?_, below_from b9.out h12.out.2 b9.out.size⟩
          rw [HF.out]
          exact h12.out.1
        · have y1 : ¬ (y : Int) = 0 := by omega
          have y2 : ((y : Int) == 0) = false := by simpa using y1
          have HN : Hid (∀ u ∈ Ts.take (j + 1), ¬ fitT now T R S u) := fun u hu => by
            rw [take_next HX.out.1] at hu
            rcases List.mem_append.1 hu with q | q
            · exact HJ.out.2 u q
            · rw [List.mem_singleton.1 q]
              intro e
              have e' : (fitR T (stA now R S x)).1 = 0 := e
              exact hy0 (HY.out.symm.trans e')
          go_wp2_with (first
            | (go_at_call 22; refine H22'.out.mono ?_; rintro e w9 ⟨p9, c9, rfl, h9⟩; clear H22'; have b9 : Hid (Below w8.heap.size w8 w9 ∧ Below w.heap.size w w9) := ⟨below_from HJ.out.1 h9.out.2 HJ.out.1.size, below_from (below_from HB8.out.1 HJ.out.1 HB8.out.1.size) h9.out.2 (Nat.le_trans HB8.out.1.size HJ.out.1.size)⟩)
            | (go_at_call 16; refine (H16.out _ _ _ b9.out.2 h9.out.1).mono ?_; rintro e w10 ⟨p10, k10, c10, rfl, h10, h11, h12⟩; clear H16))
          exact ⟨⟨j + 1, by simp, by omega, below_from b9.out.1 h12.out.2 b9.out.1.size, HN.out⟩, by simp only [intOf]; omega⟩
theorem start_any (now : Int) (qT q r : Option Addr) (nT cT n c m d : Nat) (T : List V) (R : List Vi) (S : List Sl) (w : World) (h : StG w qT nT cT q n r m d T R S) : Calls Try.prog 9 #[.int .i64 now, .slice qT nT cT, .slice q n c, .slice r m d] w (StP w now T R S) := by
  by_cases hw : wthn now R = true
  · by_cases hf : (fitR T S).1 = 0 ∨ (fitR T S).1 = 6
    · by_cases hg : (gvG R S).1 = 0
      · exact start_go now qT q r nT cT n c m d T R S w h hw hf hg
      · exact start_give now qT q r nT cT n c m d T R S w h hw hf hg
    · exact start_fit now qT q r nT cT n c m d T R S w h hw hf
  · exact start_range now qT q r nT cT n c m d T R S w h (Bool.eq_false_iff.2 hw)
end Go.Proofs.Ytjgibngnjlciaaa
