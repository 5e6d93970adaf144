/-
  The document's Fit.
-/
import Derived.Test.YtjgibngnjlciaaaGreatRb
import Derived.Deep.RegionWith
namespace Go.Proofs.YtjgibngnjlciaaaGreat
open Go.RowKit Go.Maps Go.WideMaps Go.Sort

/-- while tasks are placed, by the document -/
structure Fr (w wr : World) (T : List V) (S : List Sl) (p : Option Addr) (m c gP gN k : Nat) (st : St) : Prop where
  f : fitG T ((ordT T).take k) (fit0 T S) = some st
  l : RR w.heap.size wr (.slice p m c) st.1
  n : LB 9 sV wr gN st.2
  t : LB 4 Value.bool wr gP (plB ((ordT T).take k) T.length)
  b : Below w.heap.size w wr
  g : w.heap.size ≤ gN ∧ w.heap.size ≤ gP
  o : allS st.1 = true
  m : st.1.map Sl.nm = S.map Sl.nm
  z : st.2.length = T.length
theorem Fr.below {w wr w1 : World} {T : List V} {S : List Sl} {p : Option Addr} {m c gP gN k : Nat} {st : St} (h : Fr w wr T S p m c gP gN k st) (b : Below wr.heap.size wr w1) : Fr w w1 T S p m c gP gN k st :=
  ⟨h.f, h.l.below b, h.n.below b, h.t.below b, below_from h.b b h.b.size, h.g, h.o, h.m, h.z⟩
theorem plB_nil (n : Nat) : plB [] n = List.replicate n false := by
  refine List.ext_getElem? fun i => ?_
  by_cases hi : i < n
  · rw [plB_at hi, List.getElem?_replicate, if_pos hi]
    simp
  · rw [List.getElem?_eq_none (by unfold plB; simp; omega), List.getElem?_eq_none (by simp; omega)]
theorem plB_set {L : List Nat} {n t : Nat} (ht : t < n) : (plB L n).set t true = plB (L ++ [t]) n := by
  refine List.ext_getElem? fun i => ?_
  rw [List.getElem?_set]
  by_cases hi : i < n
  · rw [plB_at hi, plB_at hi]
    by_cases e : t = i
    · subst e
      rw [if_pos rfl, if_pos (by unfold plB; simpa using ht)]
      simp
    · rw [if_neg e]
      congr 1
      simp [Ne.symm e]
  · have h1 : ∀ M, (plB M n)[i]? = none := fun M => List.getElem?_eq_none (by unfold plB; simp; omega)
    rw [h1, h1, if_neg (by omega)]
theorem Fr.wrote {w wr : World} {T : List V} {S : List Sl} {m c gP gN k t i gl : Nat} {st : St} {s : Sl} {nt : List UInt8} (h : Fr w wr T S (some ⟨gl, 0, none⟩) m c gP gN k st) (ht : (ordT T)[k]? = some t) (hh : hold (tg T t) st.1 = some i) (hs : st.1[i]? = some s) (hf : ftV (tg T t) s.v = true) (ho : (tg T t).ok = true) (hnt : st.2[t]? = some nt) :
    ((((wr.setCell ⟨gl, i * 5 + 1, none⟩ (.int .i64 (s.v.sub (tg T t)).a)).setCell ⟨gl, i * 5 + 1 + 1, none⟩ (.int .i64 (s.v.sub (tg T t)).b)).setCell ⟨gl, i * 5 + 1 + 2, none⟩ (.int .i64 (s.v.sub (tg T t)).c)).setCell ⟨gl, i * 5 + 1 + 3, none⟩ (.int .i64 (s.v.sub (tg T t)).d)).cell? ⟨gP, t, none⟩ = some (.bool false) ∧
    ((((wr.setCell ⟨gl, i * 5 + 1, none⟩ (.int .i64 (s.v.sub (tg T t)).a)).setCell ⟨gl, i * 5 + 1 + 1, none⟩ (.int .i64 (s.v.sub (tg T t)).b)).setCell ⟨gl, i * 5 + 1 + 2, none⟩ (.int .i64 (s.v.sub (tg T t)).c)).setCell ⟨gl, i * 5 + 1 + 3, none⟩ (.int .i64 (s.v.sub (tg T t)).d)).frozen? ⟨gP, t, none⟩ = false ∧
    gP < ((((wr.setCell ⟨gl, i * 5 + 1, none⟩ (.int .i64 (s.v.sub (tg T t)).a)).setCell ⟨gl, i * 5 + 1 + 1, none⟩ (.int .i64 (s.v.sub (tg T t)).b)).setCell ⟨gl, i * 5 + 1 + 2, none⟩ (.int .i64 (s.v.sub (tg T t)).c)).setCell ⟨gl, i * 5 + 1 + 3, none⟩ (.int .i64 (s.v.sub (tg T t)).d)).heap.size ∧
    (((((wr.setCell ⟨gl, i * 5 + 1, none⟩ (.int .i64 (s.v.sub (tg T t)).a)).setCell ⟨gl, i * 5 + 1 + 1, none⟩ (.int .i64 (s.v.sub (tg T t)).b)).setCell ⟨gl, i * 5 + 1 + 2, none⟩ (.int .i64 (s.v.sub (tg T t)).c)).setCell ⟨gl, i * 5 + 1 + 3, none⟩ (.int .i64 (s.v.sub (tg T t)).d)).setCell ⟨gP, t, none⟩ (.bool true)).cell? ⟨gl, i * 5, none⟩ = some (.string ⟨⟨s.nm⟩⟩) ∧
    (((((wr.setCell ⟨gl, i * 5 + 1, none⟩ (.int .i64 (s.v.sub (tg T t)).a)).setCell ⟨gl, i * 5 + 1 + 1, none⟩ (.int .i64 (s.v.sub (tg T t)).b)).setCell ⟨gl, i * 5 + 1 + 2, none⟩ (.int .i64 (s.v.sub (tg T t)).c)).setCell ⟨gl, i * 5 + 1 + 3, none⟩ (.int .i64 (s.v.sub (tg T t)).d)).setCell ⟨gP, t, none⟩ (.bool true)).cell? ⟨gN, t, none⟩ = some (.string ⟨⟨nt⟩⟩) ∧
    (((((wr.setCell ⟨gl, i * 5 + 1, none⟩ (.int .i64 (s.v.sub (tg T t)).a)).setCell ⟨gl, i * 5 + 1 + 1, none⟩ (.int .i64 (s.v.sub (tg T t)).b)).setCell ⟨gl, i * 5 + 1 + 2, none⟩ (.int .i64 (s.v.sub (tg T t)).c)).setCell ⟨gl, i * 5 + 1 + 3, none⟩ (.int .i64 (s.v.sub (tg T t)).d)).setCell ⟨gP, t, none⟩ (.bool true)).frozen? ⟨gN, t, none⟩ = false ∧
    gN < (((((wr.setCell ⟨gl, i * 5 + 1, none⟩ (.int .i64 (s.v.sub (tg T t)).a)).setCell ⟨gl, i * 5 + 1 + 1, none⟩ (.int .i64 (s.v.sub (tg T t)).b)).setCell ⟨gl, i * 5 + 1 + 2, none⟩ (.int .i64 (s.v.sub (tg T t)).c)).setCell ⟨gl, i * 5 + 1 + 3, none⟩ (.int .i64 (s.v.sub (tg T t)).d)).setCell ⟨gP, t, none⟩ (.bool true)).heap.size ∧
    Fr w ((((((wr.setCell ⟨gl, i * 5 + 1, none⟩ (.int .i64 (s.v.sub (tg T t)).a)).setCell ⟨gl, i * 5 + 1 + 1, none⟩ (.int .i64 (s.v.sub (tg T t)).b)).setCell ⟨gl, i * 5 + 1 + 2, none⟩ (.int .i64 (s.v.sub (tg T t)).c)).setCell ⟨gl, i * 5 + 1 + 3, none⟩ (.int .i64 (s.v.sub (tg T t)).d)).setCell ⟨gP, t, none⟩ (.bool true)).setCell ⟨gN, t, none⟩ (.string ⟨⟨s.nm⟩⟩)) T S (some ⟨gl, 0, none⟩) m c gP gN (k + 1) (setV st.1 i (tg T t), st.2.set t s.nm) := by
  obtain ⟨cur, hb⟩ := grow_blk h.l
  have nl : gN ≠ gl := fun e => by have := h.n; unfold LB at this; rw [e, hb] at this; injection this with q; injection q with _ q2; cases q2
  have tl : gP ≠ gl := fun e => by have := h.t; unfold LB at this; rw [e, hb] at this; injection this with q; injection q with _ q2; cases q2
  have tn : gP ≠ gN := fun e => by have := h.t; unfold LB at this; rw [e, h.n] at this; injection this with q; injection q with _ q2; cases q2
  have hg := h.l.ge (g := gl) rfl
  have hG := grow_free (s.v.sub (tg T t)) h.l hs
  have hk := (List.getElem?_eq_some_iff.1 hs).1
  have htn : t < T.length := (ordT_ord T).lt (List.mem_of_getElem? ht)
  have htk : t ∉ (ordT T).take k := fun hm => by
    have hp := (ordT_ord T).2
    obtain ⟨l1, e1⟩ := List.getElem?_eq_some_iff.1 ht
    obtain ⟨j, hj, e2⟩ := List.getElem_of_mem hm
    rw [List.length_take] at hj
    rw [List.getElem_take] at e2
    have := List.pairwise_iff_getElem.1 hp j k (by omega) l1 (by omega)
    rw [e1, e2] at this
    exact bef_irrefl T t this
  have b4 : Below w.heap.size w ((((wr.setCell ⟨gl, i * 5 + 1, none⟩ (.int .i64 (s.v.sub (tg T t)).a)).setCell ⟨gl, i * 5 + 1 + 1, none⟩ (.int .i64 (s.v.sub (tg T t)).b)).setCell ⟨gl, i * 5 + 1 + 2, none⟩ (.int .i64 (s.v.sub (tg T t)).c)).setCell ⟨gl, i * 5 + 1 + 3, none⟩ (.int .i64 (s.v.sub (tg T t)).d)) := (((h.b.setCell hg _).setCell hg _).setCell hg _).setCell hg _
  have hN : LB 9 sV ((((wr.setCell ⟨gl, i * 5 + 1, none⟩ (.int .i64 (s.v.sub (tg T t)).a)).setCell ⟨gl, i * 5 + 1 + 1, none⟩ (.int .i64 (s.v.sub (tg T t)).b)).setCell ⟨gl, i * 5 + 1 + 2, none⟩ (.int .i64 (s.v.sub (tg T t)).c)).setCell ⟨gl, i * 5 + 1 + 3, none⟩ (.int .i64 (s.v.sub (tg T t)).d)) gN st.2 := by
    refine LB.at h.n ?_
    rw [Below.heap_setCell _ _ _ _ nl, Below.heap_setCell _ _ _ _ nl, Below.heap_setCell _ _ _ _ nl, Below.heap_setCell _ _ _ _ nl]
  have hT : LB 4 Value.bool ((((wr.setCell ⟨gl, i * 5 + 1, none⟩ (.int .i64 (s.v.sub (tg T t)).a)).setCell ⟨gl, i * 5 + 1 + 1, none⟩ (.int .i64 (s.v.sub (tg T t)).b)).setCell ⟨gl, i * 5 + 1 + 2, none⟩ (.int .i64 (s.v.sub (tg T t)).c)).setCell ⟨gl, i * 5 + 1 + 3, none⟩ (.int .i64 (s.v.sub (tg T t)).d)) gP (plB ((ordT T).take k) T.length) := by
    refine LB.at h.t ?_
    rw [Below.heap_setCell _ _ _ _ tl, Below.heap_setCell _ _ _ _ tl, Below.heap_setCell _ _ _ _ tl, Below.heap_setCell _ _ _ _ tl]
  generalize ((((wr.setCell ⟨gl, i * 5 + 1, none⟩ (.int .i64 (s.v.sub (tg T t)).a)).setCell ⟨gl, i * 5 + 1 + 1, none⟩ (.int .i64 (s.v.sub (tg T t)).b)).setCell ⟨gl, i * 5 + 1 + 2, none⟩ (.int .i64 (s.v.sub (tg T t)).c)).setCell ⟨gl, i * 5 + 1 + 3, none⟩ (.int .i64 (s.v.sub (tg T t)).d)) = W6 at *
  have c0 := hT.cell (plB_at htn)
  rw [decide_eq_false htk] at c0
  have hG2 : RR w.heap.size (W6.setCell ⟨gP, t, none⟩ (.bool true)) (.slice (some ⟨gl, 0, none⟩) m c) (st.1.set i ⟨s.nm, s.v.sub (tg T t)⟩) := GRow.keep hG fun g e => by
    have : gl = g := Option.some.inj e
    subst this
    exact Below.heap_setCell _ _ _ _ (Ne.symm tl)
  have hN2 : LB 9 sV (W6.setCell ⟨gP, t, none⟩ (.bool true)) gN st.2 := LB.at hN (Below.heap_setCell _ _ _ _ (Ne.symm tn))
  have hT2 : LB 4 Value.bool (W6.setCell ⟨gP, t, none⟩ (.bool true)) gP (plB ((ordT T).take (k + 1)) T.length) := by
    rw [take_next ht, ← plB_set htn]
    exact hT.set t true
  refine ⟨c0, hT.fz t, hT.lt, (grow_at hG2 (List.getElem?_set_self hk)).1.1, hN2.cell hnt, hN2.fz t, hN2.lt, ?_, ?_, hN2.set t s.nm, ?_, (b4.setCell h.g.2 _).setCell h.g.1 _, h.g, setV_ok h.o hs ho hf, (setV_nm _ _ _).trans h.m, by rw [List.length_set]; exact h.z⟩
  · rw [take_next ht, fitG_append, h.f]
    show (stepF T t st).bind (fitG T []) = _
    unfold stepF
    rw [hh]
    show some _ = some _
    rw [show (st.1.getD i default) = s by rw [List.getD_eq_getElem?_getD, hs]; rfl]
  · rw [setV_eq hs]
    refine GRow.keep hG2 fun g e => ?_
    have : gl = g := Option.some.inj e
    subst this
    exact Below.heap_setCell _ _ _ _ (Ne.symm nl)
  · exact LB.at hT2 (Below.heap_setCell _ _ _ _ tn)
/-- whose turn it is -/
theorem bst_turn {T : List V} {k t : Nat} {b : Int} (ht : (ordT T)[k]? = some t) (h : Bst T ((ordT T).take k) T.length b) : b = (t : Int) := by
  have ho := ordT_ord T
  have htn : t < T.length := ho.lt (List.mem_of_getElem? ht)
  obtain ⟨l1, e1⟩ := List.getElem?_eq_some_iff.1 ht
  have htk : t ∉ (ordT T).take k := fun hm => by
    obtain ⟨j, hj, e2⟩ := List.getElem_of_mem hm
    rw [List.length_take] at hj
    rw [List.getElem_take] at e2
    have := List.pairwise_iff_getElem.1 ho.2 j k (by omega) l1 (by omega)
    rw [e1, e2] at this
    exact bef_irrefl T t this
  rcases h with ⟨_, h⟩ | ⟨j, e, h1, h2, h3⟩
  · exact absurd (h t htn) htk
  · rw [e]
    rcases h3 t htn htk with q | q
    · rw [q]
    · have hj : j ∈ ordT T := ho.1.mem_iff.2 (List.mem_range.2 h1)
      obtain ⟨i, hi, e2⟩ := List.getElem_of_mem hj
      have hik : ¬ i < k := fun q => h2 (by rw [← e2]; exact List.mem_take_iff_getElem.2 ⟨i, by omega, rfl⟩)
      by_cases q2 : i = k
      · subst q2
        rw [← e1, ← e2]
      · have := List.pairwise_iff_getElem.1 ho.2 k i l1 hi (by omega)
        rw [e1, e2] at this
        exact absurd (bef_trans q this) (bef_irrefl T j)
set_option maxHeartbeats 8000000 in
set_option maxRecDepth 100000 in
theorem rfit_any (T : List V) (S : List Sl) (q r : Option Addr) (n c m d : Nat) (w : World) (hT : TA w q T) (hS : SA w r S) (hsh : Short S) (hr : r = none → d = 0) (hn : T.length = n) (hm : S.length = m) (n1 : n ≤ 1000000) (m1 : m ≤ 1000000) :
    Calls Tryz.prog 15 #[.slice q n c, .slice r m d] w (FitP w T S) := by
  have H27 : Hid (Calls Tryz.prog 32 #[.slice q n c, .slice r m d] w fun e w' => e = .returned (.int .i64 (chk T S : Nat)) ∧ Hid (Below w.heap.size w w')) := wrong_any T S q r n c m d w hT hS hn hm n1 m1
  have HA : Hid (TA w q T ∧ SA w r S ∧ Short S ∧ (r = none → d = 0) ∧ T.length = n ∧ S.length = m) := ⟨hT, hS, hsh, hr, hn, hm⟩
  clear hT hS hsh hr hn hm
  by_cases hc : chk T S = 0
  · obtain ⟨k1, k2, k3, k4, k5⟩ := chk_ok hc
    have HK : Hid (allOk T = true ∧ allS S = true ∧ chk T S = 0) := ⟨k1, k2, hc⟩
    have n6 : n ≤ 6 := by have := HA.out.2.2.2.2.1; omega
    rw [hc] at H27
    clear k1 k2 k3 k4 k5 hc
    go_enter Tryz.func15, Tryz.ntmps15
    go_upto_region 2 with (go_at_call 32; refine H27.out.mono ?_; rintro e w1 ⟨rfl, h1⟩)
    have B1 : Hid (Below w.heap.size w w1) := h1.out
    clear h1 H27
    have H28 : Hid (Calls Tryz.prog 33 #[.slice r m d] w1 fun e w' => ∃ p c', e = .returned (.slice p m c') ∧ Hid (RR w1.heap.size w' (.slice p m c') S ∧ Below w1.heap.size w1 w')) := copy_any w1 r m d S (HA.out.2.1.below B1.out) HA.out.2.2.2.2.2 HA.out.2.2.2.1 m1
    go_upto_region 5 with (go_at_call 33; refine H28.out.mono ?_; rintro e w2 ⟨p, c2, rfl, h2⟩)
    have B2 : Hid (Below w.heap.size w w2 ∧ RR w.heap.size w2 (.slice p m c2) S) := ⟨below_from B1.out h2.out.2 B1.out.size, h2.out.1.1, by
      rcases h2.out.1.2 with q | ⟨g, cap, cur, e1, e2, e3⟩
      · exact .inl q
      · exact .inr ⟨g, cap, cur, e1, by have := B1.out.size; omega, e3⟩⟩
    clear H28 h2 B1
    have hmk := make60 n (by omega) w2
    go_upto_region 6 with fail
    clear hmk
    have L3 : Hid (Below w2.heap.size w2 (w2.alloc (.cells (Array.replicate n (.bool false)) 4)) ∧ LB 4 Value.bool (w2.alloc (.cells (Array.replicate n (.bool false)) 4)) w2.heap.size (List.replicate n false)) := ⟨(Below.refl _ w2).alloc (Nat.le_refl _) _, by unfold LB; rw [List.map_replicate]; exact new0⟩
    obtain ⟨gP, hgP⟩ : ∃ gP, gP = w2.heap.size := ⟨_, rfl⟩
    have L4 : Hid (LB 4 Value.bool (w2.alloc (.cells (Array.replicate n (.bool false)) 4)) gP (List.replicate n false) ∧ Below w.heap.size w (w2.alloc (.cells (Array.replicate n (.bool false)) 4)) ∧ RR w.heap.size (w2.alloc (.cells (Array.replicate n (.bool false)) 4)) (.slice p m c2) S ∧ w.heap.size ≤ gP) := ⟨by rw [hgP]; exact L3.out.2, below_from B2.out.1 L3.out.1 B2.out.1.size, B2.out.2.below L3.out.1, by have := B2.out.1.size; omega⟩
    rw [← hgP]
    clear hgP L3 B2
    generalize w2.alloc (.cells (Array.replicate n (.bool false)) 4) = w3 at *
    have hmk := make26 n (by omega) w3
    go_upto_region 7 with fail
    clear hmk
    have L5 : Hid (Below w3.heap.size w3 (w3.alloc (.cells (Array.replicate n (.string ⟨#[]⟩)) 9)) ∧ LB 9 sV (w3.alloc (.cells (Array.replicate n (.string ⟨#[]⟩)) 9)) w3.heap.size (List.replicate n [])) := ⟨(Below.refl _ w3).alloc (Nat.le_refl _) _, by unfold LB; rw [List.map_replicate]; exact new0⟩
    obtain ⟨gN, hgN⟩ : ∃ gN, gN = w3.heap.size := ⟨_, rfl⟩
    have F0 : Hid (Fr w (w3.alloc (.cells (Array.replicate n (.string ⟨#[]⟩)) 9)) T S p m c2 gP gN 0 (fit0 T S)) := ⟨rfl, L4.out.2.2.1.below L5.out.1, by unfold fit0; rw [HA.out.2.2.2.2.1, hgN]; exact L5.out.2, by
      have := L4.out.1.below L5.out.1
      rw [HA.out.2.2.2.2.1]
      rw [List.take_zero, plB_nil]
      exact this, below_from L4.out.2.1 L5.out.1 L4.out.2.1.size, ⟨by have := L4.out.2.1.size; omega, L4.out.2.2.2⟩, HK.out.2.1, rfl, by unfold fit0; rw [List.length_replicate]⟩
    rw [← hgN]
    clear hgN L5 L4
    generalize w3.alloc (.cells (Array.replicate n (.string ⟨#[]⟩)) 9) = w4 at *
    go_wp2_with fail
    go_loopw [10] (fun x wr => ∃ k : Nat, x = .int .i64 k ∧ k ≤ n ∧ Hid (∃ st, Fr w wr T S p m c2 gP gN k st)) (fun x _ => n - (intOf x).toNat)
    case atStart => exact ⟨0, rfl, Nat.zero_le _, _, F0.out⟩
    case round =>
      clear F0
      obtain ⟨k, rfl, hk, HI⟩ := hrel
      by_cases h0 : k < n
      · have hlt' : (k : Int) < (n : Int) := by omega
        have hd : decide ((k : Int) < (n : Int)) = true := decide_eq_true hlt'
        obtain ⟨st, hF⟩ := HI.out
        have HF : Hid (Fr w wr T S p m c2 gP gN k st) := hF
        clear HI hF
        have hol : (ordT T).length = n := (ordT_ord T).length.trans HA.out.2.2.2.2.1
        obtain ⟨t, ht⟩ : ∃ t, (ordT T)[k]? = some t := ⟨_, List.getElem?_eq_getElem (by omega)⟩
        have htn : t < n := by have := (ordT_ord T).lt (List.mem_of_getElem? ht); have := HA.out.2.2.2.2.1; omega
        have htn' : (t : Int) < (n : Int) := by omega
        have HT : Hid ((ordT T)[k]? = some t ∧ (tg T t).ok = true) := ⟨ht, tg_ok HK.out.1 (by have := HA.out.2.2.2.2.1; omega)⟩
        have H29 : Hid (Calls Tryz.prog 34 #[.slice q n c, .slice (some ⟨gP, 0, none⟩) n n] wr fun e w' => e = .returned (.int .i64 (t : Int)) ∧ Hid (Fr w w' T S p m c2 gP gN k st)) := by
          have := next_any T ((ordT T).take k) q n c gP wr (HA.out.1.below HF.out.b) (by have := HF.out.t; rw [HA.out.2.2.2.2.1] at this; exact this) HA.out.2.2.2.2.1 n1
          refine this.mono ?_
          rintro e w' ⟨b, rfl, hb⟩
          have hb1 := hb.out.1
          rw [← HA.out.2.2.2.2.1] at hb1
          rw [bst_turn HT.out.1 hb1]
          exact ⟨rfl, HF.out.below hb.out.2⟩
        clear hol ht HF
        go_wp2_with (go_at_call 34; refine H29.out.mono ?_; rintro e w5 ⟨rfl, h5⟩)
        clear H29
        go_loopw [12] (fun x wr => ∃ j : Nat, x = .int .i64 j ∧ j ≤ m ∧ Hid ((∀ i y, i < j → st.1[i]? = some y → ftV (tg T t) y.v = false) ∧ Fr w wr T S p m c2 gP gN k st)) (fun x _ => m - (intOf x).toNat)
        case atStart => exact ⟨0, rfl, Nat.zero_le _, (fun i y hi => absurd hi (by omega)), h5.out⟩
        case round =>
          clear h5
          obtain ⟨i, rfl, hi, HI⟩ := hrel
          have HF : Hid (Fr w wr T S p m c2 gP gN k st) := HI.out.2
          have HJ : Hid (∀ j y, j < i → st.1[j]? = some y → ftV (tg T t) y.v = false) := HI.out.1
          clear HI
          have hml : Hid (st.1.length = m) := HF.out.l.len.symm
          by_cases him : i < m
          · have im' : (i : Int) < (m : Int) := by omega
            have imd : decide ((i : Int) < (m : Int)) = true := decide_eq_true im'
            have im2 : decide (i < m) = true := decide_eq_true him
            obtain ⟨s, hs⟩ : ∃ s, st.1[i]? = some s := ⟨_, List.getElem?_eq_getElem (by have := hml.out; omega)⟩
            obtain ⟨gl, rfl, -⟩ := HF.out.l.at slC_len hs
            obtain ⟨ga, oa, rfl, x0, x1, x2, x3⟩ := TA.at (HA.out.1.below HF.out.b) (tg_lt (show t < T.length by have := HA.out.2.2.2.2.1; omega))
            have hcl := grow_at HF.out.l hs
            obtain ⟨⟨-, y1, y2, y3, y4⟩, -⟩ := hcl
            have H20 : Hid (∀ w, Calls Tryz.prog 35 #[.agg #[.int .i64 (tg T t).a, .int .i64 (tg T t).b, .int .i64 (tg T t).c, .int .i64 (tg T t).d], .agg #[.int .i64 s.v.a, .int .i64 s.v.b, .int .i64 s.v.c, .int .i64 s.v.d]] w fun r w' => r = .returned (.bool (ftV (tg T t) s.v)) ∧ Below w.heap.size w w') := fun w => rfits_any _ _ _ _ _ _ _ _ w
            obtain ⟨fb, hfb⟩ : ∃ fb, fb = ftV (tg T t) s.v := ⟨_, rfl⟩
            rw [← hfb] at H20
            have HS : Hid (st.1[i]? = some s ∧ ftV (tg T t) s.v = fb) := ⟨hs, hfb.symm⟩
            clear hs hfb
            generalize hu : tg T t = u at *
            obtain ⟨ua, ub, uc, ud⟩ := u
            have HU : Hid (tg T t = ⟨ua, ub, uc, ud⟩) := hu
            clear hu
            obtain ⟨nm, ⟨sa, sb, sc, sd⟩⟩ := s
            simp only [] at x0 x1 x2 x3 y1 y2 y3 y4 H20
            go_upto_region 12 with fail
            have G20 := grown (W := wr) H20
            have m0 := cell_regrown x0
            have m1 := cell_regrown x1
            have m2 := cell_regrown x2
            have m3 := cell_regrown x3
            have n1 := cell_regrown y1
            have n2 := cell_regrown y2
            have n3 := cell_regrown y3
            have n4 := cell_regrown y4
            refine wp_region_quiet_below (by kernel_rfl) (by kernel_rfl) ?_
            repeat (first | go_big_quiet_step ((go_at_call 35; exact G20.out _ _)) | quiet_step ((go_at_call 35; exact G20.out _ _)))
            refine wpQuiet_nil ?_
            intro _ hw'
            obtain ⟨⟨dq, osq⟩, hw''⟩ := hw'
            subst hw''
            have HF7 : Hid (Fr w (grow (redrawn wr dq) osq) T S (some ⟨gl, 0, none⟩) m c2 gP gN k st) := HF.out.below (below_regrown wr dq osq)
            clear m0 m1 m2 m3 n1 n2 n3 n4 x0 x1 x2 x3 y1 y2 y3 y4 H20 G20 HF
            generalize grow (redrawn wr dq) osq = W5 at *
            cases fb with
            | false =>
              go_wp2_with fail
              refine ⟨⟨i + 1, by simp, by omega, (fun j y hj hy => ?_), HF7.out⟩, by simp only [intOf]; omega⟩
              by_cases e : j < i
              · exact HJ.out j y e hy
              · obtain rfl : j = i := by omega
                rw [HS.out.1] at hy
                cases hy
                exact HS.out.2
            | true =>
              have hne : ¬ (i : Int) = (m : Int) := by omega
              have hne2 : ((i : Int) == (m : Int)) = false := by rw [beq_eq_false_iff_ne]; exact hne
              have hne3 : ¬ i = m := by omega
              have HX : Hid (st.1[i]? = some ⟨nm, ⟨sa, sb, sc, sd⟩⟩ ∧ True ∧ hold (tg T t) st.1 = some i ∧ ftV (tg T t) ⟨sa, sb, sc, sd⟩ = true) := by
                refine ⟨HS.out.1, trivial, ?_, ?_⟩
                · rw [HU.out]; exact hold_at HS.out.1 HJ.out HS.out.2
                · rw [HU.out]; exact HS.out.2
              have HT' : Hid ((ordT T)[k]? = some t ∧ (tg T t).ok = true) := by
                refine ⟨HT.out.1, ?_⟩
                rw [HU.out]; exact HT.out.2
              clear HT HJ HS
              have HT : Hid ((ordT T)[k]? = some t ∧ (tg T t).ok = true) := HT'.out
              clear HT'
              have hsok : V.ok ⟨sa, sb, sc, sd⟩ = true := List.all_eq_true.1 HF7.out.o _ (List.mem_of_getElem? HX.out.1)
              have hsub := sub_some HT.out.2 hsok HX.out.2.2.2
              obtain ⟨ds, hds⟩ : ∃ ds, V.sub ⟨sa, sb, sc, sd⟩ (tg T t) = ds := ⟨_, rfl⟩
              obtain ⟨da, db, dc, dd⟩ := ds
              have HDS : Hid (V.sub ⟨sa, sb, sc, sd⟩ (tg T t) = ⟨da, db, dc, dd⟩) := hds
              have H30 : Hid (∀ w, Calls Tryz.prog 36 #[.agg #[.int .i64 sa, .int .i64 sb, .int .i64 sc, .int .i64 sd], .agg #[.int .i64 ua, .int .i64 ub, .int .i64 uc, .int .i64 ud]] w fun e w' => e = .returned (.tuple #[.agg #[.int .i64 da, .int .i64 db, .int .i64 dc, .int .i64 dd], .int .i64 0]) ∧ Hid (Below w.heap.size w w')) := fun w => by
                have := rsub_any sa sb sc sd ua ub uc ud w
                rw [HU.out] at hsub hds
                rw [hsub, hds] at this
                exact this
              obtain ⟨nt, hnt0⟩ : ∃ nt, st.2[t]? = some nt := ⟨_, List.getElem?_eq_getElem (by have := HF7.out.z; have := HA.out.2.2.2.2.1; omega)⟩
              have hnt : Hid (st.2[t]? = some nt) := hnt0
              obtain ⟨ga', oa', e', x0, x1, x2, x3⟩ := TA.at (HA.out.1.below HF7.out.b) (tg_lt (show t < T.length by have := HA.out.2.2.2.2.1; omega))
              cases e'
              rw [HU.out] at x0 x1 x2 x3
              obtain ⟨⟨-, y1, y2, y3, y4⟩, -⟩ := grow_at HF7.out.l HX.out.1
              simp only [] at x0 x1 x2 x3 y1 y2 y3 y4
              have KC : Hid (∀ W, Below W5.heap.size W5 W → (W.cell? ⟨gl, i * 5 + 1, none⟩ = some (.int .i64 sa) ∧ W.cell? ⟨gl, i * 5 + 1 + 1, none⟩ = some (.int .i64 sb) ∧ W.cell? ⟨gl, i * 5 + 1 + 2, none⟩ = some (.int .i64 sc) ∧ W.cell? ⟨gl, i * 5 + 1 + 3, none⟩ = some (.int .i64 sd)) ∧ (W.cell? ⟨ga, oa + t * 4, none⟩ = some (.int .i64 ua) ∧ W.cell? ⟨ga, oa + t * 4 + 1, none⟩ = some (.int .i64 ub) ∧ W.cell? ⟨ga, oa + t * 4 + 2, none⟩ = some (.int .i64 uc) ∧ W.cell? ⟨ga, oa + t * 4 + 3, none⟩ = some (.int .i64 ud))) := fun W b => ⟨⟨cell_below y1 b, cell_below y2 b, cell_below y3 b, cell_below y4 b⟩, cell_below x0 b, cell_below x1 b, cell_below x2 b, cell_below x3 b⟩
              have HF : Hid (Fr w W5 T S (some ⟨gl, 0, none⟩) m c2 gP gN k st) := HF7.out
              have ngf : ¬ ga = W5.heap.size := by have := block_lt_of_cell x0; simp only [] at this; omega
              have ngg : ¬ gl = W5.heap.size := by have := block_lt_of_cell y1; simp only [] at this; omega
              have ngh : ¬ W5.heap.size = ga := fun e => ngf e.symm
              have ngi : ¬ W5.heap.size = gl := fun e => ngg e.symm
              clear hsok hsub hds hnt0 HF7 y1 y2 y3 y4 x0 x1 x2 x3
              have zz := KC.out W5 (Below.refl _ _)
              have zd := KC.out (W5.drewN 1) (below_drewN (Below.refl _ _) 1)
              have HE : Hid (∀ W', Below (W5.alloc (.cells #[.int .i64 0, .int .i64 0, .int .i64 0, .int .i64 0] 40)).drew.heap.size (W5.alloc (.cells #[.int .i64 0, .int .i64 0, .int .i64 0, .int .i64 0] 40)).drew W' → Below W5.heap.size W5 W') := fun W' b => by
                have b1 : Below W5.heap.size W5 (W5.alloc (.cells #[.int .i64 0, .int .i64 0, .int .i64 0, .int .i64 0] 40)).drew := ((Below.refl _ W5).alloc (Nat.le_refl _) _).drew
                exact b1.trans (b.mono b1.size)
              have HNW : Hid (∀ W', Below (W5.alloc (.cells #[.int .i64 0, .int .i64 0, .int .i64 0, .int .i64 0] 40)).drew.heap.size (W5.alloc (.cells #[.int .i64 0, .int .i64 0, .int .i64 0, .int .i64 0] 40)).drew W' → W'.heap[W5.heap.size]? = some (.cells #[.int .i64 0, .int .i64 0, .int .i64 0, .int .i64 0] 40 (0, 0))) := fun W' b => at_below b (Nat.le_refl _) (at_drew new0)
              go_upto_region 16 with fail
              go_region_held3 (fun W : World => (W.cell? ⟨gl, i * 5 + 1, none⟩ = some (.int .i64 sa) ∧ W.cell? ⟨gl, i * 5 + 1 + 1, none⟩ = some (.int .i64 sb) ∧ W.cell? ⟨gl, i * 5 + 1 + 2, none⟩ = some (.int .i64 sc) ∧ W.cell? ⟨gl, i * 5 + 1 + 3, none⟩ = some (.int .i64 sd)) ∧ (W.cell? ⟨ga, oa + t * 4, none⟩ = some (.int .i64 ua) ∧ W.cell? ⟨ga, oa + t * 4 + 1, none⟩ = some (.int .i64 ub) ∧ W.cell? ⟨ga, oa + t * 4 + 2, none⟩ = some (.int .i64 uc) ∧ W.cell? ⟨ga, oa + t * 4 + 3, none⟩ = some (.int .i64 ud))) (first | (with_reducible assumption) | (exact zd) | (exact zz) | go_keep) (first
                | (go_at_call 36; refine (H30.out _).mono ?_; rintro e w6 ⟨rfl, b6⟩; have b7 : Hid (Below W5.heap.size W5 w6) := (by first | exact ((Below.refl _ W5).drew).trans b6.out | exact HE.out _ b6.out); have zz := KC.out _ b7.out; try (have n4 := HNW.out _ b6.out; obtain ⟨q0, q1, q2, q3, f0, f1, f2, f3, -, -⟩ := cells4 n4)))
              · obtain ⟨bx, hbx⟩ : ∃ bx, bx = w6.heap.size := ⟨_, rfl⟩
                have bc := cells4 (new0 (w := w6) (o := .cells #[.int .i64 da, .int .i64 db, .int .i64 dc, .int .i64 dd] 40))
                have HB7 : Hid (Below W5.heap.size W5 (w6.alloc (.cells #[.int .i64 da, .int .i64 db, .int .i64 dc, .int .i64 dd] 40))) := b7.out.alloc b7.out.size _
                rw [← hbx] at bc ⊢
                obtain ⟨bc0, bc1, bc2, bc3, -⟩ := bc
                generalize w6.alloc (.cells #[.int .i64 da, .int .i64 db, .int .i64 dc, .int .i64 dd] 40) = W7 at *
                clear hbx zz zd ngf ngg ngh ngi HE HNW KC H30 b6 b7
                have HFW : Hid (Fr w W7 T S (some ⟨gl, 0, none⟩) m c2 gP gN k st) := HF.out.below HB7.out
                clear HF
                have zc := grow_at HFW.out.l HX.out.1
                have s1 := zc.1.2.1
                have s2 := zc.1.2.2.1
                have s3 := zc.1.2.2.2.1
                have s4 := zc.1.2.2.2.2
                have f1 := zc.2 (i * 5 + 1)
                have f2 := zc.2 (i * 5 + 1 + 1)
                have f3 := zc.2 (i * 5 + 1 + 2)
                have f4 := zc.2 (i * 5 + 1 + 3)
                have fl : gl < W7.heap.size := HFW.out.l.lt rfl
                clear zc
                have KN := HFW.out.wrote HT.out.1 HX.out.2.2.1 HX.out.1 HX.out.2.2.2 HT.out.2 hnt.out
                rw [HDS.out] at KN
                simp only [] at KN s1 s2 s3 s4
                obtain ⟨W8, hW8⟩ : ∃ W8, W8 = (((W7.setCell ⟨gl, i * 5 + 1, none⟩ (.int .i64 da)).setCell ⟨gl, i * 5 + 1 + 1, none⟩ (.int .i64 db)).setCell ⟨gl, i * 5 + 1 + 2, none⟩ (.int .i64 dc)).setCell ⟨gl, i * 5 + 1 + 3, none⟩ (.int .i64 dd) := ⟨_, rfl⟩
                rw [← hW8] at KN
                go_upto_region 18 with fail
                rw [← hW8]
                clear hW8 s1 s2 s3 s4 f1 f2 f3 f4 fl bc0 bc1 bc2 bc3
                obtain ⟨p1, p2, p3, p4, p5, p6, p7, p8⟩ := KN
                have HL : Hid (Fr w ((W8.setCell ⟨gP, t, none⟩ (.bool true)).setCell ⟨gN, t, none⟩ (.string ⟨⟨nm⟩⟩)) T S (some ⟨gl, 0, none⟩) m c2 gP gN (k + 1) (setV st.1 i (tg T t), st.2.set t nm)) := p8
                clear p8
                go_wp2_with fail
                exact ⟨⟨k + 1, by simp, by omega, _, HL.out⟩, by simp only [intOf]; omega⟩
              · obtain ⟨bx, hbx⟩ : ∃ bx, bx = W5.heap.size := ⟨_, rfl⟩
                have bc := cells4 (at_set4 (v0 := .int .i64 da) (v1 := .int .i64 db) (v2 := .int .i64 dc) (v3 := .int .i64 dd) n4)
                have HB7 : Hid (Below W5.heap.size W5 ((((w6.setCell ⟨W5.heap.size, 0, none⟩ (.int .i64 da)).setCell ⟨W5.heap.size, 1, none⟩ (.int .i64 db)).setCell ⟨W5.heap.size, 2, none⟩ (.int .i64 dc)).setCell ⟨W5.heap.size, 3, none⟩ (.int .i64 dd))) := (((b7.out.setCell (Nat.le_refl _) _).setCell (Nat.le_refl _) _).setCell (Nat.le_refl _) _).setCell (Nat.le_refl _) _
                obtain ⟨bc0, bc1, bc2, bc3, -⟩ := bc
                generalize ((((w6.setCell ⟨W5.heap.size, 0, none⟩ (.int .i64 da)).setCell ⟨W5.heap.size, 1, none⟩ (.int .i64 db)).setCell ⟨W5.heap.size, 2, none⟩ (.int .i64 dc)).setCell ⟨W5.heap.size, 3, none⟩ (.int .i64 dd)) = W7 at *
                rw [← hbx] at bc0 bc1 bc2 bc3 ⊢
                clear hbx zz zd ngf ngg ngh ngi HE HNW KC H30 b6 b7 n4 q0 q1 q2 q3 f0 f1 f2 f3
                have HFW : Hid (Fr w W7 T S (some ⟨gl, 0, none⟩) m c2 gP gN k st) := HF.out.below HB7.out
                clear HF
                have zc := grow_at HFW.out.l HX.out.1
                have s1 := zc.1.2.1
                have s2 := zc.1.2.2.1
                have s3 := zc.1.2.2.2.1
                have s4 := zc.1.2.2.2.2
                have f1 := zc.2 (i * 5 + 1)
                have f2 := zc.2 (i * 5 + 1 + 1)
                have f3 := zc.2 (i * 5 + 1 + 2)
                have f4 := zc.2 (i * 5 + 1 + 3)
                have fl : gl < W7.heap.size := HFW.out.l.lt rfl
                clear zc
                have KN := HFW.out.wrote HT.out.1 HX.out.2.2.1 HX.out.1 HX.out.2.2.2 HT.out.2 hnt.out
                rw [HDS.out] at KN
                simp only [] at KN s1 s2 s3 s4
                obtain ⟨W8, hW8⟩ : ∃ W8, W8 = (((W7.setCell ⟨gl, i * 5 + 1, none⟩ (.int .i64 da)).setCell ⟨gl, i * 5 + 1 + 1, none⟩ (.int .i64 db)).setCell ⟨gl, i * 5 + 1 + 2, none⟩ (.int .i64 dc)).setCell ⟨gl, i * 5 + 1 + 3, none⟩ (.int .i64 dd) := ⟨_, rfl⟩
                rw [← hW8] at KN
                go_upto_region 18 with fail
                rw [← hW8]
                clear hW8 s1 s2 s3 s4 f1 f2 f3 f4 fl bc0 bc1 bc2 bc3
                obtain ⟨p1, p2, p3, p4, p5, p6, p7, p8⟩ := KN
                have HL : Hid (Fr w ((W8.setCell ⟨gP, t, none⟩ (.bool true)).setCell ⟨gN, t, none⟩ (.string ⟨⟨nm⟩⟩)) T S (some ⟨gl, 0, none⟩) m c2 gP gN (k + 1) (setV st.1 i (tg T t), st.2.set t nm)) := p8
                clear p8
                go_wp2_with fail
                exact ⟨⟨k + 1, by simp, by omega, _, HL.out⟩, by simp only [intOf]; omega⟩
          · obtain rfl : i = m := by omega
            have im' : ¬ (i : Int) < (i : Int) := by omega
            have imd : decide ((i : Int) < (i : Int)) = false := decide_eq_false im'
            have im2 : decide (i < i) = false := decide_eq_false (by omega)
            have HR : Hid (fitR T S = (6, [])) := by
              have hh : hold (tg T t) st.1 = none := hold_none fun j y hy => HJ.out j y (by have := (List.getElem?_eq_some_iff.1 hy).1; have := hml.out; omega) hy
              show _ = _
              unfold fitR
              rw [if_pos HK.out.2.2, take_none HF.out.f HT.out.1 hh]
            clear hml
            go_upto_region 12 with fail
            go_quiet (fail)
            go_wp2_with fail
            go_ret2
            unfold FitP
            rw [HR.out]
            exact ⟨none, 0, 0, rfl, rfl, fun _ => rfl, GA.none, below_drewN HF.out.b _⟩
      · have hlt' : ¬ (k : Int) < (n : Int) := by omega
        have hd : decide ((k : Int) < (n : Int)) = false := decide_eq_false hlt'
        obtain ⟨st, hF⟩ := HI.out
        have HF : Hid (Fr w wr T S p m c2 gP gN k st) := hF
        clear HI hF
        have HR : Hid (fitR T S = (0, st.2)) := by
          have h1 := HF.out.f
          have hol : (ordT T).length = n := (ordT_ord T).length.trans HA.out.2.2.2.2.1
          rw [List.take_of_length_le (by omega)] at h1
          show _ = _
          unfold fitR
          rw [if_pos HK.out.2.2, h1]
        go_wp2_with fail
        go_ret2
        unfold FitP
        rw [HR.out]
        exact ⟨some ⟨gN, 0, none⟩, n, n, rfl, HF.out.z.trans HA.out.2.2.2.2.1, (fun e => nomatch e), HF.out.n.na, HF.out.b⟩
  · have HR : Hid (fitR T S = (chk T S, [])) := by show _ = _; unfold fitR; rw [if_neg hc]
    have e1 : ¬ ((chk T S : Nat) : Int) = 0 := by omega
    have e2 : (((chk T S : Nat) : Int) == 0) = false := by rw [beq_eq_false_iff_ne]; exact e1
    go_enter Tryz.func15, Tryz.ntmps15
    go_wp2_with (go_at_call 32; refine H27.out.mono ?_; rintro e w1 ⟨rfl, h1⟩)
    go_ret2
    unfold FitP
    rw [HR.out]
    exact ⟨none, 0, 0, rfl, rfl, fun _ => rfl, GA.none, h1.out⟩
end Go.Proofs.YtjgibngnjlciaaaGreat
