/-
  The law EvictNobody.
-/
import Derived.Test.YtcfnonfghlgphaaGn
namespace Go.Proofs.Ytcfnonfghlgphaa
open Go.RowKit Go.Maps

/-- the least priority of the first so many -/
def lst : List Vi → Int
  | [] => 0
  | v :: r => r.foldl (fun a u => if u.p < a then u.p else a) v.p
theorem lst_one (v : Vi) : lst [v] = v.p := rfl
theorem lst_add {L : List Vi} (h : L ≠ []) (x : Vi) : lst (L ++ [x]) = if x.p < lst L then x.p else lst L := by
  cases L with
  | nil => exact absurd rfl h
  | cons v r =>
    show List.foldl _ _ (r ++ [x]) = _
    rw [List.foldl_append]
    rfl
theorem lst_le : ∀ (k : Nat) {L : List Vi}, L.length = k → ∀ v ∈ L, lst L ≤ v.p
  | 0, L, h, v, hv => by rw [List.eq_nil_of_length_eq_zero h] at hv; cases hv
  | k + 1, L, h, v, hv => by
    have hne : L ≠ [] := fun e => by rw [e] at h; cases h
    have e : L = L.dropLast ++ [L.getLast hne] := (List.dropLast_concat_getLast hne).symm
    have hl : L.dropLast.length = k := by rw [List.length_dropLast]; omega
    generalize L.getLast hne = x at e
    generalize L.dropLast = M at e hl
    subst e
    by_cases hM : M = []
    · subst hM
      rcases List.mem_append.1 hv with q | q
      · cases q
      · obtain rfl := List.mem_singleton.1 q
        exact Int.le_refl _
    · rw [lst_add hM]
      rcases List.mem_append.1 hv with q | q
      · have := lst_le k hl v q
        split <;> omega
      · obtain rfl := List.mem_singleton.1 q
        split <;> omega
set_option maxHeartbeats 4000000 in
set_option maxRecDepth 100000 in
theorem nobody_law (q qv r : Option Addr) (n c nv cv m d : Nat) (T : List V) (L : List Vi) (S : List Sl) (w : World) (hA : LwA w q n c T qv nv L r m d S) :
    Calls Try.prog 6 #[.slice q n c, .slice qv nv cv, .slice r m d] w fun e w' => e = .returned (.bool true) ∧ Below w.heap.size w w' := by
  have H9 : Hid (∀ W, Calls Try.prog 9 #[] W fun e w' => e = .returned (.bool true) ∧ Below W.heap.size W w') := awake17
  have H14 : Hid (∀ W, Below w.heap.size w W → Calls Try.prog 14 #[.slice q n c, .slice qv nv cv, .slice r m d] W fun e w' => e = .returned (.bool (fewV n L m)) ∧ Hid (Below W.heap.size W w')) := hA.few cv
  have HA : Hid (LwA w q n c T qv nv L r m d S) := hA
  clear hA
  cases hf : fewV n L m with
  | false =>
    rw [hf] at H14
    clear hf
    go_enter Try.func6, Try.ntmps6
    go_upto_region 2 with (first | (go_at_call 9; refine (H9.out _).mono ?_; rintro e w1 ⟨rfl, b1⟩) | (go_at_call 14; refine (H14.out _ b1).mono ?_; rintro e w2 ⟨rfl, b2⟩))
    have B2 : Hid (Below w.heap.size w w2) := below_from b1 b2.out b1.size
    clear b1 b2
    go_wp2_with (go_at_call 9; refine (H9.out _).mono ?_; rintro e w3 ⟨rfl, b3⟩)
    go_ret
    exact ⟨rfl, below_from B2.out b3 B2.out.size⟩
  | true =>
    have HC := HA.out.ch hf
    have H15 : Hid (∀ W, Below w.heap.size w W → ∀ p, Calls Try.prog 15 #[.slice q n c, .int .i64 p, .slice qv nv cv, .slice r m d] W (ChoP W T p L S)) := fun W b p => choose_any p T L S q qv r n c nv cv m d W (HC.below b)
    have H19 : Hid (∀ W, Below w.heap.size w W → Calls Try.prog 19 #[.slice q n c, .slice r m d] W (FtO W T S)) := fun W b => fit_o T S q r n c m d W (HC.t.below b) HC.tn (HC.s.below b) HC.n1 HC.m1
    have HL : Hid (L.length = nv ∧ n ≤ 1000000 ∧ VA w qv L ∧ T.length = n) := ⟨HC.vl, HC.n1, HC.v, HC.tn⟩
    have hnv : nv ≤ 1000000 := HC.l1
    rw [hf] at H14
    clear hf HC
    go_enter Try.func6, Try.ntmps6
    go_upto_region 4 with (first | (go_at_call 9; refine (H9.out _).mono ?_; rintro e w1 ⟨rfl, b1⟩) | (go_at_call 14; refine (H14.out _ b1).mono ?_; rintro e w2 ⟨rfl, b2⟩))
    have B2 : Hid (Below w.heap.size w w2) := below_from b1 b2.out b1.size
    clear b1 b2 H9 H14
    go_wp2_with fail
    go_loopw [7, 8] (fun x y wr => ∃ k : Nat, x = .int .i64 (lst (L.take k)) ∧ y = .int .i64 k ∧ k ≤ nv ∧ Hid (Below w.heap.size w wr)) (fun _ y _ => nv - (intOf y).toNat)
    case atStart => exact ⟨0, rfl, rfl, Nat.zero_le _, B2.out⟩
    case round =>
      clear B2
      obtain ⟨k, rfl, rfl, hk, HB⟩ := hrel
      by_cases h0 : k = nv
      · subst h0
        have HT : Hid (∀ v ∈ L, lst L ≤ v.p) := lst_le _ rfl
        have ht : L.take k = L := List.take_of_length_le (Nat.le_of_eq HL.out.1)
        rw [ht]
        have H15a : Hid (∀ W, Below w.heap.size w W → Calls Try.prog 15 #[.slice q n c, .int .i64 (lst L), .slice qv k cv, .slice r m d] W (ChoP W T (lst L) L S)) := fun W b => H15.out W b _
        have hnb := ch_nobody (T := T) (S := S) HT.out
        clear ht HT H15
        generalize lst L = p at *
        by_cases he : (chR T p L S).1 = 0
        · obtain ⟨hf0, hg⟩ := hnb.1 he
          have H19a : Hid (Calls Try.prog 19 #[.slice q n c, .slice r m d] wr fun e w' => ∃ pr cr, e = .returned (.tuple #[.slice pr (fitR T S).2.length cr, .int .i64 0]) ∧ Hid (NA w' pr (fitR T S).2 ∧ Below wr.heap.size wr w')) := (H19.out wr HB.out).mono fun e w' ⟨pr, kr, cr, h1, h2⟩ => by
            rw [hf0] at h1
            obtain rfl := h2.out.1
            exact ⟨pr, cr, h1, h2.out.2⟩
          have H15b : Hid (∀ W, Below w.heap.size w W → Calls Try.prog 15 #[.slice q n c, .int .i64 p, .slice qv k cv, .slice r m d] W fun e w' => ∃ pj cj pn cn, e = .returned (.tuple #[.slice pj 0 cj, .slice pn (fitR T S).2.length cn, .int .i64 0]) ∧ Hid (NA w' pn (fitR T S).2 ∧ Below W.heap.size W w')) := fun W b => (H15a.out W b).mono fun e w' h => by
            obtain ⟨pj, cj, pn, cn, h1, h2⟩ := h.good hg
            exact ⟨pj, cj, pn, cn, h1, h2.out.2⟩
          have HN : Hid ((fitR T S).2.length ≤ 1000000) := by
            have h2 := fitR_le T S
            have h3 := HL.out.2.1
            have h4 := HL.out.2.2.2
            show _ ≤ _
            omega
          clear he hg hf0 hnb H15a H19
          generalize (fitR T S).2 = N at *
          go_upto_region 10 with (go_at_call 19; refine H19a.out.mono ?_; rintro e w3 ⟨pr, cr, rfl, h3⟩)
          have B3 : Hid (Below w.heap.size w w3) := below_from HB.out h3.out.2 HB.out.size
          go_upto_region 11 with (go_at_call 15; refine (H15b.out _ B3.out).mono ?_; rintro e w4 ⟨pj, cj, pn, cn, rfl, h4⟩)
          have B4 : Hid (Below w.heap.size w w4) := below_from B3.out h4.out.2 B3.out.size
          have H18 : Hid (Calls Try.prog 18 #[.slice pr N.length cr, .slice pn N.length cn] w4 fun e w' => e = .returned (.bool true) ∧ Hid (Below w4.heap.size w4 w')) := same_any w4 N.length cr cn pr pn N (h3.out.1.below h4.out.2) h4.out.1 (rfl : _ = _) HN.out
          clear h3 h4 H15b H19a
          go_wp2_with (go_at_call 18; refine H18.out.mono ?_; rintro e w5 ⟨rfl, b5⟩)
          go_ret
          exact ⟨rfl, below_from B4.out b5.out B4.out.size⟩
        · have hno := hnb.2 he
          obtain ⟨en, hen⟩ : ∃ en, (chR T p L S).1 = en := ⟨_, rfl⟩
          have hc := chR_bad he
          rw [hen] at hc he
          have e1 : ¬ (en : Int) = 0 := by omega
          have e2 : ((en : Int) == 0) = false := by rw [beq_eq_false_iff_ne]; exact e1
          have H15b : Hid (∀ W, Below w.heap.size w W → Calls Try.prog 15 #[.slice q n c, .int .i64 p, .slice qv k cv, .slice r m d] W fun e w' => ∃ pj cj pn cn, e = .returned (.tuple #[.slice pj 0 cj, .slice pn 0 cn, .int .i64 (en : Int)]) ∧ Hid (Below W.heap.size W w')) := fun W b => (H15a.out W b).mono fun e w' h => h.no hc
          have H19a : Hid (Calls Try.prog 19 #[.slice q n c, .slice r m d] wr fun e w' => ∃ pr kr cr, e = .returned (.tuple #[.slice pr kr cr, .int .i64 ((fitR T S).1 : Nat)]) ∧ Hid (Below wr.heap.size wr w')) := (H19.out wr HB.out).mono fun e w' ⟨pr, kr, cr, h1, h2⟩ => ⟨pr, kr, cr, h1, h2.out.2.2⟩
          have hno' : (fitR T S).1 ≠ 0 ∨ 0 < k := hno.imp id fun h => by
            have := HL.out.1
            cases L with
            | nil => exact absurd rfl h
            | cons a r => rw [← this]; simp
          clear hno hnb hen hc he H15a H19
          generalize (fitR T S).1 = fn at *
          by_cases f0 : fn = 0
          · subst f0
            have k0 : (0 : Int) < (k : Int) := by
              have := hno'.resolve_left (fun h => h rfl)
              omega
            clear hno'
            go_upto_region 10 with (go_at_call 19; refine H19a.out.mono ?_; rintro e w3 ⟨pr, kr, cr, rfl, h3⟩)
            have B3 : Hid (Below w.heap.size w w3) := below_from HB.out h3.out HB.out.size
            go_wp2_with (go_at_call 15; refine (H15b.out _ B3.out).mono ?_; rintro e w4 ⟨pj, cj, pn, cn, rfl, h4⟩)
            go_ret
            exact ⟨ret_b (decide_eq_true (by omega : 0 < k)), below_from B3.out h4.out B3.out.size⟩
          · have f1 : ¬ (fn : Int) = 0 := by omega
            have f2 : ((fn : Int) == 0) = false := by rw [beq_eq_false_iff_ne]; exact f1
            have f3 : ((fn : Int) != 0) = true := by unfold bne; rw [f2]; rfl
            clear hno' f0
            go_upto_region 10 with (go_at_call 19; refine H19a.out.mono ?_; rintro e w3 ⟨pr, kr, cr, rfl, h3⟩)
            have B3 : Hid (Below w.heap.size w w3) := below_from HB.out h3.out HB.out.size
            go_wp2_with (go_at_call 15; refine (H15b.out _ B3.out).mono ?_; rintro e w4 ⟨pj, cj, pn, cn, rfl, h4⟩)
            go_ret
            exact ⟨rfl, below_from B3.out h4.out B3.out.size⟩
      · have hlt' : (k : Int) < (nv : Int) := by omega
        obtain ⟨v, hv⟩ : ∃ v, L[k]? = some v := ⟨L[k]'(by have := HL.out.1; omega), List.getElem?_eq_getElem _⟩
        obtain ⟨g, o, rfl, c0, c1, c2, c3, c4⟩ := VA.at (HL.out.2.2.1.below HB.out) hv
        have ht : L.take (k + 1) = L.take k ++ [v] := take_next hv
        by_cases k0 : k = 0
        · subst k0
          have HT : Hid (lst (L.take (0 + 1)) = v.p) := by show _ = _; rw [ht]; rfl
          clear ht hv
          generalize v.p = vp at *
          go_wp2_with fail
          exact ⟨⟨0 + 1, by rw [HT.out], rfl, by omega, HB.out⟩, by show nv - 1 < nv - 0; omega⟩
        · have hne : L.take k ≠ [] := fun e => by
            have h1 := congrArg List.length e
            rw [List.length_take, List.length_nil] at h1
            have := HL.out.1
            omega
          have HT : Hid (lst (L.take (k + 1)) = if v.p < lst (L.take k) then v.p else lst (L.take k)) := by show _ = _; rw [ht, lst_add hne]
          have k1 : ((k : Int) == 0) = false := by rw [beq_eq_false_iff_ne]; omega
          clear ht hv hne
          generalize v.p = vp at *
          generalize lst (L.take k) = lp at *
          by_cases hp : vp < lp
          · have HT' : Hid (lst (L.take (k + 1)) = vp) := by show _ = _; rw [HT.out, if_pos hp]
            clear HT
            go_wp2_with fail
            exact ⟨⟨k + 1, by rw [HT'.out], by simp, by omega, HB.out⟩, by simp only [intOf]; omega⟩
          · have HT' : Hid (lst (L.take (k + 1)) = lp) := by show _ = _; rw [HT.out, if_neg hp]
            clear HT
            go_wp2_with fail
            exact ⟨⟨k + 1, by rw [HT'.out], by simp, by omega, HB.out⟩, by simp only [intOf]; omega⟩
end Go.Proofs.Ytcfnonfghlgphaa
