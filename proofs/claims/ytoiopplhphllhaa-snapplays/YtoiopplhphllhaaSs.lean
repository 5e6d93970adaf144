/-
  List, HasPrefix.
-/
import Derived.Test.YtoiopplhphllhaaSp
namespace Go.Proofs.Ytoiopplhphllhaa
open Go.RowKit Go.Maps

set_option maxHeartbeats 400000 in
theorem list_down (w : World) (pb : Nat) (a c d : Value) (h : Hid (w.heap[pb]? = some (.cells #[a, .bool true, c, d] 57 (0, 0)))) : Calls Try.prog 28 #[.pointer (some ⟨pb, 0, none⟩)] w fun e w' => e = .returned (.slice none 0 0) ∧ w' = w := by
  have H : Hid (Calls Try.prog 13 #[.pointer (some ⟨pb, 0, none⟩)] w fun e w' => e = .returned (.bool true) ∧ w' = w) := down_at w pb a c d true h
  go_enter Try.func28, Try.ntmps28
  go_wp2_with (go_at_call 13; refine H.out.mono ?_)
  rintro e w1 ⟨rfl, rfl⟩
  go_wp2_with fail
  go_ret
  exact ⟨rfl, rfl⟩
set_option maxHeartbeats 400000 in
theorem list_up (w : World) (pb : Nat) (a c d : Value) (R : Value → World → Prop) (h : Hid (w.heap[pb]? = some (.cells #[a, .bool false, c, d] 57 (0, 0)))) (HN : Hid (Calls Try.prog 30 #[.pointer (some ⟨pb, 0, none⟩)] w fun e w' => ∃ v, e = .returned v ∧ R v w')) : Calls Try.prog 28 #[.pointer (some ⟨pb, 0, none⟩)] w fun e w' => ∃ v, e = .returned v ∧ R v w' := by
  have H : Hid (Calls Try.prog 13 #[.pointer (some ⟨pb, 0, none⟩)] w fun e w' => e = .returned (.bool false) ∧ w' = w) := down_at w pb a c d false h
  go_enter Try.func28, Try.ntmps28
  go_wp2_with (go_at_call 13; refine H.out.mono ?_)
  rintro e w1 ⟨rfl, rfl⟩
  go_wp2_with (go_at_call 30; refine HN.out.mono ?_)
  rintro e w2 ⟨v, rfl, hr⟩
  go_wp2_with fail
  go_ret
  exact ⟨v, rfl, hr⟩
theorem list_any {w : World} {tg : Nat → Tg} {pb : Nat} {D : DK} (h : Dsk w tg pb D) :
    Calls Try.prog 28 #[.pointer (some ⟨pb, 0, none⟩)] w fun e w' => ∃ v, e = .returned v ∧ OwnS w' w.heap.size v (listD D) ∧ Below w.heap.size w w' := by
  obtain ⟨mb, l, z, h⟩ := h
  obtain ⟨fs, dn, fu⟩ := D
  cases dn with
  | true =>
    refine (list_down w pb _ _ _ h.cell).mono ?_
    rintro e w' ⟨rfl, rfl⟩
    exact ⟨_, rfl, World.ownsRow_nil _ _ _ _, Below.refl _ _⟩
  | false =>
    have e : listD ⟨fs, false, fu⟩ = l.map Fl.nm := by
      unfold listD
      have := h.fs
      simp only at this
      simp only [Bool.false_eq_true, if_false, this, List.map_map]
      rfl
    rw [e]
    unfold OwnS
    rw [List.length_map]
    exact list_up w pb _ _ _ (fun v w' => w'.ownsRow w.heap.size 9 1 v l.length ((l.map Fl.nm).map encStr) ∧ Below w.heap.size w w') h.cell (names_any h)
set_option maxHeartbeats 400000 in
theorem has46_no (w : World) : Calls Try.prog 46 #[.string ⟨#[111, 116, 104, 101, 114]⟩, .string ⟨#[115, 110, 97, 112]⟩] w fun e w' => e = .returned (.bool false) ∧ w' = w := by
  go_enter Try.func46, Try.ntmps46
  go_wp2_with fail
  go_ret
  exact ⟨ret_b (by kernel_rfl), rfl⟩
set_option maxHeartbeats 400000 in
theorem has46_yes (w : World) : Calls Try.prog 46 #[.string ⟨#[115, 110, 97, 112, 46, 110, 101, 119]⟩, .string ⟨#[115, 110, 97, 112]⟩] w fun e w' => e = .returned (.bool true) ∧ w' = w := by
  go_enter Try.func46, Try.ntmps46
  go_wp2_with fail
  go_ret
  exact ⟨ret_b (by kernel_rfl), rfl⟩
set_option maxHeartbeats 400000 in
theorem has_at (w : World) (s t : ByteArray) (b : Bool) (H : Hid (Calls Try.prog 46 #[.string s, .string t] w fun e w' => e = .returned (.bool b) ∧ w' = w)) : Calls Try.prog 29 #[.string s, .string t] w fun e w' => e = .returned (.bool b) ∧ w' = w := by
  go_enter Try.func29, Try.ntmps29
  go_wp2_with (go_at_call 46; refine H.out.mono ?_)
  rintro e w1 ⟨rfl, rfl⟩
  go_wp2_with fail
  go_ret
  exact ⟨rfl, rfl⟩
def cleanD (D : DK) : Int × DK := if D.down = true then (11, D) else match fnd Fil.nm nmS D.fs with | none => (0, D) | some _ => removeD D nmS
theorem names_N (o x y : OB) : ∀ (k : Nat) (n : List UInt8), ((fsN o x y).map Fil.nm)[k]? = some n → n = nmO ∨ n = nmL ∨ (n = nmS ∧ k + 1 = ((fsN o x y).map Fil.nm).length ∧ y ≠ none) := by
  intro k n h
  rcases o with _ | ⟨_, _⟩ <;> rcases x with _ | ⟨_, _⟩ <;> rcases y with _ | ⟨_, _⟩ <;> simp [fsN, one] at h ⊢ <;> (match k, h with
    | 0, h => simp_all
    | 1, h => simp_all
    | 2, h => simp_all
    | k + 3, h => simp at h)
theorem names_S (o x y : OB) (h : ∀ j : Nat, ((fsN o x y).map Fil.nm)[j]? ≠ some nmS) : y = none := by
  rcases y with _ | ⟨b, k⟩
  · rfl
  · exfalso
    rcases o with _ | ⟨_, _⟩ <;> rcases x with _ | ⟨_, _⟩
    · exact h 0 rfl
    · exact h 1 rfl
    · exact h 1 rfl
    · exact h 2 rfl
theorem OwnS.cell {w : World} {B g n c : Nat} {ns : List (List UInt8)} (h : OwnS w B (.slice (some ⟨g, 0, none⟩) n c) ns) {k : Nat} {x : List UInt8} (hx : ns[k]? = some x) : w.cell? ⟨g, k, none⟩ = some (encStr x) := by
  have hc := World.ownsRow.cells h (g := g) rfl k _ (show (ns.map encStr)[k]? = some (encStr x) by rw [List.getElem?_map, hx]; rfl)
  rwa [Addr.add_lit, Nat.zero_add] at hc
theorem OwnS.form {w : World} {B : Nat} {v : Value} {ns : List (List UInt8)} (h : OwnS w B v ns) (hl : 0 < ns.length) : ∃ g c, v = .slice (some ⟨g, 0, none⟩) ns.length c ∧ B ≤ g ∧ g < w.heap.size := by
  rcases h.2 with ⟨_, h0⟩ | ⟨g, cap, cur, e, hb, hgg, _⟩
  · omega
  · exact ⟨g, cap, e, hb, (Array.getElem?_eq_some_iff.1 hgg).1⟩
theorem removeD_val {D : DK} (hd : D.down = false) {f : Fil} (hf : fnd Fil.nm nmS D.fs = some f) : (removeD D nmS).1 = 0 ∨ (removeD D nmS).1 = 11 := by
  unfold removeD
  rw [hd, hf]
  simp only [Bool.false_eq_true, if_false]
  split
  · exact .inl rfl
  · exact .inr rfl
set_option maxHeartbeats 4000000 in
set_option maxRecDepth 100000 in
theorem clean_up {w : World} {tg : Nat → Tg} {pb : Nat} {D : DK} {o x y : OB} (h : Hid (Dsk w tg pb D)) (hd : Hid (D.down = false)) (hN : Hid (D.fs = fsN o x y)) :
    Calls Try.prog 14 #[.pointer (some ⟨pb, 0, none⟩)] w fun e w' => e = .returned (.int .i64 (cleanD D).1) ∧ Dsk w' tg pb (cleanD D).2 ∧ Step tg tg w w' := by
  have H13 : Hid (Calls Try.prog 13 #[.pointer (some ⟨pb, 0, none⟩)] w fun e w' => e = .returned (.bool false) ∧ w' = w) := by
    obtain ⟨_, _, _, dd⟩ := h.out
    have := dd.cell
    rw [hd.out] at this
    exact down_at w pb _ _ _ _ this
  obtain ⟨ns, hns⟩ : ∃ ns, ns = (fsN o x y).map Fil.nm := ⟨_, rfl⟩
  have H28 : Hid (Calls Try.prog 28 #[.pointer (some ⟨pb, 0, none⟩)] w fun e w' => ∃ q m c, e = .returned (.slice q m c) ∧ m = ns.length ∧ OwnS w' w.heap.size (.slice q m c) ns ∧ Below w.heap.size w w') := by
    have := list_any h.out
    rw [show listD D = ns by unfold listD; rw [if_neg (by simp [hd.out]), hN.out, hns]] at this
    refine this.mono ?_
    rintro e w' ⟨v, rfl, h1, h2⟩
    obtain ⟨q, c, rfl⟩ := sl_own h1
    exact ⟨q, _, c, rfl, rfl, h1, h2⟩
  have HA : Hid (∀ (k : Nat) (n : List UInt8), ns[k]? = some n → n = nmO ∨ n = nmL ∨ (n = nmS ∧ k + 1 = ns.length ∧ y ≠ none)) := by
    rw [hns]; exact names_N o x y
  have HS : Hid ((∀ j : Nat, ns[j]? ≠ some nmS) → y = none) := by
    rw [hns]; exact names_S o x y
  have hlen : ns.length ≤ 3 := by rw [hns, List.length_map]; exact fsN_len o x y
  clear hns
  go_enter Try.func14, Try.ntmps14
  go_wp2_with (go_at_call 13; refine H13.out.mono ?_)
  rintro e w1 ⟨rfl, rfl⟩
  go_wp2_with (go_at_call 28; refine H28.out.mono ?_)
  rintro e w2 ⟨q2, m2, c2, rfl, hm2, o2, b2⟩
  have O2 : Hid (OwnS w2 w1.heap.size (.slice q2 m2 c2) ns) := o2
  have B2 : Hid (Below w1.heap.size w1 w2) := b2
  have HM : Hid (m2 = ns.length) := hm2
  have hm3 : m2 ≤ 3 := by omega
  have HT : Hid (∀ g, w1.heap.size ≤ g → tg g = .no) := fun g hg => no_of fun e => by have := h.out.lt e; omega
  clear o2 b2 hm2 H28 H13
  go_wp2_with fail
  go_loopw [11] (fun i wr => ∃ (k : Nat) (E : DK), k ≤ m2 ∧ i = .int .i64 k ∧ OwnS wr w1.heap.size (.slice q2 m2 c2) ns ∧ Dsk wr tg pb E ∧ Step tg tg w1 wr ∧ ((E = D ∧ ∀ j, j < k → ns[j]? ≠ some nmS) ∨ (k = m2 ∧ removeD D nmS = (0, E) ∧ y ≠ none))) (fun i _ => m2 - (intOf i).toNat)
  case atStart => exact ⟨0, D, Nat.zero_le _, rfl, O2.out, h.out.keepB B2.out, Step.of_below _ B2.out, .inl ⟨rfl, fun j hj => absurd hj (Nat.not_lt_zero _)⟩⟩
  case round =>
    obtain ⟨k, E, hk, rfl, ho, hE, hst, hal⟩ := hrel
    have OR : Hid (OwnS wr w1.heap.size (.slice q2 m2 c2) ns) := ho
    have DR : Hid (Dsk wr tg pb E) := hE
    have SR : Hid (Step tg tg w1 wr) := hst
    have AL : Hid ((E = D ∧ ∀ j, j < k → ns[j]? ≠ some nmS) ∨ (k = m2 ∧ removeD D nmS = (0, E) ∧ y ≠ none)) := hal
    clear ho hE hst hal
    by_cases hlt : k < m2
    · have hi : (k : Int) < (m2 : Int) := by omega
      obtain ⟨rfl, hprev⟩ : E = D ∧ ∀ j, j < k → ns[j]? ≠ some nmS := by
        rcases AL.out with h1 | ⟨h1, _⟩
        · exact h1
        · omega
      obtain ⟨n, hn⟩ : ∃ n, ns[k]? = some n := ⟨ns[k]'(by have := HM.out; omega), List.getElem?_eq_getElem _⟩
      obtain ⟨g, cc, e, hg1, hg2⟩ := OR.out.form (by have := HM.out; omega)
      cases e
      have hc := OR.out.cell hn
      have HP : Hid (∀ j, j < k → ns[j]? ≠ some nmS) := hprev
      have HNn : Hid (ns[k]? = some n) := hn
      clear hprev
      rcases HA.out k n hn with rfl | rfl | ⟨rfl, hk1, hy⟩
      · have hc' : wr.cell? ⟨g, k, none⟩ = some (.string ⟨#[111, 116, 104, 101, 114]⟩) := hc
        clear hc hn
        go_wp2_with (go_at_call 29; refine (has_at wr _ _ false (has46_no wr)).mono ?_)
        refine ⟨⟨k + 1, E, by omega, by go_num, OR.out, DR.out, SR.out, .inl ⟨rfl, fun j hj => ?_⟩⟩, by simp [intOf]; omega⟩
        rcases Nat.lt_succ_iff_lt_or_eq.1 hj with h1 | rfl
        · exact HP.out j h1
        · rw [HNn.out]; decide
      · have hc' : wr.cell? ⟨g, k, none⟩ = some (.string ⟨#[115, 110, 97, 112]⟩) := hc
        clear hc hn
        go_wp2_with fail
        refine ⟨⟨k + 1, E, by omega, by go_num, OR.out, DR.out, SR.out, .inl ⟨rfl, fun j hj => ?_⟩⟩, by simp [intOf]; omega⟩
        rcases Nat.lt_succ_iff_lt_or_eq.1 hj with h1 | rfl
        · exact HP.out j h1
        · rw [HNn.out]; decide
      · have hc' : wr.cell? ⟨g, k, none⟩ = some (.string ⟨#[115, 110, 97, 112, 46, 110, 101, 119]⟩) := hc
        obtain ⟨f, hf⟩ : ∃ f, fnd Fil.nm nmS E.fs = some f := by
          rw [hN.out, fnd_S]
          cases y with
          | none => exact absurd rfl hy
          | some p => exact ⟨_, rfl⟩
        have HC : Hid (cleanD E = removeD E nmS) := by
          refine (?_ : cleanD E = removeD E nmS)
          unfold cleanD
          rw [if_neg (by simp [hd.out]), hf]
        have HY : Hid (y ≠ none) := hy
        have H20 : Hid (Calls Try.prog 20 #[.pointer (some ⟨pb, 0, none⟩), .string ⟨#[115, 110, 97, 112, 46, 110, 101, 119]⟩] wr fun e w' => e = .returned (.int .i64 (removeD E nmS).1) ∧ Dsk w' tg pb (removeD E nmS).2 ∧ Step tg tg wr w') := remove_any DR.out ⟨⟨nmS⟩⟩ (by decide)
        have hv := removeD_val hd.out hf
        rcases hrm : removeD E nmS with ⟨r1, r2⟩
        rw [hrm] at H20 HC hv
        have HR : Hid (removeD E nmS = (r1, r2)) := hrm
        clear hc hn hf hrm hy
        rcases hv with hv | hv
        · have hv : r1 = 0 := hv
          subst hv
          go_wp2_with (first
            | (go_at_call 29; refine (has_at wr _ _ true (has46_yes wr)).mono ?_; rintro e w' ⟨rfl, rfl⟩)
            | (go_at_call 20; refine H20.out.mono ?_))
          first | rintro e w4 rfl d4 st4 | rintro e w4 ⟨rfl, d4, st4⟩
          have O4 : Hid (OwnS w4 w1.heap.size (.slice (some ⟨g, 0, none⟩) ns.length c2) ns) := by
            refine (ownsKeep OR.out fun b hb => ?_ : _)
            have hlt4 := World.ownsRow.lt OR.out b hb
            exact st4.1.block b hlt4.2 fun e => e (HT.out b hlt4.1)
          have S4 : Hid (Step tg tg w1 w4) := SR.out.trans st4
          have D4 : Hid (Dsk w4 tg pb r2) := d4
          clear d4 st4
          go_wp2_with fail
          exact ⟨⟨k + 1, r2, by omega, by go_num, O4.out, D4.out, S4.out, .inr ⟨hk1, rfl, HY.out⟩⟩, by simp [intOf]; omega⟩
        · have hv : r1 = 11 := hv
          subst hv
          go_wp2_with (first
            | (go_at_call 29; refine (has_at wr _ _ true (has46_yes wr)).mono ?_; rintro e w' ⟨rfl, rfl⟩)
            | (go_at_call 20; refine H20.out.mono ?_))
          first | rintro e w4 rfl d4 st4 | rintro e w4 ⟨rfl, d4, st4⟩
          have S4 : Hid (Step tg tg w1 w4) := SR.out.trans st4
          have D4 : Hid (Dsk w4 tg pb r2) := d4
          clear d4 st4
          go_wp2_with fail
          go_ret
          rw [HC.out]
          exact ⟨rfl, D4.out, S4.out⟩
    · have hi : ¬ (k : Int) < (m2 : Int) := by omega
      have hkm : k = ns.length := by have := HM.out; omega
      have HC : Hid (cleanD D = (0, E)) := by
        refine (?_ : cleanD D = (0, E))
        unfold cleanD
        rw [if_neg (by simp [hd.out]), hN.out, fnd_S]
        rcases AL.out with ⟨rfl, h1⟩ | ⟨-, h1, h2⟩
        · have : y = none := HS.out fun j e => by
            by_cases hj : j < k
            · exact h1 j hj e
            · rw [List.getElem?_eq_none (by omega)] at e
              cases e
          rw [this]
          rfl
        · cases y with
          | none => exact absurd rfl h2
          | some p => exact h1
      go_wp2_with fail
      go_ret
      rw [HC.out]
      exact ⟨rfl, DR.out, SR.out⟩
theorem clean_any {w : World} {tg : Nat → Tg} {pb : Nat} {D : DK} {o x y : OB} (h : Dsk w tg pb D) (hN : D.fs = fsN o x y) :
    Calls Try.prog 14 #[.pointer (some ⟨pb, 0, none⟩)] w fun e w' => e = .returned (.int .i64 (cleanD D).1) ∧ Dsk w' tg pb (cleanD D).2 ∧ Step tg tg w w' := by
  by_cases hd : D.down = true
  · have H13 : Calls Try.prog 13 #[.pointer (some ⟨pb, 0, none⟩)] w fun e w' => e = .returned (.bool true) ∧ w' = w := by
      obtain ⟨_, _, _, dd⟩ := h
      have := dd.cell
      rw [hd] at this
      exact down_at w pb _ _ _ _ this
    refine (clean_0 w _ H13).mono ?_
    rintro e w' ⟨rfl, rfl⟩
    unfold cleanD
    rw [if_pos hd]
    exact ⟨rfl, h, Step.refl _ _⟩
  · exact clean_up h (show D.down = false by simpa using hd) hN
theorem clean_law {w0 w : World} {tg : Nat → Tg} {pb : Nat} {D : DK} {o x y : OB} (h : At w0 w tg pb D) (hN : D.fs = fsN o x y) :
    Calls Try.prog 14 #[.pointer (some ⟨pb, 0, none⟩)] w fun e w' => e = .returned (.int .i64 (cleanD D).1) ∧ At w0 w' tg pb (cleanD D).2 ∧ Step tg tg w w' := by
  refine (clean_any h.d hN).mono ?_
  rintro e w' ⟨rfl, d, st⟩
  exact ⟨rfl, h.step d st, st⟩
/-- what Clean leaves -/
theorem clean_N {D : DK} {o x y : OB} (hd : D.down = false) (h : D.fs = fsN o x y) :
    ((cleanD D).1 = 0 ∧ (cleanD D).2.fs = fsN o x none ∧ (cleanD D).2.down = false ∧ (D.fuse = none → (cleanD D).2.fuse = none)) ∨ Lost o x D (cleanD D) := by
  have e : cleanD D = discardD D := by
    unfold cleanD discardD removeD
    rw [if_neg (by simp [hd]), hd, h, fnd_S]
    cases y with
    | none => simp
    | some p =>
      simp only [Option.map_some, Bool.false_eq_true, if_false]
      by_cases hb : (burn D).1 = true
      · simp [hb]
      · simp [hb]
  rw [e]
  exact discard_N hd h
end Go.Proofs.Ytoiopplhphllhaa
