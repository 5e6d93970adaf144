/-
  heap.Remove, take.
-/
import Derived.Test.YtihjmigjphljnaaTWi
namespace Go.Proofs.Ytihjmigjphljnaa.Tk
open Go.RowKit Go.Maps Go.WideMaps

/-- a clock whole: its alarms a heap -/
structure Cl (w : World) (cb : Nat) (S : HS) : Prop where
  m : Mem w cb S
  h : Hp (gt S.l) S.l.length
/-- a clock with one alarm gone -/
structure Gone (w w' : World) (cb : Nat) (S : HS) (a : Al) (S' : HS) : Prop where
  c : Cl w' cb S'
  g : Chg cb S S' w w'
  p : S.l.Perm (a :: S'.l)
theorem perm_last {l : List Al} {k : Nat} (h : l.length = k + 1) : l.Perm (gt l k :: l.take k) := by
  have e : l = l.take k ++ [gt l k] := by
    conv => lhs; rw [← List.take_append_drop k l]
    congr 1
    have h1 := gt_some (l := l) (i := k) (by omega)
    rw [List.drop_eq_getElem_cons (by omega), List.drop_eq_nil_of_le (by omega)]
    rw [List.getElem?_eq_getElem (by omega)] at h1
    rw [Option.some.inj h1]
  conv => lhs; rw [e]
  exact List.perm_append_singleton _ _
theorem gt_take {l : List Al} {k i : Nat} (h : i < k) : gt (l.take k) i = gt l i := by
  unfold gt
  rw [List.getD_eq_getElem?_getD, List.getD_eq_getElem?_getD, List.getElem?_take_of_lt h]
theorem hp_congr {v v' : Nat → Al} {n : Nat} (h : Hp v n) (e : ∀ k, k < n → v' k = v k) : Hp v' n := fun c h0 h1 => by
  rw [e c h1, e (par c) (by unfold par; omega)]
  exact h c h0 h1
/-- the last step of a removal -/
theorem pop_up {w0 w : World} {cb k : Nat} {S : HS} (h : Up w0 w cb S k) (hk : S.l.length = k + 1) :
    Calls Try.prog 94 #[.agg #[.pointer (some ⟨cb, 1, none⟩)]] w fun e w' => e = .returned (.iface 79 (alV (gt S.l k))) ∧ ∃ S', Gone w0 w' cb S (gt S.l k) S' := by
  obtain ⟨l, hv, hh⟩ := h
  have hl := hv.len
  refine (pop_S (k := k) hv.m (by show l.length = _; omega)).mono ?_
  rintro e w' ⟨rfl, lv, q1, q2⟩
  have ek : gt (S.wl l).l k = gt S.l k := hv.f k (Nat.le_refl _)
  rw [ek]
  refine ⟨rfl, _, ⟨q1, ?_⟩, hv.c.trans q2, ?_⟩
  · show Hp (gt (l.take k)) (l.take k).length
    have e : (l.take k).length = k := by rw [List.length_take]; omega
    rw [e]
    exact hp_congr hh fun i hi => gt_take hi
  · refine hv.p.symm.trans ?_
    have := perm_last (l := l) (k := k) (by omega)
    rw [show gt l k = gt S.l k from ek] at this
    exact this
set_option maxHeartbeats 1000000 in
theorem remove_S {w : World} {cb i k : Nat} {S : HS} (h : Hid (Cl w cb S)) (hk : Hid (S.l.length = k + 1)) (hi : Hid (i ≤ k)) :
    Calls Try.prog 56 #[.iface 100 (.agg #[.pointer (some ⟨cb, 1, none⟩)]), .int .i64 i] w fun e w' => e = .returned (.iface 79 (alV (gt S.l i))) ∧ ∃ S', Gone w w' cb S (gt S.l i) S' := by
  have H12 : Hid (Calls Try.prog 46 #[.pointer (some ⟨cb, 1, none⟩)] w fun e w' => e = .returned (.int .i64 ((k : Int) + 1)) ∧ w' = w) := by
    have := len_S h.out.m
    rw [hk.out] at this
    exact this
  have hk1 : (k : Int) ≤ 1024 := by have := h.out.m.sm; have := hk.out; omega
  have hk0 : 0 ≤ (k : Int) := by omega
  by_cases hik : i = k
  · subst hik
    have HP : Hid (Calls Try.prog 94 #[.agg #[.pointer (some ⟨cb, 1, none⟩)]] w fun e w' => e = .returned (.iface 79 (alV (gt S.l i))) ∧ Hid (∃ S', Gone w w' cb S (gt S.l i) S')) := by
      refine pop_up ⟨S.l, ⟨h.out.m, Chg.refl _ _ _, .refl _, fun _ _ => rfl⟩, fun c h0 h1 => h.out.h c h0 ?_⟩ hk.out
      have := hk.out
      omega
    clear h hk hi
    go_enter Try.func56, Try.ntmps56
    go_wp2_with (first | (go_at_call 46; refine H12.out.mono ?_; rintro e w1 ⟨rfl, rfl⟩) | (go_at_call 94; refine HP.out.mono ?_; rintro e w2 ⟨rfl, hu⟩))
    go_ret
    exact ⟨rfl, hu.out⟩
  · have hki : ¬ (k : Int) = (i : Int) := by omega
    have hil : i < S.l.length := by have := hk.out; have := hi.out; omega
    have hkl : k < S.l.length := by have := hk.out; omega
    -- behind the swap: the list, and what is wrong with it
    obtain ⟨S1, e1⟩ : ∃ S1, S1 = S.wl (lsw S.l i k) := ⟨_, rfl⟩
    have hl1 : Hid (S1.l.length = k + 1) := by rw [e1]; exact (lsw_length _ _ _).trans hk.out
    have eg : Hid (gt S1.l k = gt S.l i) := by
      rw [e1]
      show gt (lsw S.l i k) k = _
      rw [gt_lsw hil hkl, sw_r]
    have HX : Hid (Calls Try.prog 96 #[.agg #[.pointer (some ⟨cb, 1, none⟩)], .int .i64 i, .int .i64 k] w fun e w' => e = .returned (.tuple #[]) ∧ Hid (Chg cb S S1 w w' ∧ Si w' w' cb S1 k i i S1.l)) := by
      refine (swap_S h.out.m hil hkl).mono ?_
      rintro e w' ⟨rfl, q1, q2⟩
      rw [← e1] at q1 q2
      refine ⟨rfl, q2, ⟨q1, Chg.refl _ _ _, .refl _, fun _ _ => rfl⟩, ?_, by have := hi.out; omega, by have := hl1.out; omega, .inl rfl⟩
      refine hx_of (v := gt S.l) (n := k) (fun c h0 h1 => h.out.h c h0 (by omega)) fun j h1 h2 => ?_
      rw [e1]
      show gt (lsw S.l i k) j = _
      rw [gt_lsw hil hkl, sw_o _ h2 (by omega)]
    have HD : Hid (∀ W, Si W W cb S1 k i i S1.l → Calls Try.prog 68 #[.iface 100 (.agg #[.pointer (some ⟨cb, 1, none⟩)]), .int .i64 i, .int .i64 k] W fun e w' => ∃ b, e = .returned (.bool b) ∧ Hid (Dp W w' cb S1 k i b)) := fun W h => down_S h
    have HU : Hid (∀ W0 W l, Ri W0 W cb S1 k i l → Calls Try.prog 69 #[.iface 100 (.agg #[.pointer (some ⟨cb, 1, none⟩)]), .int .i64 i] W fun e w' => e = .returned (.tuple #[]) ∧ Hid (Up W0 w' cb S1 k)) := fun W0 W l h => up_S h
    have HP : Hid (∀ W0 W, Chg cb S S1 w W0 → Up W0 W cb S1 k → Calls Try.prog 94 #[.agg #[.pointer (some ⟨cb, 1, none⟩)]] W fun e w' => e = .returned (.iface 79 (alV (gt S.l i))) ∧ Hid (∃ S', Gone w w' cb S (gt S.l i) S')) := fun W0 W c u => by
      refine (pop_up u hl1.out).mono ?_
      rw [eg.out]
      rintro e w' ⟨rfl, S', q⟩
      refine ⟨rfl, S', q.c, c.trans q.g, ?_⟩
      refine List.Perm.trans ?_ q.p
      rw [e1]
      exact (lsw_perm hil hkl).symm
    clear h hk hi hik hil hkl hl1 eg e1
    go_enter Try.func56, Try.ntmps56
    go_upto_region 5 with (first | (go_at_call 46; refine H12.out.mono ?_; rintro e w1 ⟨rfl, rfl⟩) | (go_at_call 96; refine HX.out.mono ?_; rintro e w2 ⟨rfl, hx⟩) | (go_at_call 68; refine (HD.out _ hx.out.2).mono ?_; rintro e w3 ⟨b, rfl, hd⟩))
    · cases b with
      | true => rename_i h; cases h
      | false =>
        obtain ⟨l1, hr⟩ := hd.out
        have HU1 : Hid (Calls Try.prog 69 #[.iface 100 (.agg #[.pointer (some ⟨cb, 1, none⟩)]), .int .i64 i] w3 fun e w' => e = .returned (.tuple #[]) ∧ Hid (Up w2 w' cb S1 k)) := HU.out _ _ _ hr
        clear hr hd HU HD H12 HX
        go_wp2_with (first | (go_at_call 69; refine HU1.out.mono ?_; rintro e w4 ⟨rfl, hu⟩) | (go_at_call 94; refine (HP.out _ _ hx.out.1 hu.out).mono ?_; rintro e w5 ⟨rfl, hq⟩))
        go_ret
        exact ⟨rfl, hq.out⟩
    · cases b with
      | false => rename_i h; cases h
      | true =>
        refine (HP.out _ _ hx.out.1 hd.out).mono ?_
        rintro e w5 ⟨rfl, hq⟩
        clear hd HU HD H12 HX HP hx
        go_wp2_with fail
        go_ret
        exact ⟨rfl, hq.out⟩
theorem assert45 (v : Value) : ∀ w, (Instr.typeAssert (.iface 79 v) 20 79 false).run Try.prog w = .ok v w := fun w => by
  simp [Instr.typeAssert, run_underlying Try.underlying79]
end Go.Proofs.Ytihjmigjphljnaa.Tk
