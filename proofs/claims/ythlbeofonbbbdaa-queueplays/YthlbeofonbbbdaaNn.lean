/-
  find, Get, Remove, Update.
-/
import Derived.Test.YthlbeofonbbbdaaNm
namespace Go.Proofs.Ythlbeofonbbbdaa
open Go.RowKit Go.Maps

theorem zero67 (w : World) : (zeroValue 95).run Try.prog w = .ok (.pointer none) w := by kernel_rfl
set_option maxHeartbeats 400000 in
theorem find_nil (x : Int) (w : World) : Calls Try.prog 61 #[.pointer none, .int .i64 x] w fun e w' => e = .returned (.pointer none) ∧ w' = w := by
  go_enter Try.func61, Try.ntmps61
  go_wp2_with fail
  go_ret
  exact ⟨rfl, rfl⟩
set_option maxHeartbeats 400000 in
theorem find_raw (w : World) (x : Int) (hb : Nat) (mb : Option Nat) (r : Value) (c1 : w.cell? ⟨hb, 1, none⟩ = some (.map mb)) (hr : (Instr.lookup 99 (.map mb) (.int .i64 x) false).run Try.prog w = .ok r w) : Calls Try.prog 61 #[.pointer (some ⟨hb, 0, none⟩), .int .i64 x] w fun e w' => e = .returned r ∧ w' = w := by
  go_enter Try.func61, Try.ntmps61
  go_wp2_with fail
  go_ret
  exact ⟨rfl, rfl⟩
section
variable {w w' : World} {hb : Nat} {S S' : HS}
theorem look_S (h : Mp w S) (x : Int) (hx : (Lit.int .i64 x).wf = true) : (Instr.lookup 99 (.map S.mb) (.int .i64 x) false).run Try.prog w = .ok (optp (S.at x)) w := by
  have hkey : keyOf Try.prog 3 (.int .i64 x) = some (.int .i64 x) := keyOf_int_mk Try.underlying3 hx
  unfold Mp at h
  cases hm : S.mb with
  | none =>
    rw [hm] at h
    have hX : S.l = [] := h
    have hn : S.at x = none := by unfold HS.at; rw [hX]; rfl
    rw [hn]
    have := Maps.look_nil (w := w) false law3 Try.underlying99 (zero67 w) hkey
    simpa [optp] using this
  | some m =>
    rw [hm] at h
    obtain ⟨M, hM⟩ := h
    obtain ⟨v, ps, hr, hv⟩ := hM.o.lookup law3 Try.underlying99 (zero67 w) (zd := .nil) (zp := []) rfl hkey
    rw [hM.a] at hv
    rw [hr]
    cases hf : S.at x with
    | none => rw [hf] at hv; rw [pE_nil hv]; rfl
    | some b => rw [hf] at hv; rw [pE_held hv]; rfl
theorem find_S (hm : Mem w hb S) (h : Mp w S) (x : Int) (hx : (Lit.int .i64 x).wf = true) : Calls Try.prog 61 #[.pointer (some ⟨hb, 0, none⟩), .int .i64 x] w fun e w' => e = .returned (optp (S.at x)) ∧ w' = w :=
  find_raw w x hb S.mb _ (hm.hp.cell 1 (by decide)) (look_S h x hx)
end
set_option maxHeartbeats 400000 in
theorem rem_none (w : World) (x : Int) (v : Value) (H32 : Hid (Calls Try.prog 61 #[v, .int .i64 x] w fun e w' => e = .returned (.pointer none) ∧ w' = w)) : Calls Try.prog 50 #[v, .int .i64 x] w fun e w' => e = .returned (.int .i64 3) ∧ w' = w := by
  go_enter Try.func50, Try.ntmps50
  go_wp2_with (go_at_call 61; refine H32.out.mono ?_; rintro e w1 ⟨rfl, rfl⟩)
  go_ret
  exact ⟨rfl, rfl⟩
set_option maxHeartbeats 400000 in
theorem rem_some (w : World) (x : Int) (hb b : Nat) (R : World → Prop) (H32 : Hid (Calls Try.prog 61 #[.pointer (some ⟨hb, 0, none⟩), .int .i64 x] w fun e w' => e = .returned (.pointer (some ⟨b, 0, none⟩)) ∧ w' = w)) (H36 : Hid (Calls Try.prog 62 #[.pointer (some ⟨hb, 0, none⟩), .pointer (some ⟨b, 0, none⟩)] w fun q w' => q = .returned (.tuple #[]) ∧ Hid (R w'))) : Calls Try.prog 50 #[.pointer (some ⟨hb, 0, none⟩), .int .i64 x] w fun e w' => e = .returned (.int .i64 0) ∧ R w' := by
  go_enter Try.func50, Try.ntmps50
  go_upto_region 4 with (go_at_call 61; refine H32.out.mono ?_; rintro e w1 ⟨rfl, rfl⟩)
  go_wp2_with (go_at_call 62; refine H36.out.mono ?_; first | rintro e w2 rfl h2 | rintro e w2 ⟨rfl, h2⟩)
  go_ret
  exact ⟨rfl, h2.out⟩
section
variable {w w' w1 w3 : World} {hb g n s g' n' : Nat} {C C' : Ct} {S S' : HS} {k : K} {x : Int}
theorem at_cont (h : Hc w hb C g n S) (hx : C x = none) : S.at x = none := by
  rw [← h.c] at hx
  exact Option.map_eq_none_iff.1 hx
theorem at_cont' (h : Hc w hb C g n S) (hx : C x = some k) : ∃ b, S.at x = some b ∧ S.ky b = k ∧ b ∈ S.l ∧ (S.hd b : Int) = x := by
  rw [← h.c] at hx
  obtain ⟨b, h1, h2⟩ := Option.map_eq_some_iff.1 hx
  obtain ⟨h3, h4⟩ := at_some h1
  exact ⟨b, h1, h2, h3, h4⟩
theorem find_C (h : Hc w hb C g n S) (hx : (Lit.int .i64 x).wf = true) : Calls Try.prog 61 #[.pointer (some ⟨hb, 0, none⟩), .int .i64 x] w fun e w' => e = .returned (optp (S.at x)) ∧ w' = w := find_S h.h.m h.h.p x hx
theorem rem_C0 (h : Hc w hb C g n S) (hx : (Lit.int .i64 x).wf = true) (hc : C x = none) : Calls Try.prog 50 #[ptr hb, .int .i64 x] w fun e w' => e = .returned (.int .i64 3) ∧ w' = w :=
  rem_none w x _ (by have := find_C h hx; rw [at_cont h hc] at this; exact this)
theorem rem_C (h : Hc w hb C g n S) (hx : (Lit.int .i64 x).wf = true) (hc : C x = some k) : ∃ y : Nat, x = (y : Int) ∧ Calls Try.prog 50 #[ptr hb, .int .i64 x] w fun e w' => e = .returned (.int .i64 0) ∧ ∃ S', Hc w' hb (C.del y) g (n - 1) S' ∧ Chg hb S S' w w' := by
  obtain ⟨b, h1, h2, h3, h4⟩ := at_cont' h hc
  obtain ⟨i, hi⟩ := List.getElem?_of_mem h3
  refine ⟨S.hd b, h4.symm, rem_some w x hb b (fun w' => ∃ S', Hc w' hb (C.del (S.hd b)) g (n - 1) S' ∧ Chg hb S S' w w') (by have := find_C h hx; rw [h1] at this; exact this) ?_⟩
  refine (drop_S h.h hi).mono ?_
  rintro q w' ⟨rfl, S', L⟩
  exact ⟨rfl, S', L.hc h h3, L.c⟩
theorem min_C (h : Hc w hb C g n S) (hn : n ≠ 0) : ∃ (x : Nat) (k : K), C.ext 0 x k ∧ Calls Try.prog 34 #[ptr hb] w fun e w' => e = .returned (.tuple #[.int .i64 x, ktup k, .int .i64 0]) ∧ Below w.heap.size w w' := by
  obtain ⟨i, b, hi, he, _⟩ := outer_C (s := 0) h (by decide) hn
  refine ⟨S.hd b, S.ky b, he, ?_⟩
  have h35 : ∀ w1, Below w.heap.size w w1 → Calls Try.prog 49 #[.pointer (some ⟨hb, 0, none⟩), .int .i64 0] w1 fun q w' => q = .returned (.pointer (some ⟨b, 0, none⟩)) ∧ ∃ m, w' = w1.drewN m := fun w1 b1 => by
    obtain ⟨i', b', hi', he', hc'⟩ := outer_C (s := 0) (h.below b1) (by decide) hn
    have e1 := he.2 (S.hd b') (S.ky b') he'.1
    have e2 := he'.2 (S.hd b) (S.ky b) he.1
    have o1 := h.h.m.ok b (List.mem_of_getElem? hi)
    have o2 := h.h.m.ok b' (List.mem_of_getElem? hi')
    have hh : S.hd b' = S.hd b := by
      have a1 := o1.1.b
      have a2 := o1.1.c
      have a3 := o2.1.b
      have a4 := o2.1.c
      unfold sg enc at e1 e2
      rw [if_pos rfl, if_pos rfl] at e1 e2
      omega
    have : b' = b := h.h.hu b' (List.mem_of_getElem? hi') b (List.mem_of_getElem? hi) hh
    rw [this] at hc'
    exact hc'
  have h34 : ∀ w1, Below w.heap.size w w1 → Calls Try.prog 48 #[.pointer (some ⟨b, 0, none⟩)] w1 fun q w' => q = .returned (.tuple #[.int .i64 (S.hd b), .agg #[.int .i64 (S.ky b).a, .int .i64 (S.ky b).b, .int .i64 (S.ky b).c], .int .i64 0]) ∧ Below w1.heap.size w1 w' := fun w1 b1 => tell_at w1 b _ _ ((h.h.m.en hi).below b1)
  exact min_raw w _ _ _ _ _ h35 h34
end
theorem outer_nil (s : Int) (w : World) : Calls Try.prog 49 #[.pointer none, .int .i64 s] w fun e w' => e = .returned (.pointer none) ∧ ∃ m, w' = w.drewN m :=
  (outer_zero w _ _ (len_nil w)).mono fun _ _ ⟨q, e⟩ => ⟨q, 0, e⟩
theorem min_nil (w : World) : Calls Try.prog 34 #[.pointer none] w fun e w' => e = .returned (.tuple #[.int .i64 0, ktup kz, .int .i64 3]) ∧ Below w.heap.size w w' := min_raw w _ _ 0 3 kz (fun w1 _ => outer_nil 0 w1) (fun w1 _ => tell_nil w1)
end Go.Proofs.Ythlbeofonbbbdaa
