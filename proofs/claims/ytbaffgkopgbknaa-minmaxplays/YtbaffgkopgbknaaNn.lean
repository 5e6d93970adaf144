/-
  find, Get, Remove, Update.
-/
import Derived.Test.YtbaffgkopgbknaaNm
namespace Go.Proofs.Ytbaffgkopgbknaa
open Go.RowKit Go.Maps

theorem zero67 (w : World) : (zeroValue 67).run Try.prog w = .ok (.pointer none) w := by kernel_rfl
set_option maxHeartbeats 400000 in
theorem find_nil (x : Int) (w : World) : Calls Try.prog 32 #[.pointer none, .int .i64 x] w fun e w' => e = .returned (.pointer none) ∧ w' = w := by
  go_enter Try.func32, Try.ntmps32
  go_wp2_with fail
  go_ret
  exact ⟨rfl, rfl⟩
set_option maxHeartbeats 400000 in
theorem find_raw (w : World) (x : Int) (hb : Nat) (mb : Option Nat) (r : Value) (c1 : w.cell? ⟨hb, 1, none⟩ = some (.map mb)) (hr : (Instr.lookup 55 (.map mb) (.int .i64 x) false).run Try.prog w = .ok r w) : Calls Try.prog 32 #[.pointer (some ⟨hb, 0, none⟩), .int .i64 x] w fun e w' => e = .returned r ∧ w' = w := by
  go_enter Try.func32, Try.ntmps32
  go_wp2_with fail
  go_ret
  exact ⟨rfl, rfl⟩
section
variable {w w' : World} {hb : Nat} {S S' : HS}
theorem look_S (h : Mp w S) (x : Int) (hx : (Lit.int .i64 x).wf = true) : (Instr.lookup 55 (.map S.mb) (.int .i64 x) false).run Try.prog w = .ok (optp (S.at x)) w := by
  have hkey : keyOf Try.prog 3 (.int .i64 x) = some (.int .i64 x) := keyOf_int_mk Try.underlying3 hx
  unfold Mp at h
  cases hm : S.mb with
  | none =>
    rw [hm] at h
    have hX : S.l = [] := h
    have hn : S.at x = none := by unfold HS.at; rw [hX]; rfl
    rw [hn]
    have := Maps.look_nil (w := w) false law3 Try.underlying55 (zero67 w) hkey
    simpa [optp] using this
  | some m =>
    rw [hm] at h
    obtain ⟨M, hM⟩ := h
    obtain ⟨v, ps, hr, hv⟩ := hM.o.lookup law3 Try.underlying55 (zero67 w) (zd := .nil) (zp := []) rfl hkey
    rw [hM.a] at hv
    rw [hr]
    cases hf : S.at x with
    | none => rw [hf] at hv; rw [pE_nil hv]; rfl
    | some b => rw [hf] at hv; rw [pE_held hv]; rfl
theorem find_S (hm : Mem w hb S) (h : Mp w S) (x : Int) (hx : (Lit.int .i64 x).wf = true) : Calls Try.prog 32 #[.pointer (some ⟨hb, 0, none⟩), .int .i64 x] w fun e w' => e = .returned (optp (S.at x)) ∧ w' = w :=
  find_raw w x hb S.mb _ (hm.hp.cell 1 (by decide)) (look_S h x hx)
end
set_option maxHeartbeats 400000 in
theorem get_none (w : World) (x : Int) (v : Value) (H32 : Hid (∀ w1, Below w.heap.size w w1 → Calls Try.prog 32 #[v, .int .i64 x] w1 fun e w' => e = .returned (.pointer none) ∧ w' = w1)) : Calls Try.prog 18 #[v, .int .i64 x] w fun e w' => e = .returned (.tuple #[ktup kz, .int .i64 3]) ∧ Below w.heap.size w w' := by
  have B0 : Below w.heap.size w (w.alloc (.cells #[.int .i64 0, .int .i64 0, .int .i64 0] 32)) := (Below.refl _ w).alloc (Nat.le_refl _) _
  have H := H32.out _ B0
  clear B0
  go_enter Try.func18, Try.ntmps18
  go_wp2_with (go_at_call 32; refine H.mono ?_; rintro e w1 ⟨rfl, rfl⟩)
  refine bodyPost_ret (v := .tuple #[ktup kz, .int .i64 3]) (by rw [results_cell_tmp rfl]; go_simp; rfl) rfl ?_
  exact ⟨rfl, by go_grown⟩
set_option maxHeartbeats 400000 in
theorem get_some (w : World) (x : Int) (hb b h : Nat) (k : K) (H32 : Hid (∀ w1, Below w.heap.size w w1 → Calls Try.prog 32 #[.pointer (some ⟨hb, 0, none⟩), .int .i64 x] w1 fun e w' => e = .returned (.pointer (some ⟨b, 0, none⟩)) ∧ w' = w1)) (E : Hid (En w b k h)) : Calls Try.prog 18 #[.pointer (some ⟨hb, 0, none⟩), .int .i64 x] w fun e w' => e = .returned (.tuple #[ktup k, .int .i64 0]) ∧ Below w.heap.size w w' := by
  have B0 : Below w.heap.size w (w.alloc (.cells #[.int .i64 0, .int .i64 0, .int .i64 0] 32)) := (Below.refl _ w).alloc (Nat.le_refl _) _
  have H := H32.out _ B0
  obtain ⟨k0, k1, k2, k3⟩ := E.out.below B0
  clear B0
  go_enter Try.func18, Try.ntmps18
  go_wp2_with (go_at_call 32; refine H.mono ?_; rintro e w1 ⟨rfl, rfl⟩)
  refine bodyPost_ret (v := .tuple #[ktup k, .int .i64 0]) (by rw [results_cell_tmp rfl]; go_simp; rfl) rfl ?_
  exact ⟨rfl, by go_grown⟩
set_option maxHeartbeats 400000 in
theorem rem_none (w : World) (x : Int) (v : Value) (H32 : Hid (Calls Try.prog 32 #[v, .int .i64 x] w fun e w' => e = .returned (.pointer none) ∧ w' = w)) : Calls Try.prog 21 #[v, .int .i64 x] w fun e w' => e = .returned (.int .i64 3) ∧ w' = w := by
  go_enter Try.func21, Try.ntmps21
  go_wp2_with (go_at_call 32; refine H32.out.mono ?_; rintro e w1 ⟨rfl, rfl⟩)
  go_ret
  exact ⟨rfl, rfl⟩
set_option maxHeartbeats 400000 in
theorem rem_some (w : World) (x : Int) (hb b : Nat) (R : World → Prop) (H32 : Hid (Calls Try.prog 32 #[.pointer (some ⟨hb, 0, none⟩), .int .i64 x] w fun e w' => e = .returned (.pointer (some ⟨b, 0, none⟩)) ∧ w' = w)) (H36 : Hid (Calls Try.prog 36 #[.pointer (some ⟨hb, 0, none⟩), .pointer (some ⟨b, 0, none⟩)] w fun q w' => q = .returned (.tuple #[]) ∧ Hid (R w'))) : Calls Try.prog 21 #[.pointer (some ⟨hb, 0, none⟩), .int .i64 x] w fun e w' => e = .returned (.int .i64 0) ∧ R w' := by
  go_enter Try.func21, Try.ntmps21
  go_upto_region 4 with (go_at_call 32; refine H32.out.mono ?_; rintro e w1 ⟨rfl, rfl⟩)
  go_wp2_with (go_at_call 36; refine H36.out.mono ?_; first | rintro e w2 rfl h2 | rintro e w2 ⟨rfl, h2⟩)
  go_ret
  exact ⟨rfl, h2.out⟩
set_option maxHeartbeats 400000 in
theorem upd_none (w : World) (x : Int) (v : Value) (k : K) (H32 : Hid (∀ w1, Below w.heap.size w w1 → Calls Try.prog 32 #[v, .int .i64 x] w1 fun e w' => e = .returned (.pointer none) ∧ w' = w1)) : Calls Try.prog 17 #[v, .int .i64 x, ktup k] w fun e w' => e = .returned (.int .i64 3) ∧ Below w.heap.size w w' := by
  unfold ktup
  have B0 : Below w.heap.size w (w.alloc (.cells #[.int .i64 k.a, .int .i64 k.b, .int .i64 k.c] 32)) := (Below.refl _ w).alloc (Nat.le_refl _) _
  have H : Hid (Calls Try.prog 32 #[v, .int .i64 x] (w.alloc (.cells #[.int .i64 k.a, .int .i64 k.b, .int .i64 k.c] 32)) fun e w' => e = .returned (.pointer none) ∧ w' = w.alloc (.cells #[.int .i64 k.a, .int .i64 k.b, .int .i64 k.c] 32)) := H32.out _ B0
  clear B0 H32
  go_enter Try.func17, Try.ntmps17
  go_wp2_with (go_at_call 32; refine H.out.mono ?_; rintro e w1 ⟨rfl, rfl⟩)
  go_ret
  exact ⟨rfl, by go_grown⟩
/-- an entry's key written -/
def setK (w : World) (b : Nat) (k : K) : World := ((w.setCell ⟨b, 1, none⟩ (.int .i64 k.a)).setCell ⟨b, 2, none⟩ (.int .i64 k.b)).setCell ⟨b, 3, none⟩ (.int .i64 k.c)
set_option maxHeartbeats 1000000 in
theorem upd_some (w : World) (x : Int) (hb b i : Nat) (k : K) (f : Nat → Value) (R : World → Prop) (h : Hid (Blk w b 69 5 f)) (hf : f 4 = .int .i64 i) (H32 : Hid (∀ w1, Below w.heap.size w w1 → Calls Try.prog 32 #[.pointer (some ⟨hb, 0, none⟩), .int .i64 x] w1 fun e w' => e = .returned (.pointer (some ⟨b, 0, none⟩)) ∧ w' = w1))
    (H33 : Hid (∀ w1, Below w.heap.size w w1 → Calls Try.prog 33 #[.pointer (some ⟨hb, 0, none⟩), .int .i64 i] (setK w1 b k) fun q w' => q = .returned (.tuple #[]) ∧ Hid (R w'))) : Calls Try.prog 17 #[.pointer (some ⟨hb, 0, none⟩), .int .i64 x, ktup k] w fun e w' => e = .returned (.int .i64 0) ∧ R w' := by
  unfold ktup
  go_enter Try.func17, Try.ntmps17
  go_upto_region 1 with fail
  have G0 : Hid ((w.alloc (.cells #[.int .i64 k.a, .int .i64 k.b, .int .i64 k.c] 32)).heap[w.heap.size]? = some (.cells #[.int .i64 k.a, .int .i64 k.b, .int .i64 k.c] 32 (0, 0))) := new0
  have B0 : Hid (Below w.heap.size w (w.alloc (.cells #[.int .i64 k.a, .int .i64 k.b, .int .i64 k.c] 32))) := by unfold Hid; go_grown
  generalize w.alloc (.cells #[.int .i64 k.a, .int .i64 k.b, .int .i64 k.c] 32) = W at *
  have H2 := H32.out W B0.out
  have H3 : Hid (Calls Try.prog 33 #[.pointer (some ⟨hb, 0, none⟩), .int .i64 i] (setK W b k) fun q w' => q = .returned (.tuple #[]) ∧ Hid (R w')) := H33.out W B0.out
  have hB : Hid (Blk W b 69 5 f) := h.out.at (B0.out.block _ h.out.lt)
  have hK : Hid (Blk (setK W b k) b 69 5 (fset (fset (fset f 1 (.int .i64 k.a)) 2 (.int .i64 k.b)) 3 (.int .i64 k.c))) := ((hB.out.set 1 _).set 2 _).set 3 _
  obtain ⟨d0, d1, d2⟩ := c3 G0.out
  have b1 := hB.out.cell 1 (by decide)
  have b2 := hB.out.cell 2 (by decide)
  have b3 := hB.out.cell 3 (by decide)
  have f1 := hB.out.fz 1
  have f2 := hB.out.fz 2
  have f3 := hB.out.fz 3
  clear H32 H33 G0 B0 h
  go_upto_region 5 with (go_at_call 32; refine H2.mono ?_; rintro e w1 ⟨rfl, rfl⟩)
  have e4 : (setK w1 b k).cell? ⟨b, 4, none⟩ = some (.int .i64 i) := by
    rw [hK.out.cell 4 (by decide), ← hf]
    rfl
  rw [show ((w1.setCell ⟨b, 1, none⟩ (.int .i64 k.a)).setCell ⟨b, 2, none⟩ (.int .i64 k.b)).setCell ⟨b, 3, none⟩ (.int .i64 k.c) = setK w1 b k from rfl]
  generalize setK w1 b k = W2 at *
  clear b1 b2 b3 f1 f2 f3 d0 d1 d2 hB hK
  go_wp2_with (go_at_call 33; refine H3.out.mono ?_; first | rintro e w2 rfl h2 | rintro e w2 ⟨rfl, h2⟩)
  go_ret
  exact ⟨rfl, h2.out⟩
/-! ### over what a heap holds -/
section
variable {w w' w1 w3 : World} {hb g n s g' n' : Nat} {C C' : Ct} {S S' : HS} {k : K} {x : Int}
theorem at_cont (h : Hc w hb C g n S) (hx : C x = none) : S.at x = none := by
  rw [← h.c] at hx
  exact Option.map_eq_none_iff.1 hx
theorem at_cont' (h : Hc w hb C g n S) (hx : C x = some k) : ∃ b, S.at x = some b ∧ S.ky b = k ∧ b ∈ S.l ∧ (S.hd b : Int) = x := by
  rw [← h.c] at hx
  obtain ⟨b, h1, h2⟩ := Option.map_eq_some_iff.1 hx
  obtain ⟨h3, h4⟩ := at_some h1
  exact ⟨b, h1, h2, h3, h4⟩
theorem find_C (h : Hc w hb C g n S) (hx : (Lit.int .i64 x).wf = true) : Calls Try.prog 32 #[.pointer (some ⟨hb, 0, none⟩), .int .i64 x] w fun e w' => e = .returned (optp (S.at x)) ∧ w' = w := find_S h.h.m h.h.p x hx
theorem get_C0 (h : Hc w hb C g n S) (hx : (Lit.int .i64 x).wf = true) (hc : C x = none) : Calls Try.prog 18 #[ptr hb, .int .i64 x] w fun e w' => e = .returned (.tuple #[ktup kz, .int .i64 3]) ∧ Below w.heap.size w w' :=
  get_none w x _ fun w1 b1 => by have := find_C (h.below b1) hx; rw [at_cont h hc] at this; exact this
theorem get_C (h : Hc w hb C g n S) (hx : (Lit.int .i64 x).wf = true) (hc : C x = some k) : Calls Try.prog 18 #[ptr hb, .int .i64 x] w fun e w' => e = .returned (.tuple #[ktup k, .int .i64 0]) ∧ Below w.heap.size w w' := by
  obtain ⟨b, h1, h2, h3, h4⟩ := at_cont' h hc
  obtain ⟨i, hi⟩ := List.getElem?_of_mem h3
  have := h.h.m.en hi
  rw [h2] at this
  exact get_some w x hb b _ k (fun w1 b1 => by have := find_C (h.below b1) hx; rw [h1] at this; exact this) this
theorem rem_C0 (h : Hc w hb C g n S) (hx : (Lit.int .i64 x).wf = true) (hc : C x = none) : Calls Try.prog 21 #[ptr hb, .int .i64 x] w fun e w' => e = .returned (.int .i64 3) ∧ w' = w :=
  rem_none w x _ (by have := find_C h hx; rw [at_cont h hc] at this; exact this)
theorem rem_C (h : Hc w hb C g n S) (hx : (Lit.int .i64 x).wf = true) (hc : C x = some k) : ∃ y : Nat, x = (y : Int) ∧ Calls Try.prog 21 #[ptr hb, .int .i64 x] w fun e w' => e = .returned (.int .i64 0) ∧ ∃ S', Hc w' hb (C.del y) g (n - 1) S' ∧ Chg hb S S' w w' := by
  obtain ⟨b, h1, h2, h3, h4⟩ := at_cont' h hc
  obtain ⟨i, hi⟩ := List.getElem?_of_mem h3
  refine ⟨S.hd b, h4.symm, rem_some w x hb b (fun w' => ∃ S', Hc w' hb (C.del (S.hd b)) g (n - 1) S' ∧ Chg hb S S' w w') (by have := find_C h hx; rw [h1] at this; exact this) ?_⟩
  refine (drop_S h.h hi).mono ?_
  rintro q w' ⟨rfl, S', L⟩
  exact ⟨rfl, S', L.hc h h3, L.c⟩
theorem upd_C0 (h : Hc w hb C g n S) (hx : (Lit.int .i64 x).wf = true) (hc : C x = none) (k : K) : Calls Try.prog 17 #[ptr hb, .int .i64 x, ktup k] w fun e w' => e = .returned (.int .i64 3) ∧ Below w.heap.size w w' := by
  have h32 : ∀ w1, Below w.heap.size w w1 → Calls Try.prog 32 #[.pointer (some ⟨hb, 0, none⟩), .int .i64 x] w1 fun e w' => e = .returned (.pointer none) ∧ w' = w1 := fun w1 b1 => by
    have := find_C (h.below b1) hx
    rw [at_cont h hc] at this
    exact this
  exact upd_none w x _ k h32
/-- a heap whose entry has another key -/
def HS.rk (S : HS) (b : Nat) (k : K) : HS := { S with ky := upd S.ky b k }
theorem rk_mem (h : Mem w hb S) {b i : Nat} (hi : S.l[i]? = some b) (hk : k.ok) : Mem (setK w b k) hb (S.rk b k) := by
  have hB := h.nd i b hi
  have hhb : b ≠ hb := blk_ne hB h.hp (by decide)
  refine ⟨((h.hp.other _ _ hhb).other _ _ hhb).other _ _ hhb, fun j c q => ?_, fam_other (fam_other (fam_other h.fm _ _ (h.fm.ne hB (by decide))) _ _ (h.fm.ne hB (by decide))) _ _ (h.fm.ne hB (by decide)), h.no, fun c q => ?_, h.sm⟩
  · by_cases e : c = b
    · subst e
      have hij : i = j := same_at hi rfl q h.no
      subst hij
      refine (((hB.set 1 (.int .i64 k.a)).set 2 (.int .i64 k.b)).set 3 (.int .i64 k.c)).same fun r hr => ?_
      unfold HS.ndC
      rw [show (S.rk c k).ky c = k from upd_same _ _ _]
      rcases (by omega : r = 0 ∨ r = 1 ∨ r = 2 ∨ r = 3 ∨ r = 4) with rfl | rfl | rfl | rfl | rfl <;> rfl
    · have hC := h.nd j c q
      have hbc : b ≠ c := fun e' => e e'.symm
      refine (((hC.other ⟨b, 1, none⟩ _ hbc).other ⟨b, 2, none⟩ _ hbc).other ⟨b, 3, none⟩ _ hbc).same fun r hr => ?_
      unfold HS.ndC
      rw [show (S.rk b k).ky c = S.ky c from upd_other _ _ e]
      rfl
  · have := h.ok c q
    refine ⟨?_, this.2⟩
    show (upd S.ky b k c).ok
    by_cases e : c = b
    · rw [e, upd_same]; exact hk
    · rw [upd_other _ _ e]; exact this.1
theorem setK_kp {b : Nat} {F : Nat → Prop} (hF : F b) : Kp F w (setK w b k) := ((Kp.of_set (S := F) w ⟨b, 1, none⟩ _ hF).trans (Kp.of_set (S := F) _ ⟨b, 2, none⟩ _ hF) fun _ _ h => h).trans (Kp.of_set (S := F) _ ⟨b, 3, none⟩ _ hF) fun _ _ h => h
theorem upd_C (h : Hc w hb C g n S) (hx : (Lit.int .i64 x).wf = true) {k0 : K} (hc : C x = some k0) (k : K) (hk : k.ok) : ∃ y : Nat, x = (y : Int) ∧ Calls Try.prog 17 #[ptr hb, .int .i64 x, ktup k] w fun e w' => e = .returned (.int .i64 0) ∧ ∃ S', Hc w' hb (C.put y k) g n S' ∧ Chg hb S S' w w' := by
  obtain ⟨b, h1, h2, h3, h4⟩ := at_cont' h hc
  obtain ⟨i, hi⟩ := List.getElem?_of_mem h3
  refine ⟨S.hd b, h4.symm, upd_some w x hb b i k _ (fun w' => ∃ S', Hc w' hb (C.put (S.hd b) k) g n S' ∧ Chg hb S S' w w') (h.h.m.nd i b hi) rfl (fun w1 b1 => by have := find_C (h.below b1) hx; rw [h1] at this; exact this) (fun w1 b1 => ?_)⟩
  have hw := h.below b1
  have hm := rk_mem hw.h.m hi hk
  have kK : Kp (Fp hb S) w1 (setK w1 b k) := setK_kp (.inr (.inl h3))
  have hil : i < S.l.length := (List.getElem?_eq_some_iff.1 hi).1
  have hat : ∀ x, (S.rk b k).at x = S.at x := fun _ => rfl
  have hp : Mp (setK w1 b k) (S.rk b k) := by
    have hp0 := hw.h.p
    unfold Mp at *
    show match S.mb with | none => S.l = [] | some m => _
    cases hmb : S.mb with
    | none => rw [hmb] at hp0; exact hp0
    | some m =>
      rw [hmb] at hp0
      obtain ⟨M, hM⟩ := hp0
      have kb : Kp (· = b) w1 (setK w1 b k) := setK_kp rfl
      exact ⟨M, keepMap hM.o (kb.block m hM.o.lt fun e => map_ne hM.o (hw.h.m.nd i b hi) e.symm), hM.n, hM.a⟩
  have hv : Vv (S.rk b k).l.length (uo (S.rk b k).v i (S.v i)) := by
    refine vv_same h.h.v fun j hj => ?_
    unfold uo
    split
    · rename_i q; rw [q]
    · rename_i q
      have hne : S.l.getD j 0 ≠ b := fun e => q (same_at (some_of hj) e hi h.h.m.no)
      unfold HS.v HS.en
      rw [show (S.rk b k).ky ((S.rk b k).l.getD j 0) = S.ky (S.l.getD j 0) from upd_other _ _ hne]
      rfl
  refine (mend_S hm hil ⟨_, hv⟩).mono ?_
  rintro q w' ⟨rfl, N⟩
  obtain ⟨l', p1, p2, p3⟩ := N.hp hm hp h.h.hu h.h.hg h.h.gv h.h.ln
  have p1' : l'.Perm S.l := p1
  refine ⟨rfl, _, ⟨p2, ?_, h.g, ?_⟩, ((Kp.of_below (S := Fp hb S) b1).trans kK fun _ _ h => h).trans p3.kp fun k' hk' q => ?_, fun k' q => .inl ?_⟩
  · funext y
    have hky : ∀ c, ((S.rk b k).wl l').ky c = upd S.ky b k c := fun _ => rfl
    refine cont_eq p2.hu (fun k' q => ?_) (fun q c hc' => ?_)
    · unfold Ct.put at q
      split at q
      · rename_i ex
        exact ⟨b, p1'.mem_iff.2 h3, ex.symm, by rw [hky, upd_same]; exact Option.some.inj q⟩
      · rename_i ex
        rw [← h.c] at q
        obtain ⟨c, c1, c2, c3⟩ := cont_some q
        exact ⟨c, p1'.mem_iff.2 c1, c2, by rw [hky, upd_other _ _ (by rintro rfl; exact ex c2.symm)]; exact c3⟩
    · unfold Ct.put at q
      split at q
      · cases q
      · rw [← h.c] at q
        exact cont_none q c (p1'.mem_iff.1 hc')
  · show l'.length = n
    rw [p1'.length_eq, h.n]
  · exact q
  · rcases p3.fp k' q with q | q
    · exact q
    · have q2 : Fp hb ((S.rk b k).wl l') k' := by assumption
      rcases q2 with q2 | q2 | q2 | q2
      · exact .inl q2
      · exact .inr (.inl (p1'.mem_iff.1 q2))
      · exact .inr (.inr (.inl q2))
      · exact .inr (.inr (.inr q2))
end
end Go.Proofs.Ytbaffgkopgbknaa
