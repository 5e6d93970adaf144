/-
  The heap's find, Get, Decrease.
-/
import Derived.Test.YtmcmldlnmmbbgaaPs
namespace Go.Proofs.Ytmcmldlnmmbbgaa
open Go.RowKit Go.Maps

theorem zero68 (w : World) : (zeroValue 68).run Try.prog w = .ok (.pointer none) w := by kernel_rfl
section
variable {w w' : World} {tg tg' : Nat → Tg} {hb : Nat} {S S' : HS} {κ : Nat → K}
theorem look_S (h : Mp w tg S) (x : Int) (hx : (Lit.int .i64 x).wf = true) : (Instr.lookup 64 (.map S.mb) (.int .i64 x) false).run Try.prog w = .ok (optp (S.at x)) w := by
  have hkey : keyOf Try.prog 3 (.int .i64 x) = some (.int .i64 x) := keyOf_int_mk Try.underlying3 hx
  unfold Mp at h
  cases hm : S.mb with
  | none =>
    rw [hm] at h
    have hX : S.X = [] := h
    have hn : S.at x = none := by unfold HS.at; rw [hX]; rfl
    rw [hn]
    have := Maps.look_nil (w := w) false law3 Try.underlying64 (zero68 w) hkey
    simpa [optp] using this
  | some m =>
    rw [hm] at h
    obtain ⟨M, hM⟩ := h
    obtain ⟨v, ps, hr, hv⟩ := hM.o.lookup law3 Try.underlying64 (zero68 w) (zd := .nil) (zp := []) rfl hkey
    rw [hM.a] at hv
    rw [hr]
    cases hf : S.at x with
    | none => rw [hf] at hv; rw [pE_nil hv]; rfl
    | some b => rw [hf] at hv; rw [pE_held hv]; rfl
set_option maxHeartbeats 400000 in
theorem find_raw (x : Int) (hb : Nat) (mb : Option Nat) (r : Value) (c1 : w.cell? ⟨hb, 1, none⟩ = some (.map mb)) (hr : (Instr.lookup 64 (.map mb) (.int .i64 x) false).run Try.prog w = .ok r w) : Calls Try.prog 36 #[.pointer (some ⟨hb, 0, none⟩), .int .i64 x] w fun e w' => e = .returned r ∧ w' = w := by
  go_enter Try.func36, Try.ntmps36
  go_wp2_with fail
  go_ret
  exact ⟨rfl, rfl⟩
theorem find_S (hm : Mem w tg hb S) (h : Mp w tg S) (x : Int) (hx : (Lit.int .i64 x).wf = true) : Calls Try.prog 36 #[.pointer (some ⟨hb, 0, none⟩), .int .i64 x] w fun e w' => e = .returned (optp (S.at x)) ∧ w' = w :=
  find_raw x hb S.mb _ (hm.hp.cell 1 (by decide)) (look_S h x hx)
set_option maxHeartbeats 400000 in
theorem get_none (x : Int) (hb : Nat) (H36 : Hid (∀ w1, Below w.heap.size w w1 → Calls Try.prog 36 #[.pointer (some ⟨hb, 0, none⟩), .int .i64 x] w1 fun e w' => e = .returned (.pointer none) ∧ w' = w1)) : Calls Try.prog 18 #[.pointer (some ⟨hb, 0, none⟩), .int .i64 x] w fun e w' => e = .returned (.tuple #[ktup 0 0 0, .int .i64 3]) ∧ Below w.heap.size w w' := by
  have B0 : Below w.heap.size w (w.alloc (.cells #[.int .u64 0, .int .u64 0, .int .i64 0] 37)) := (Below.refl _ w).alloc (Nat.le_refl _) _
  have H := H36.out _ B0
  clear B0
  go_enter Try.func18, Try.ntmps18
  go_wp2_with (go_at_call 36; refine H.mono ?_; rintro e w1 ⟨rfl, rfl⟩)
  refine bodyPost_ret (v := .tuple #[ktup 0 0 0, .int .i64 3]) (by rw [results_cell_tmp rfl]; go_simp; rfl) rfl ?_
  exact ⟨rfl, by go_grown⟩
set_option maxHeartbeats 400000 in
theorem get_some (x : Int) (hb b n d : Nat) (t : Int) (H36 : Hid (∀ w1, Below w.heap.size w w1 → Calls Try.prog 36 #[.pointer (some ⟨hb, 0, none⟩), .int .i64 x] w1 fun e w' => e = .returned (.pointer (some ⟨b, 0, none⟩)) ∧ w' = w1)) (c1 : w.cell? ⟨b, 1, none⟩ = some (.int .u64 n)) (c2 : w.cell? ⟨b, 2, none⟩ = some (.int .u64 d)) (c3 : w.cell? ⟨b, 3, none⟩ = some (.int .i64 t)) : Calls Try.prog 18 #[.pointer (some ⟨hb, 0, none⟩), .int .i64 x] w fun e w' => e = .returned (.tuple #[ktup n d t, .int .i64 0]) ∧ Below w.heap.size w w' := by
  have B0 : Below w.heap.size w (w.alloc (.cells #[.int .u64 0, .int .u64 0, .int .i64 0] 37)) := (Below.refl _ w).alloc (Nat.le_refl _) _
  have H := H36.out _ B0
  have k1 := keep1c' B0 c1
  have k2 := keep1c' B0 c2
  have k3 := keep1c' B0 c3
  clear B0 c1 c2 c3
  go_enter Try.func18, Try.ntmps18
  go_wp2_with (go_at_call 36; refine H.mono ?_; rintro e w1 ⟨rfl, rfl⟩)
  refine bodyPost_ret (v := .tuple #[ktup n d t, .int .i64 0]) (by rw [results_cell_tmp rfl]; go_simp; rfl) rfl ?_
  exact ⟨rfl, by go_grown⟩
/-! ### a key made less -/
theorem el_mono {a a' b : K} {x y : Nat} (ha : a.d ≠ 0) (ha' : a'.d ≠ 0) (hb : b.d ≠ 0) (hle : ¬ kl a' a) (h : el a' x b y) : el a x b y := by
  rcases kl_tri a a' with q | q | q
  · rcases h with h | ⟨h, _⟩
    · exact .inl (q.trans ha ha' hb h)
    · exact .inl (q.ke ha ha' hb h)
  · rcases h with h | ⟨h, h2⟩
    · exact .inl (q.kl ha ha' hb h)
    · exact .inr ⟨q.trans ha' h, h2⟩
  · exact absurd q hle
theorem Inv.rekey {S : HS} {κ : Nat → K} (hI : Inv (S.wky κ) none []) {b : Nat} {k : K} (hk : S.ky = upd κ b k) (hok : k.ok) (hb : b ∈ S.X) (hle : ¬ kl (κ b) k) (ho : ∀ p, S.pl b = some (.kd p) → S.lt p b) : Inv S none [] := by
  refine ⟨⟨hI.lc.fam, hI.lc.plc, hI.lc.slf⟩, hI.all, hI.out, hI.rt, hI.kd, fun c hc p q => ?_, hI.dl, hI.dg, hI.nd, hI.hu, hI.hg, fun a ha => ?_, hI.gb⟩
  · by_cases e : c = b
    · subst e; exact ho p q
    · have old : el (κ p) (S.hd p) (κ c) (S.hd c) := hI.ord c hc p q
      have hpX : p ∈ S.X := (hI.lc.plc c hc _ q).1
      unfold HS.lt
      rw [hk, upd_other _ _ e]
      by_cases ep : p = b
      · subst ep
        rw [upd_same]
        exact el_mono hok.z (hI.ok p hpX).z (hI.ok c hc).z hle old
      · rw [upd_other _ _ ep]; exact old
  · rw [hk]
    by_cases e : a = b
    · subst e; rw [upd_same]; exact hok
    · rw [upd_other _ _ e]; exact hI.ok a ha
theorem Seen.rekey (h : Seen S (· ∈ S.X)) (hok : ∀ a ∈ S.X, (S.ky a).ok) {b : Nat} {k : K} (hk : S'.ky = upd S.ky b k) (hkk : k.ok) (hX : S'.X = S.X) (hd : S'.hd = S.hd) (hl : S'.lst = S.lst) (hb : b ∈ S.X) (hle : ¬ kl (S.ky b) k) : Seen S' (fun c => c ∈ S.X ∧ c ≠ b) := by
  refine ⟨fun m q => ?_, fun q c hc => h.none (by rw [← hl]; exact q) c hc.1⟩
  rw [hl] at q
  obtain ⟨h1, h2⟩ := h.some m q
  refine ⟨by rw [hX]; exact h1, fun c ⟨hc, hcb⟩ => ?_⟩
  rcases h2 c hc with q2 | q2
  · exact .inl q2
  · right
    unfold HS.lt at q2 ⊢
    rw [hk, hd, upd_other _ _ hcb]
    by_cases e : m = b
    · subst e
      rw [upd_same]
      exact el_mono hkk.z (hok m h1).z (hok c hc).z hle q2
    · rw [upd_other _ _ e]; exact q2
theorem Mem.setKey (h : Mem w tg hb S) {b : Nat} (hb' : b ∈ S.X) (k : K) : Mem (((w.setCell ⟨b, 1, none⟩ (.int .u64 k.n)).setCell ⟨b, 2, none⟩ (.int .u64 k.d)).setCell ⟨b, 3, none⟩ (.int .i64 k.t)) tg hb { S with ky := upd S.ky b k } := by
  have hk : Kp (· = b) w (((w.setCell ⟨b, 1, none⟩ (.int .u64 k.n)).setCell ⟨b, 2, none⟩ (.int .u64 k.d)).setCell ⟨b, 3, none⟩ (.int .i64 k.t)) := ((Kp.of_set (S := (· = b)) w ⟨b, 1, none⟩ _ rfl).trans (Kp.of_set (S := (· = b)) _ ⟨b, 2, none⟩ _ rfl) fun _ _ h => h).trans (Kp.of_set (S := (· = b)) _ ⟨b, 3, none⟩ _ rfl) fun _ _ h => h
  refine h.node hb' hk _ rfl rfl rfl rfl (fun c hc => ?_) (((((h.nd b hb').set 1 _).set 2 _).set 3 _).same fun j hj => ?_)
  · funext j
    unfold HS.ndC
    simp only
    rw [upd_other _ _ hc]
  · unfold fset HS.ndC
    simp only
    by_cases e1 : j = 1
    · subst e1; simp [upd_same]
    by_cases e2 : j = 2
    · subst e2; simp [upd_same]
    by_cases e3 : j = 3
    · subst e3; simp [upd_same]
    simp [e1, e2, e3]
/-- what Decrease does behind the store of the key -/
def DecP (hb b : Nat) (par : Option Nat) (R : World → Prop) (W : World) : Prop := match par with
  | none => Calls Try.prog 33 #[.pointer (some ⟨hb, 0, none⟩), .pointer (some ⟨b, 0, none⟩)] W fun e w' => e = .returned (.tuple #[]) ∧ Hid (R w')
  | some p => ∃ q : Bool, Calls Try.prog 38 #[.pointer (some ⟨b, 0, none⟩), .pointer (some ⟨p, 0, none⟩)] W fun e w1 => e = .returned (.bool q) ∧ Hid (match q with
    | true => Calls Try.prog 39 #[.pointer (some ⟨hb, 0, none⟩), .pointer (some ⟨b, 0, none⟩)] w1 fun e w2 => e = .returned (.tuple #[]) ∧ Hid (Calls Try.prog 33 #[.pointer (some ⟨hb, 0, none⟩), .pointer (some ⟨b, 0, none⟩)] w2 fun e w' => e = .returned (.tuple #[]) ∧ Hid (R w'))
    | false => Calls Try.prog 33 #[.pointer (some ⟨hb, 0, none⟩), .pointer (some ⟨b, 0, none⟩)] w1 fun e w' => e = .returned (.tuple #[]) ∧ Hid (R w'))
structure DecF (w1 : World) (b : Nat) (old k : K) (hb : Nat) (par : Option Nat) (R : World → Prop) : Prop where
  c1 : w1.cell? ⟨b, 1, none⟩ = some (.int .u64 old.n)
  c2 : w1.cell? ⟨b, 2, none⟩ = some (.int .u64 old.d)
  c3 : w1.cell? ⟨b, 3, none⟩ = some (.int .i64 old.t)
  f1 : w1.frozen? ⟨b, 1, none⟩ = false
  f2 : w1.frozen? ⟨b, 2, none⟩ = false
  f3 : w1.frozen? ⟨b, 3, none⟩ = false
  c4 : (((w1.setCell ⟨b, 1, none⟩ (.int .u64 k.n)).setCell ⟨b, 2, none⟩ (.int .u64 k.d)).setCell ⟨b, 3, none⟩ (.int .i64 k.t)).cell? ⟨b, 4, none⟩ = some (optp par)
  p : DecP hb b par R (((w1.setCell ⟨b, 1, none⟩ (.int .u64 k.n)).setCell ⟨b, 2, none⟩ (.int .u64 k.d)).setCell ⟨b, 3, none⟩ (.int .i64 k.t))
theorem keep6' {w w1 : World} {x y : Nat} {a b : K} (hb : Below w.heap.size w w1) (q : w.cell? ⟨x, 0, none⟩ = some (.int .u64 a.n) ∧ w.cell? ⟨x, 1, none⟩ = some (.int .u64 a.d) ∧ w.cell? ⟨x, 2, none⟩ = some (.int .i64 a.t) ∧ w.cell? ⟨y, 1, none⟩ = some (.int .u64 b.n) ∧ w.cell? ⟨y, 2, none⟩ = some (.int .u64 b.d) ∧ w.cell? ⟨y, 3, none⟩ = some (.int .i64 b.t)) :
    w1.cell? ⟨x, 0, none⟩ = some (.int .u64 a.n) ∧ w1.cell? ⟨x, 1, none⟩ = some (.int .u64 a.d) ∧ w1.cell? ⟨x, 2, none⟩ = some (.int .i64 a.t) ∧ w1.cell? ⟨y, 1, none⟩ = some (.int .u64 b.n) ∧ w1.cell? ⟨y, 2, none⟩ = some (.int .u64 b.d) ∧ w1.cell? ⟨y, 3, none⟩ = some (.int .i64 b.t) := by
  obtain ⟨q0, q1, q2, q3, q4, q5⟩ := q
  exact ⟨keep1c' hb q0, keep1c' hb q1, keep1c' hb q2, keep1c' hb q3, keep1c' hb q4, keep1c' hb q5⟩
set_option maxHeartbeats 4000000 in
theorem dec_raw (w : World) (hb b : Nat) (x : Int) (k old : K) (par : Option Nat) (o : Int) (R : World → Prop) (ho : ¬ (0 : Int) < o)
    (H36 : Hid (∀ w1, Below w.heap.size w w1 → Calls Try.prog 36 #[.pointer (some ⟨hb, 0, none⟩), .int .i64 x] w1 fun e w' => e = .returned (.pointer (some ⟨b, 0, none⟩)) ∧ w' = w1))
    (H30 : Hid (∀ w, Calls Try.prog 30 #[.agg #[.int .u64 k.n, .int .u64 k.d, .int .i64 k.t]] w fun e w' => e = .returned (.bool true) ∧ Below w.heap.size w w'))
    (H37 : Hid (∀ w, Calls Try.prog 37 #[.agg #[.int .u64 k.n, .int .u64 k.d, .int .i64 k.t], .agg #[.int .u64 old.n, .int .u64 old.d, .int .i64 old.t]] w fun e w' => e = .returned (.int .i64 o) ∧ Below w.heap.size w w'))
    (HF : Hid (∀ w1, Below w.heap.size w w1 → DecF w1 b old k hb par R)) :
    Calls Try.prog 19 #[.pointer (some ⟨hb, 0, none⟩), .int .i64 x, .agg #[.int .u64 k.n, .int .u64 k.d, .int .i64 k.t]] w fun e w' => e = .returned (.int .i64 0) ∧ R w' := by
  go_enter Try.func19, Try.ntmps19
  go_upto_region 1 with fail
  have K0 : (w.alloc (.cells #[.int .u64 k.n, .int .u64 k.d, .int .i64 k.t] 37)).heap[w.heap.size]? = some (.cells #[.int .u64 k.n, .int .u64 k.d, .int .i64 k.t] 37 (0, 0)) := new0
  have B0 : Below w.heap.size w (w.alloc (.cells #[.int .u64 k.n, .int .u64 k.d, .int .i64 k.t] 37)) := by go_grown
  generalize w.alloc (.cells #[.int .u64 k.n, .int .u64 k.d, .int .i64 k.t] 37) = W0 at *
  have H1 := H36.out W0 B0
  obtain ⟨k0, k1, k2⟩ := c3 K0
  go_upto_region 6 with (first | (go_at_call 36; refine H1.mono ?_; rintro e w1 ⟨rfl, rfl⟩) | (go_at_call 30; refine (H30.out _).mono ?_; rintro e w2 ⟨rfl, b2⟩; have K2 : Hid (w2.heap[w.heap.size]? = some (.cells #[.int .u64 k.n, .int .u64 k.d, .int .i64 k.t] 37 (0, 0))) := at_below b2 (Nat.le_refl _) K0; have B2 : Hid (Below w.heap.size w w2) := B0.trans (b2.mono B0.size); clear k0 k1 k2 K0 B0 b2))
  have D2 := HF.out w2 B2.out
  have hc6 : w2.cell? ⟨w.heap.size, 0, none⟩ = some (.int .u64 k.n) ∧ w2.cell? ⟨w.heap.size, 1, none⟩ = some (.int .u64 k.d) ∧ w2.cell? ⟨w.heap.size, 2, none⟩ = some (.int .i64 k.t) ∧ w2.cell? ⟨b, 1, none⟩ = some (.int .u64 old.n) ∧ w2.cell? ⟨b, 2, none⟩ = some (.int .u64 old.d) ∧ w2.cell? ⟨b, 3, none⟩ = some (.int .i64 old.t) := by
    obtain ⟨a0, a1, a2⟩ := c3 K2.out
    exact ⟨a0, a1, a2, D2.c1, D2.c2, D2.c3⟩
  clear D2
  go_region_held3 (fun w' : World => w'.cell? ⟨w.heap.size, 0, none⟩ = some (.int .u64 k.n) ∧ w'.cell? ⟨w.heap.size, 1, none⟩ = some (.int .u64 k.d) ∧ w'.cell? ⟨w.heap.size, 2, none⟩ = some (.int .i64 k.t) ∧ w'.cell? ⟨b, 1, none⟩ = some (.int .u64 old.n) ∧ w'.cell? ⟨b, 2, none⟩ = some (.int .u64 old.d) ∧ w'.cell? ⟨b, 3, none⟩ = some (.int .i64 old.t)) (repeat' (first | (with_reducible assumption) | (with_reducible refine keep6' b3 ?_) | (with_reducible refine keep1c' b3 ?_) | go_keep)) (first | (go_at_call 37; refine (H37.out _).mono ?_; rintro e w3 ⟨rfl, b3⟩; have y3 := below_from (B := w2.heap.size) (w := w2) (by go_grown) b3 (by simp)))
  have B3 : Hid (Below w.heap.size w w3) := B2.out.trans (y3.mono B2.out.size)
  have K3 : Hid (w3.heap[w.heap.size]? = some (.cells #[.int .u64 k.n, .int .u64 k.d, .int .i64 k.t] 37 (0, 0))) := at_below y3 (Nat.le_refl _) K2.out
  obtain ⟨d1, d2, d3, f1, f2, f3', d4, hP⟩ := HF.out w3 B3.out
  have HP : Hid (DecP hb b par R (((w3.setCell ⟨b, 1, none⟩ (.int .u64 k.n)).setCell ⟨b, 2, none⟩ (.int .u64 k.d)).setCell ⟨b, 3, none⟩ (.int .i64 k.t))) := hP
  have D4 : Hid ((((w3.setCell ⟨b, 1, none⟩ (.int .u64 k.n)).setCell ⟨b, 2, none⟩ (.int .u64 k.d)).setCell ⟨b, 3, none⟩ (.int .i64 k.t)).cell? ⟨b, 4, none⟩ = some (optp par)) := d4
  obtain ⟨a0, a1, a2⟩ := c3 K3.out
  clear hP d4 y3 b3 hc6 B2 K2 HF H36 H30 H37
  go_upto_region 9 with fail
  generalize ((w3.setCell ⟨b, 1, none⟩ (.int .u64 k.n)).setCell ⟨b, 2, none⟩ (.int .u64 k.d)).setCell ⟨b, 3, none⟩ (.int .i64 k.t) = W4 at *
  clear d1 d2 d3 f1 f2 f3' a0 a1 a2
  have d4 := D4.out
  have hP := HP.out
  unfold DecP at hP
  cases par with
  | none =>
    unfold optp at d4
    go_wp2_with (go_at_call 33; refine hP.mono ?_; rintro e w5 ⟨rfl, H5⟩)
    go_ret
    exact ⟨rfl, H5.out⟩
  | some p =>
    unfold optp ptr at d4
    obtain ⟨q, hP⟩ := hP
    cases q with
    | false =>
      go_wp2_with (first | (go_at_call 38; refine hP.mono ?_; rintro e w5 ⟨rfl, H5⟩) | (go_at_call 33; refine H5.out.mono ?_; rintro e w6 ⟨rfl, H6⟩))
      go_ret
      exact ⟨rfl, H6.out⟩
    | true =>
      go_wp2_with (first | (go_at_call 38; refine hP.mono ?_; rintro e w5 ⟨rfl, H5⟩) | (go_at_call 39; refine H5.out.mono ?_; rintro e w6 ⟨rfl, H6⟩) | (go_at_call 33; refine H6.out.mono ?_; rintro e w7 ⟨rfl, H7⟩))
      go_ret
      exact ⟨rfl, H7.out⟩
end
end Go.Proofs.Ytmcmldlnmmbbgaa
