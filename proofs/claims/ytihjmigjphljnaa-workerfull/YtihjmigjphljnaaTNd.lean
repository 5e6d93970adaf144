/-
  Due.
-/
import Derived.Test.YtihjmigjphljnaaTNc
namespace Go.Proofs.Ytihjmigjphljnaa.Tk
open Go.RowKit Go.Maps Go.WideMaps

def pw (now : Int) (R : List Al) : List Al := R.takeWhile fun a => decide (a.at' ≤ now)
def dw (now : Int) (R : List Al) : List Al := R.dropWhile fun a => decide (a.at' ≤ now)
theorem pw_dw (now : Int) (R : List Al) : pw now R ++ dw now R = R := List.takeWhile_append_dropWhile
theorem flat_one' (l : List Al) : ∀ u ∈ flat l, u.oneCell' = true := by
  intro u hu
  obtain ⟨a, _, h⟩ := List.mem_flatMap.1 hu
  simp only [alv, List.mem_cons, List.not_mem_nil, or_false] at h
  rcases h with rfl | rfl <;> rfl
theorem append_al {ops : Array Oper} {rest : List Oper} {o : Oper} {a : Act} {Q : Exit → Act → World → Prop} {w : World} (hgd : o.guard = none) (s x : Operand) (ho : o.op = .call { callee := .builtin .append, args := #[s, x], argTypes := #[58, 58] }) (v : Value) (T : List Al) (n : Nat) (hn : T.length = n) (hs : a.eval s = v) (hown : Row w v T)
    (g off c m : Nat) (N : List Al) (hx : a.eval x = .slice (some ⟨g, off, none⟩) m c) (hl : N.length = m) (hm : RowV w g off (flat N)) (hb : n + m ≤ 4096)
    (h : ∀ v' w', Row w' v' (T ++ N) → w.grownBy w' v.ownBlock → (v'.ownBlock = v.ownBlock ∨ v'.ownBlock = some w.heap.size) → wpList Try.prog ops Q rest (a.put o.dst v') w') :
    wpList Try.prog ops Q (o :: rest) a w := by
  obtain ⟨i0, hi, hz0, hz1, hz2⟩ := info_parts info45
  refine wpList_append_own_at _ hgd s x 58 ho 0 79 i0 _ 2 24 Try.underlying58 hi hz0 hz1 hz2 rfl (by decide) v n (flat T) hs (by rw [← hn]; exact hown) ⟨g, off, none⟩ m c (flat N) hx (by rw [flat_length, hl]) (fun j u hj => ?_) (flat_one' N) (by unfold maxLen; omega) (by omega) (Nat.zero_le _) (fun v' w' h1 h2 _ h4 => h v' w' ?_ h2 h4)
  · rw [Addr.add_lit]
    exact hm j u hj
  · unfold Row
    rw [flat_append, List.length_append, hn, hl]
    exact h1
def sLen : Value → Nat
  | .slice _ n _ => n
  | _ => 0
structure Du (w0 w : World) (cb : Nat) (S : HS) (R : List Al) (now : Int) (v : Value) (T R' : List Al) (S' : HS) : Prop where
  e : R = T ++ R'
  t : ∀ a ∈ T, a.at' ≤ now
  r : Row w v T
  k : Ck w cb S' R'
  g : Chg cb S S' w0 w
  n : ∀ j, v.ownBlock = some j → w0.heap.size ≤ j ∧ ¬ Fp cb S' j
/-- what Due leaves -/
structure Dd (w w' : World) (cb : Nat) (S S' : HS) (v : Value) (T R' : List Al) : Prop where
  r : Row w' v T
  c : Cg w w' cb S S' R'
  n : ∀ j, v.ownBlock = some j → w.heap.size ≤ j ∧ ¬ Fp cb S' j
section
variable {w0 w w1 w' : World} {cb : Nat} {S S' S1 : HS} {R R' T : List Al} {now : Int} {v v' : Value}
theorem Du.done (h : Du w0 w cb S R now v T R' S') (hR : ∀ a, R'.head? = some a → now < a.at') : Dd w0 w cb S S' v (pw now R) (dw now R) := by
  have hd : R'.takeWhile (fun a => decide (a.at' ≤ now)) = [] ∧ R'.dropWhile (fun a => decide (a.at' ≤ now)) = R' := by
    cases R' with
    | nil => exact ⟨rfl, rfl⟩
    | cons a r =>
      have := hR a rfl
      have e : decide (a.at' ≤ now) = false := decide_eq_false (by omega)
      exact ⟨by simp [e], by simp [e]⟩
  have ht : ∀ a ∈ T, decide (a.at' ≤ now) = true := fun a ha => decide_eq_true (h.t a ha)
  have e1 : pw now R = T := by
    unfold pw
    rw [h.e, List.takeWhile_append_of_pos ht, hd.1, List.append_nil]
  have e2 : dw now R = R' := by
    unfold dw
    rw [h.e, List.dropWhile_append_of_pos ht, hd.2]
  rw [e1, e2]
  exact ⟨h.r, ⟨h.k, h.g⟩, h.n⟩
theorem Du.took (h : Du w0 w cb S R now v T R' S') {a : Al} {r : List Al} (hR : R' = a :: r) (hg : Gone w w1 cb S' a S1) (b : Below w1.heap.size w1 w') (ha : a.at' ≤ now) {w2 : World} (hr : Row w2 v' (T ++ [a])) (gr : w'.grownBy w2 v.ownBlock) (hv : v'.ownBlock = v.ownBlock ∨ v'.ownBlock = some w'.heap.size) : Du w0 w2 cb S R now v' (T ++ [a]) r S1 := by
  subst hR
  have kv : Kp (fun j => v.ownBlock = some j) w' w2 := Kp.of_grown gr fun j q => q
  have no : ∀ j, v.ownBlock = some j → ¬ Fp cb S1 j := fun j q q' => by
    rcases hg.g.fp j q' with q1 | q1
    · exact (h.n j q).2 q1
    · have := h.r.lt q
      omega
  have hfl : ∀ j, Fp cb S1 j → j < w1.heap.size := hg.c.m.lt
  have s0 := h.g.kp.size
  have s1 := hg.g.kp.size
  have s2 := b.size
  have k1 : Ck w1 cb S1 r := ⟨hg.c, (List.perm_cons a).1 (hg.p.symm.trans h.k.p), (List.pairwise_cons.1 h.k.s).2⟩
  refine ⟨by rw [h.e, List.append_assoc]; rfl, fun c hc => ?_, hr, (k1.below b).off kv fun j q q' => no j q' q, ?_, fun j q => ?_⟩
  · rcases List.mem_append.1 hc with q | q
    · exact h.t c q
    · rw [List.mem_singleton.1 q]; exact ha
  · have c1 := (h.g.trans hg.g).trans (Chg.of_below (S := S1) b)
    exact ⟨⟨kv.os.trans c1.kp.os, kv.tape.trans c1.kp.tape, kv.output.trans c1.kp.output, Nat.le_trans c1.kp.size kv.size, fun j hj hn => (kv.block j (by omega) fun q => by have := (h.n j q).1; omega).trans (c1.kp.block j hj hn)⟩, c1.fp, c1.nv⟩
  · rcases hv with q1 | q1
    · rw [q1] at q
      exact ⟨(h.n j q).1, no j q⟩
    · rw [q1] at q
      have := Option.some.inj q
      subst this
      exact ⟨by omega, fun q => by have := hfl _ q; omega⟩
end
theorem rowV_one {w : World} {a : Al} : RowV (w.alloc (.cells #[.string a.nm, .int .i64 a.at'] 79)) w.heap.size 0 (flat [a]) := by
  intro k x hk
  rw [cell_of new0]
  match k, hk with
  | 0, hk => simp [flat_one] at hk; subst hk; rfl
  | 1, hk => simp [flat_one] at hk; subst hk; rfl
  | k + 2, hk => simp [flat_one] at hk
set_option maxHeartbeats 1000000 in
theorem due_C {w : World} {cb : Nat} {S : HS} {R : List Al} (h : Hid (Ck w cb S R)) (now : Int) :
    Calls Try.prog 35 #[.pointer (some ⟨cb, 1, none⟩), .int .i64 now] w fun e w' => ∃ v S', e = .returned v ∧ Dd w w' cb S S' v (pw now R) (dw now R) := by
  have HM : Hid (R.length ≤ 1024) := h.out.sm
  go_enter Try.func35, Try.ntmps35
  go_wp2_with fail
  go_loopw [5] (fun t wr => ∃ T R' S', Hid (Du w wr cb S R now t T R' S')) (fun t _ => R.length - sLen t)
  case atStart => exact ⟨[], R, S, rfl, (fun a ha => by cases ha), Row.nil _, h.out, Chg.refl _ _ _, (fun j q => by cases q)⟩
  case round =>
    clear h
    obtain ⟨T, R', S', HD⟩ := hrel
    have HL : Hid (Calls Try.prog 46 #[.pointer (some ⟨cb, 1, none⟩)] wr fun e w' => e = .returned (.int .i64 R'.length) ∧ w' = wr) := len_C HD.out.k
    cases hR : R' with
    | nil =>
      rw [hR] at HL
      have HE : Hid (Dd w wr cb S S' u5 (pw now R) (dw now R)) := HD.out.done fun a ha => by rw [hR] at ha; cases ha
      clear HD hR
      go_wp2_with (go_at_call 46; refine HL.out.mono ?_; rintro e w1 ⟨rfl, rfl⟩)
      go_ret
      exact ⟨_, _, rfl, HE.out⟩
    | cons a r =>
      have hd : S'.l.head? = some a := by rw [HD.out.k.head, hR]; rfl
      have hl0 : S'.l[0]? = some a := by rw [← List.head?_eq_getElem?]; exact hd
      have hlen : 0 < S'.l.length := (List.getElem?_eq_some_iff.1 hl0).1
      obtain ⟨g, c, ev⟩ := HD.out.k.c.m.rw.row hlen
      have hRw := HD.out.k.c.m.rw
      rw [ev] at hRw
      have c0 : wr.cell? ⟨cb, 1, none⟩ = some (.slice (some ⟨g, 0, none⟩) S'.l.length c) := by rw [HD.out.k.c.m.c0, ev]
      have x1 : wr.cell? ⟨g, 1, none⟩ = some (.int .i64 a.at') := hRw.c1 (i := 0) hl0
      have hg0 : gt S'.l 0 = a := gt_of hl0
      have hn0 : (0 : Int) < (S'.l.length : Int) := by omega
      have hn1 : (0 : Int) < (R'.length : Int) := by rw [hR]; simp
      by_cases hle : a.at' ≤ now
      · have HT : Hid (Calls Try.prog 47 #[.pointer (some ⟨cb, 1, none⟩), .int .i64 0] wr fun e w' => e = .returned (.agg #[.string a.nm, .int .i64 a.at']) ∧ Hid (∃ S1, Gone wr w' cb S' a S1)) := by
          have := take_S (w := wr) (i := 0) (k := S'.l.length - 1) HD.out.k.c (show S'.l.length = S'.l.length - 1 + 1 by omega) (Nat.zero_le _)
          rw [hg0] at this
          exact this
        have HS : Hid (∀ w1 S1 v' w2, Gone wr w1 cb S' a S1 → Row w2 v' (T ++ [a]) → (w1.alloc (.cells #[.string a.nm, .int .i64 a.at'] 79)).grownBy w2 u5.ownBlock → (v'.ownBlock = u5.ownBlock ∨ v'.ownBlock = some (w1.alloc (.cells #[.string a.nm, .int .i64 a.at'] 79)).heap.size) → Du w w2 cb S R now v' (T ++ [a]) r S1) := fun w1 S1 v' w2 h1 h2 h3 h4 => HD.out.took hR h1 ((Below.refl _ _).alloc (Nat.le_refl _) _) hle h2 h3 h4
        have HK : Hid (∀ w1 S1, Gone wr w1 cb S' a S1 → Row (w1.alloc (.cells #[.string a.nm, .int .i64 a.at'] 79)) u5 T) := fun w1 S1 h1 => by
          refine (HD.out.r.keep fun j q => h1.g.kp.block j (HD.out.r.lt q) (HD.out.n j q).2).below ((Below.refl _ _).alloc (Nat.le_refl _) _)
        have HN : Hid (T.length + 1 ≤ R.length) := by rw [HD.out.e, hR]; simp [Hid]
        obtain ⟨uq, uc, eu⟩ := HD.out.r.shape
        have hle' : decide (a.at' ≤ now) = true := decide_eq_true hle
        clear hl0 hd hRw hR hle hlen hg0 ev
        subst eu
        obtain ⟨an, aa⟩ := a
        simp only at *
        go_upto_region 3 with (go_at_call 46; refine HL.out.mono ?_; rintro e w1 ⟨rfl, rfl⟩)
        go_wp2_with (first | (go_at_call 47; refine HT.out.mono ?_; rintro e w1 ⟨rfl, hq⟩; obtain ⟨S1, HQ⟩ := hq.out; clear hq; have HQ' : Hid _ := HQ; clear HQ) | (at_builtin; refine append_al (w := w1.alloc (.cells #[.string an, .int .i64 aa] 79)) rfl _ _ rfl (.slice uq T.length uc) T T.length rfl rfl (HK.out _ _ HQ'.out) w1.heap.size 0 1 1 [⟨an, aa⟩] rfl rfl rowV_one (by have := HN.out; have := HM.out; omega) ?_; intro v' w4 h1 h2 h4))
        have h5 := HS.out _ _ _ _ HQ'.out h1 h2 h4
        obtain ⟨vq, vc, ev⟩ := h1.shape
        refine ⟨⟨_, _, _, h5⟩, ?_⟩
        rw [ev, List.length_append]
        have := HN.out
        simp [sLen]
        omega
      · have HE : Hid (Dd w wr cb S S' u5 (pw now R) (dw now R)) := HD.out.done fun b hb => by
          rw [hR] at hb
          have := Option.some.inj hb
          subst this
          omega
        have hle' : decide (a.at' ≤ now) = false := decide_eq_false hle
        clear hl0 hd hRw hR hle hlen hg0 ev HD
        obtain ⟨an, aa⟩ := a
        simp only at *
        go_wp2_with (go_at_call 46; refine HL.out.mono ?_; rintro e w1 ⟨rfl, rfl⟩)
        go_ret
        exact ⟨_, _, rfl, HE.out⟩
theorem due_nil (w : World) (now : Int) : Calls Try.prog 35 #[.pointer none, .int .i64 now] w fun e w' => e = .returned (.slice none 0 0) ∧ w' = w := by
  have HL : Hid (Calls Try.prog 46 #[.pointer none] w fun e w' => e = .returned (.int .i64 0) ∧ w' = w) := len_nil w
  go_enter Try.func35, Try.ntmps35
  go_wp2_with fail
  refine wp_loop_rounds 2 ?_
  rw [rounds_succ]
  go_wp2_with (go_at_call 46; refine HL.out.mono ?_; rintro e w1 ⟨rfl, rfl⟩)
  go_ret
  exact ⟨rfl, rfl⟩
end Go.Proofs.Ytihjmigjphljnaa.Tk
