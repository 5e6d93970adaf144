/-
  Set, Cancel.
-/
import Derived.Test.YtihjmigjphljnaaTNa
import Derived.Test.YtihjmigjphljnaaTNb
namespace Go.Proofs.Ytihjmigjphljnaa.Tk
open Go.RowKit Go.Maps Go.WideMaps

theorem set_nil (w : World) (s : ByteArray) (x : Int) : Calls Try.prog 44 #[.pointer none, .string s, .int .i64 x] w fun e w' => e = .returned (.int .i64 10) ∧ w' = w := by
  go_enter Try.func44, Try.ntmps44
  go_wp2_with fail
  go_ret
  exact ⟨rfl, rfl⟩
set_option maxHeartbeats 400000 in
theorem set_old (w : World) (cb g n c i : Nat) (s : ByteArray) (x z : Int) (hi : i < n) (c0 : w.cell? ⟨cb, 1, none⟩ = some (.slice (some ⟨g, 0, none⟩) n c)) (x1 : w.cell? ⟨g, i * 2 + 1, none⟩ = some (.int .i64 z)) (f1 : w.frozen? ⟨g, i * 2 + 1, none⟩ = false) (Q : World → Prop)
    (H : Hid (Calls Try.prog 53 #[.pointer (some ⟨cb, 1, none⟩), .string s] w fun e w' => e = .returned (.tuple #[.int .i64 i, .bool true]) ∧ w' = w))
    (HF : Hid (Calls Try.prog 54 #[.iface 100 (.agg #[.pointer (some ⟨cb, 1, none⟩)]), .int .i64 i] (w.setCell ⟨g, i * 2 + 1, none⟩ (.int .i64 x)) fun e w' => e = .returned (.tuple #[]) ∧ Q w')) :
    Calls Try.prog 44 #[.pointer (some ⟨cb, 1, none⟩), .string s, .int .i64 x] w fun e w' => e = .returned (.int .i64 0) ∧ Q w' := by
  have hi' : (i : Int) < (n : Int) := by omega
  go_enter Try.func44, Try.ntmps44
  go_wp2_with (first | (go_at_call 53; refine H.out.mono ?_; rintro e w1 ⟨rfl, rfl⟩) | (go_at_call 54; refine HF.out.mono ?_; rintro e w2 ⟨rfl, hq⟩))
  go_ret
  exact ⟨rfl, hq⟩
set_option maxHeartbeats 400000 in
theorem set_full (w : World) (cb : Nat) (s : ByteArray) (x : Int) (n : Nat) (hn : n = 1024)
    (H : Hid (Calls Try.prog 53 #[.pointer (some ⟨cb, 1, none⟩), .string s] w fun e w' => e = .returned (.tuple #[.int .i64 0, .bool false]) ∧ w' = w))
    (HL : Hid (Calls Try.prog 46 #[.pointer (some ⟨cb, 1, none⟩)] w fun e w' => e = .returned (.int .i64 (n : Nat)) ∧ w' = w)) :
    Calls Try.prog 44 #[.pointer (some ⟨cb, 1, none⟩), .string s, .int .i64 x] w fun e w' => e = .returned (.int .i64 6) ∧ w' = w := by
  subst hn
  go_enter Try.func44, Try.ntmps44
  go_wp2_with (first | (go_at_call 53; refine H.out.mono ?_; rintro e w1 ⟨rfl, rfl⟩) | (go_at_call 46; refine HL.out.mono ?_; rintro e w2 ⟨rfl, rfl⟩))
  go_ret
  exact ⟨rfl, rfl⟩
set_option maxHeartbeats 400000 in
theorem set_new (w : World) (cb : Nat) (s : ByteArray) (x : Int) (n : Int) (hn : n < 1024) (Q : World → Prop)
    (H : Hid (Calls Try.prog 53 #[.pointer (some ⟨cb, 1, none⟩), .string s] w fun e w' => e = .returned (.tuple #[.int .i64 0, .bool false]) ∧ w' = w))
    (HL : Hid (Calls Try.prog 46 #[.pointer (some ⟨cb, 1, none⟩)] w fun e w' => e = .returned (.int .i64 n) ∧ w' = w))
    (HC : Hid (Calls Try.prog 34 #[.string s] w fun e w' => e = .returned (.string s) ∧ Below w.heap.size w w'))
    (HP : Hid (∀ W, Below w.heap.size w W → Calls Try.prog 55 #[.iface 100 (.agg #[.pointer (some ⟨cb, 1, none⟩)]), .iface 79 (.agg #[.string s, .int .i64 x])] W fun e w' => e = .returned (.tuple #[]) ∧ Q w')) :
    Calls Try.prog 44 #[.pointer (some ⟨cb, 1, none⟩), .string s, .int .i64 x] w fun e w' => e = .returned (.int .i64 0) ∧ Q w' := by
  have hn' : decide ((1024 : Int) ≤ n) = false := decide_eq_false (by omega)
  go_enter Try.func44, Try.ntmps44
  go_wp2_with (first | (go_at_call 53; refine H.out.mono ?_; rintro e w1 ⟨rfl, rfl⟩) | (go_at_call 46; refine HL.out.mono ?_; rintro e w2 ⟨rfl, rfl⟩) | (go_at_call 34; refine HC.out.mono ?_; rintro e w3 ⟨rfl, b3⟩) | (go_at_call 55; refine (HP.out _ b3).mono ?_; rintro e w4 ⟨rfl, hq⟩))
  go_ret
  exact ⟨rfl, hq⟩
/-! ### a clock that holds a list in order -/
structure Ck (w : World) (cb : Nat) (S : HS) (R : List Al) : Prop where
  c : Cl w cb S
  p : S.l.Perm R
  s : Srt R
section
variable {w w' : World} {cb : Nat} {S S' : HS} {R : List Al}
theorem Ck.nod (h : Ck w cb S R) : Nod R := nod_perm h.p h.c.m.no
theorem Ck.len (h : Ck w cb S R) : S.l.length = R.length := h.p.length_eq
theorem Ck.sm (h : Ck w cb S R) : R.length ≤ 1024 := by rw [← h.len]; exact h.c.m.sm
theorem Ck.below (h : Ck w cb S R) (b : Below w.heap.size w w') : Ck w' cb S R := ⟨⟨h.c.m.below b, h.c.h⟩, h.p, h.s⟩
theorem Ck.off (h : Ck w cb S R) {T : Nat → Prop} (k : Kp T w w') (hT : ∀ j, Fp cb S j → ¬ T j) : Ck w' cb S R := ⟨⟨h.c.m.off k hT, h.c.h⟩, h.p, h.s⟩
theorem Ck.head (h : Ck w cb S R) : S.l.head? = R.head? := by
  cases hR : R with
  | nil => have := h.p; rw [hR] at this; rw [List.perm_nil.1 this]
  | cons a r =>
    cases hl : S.l with
    | nil => have := h.p; rw [hR, hl] at this; exact absurd (List.nil_perm.1 this) (by simp)
    | cons b t =>
      have hb : b ∈ R := h.p.mem_iff.1 (by rw [hl]; simp)
      have ha : a ∈ S.l := h.p.mem_iff.2 (by rw [hR]; simp)
      obtain ⟨i, hi⟩ := List.getElem?_of_mem ha
      have hil := (List.getElem?_eq_some_iff.1 hi).1
      have h0 : gt S.l 0 = b := by rw [hl]; rfl
      have q1 : le b a := by rw [← h0, ← gt_of hi]; exact hp_min h.c.h i hil
      have hs := h.s
      rw [hR] at hs hb
      rcases List.mem_cons.1 hb with q | q
      · rw [q]; rfl
      · exact absurd ((List.pairwise_cons.1 hs).1 b q) (le_iff.1 q1)
/-- what a call leaves -/
structure Cg (w w' : World) (cb : Nat) (S S' : HS) (R : List Al) : Prop where
  c : Ck w' cb S' R
  g : Chg cb S S' w w'
def setC (s : List UInt8) (R : List Al) : Int := if (fnd s R).isNone && decide (1024 ≤ R.length) then 6 else 0
def setR (s : ByteArray) (x : Int) (R : List Al) : List Al := if (fnd s.data.toList R).isNone && decide (1024 ≤ R.length) then R else ins ⟨s, x⟩ (drp s.data.toList R)
theorem mem_set_names {l : List Al} {i : Nat} {a b : Al} (hi : l[i]? = some b) (hk : a.k = b.k) (s : List UInt8) : plc s (l.set i a) = plc s l := by
  unfold plc
  induction l generalizing i with
  | nil => rfl
  | cons c r ih =>
    cases i with
    | zero =>
      simp at hi
      subst hi
      rw [List.set_cons_zero, List.findIdx?_cons, List.findIdx?_cons, hk]
    | succ i =>
      rw [List.set_cons_succ, List.findIdx?_cons, List.findIdx?_cons, ih (by simpa using hi)]
theorem set_perm {l : List Al} (hn : Nod l) {i : Nat} {a b : Al} (hi : l[i]? = some b) (hk : a.k = b.k) : (l.set i a).Perm (a :: drp a.k l) := by
  rw [hk]
  induction l generalizing i with
  | nil => simp at hi
  | cons c r ih =>
    have h1 := List.pairwise_cons.1 hn
    cases i with
    | zero =>
      simp at hi
      subst hi
      have e : drp c.k (c :: r) = r := by
        unfold drp
        rw [List.filter_cons_of_neg (by simp)]
        exact drp_none fun d hd e => h1.1 d hd e.symm
      rw [e]
      exact .refl _
    | succ i =>
      have hi' : r[i]? = some b := by simpa using hi
      have e : drp b.k (c :: r) = c :: drp b.k r := by
        unfold drp
        rw [List.filter_cons_of_pos (by simpa using h1.1 b (List.mem_of_getElem? hi'))]
      rw [e, List.set_cons_succ]
      exact ((ih h1.2 hi').cons c).trans (.swap _ _ _)
theorem nod_set {l : List Al} (hn : Nod l) {i : Nat} {a b : Al} (hi : l[i]? = some b) (hk : a.k = b.k) : Nod (l.set i a) := by
  refine nod_perm (set_perm hn hi hk).symm (List.pairwise_cons.2 ⟨fun c hc e => ?_, nod_drp hn⟩)
  exact (mem_drp.1 hc).2 e.symm
theorem drp_perm {l l' : List Al} (p : l.Perm l') (n : List UInt8) : (drp n l).Perm (drp n l') := p.filter _
theorem set_same {l : List Value} {i : Nat} {v : Value} (h : l[i]? = some v) : l.set i v = l := by
  obtain ⟨h1, h2⟩ := List.getElem?_eq_some_iff.1 h
  rw [← h2]
  exact List.set_getElem_self h1
theorem Row.retime {l : List Al} {g n c i : Nat} (h : Row w (.slice (some ⟨g, 0, none⟩) n c) l) {b : Al} (hi : l[i]? = some b) (x : Int) : Row (w.setCell ⟨g, i * 2 + 1, none⟩ (.int .i64 x)) (.slice (some ⟨g, 0, none⟩) n c) (l.set i ⟨b.nm, x⟩) := by
  refine ⟨by rw [flat_length], ?_⟩
  rcases h.2 with ⟨e, _⟩ | ⟨g', cap, cur, e, hb, hgg, h1, h2, h3, h4⟩
  · cases e
  · cases e
    refine .inr ⟨g, c, cur.setIfInBounds (i * 2 + 1) (.int .i64 x), by rw [List.length_set], hb, setB hgg _, by rw [List.length_set]; exact h1, h2, by rw [Array.size_setIfInBounds]; exact h3, ?_⟩
    rw [List.length_set, Array.toList_setIfInBounds, List.take_set, h4, flat_set, set_same (flat_at hi).1]
/-- an alarm of the row, set to another tick -/
theorem retime_M {g n c i : Nat} (h : Mem w cb S) (e : S.lv = .slice (some ⟨g, 0, none⟩) n c) {b : Al} (hi : S.l[i]? = some b) (x : Int) : Mem (w.setCell ⟨g, i * 2 + 1, none⟩ (.int .i64 x)) cb (S.wl (S.l.set i ⟨b.nm, x⟩)) ∧ Chg cb S (S.wl (S.l.set i ⟨b.nm, x⟩)) w (w.setCell ⟨g, i * 2 + 1, none⟩ (.int .i64 x)) := by
  have hR := h.rw
  rw [e] at hR
  obtain ⟨cs, hg⟩ := hR.blk
  have hgb : S.lv.ownBlock = some g := by rw [e]; rfl
  refine ⟨⟨(Below.heap_setCell _ _ _ _ (fun q => h.rw.ne h.hp (by decide) (by rw [hgb, q]))).trans h.hp, ?_, ?_, nod_set h.no hi rfl, fun a ha => ?_, by show (S.l.set i _).length ≤ 1024; rw [List.length_set]; exact h.sm⟩, ⟨Kp.of_set w _ _ (.inr (.inl hgb)), fun _ h => .inl h, rfl⟩⟩
  · show Row _ S.lv (S.l.set i ⟨b.nm, x⟩)
    rw [e]
    exact hR.retime hi x
  · show match S.mb with | none => S.l.set i _ = [] | some m => ∃ M, MpL _ m (S.l.set i _) M
    have := h.mp
    cases hm : S.mb with
    | none => rw [hm] at this; simp only at this; rw [this] at hi; simp at hi
    | some m =>
      rw [hm] at this
      obtain ⟨M, hM⟩ := this
      have := hM.keep (w' := w.setCell ⟨g, i * 2 + 1, none⟩ (.int .i64 x)) (Below.heap_setCell _ _ _ _ (hM.o.ne hg))
      exact ⟨M, this.o, by rw [List.length_set]; exact this.n, fun s z => by rw [mem_set_names (a := ⟨b.nm, x⟩) (b := b) hi rfl]; exact this.a s z⟩
  · rcases List.mem_or_eq_of_mem_set ha with q | q
    · exact h.ok a q
    · rw [q]; exact h.ok b (List.mem_of_getElem? hi)
theorem set_C (h : Ck w cb S R) (s : ByteArray) (x : Int) (hs : s.size ≤ 281474976710656) :
    Calls Try.prog 44 #[.pointer (some ⟨cb, 1, none⟩), .string s, .int .i64 x] w fun e w' => e = .returned (.int .i64 (setC s.data.toList R)) ∧ ∃ S', Cg w w' cb S S' (setR s x R) := by
  have hs' : s.size ≤ maxLen := Nat.le_trans hs (by decide)
  have hf := find_S h.c.m s hs'
  have hfd : fnd s.data.toList R = (plc s.data.toList S.l).map (gt S.l) := by rw [← fnd_perm h.p h.c.m.no, plc_fnd]
  unfold setC setR
  cases hp : plc s.data.toList S.l with
  | some i =>
    rw [hp] at hf hfd
    rw [hfd]
    simp only [Option.map_some, Option.isNone_some, Bool.false_and]
    obtain ⟨b, h1, h2⟩ := plc_some hp
    have hi := (List.getElem?_eq_some_iff.1 h1).1
    have hbn : b.nm = s := nm_of h2
    obtain ⟨g, c, e⟩ := h.c.m.rw.row (by omega)
    have hR := h.c.m.rw
    rw [e] at hR
    obtain ⟨q1, q2⟩ := retime_M h.c.m e h1 x
    rw [hbn] at q1 q2
    refine set_old w cb g S.l.length c i s x _ hi (by rw [h.c.m.c0, e]) (hR.c1 h1) (hR.fz _) _ hf ?_
    have hlen : (S.l.set i ⟨s, x⟩).length = S.l.length := List.length_set
    have hx : Hx (gt (S.l.set i ⟨s, x⟩)) (S.l.set i ⟨s, x⟩).length i := by
      rw [hlen]
      exact hx_of h.c.h fun k hk hne => by rw [gt_set hi, if_neg hne]
    refine (fix_S (S := S.wl (S.l.set i ⟨s, x⟩)) (l := S.l.set i ⟨s, x⟩) (i := i) ⟨⟨q1, Chg.refl _ _ _, .refl _, fun _ _ => rfl⟩, hx, by show i < (S.l.set i _).length; rw [hlen]; exact hi, Nat.le_refl _, .inl rfl⟩).mono ?_
    rintro e' w' ⟨rfl, l', hv, hh⟩
    refine ⟨rfl, _, ⟨⟨hv.m, ?_⟩, ?_, ?_⟩, q2.trans hv.c⟩
    · show Hp (gt l') l'.length
      rw [hv.len]
      exact hh
    · refine hv.p.trans ((set_perm h.c.m.no h1 (a := ⟨s, x⟩) h2.symm).trans ?_)
      exact ((drp_perm h.p _).cons _).trans (ins_perm _ _).symm
    · exact srt_ins (srt_drp h.s) fun b hb => (mem_drp.1 hb).2
  | none =>
    rw [hp] at hf hfd
    rw [hfd]
    simp only [Option.map_none, Option.isNone_none, Bool.true_and]
    have hno : ∀ b ∈ S.l, b.k ≠ s.data.toList := plc_none hp
    have hnR : ∀ b ∈ R, b.k ≠ s.data.toList := fun b hb => hno b (h.p.mem_iff.2 hb)
    by_cases hl : 1024 ≤ R.length
    · rw [decide_eq_true hl]
      simp only [if_true]
      have hsm := h.sm
      refine (set_full w cb s x S.l.length (by rw [h.len]; omega) hf (len_S h.c.m)).mono ?_
      rintro e w' ⟨rfl, rfl⟩
      exact ⟨rfl, S, h, Chg.refl _ _ _⟩
    · rw [decide_eq_false hl]
      simp only [Bool.false_eq_true, if_false]
      rw [drp_none hnR]
      have hl' : S.l.length < 1024 := by rw [h.len]; omega
      refine set_new w cb s x S.l.length (by omega) _ hf (len_S h.c.m) (clone_any s w hs) fun W b => ?_
      have hb := h.below b
      refine (hpush_S hb.c ⟨s, x⟩ hs' hl' hno).mono ?_
      rintro e w' ⟨rfl, S', q⟩
      exact ⟨rfl, S', ⟨q.c, (q.p.trans (h.p.cons _)).trans (ins_perm _ _).symm, srt_ins h.s hnR⟩, (Chg.of_below b).trans q.g⟩
def canC (s : List UInt8) (R : List Al) : Int := if (fnd s R).isNone then 3 else 0
theorem len_C (h : Ck w cb S R) : Calls Try.prog 46 #[.pointer (some ⟨cb, 1, none⟩)] w fun e w' => e = .returned (.int .i64 R.length) ∧ w' = w := by
  rw [← h.len]
  exact len_S h.c.m
theorem zero_C (w : World) : Ck (w.alloc (.cells #[.map none, .slice none 0 0, .map none] 63 (0, 0))) w.heap.size ⟨.slice none 0 0, none, [], .map none⟩ [] :=
  ⟨⟨⟨new0, Row.nil _, rfl, List.Pairwise.nil, (fun _ h => by cases h), by decide⟩, fun c _ h => absurd h (Nat.not_lt_zero _)⟩, .refl _, List.Pairwise.nil⟩
end
end Go.Proofs.Ytihjmigjphljnaa.Tk
