/-
  Three heaps in a law, apart; two of them melded.
-/
import Derived.Test.YtmcmldlnmmbbgaaMb
import Derived.Test.YtmcmldlnmmbbgaaPp
namespace Go.Proofs.Ytmcmldlnmmbbgaa
open Go.RowKit Go.Maps

/-- one heap's content behind another's, whose next handle is g -/
def Ct.meld (C : Ct) (g : Nat) (D : Ct) : Ct := fun x => if x < (g : Int) then C x else D (x - g)
theorem meld_put (C D : Ct) (g n : Nat) (k : K) : (C.meld g D).put (g + n) k = C.meld g (D.put n k) := by
  funext x
  unfold Ct.put Ct.meld
  by_cases h : x = ((g + n : Nat) : Int)
  · rw [if_pos h, if_neg (by omega)]
    exact (if_pos (by omega)).symm
  · rw [if_neg h]
    by_cases h2 : x < (g : Int)
    · rw [if_pos h2, if_pos h2]
    · rw [if_neg h2, if_neg h2]
      exact (if_neg (by omega)).symm
theorem min_unique {C : Ct} {x y : Nat} {a b : K} (h : C.min x a) (k : C.min y b) : x = y ∧ a = b := by
  have e : x = y := by
    rcases h.2 y b k.1 with q | q
    · exact q.symm
    · rcases k.2 x a h.1 with q2 | q2
      · exact q2
      · exact absurd q2 (el_asymm q)
  subst e
  have := h.1.symm.trans k.1
  exact ⟨rfl, Option.some.inj this⟩
section
variable {w wr w' : World} {tA tB tC tg tg' : Nat → Tg} {a b c hb : Nat} {CA CB CC C' : Ct} {gA nA gB nB gC nC g n g' n' : Nat} {SA SB SC S S' : HS} {T : Nat → Prop} {C : Ct}
theorem Hc.off (h : Hc w tg hb C g n S) {Q : Nat → Prop} (c : Kp Q w w') (hQ : ∀ k, tg k ≠ .no → ¬ Q k) : Hc w' tg hb C g n S := by
  have kt : ∀ j, tg j ≠ .no → w'.heap[j]? = w.heap[j]? := fun j hj => c.block j (h.h.m.lt j hj) (hQ j hj)
  have hm := h.h.m
  refine ⟨⟨⟨hm.hp.at (kt hb (by rw [hm.tp]; exact nofun)), fun b hb' => (hm.nd b hb').at (kt b (by rw [hm.tn b hb']; exact nofun)), fun F hF => (hm.fm F hF).keep fun g hg => kt g (by rw [hm.tf F hF g hg]; exact nofun), hm.tp, hm.tn, hm.tf, fun j hj => Nat.lt_of_lt_of_le (hm.lt j hj) c.size⟩, ?_, h.h.i, h.h.l⟩, h.c, h.g, h.n⟩
  have hp := h.h.p
  unfold Mp at *
  cases hmb : S.mb with
  | none => rw [hmb] at hp; exact hp
  | some m =>
    rw [hmb] at hp
    obtain ⟨M, hM⟩ := hp
    exact ⟨M, hM.t, keepMap hM.o (kt m (by rw [hM.t]; exact nofun)), hM.n, hM.a⟩
structure TriA (w wr : World) (a b c : Nat) (CA : Ct) (gA nA : Nat) (CB : Ct) (gB nB : Nat) (CC : Ct) (gC nC : Nat) (T : Nat → Prop) (SA SB SC : HS) (tA tB tC : Nat → Tg) : Prop where
  a : Hc wr tA a CA gA nA SA
  b : Hc wr tB b CB gB nB SB
  c : Hc wr tC c CC gC nC SC
  ab : ∀ k, tA k ≠ .no → tB k = .no
  bc : ∀ k, tB k ≠ .no → tC k = .no
  ca : ∀ k, tC k ≠ .no → tA k = .no
  la : ∀ k, tA k ≠ .no → w.heap.size ≤ k
  lb : ∀ k, tB k ≠ .no → w.heap.size ≤ k
  lc : ∀ k, tC k ≠ .no → w.heap.size ≤ k
  u : ∀ k, T k → k < wr.heap.size ∧ tA k = .no ∧ tB k = .no ∧ tC k = .no
  w : Below w.heap.size w wr
def Tri (w wr : World) (a b c : Nat) (CA : Ct) (gA nA : Nat) (CB : Ct) (gB nB : Nat) (CC : Ct) (gC nC : Nat) (T : Nat → Prop) : Prop := ∃ SA SB SC tA tB tC, TriA w wr a b c CA gA nA CB gB nB CC gC nC T SA SB SC tA tB tC
theorem no_sym {t t' : Nat → Tg} (h : ∀ k, t k ≠ .no → t' k = .no) : ∀ k, t' k ≠ .no → t k = .no := fun k hk => by
  by_cases q : t k = .no
  · exact q
  · exact absurd (h k q) hk
theorem Tri.turn (h : Tri w wr a b c CA gA nA CB gB nB CC gC nC T) : Tri w wr b c a CB gB nB CC gC nC CA gA nA T := by
  obtain ⟨SA, SB, SC, tA, tB, tC, h⟩ := h
  exact ⟨SB, SC, SA, tB, tC, tA, h.b, h.c, h.a, h.bc, h.ca, h.ab, h.lb, h.lc, h.la, fun k hk => ⟨(h.u k hk).1, (h.u k hk).2.2.1, (h.u k hk).2.2.2, (h.u k hk).2.1⟩, h.w⟩
theorem Tri.below (h : Tri w wr a b c CA gA nA CB gB nB CC gC nC T) : Below w.heap.size w wr := by
  obtain ⟨SA, SB, SC, tA, tB, tC, h⟩ := h
  exact h.w
theorem Tri.keep (h : Tri w wr a b c CA gA nA CB gB nB CC gC nC T) (k : Below wr.heap.size wr w') : Tri w w' a b c CA gA nA CB gB nB CC gC nC T := by
  obtain ⟨SA, SB, SC, tA, tB, tC, h⟩ := h
  exact ⟨SA, SB, SC, tA, tB, tC, h.a.keep k, h.b.keep k, h.c.keep k, h.ab, h.bc, h.ca, h.la, h.lb, h.lc, fun j hj => ⟨Nat.lt_of_lt_of_le (h.u j hj).1 k.size, (h.u j hj).2⟩, h.w.trans (k.mono h.w.size)⟩
theorem Tri.less {T' : Nat → Prop} (h : Tri w wr a b c CA gA nA CB gB nB CC gC nC T) (hT : ∀ k, T' k → T k) : Tri w wr a b c CA gA nA CB gB nB CC gC nC T' := by
  obtain ⟨SA, SB, SC, tA, tB, tC, h⟩ := h
  exact ⟨SA, SB, SC, tA, tB, tC, h.a, h.b, h.c, h.ab, h.bc, h.ca, h.la, h.lb, h.lc, fun j hj => h.u j (hT j hj), h.w⟩
theorem Tri.box (h : Tri w wr a b c CA gA nA CB gB nB CC gC nC T) (o : Obj) : Tri w (wr.alloc o) a b c CA gA nA CB gB nB CC gC nC (fun k => T k ∨ k = wr.heap.size) := by
  have k := h.keep ((Below.refl _ wr).alloc (Nat.le_refl _) o)
  obtain ⟨SA, SB, SC, tA, tB, tC, h⟩ := h
  have no : ∀ {t : Nat → Tg}, (∀ k, t k ≠ .no → k < wr.heap.size) → t wr.heap.size = .no := fun {t} ht => by
    by_cases q : t wr.heap.size = .no
    · exact q
    · have := ht _ q; omega
  have bl : Below wr.heap.size wr (wr.alloc o) := (Below.refl _ wr).alloc (Nat.le_refl _) o
  refine ⟨SA, SB, SC, tA, tB, tC, h.a.keep bl, h.b.keep bl, h.c.keep bl, h.ab, h.bc, h.ca, h.la, h.lb, h.lc, fun j hj => ?_, h.w.trans (bl.mono h.w.size)⟩
  rcases hj with hj | rfl
  · exact ⟨Nat.lt_of_lt_of_le (h.u j hj).1 bl.size, (h.u j hj).2⟩
  · exact ⟨by simp, no h.a.h.m.lt, no h.b.h.m.lt, no h.c.h.m.lt⟩
theorem TriA.step (h : TriA w wr a b c CA gA nA CB gB nB CC gC nC T SA SB SC tA tB tC) (h' : Hc w' tg' a C' g' n' S') (c1 : Chg (fun k => tA k ≠ .no) wr w' tA tg') : Tri w w' a b c C' g' n' CB gB nB CC gC nC T ∧ ∀ k, T k → w'.heap[k]? = wr.heap[k]? := by
  have old : ∀ {t : Nat → Tg}, (∀ k, tA k ≠ .no → t k = .no) → (∀ k, t k ≠ .no → k < wr.heap.size) → ∀ k, tg' k ≠ .no → t k = .no := fun {t} h1 h2 k hk => by
    by_cases q : k < wr.heap.size
    · rw [c1.tg k q] at hk; exact h1 k hk
    · by_cases q2 : t k = .no
      · exact q2
      · exact absurd (h2 k q2) q
  refine ⟨⟨S', SB, SC, tg', tB, tC, h', h.b.off c1.kp fun k hk q => hk (h.ab k q), h.c.off c1.kp fun k hk q => q (h.ca k hk), old h.ab h.b.h.m.lt, h.bc, no_sym (old (no_sym h.ca) h.c.h.m.lt), fun k hk => ?_, h.lb, h.lc, fun k hk => ?_, h.w.trans (c1.kp.below h.w.size fun k hk q => by have := h.la k q; omega)⟩, fun k hk => c1.kp.block k (h.u k hk).1 fun q => q (h.u k hk).2.1⟩
  · by_cases q : k < wr.heap.size
    · rw [c1.tg k q] at hk; exact h.la k hk
    · have := h.w.size; omega
  · obtain ⟨u1, u2, u3⟩ := h.u k hk
    exact ⟨Nat.lt_of_lt_of_le u1 c1.kp.size, (c1.tg k u1).trans u2, u3⟩
theorem tri_insert (h : Tri w wr a b c CA gA nA CB gB nB CC gC nC T) (k : K) (hk : k.ok) (hg : gA < 1048576) (hn : nA + 1 ≤ 2000) :
    Calls Try.prog 14 #[.pointer (some ⟨a, 0, none⟩), .agg #[.int .u64 k.n, .int .u64 k.d, .int .i64 k.t]] wr fun e w' => e = .returned (.tuple #[.int .i64 gA, .int .i64 0]) ∧ Tri w w' a b c (CA.put gA k) (gA + 1) (nA + 1) CB gB nB CC gC nC T ∧ ∀ k, T k → w'.heap[k]? = wr.heap[k]? := by
  obtain ⟨SA, SB, SC, tA, tB, tC, h⟩ := h
  refine (insert_C h.a k hk hg hn).mono ?_
  rintro e w' ⟨rfl, S', tg', h1, c1⟩
  exact ⟨rfl, h.step h1 c1⟩
theorem tri_pop (h : Tri w wr a b c CA gA nA CB gB nB CC gC nC T) (hn : nA ≠ 0) (hb2 : nA ≤ 2000) : ∃ (x : Nat) (k : K), CA.min x k ∧ k.ok ∧ Calls Try.prog 15 #[.pointer (some ⟨a, 0, none⟩)] wr fun e w' => e = .returned (.tuple #[.int .i64 x, .agg #[.int .u64 k.n, .int .u64 k.d, .int .i64 k.t], .int .i64 0]) ∧ Tri w w' a b c (CA.del x) gA (nA - 1) CB gB nB CC gC nC T ∧ ∀ k, T k → w'.heap[k]? = wr.heap[k]? := by
  obtain ⟨SA, SB, SC, tA, tB, tC, h⟩ := h
  obtain ⟨x, k, h1, h2, h3⟩ := pop_C h.a hn hb2
  refine ⟨x, k, h1, h2, h3.mono ?_⟩
  rintro e w' ⟨rfl, S', tg', h4, c4⟩
  exact ⟨rfl, h.step h4 c4⟩
theorem tri_pop0 (h : Tri w wr a b c CA gA 0 CB gB nB CC gC nC T) : Calls Try.prog 15 #[.pointer (some ⟨a, 0, none⟩)] wr fun e w' => e = .returned (.tuple #[.int .i64 0, .agg #[.int .u64 0, .int .u64 0, .int .i64 0], .int .i64 3]) ∧ Below wr.heap.size wr w' := by
  obtain ⟨SA, SB, SC, tA, tB, tC, h⟩ := h
  exact pop_none h.a
theorem tri_len (h : Tri w wr a b c CA gA nA CB gB nB CC gC nC T) : Calls Try.prog 11 #[.pointer (some ⟨a, 0, none⟩)] wr fun e w' => e = .returned (.int .i64 nA) ∧ w' = wr := by
  obtain ⟨SA, SB, SC, tA, tB, tC, h⟩ := h
  exact len_C h.a
theorem tri_new (hA : Blk wr a 70 32 zH) (hB : Blk wr b 70 32 zH) (hC : Blk wr c 70 32 zH) (hab : a ≠ b) (hbc : b ≠ c) (hca : c ≠ a) (ha : w.heap.size ≤ a) (hb : w.heap.size ≤ b) (hc : w.heap.size ≤ c) (hw : Below w.heap.size w wr) : Tri w wr a b c Ct.nil 0 0 Ct.nil 0 0 Ct.nil 0 0 (fun _ => False) := by
  have ne : ∀ {x y : Nat}, x ≠ y → ∀ k, (if k = x then Tg.hp else .no) ≠ .no → (if k = y then Tg.hp else .no) = .no := fun {x y} hxy k hk => by
    by_cases q : k = x
    · rw [if_neg (by omega)]
    · rw [if_neg q] at hk; exact absurd rfl hk
  have lo : ∀ {x : Nat}, w.heap.size ≤ x → ∀ k, (if k = x then Tg.hp else .no) ≠ .no → w.heap.size ≤ k := fun {x} hx k hk => by
    by_cases q : k = x
    · omega
    · rw [if_neg q] at hk; exact absurd rfl hk
  exact ⟨zS, zS, zS, _, _, _, hc_zero hA, hc_zero hB, hc_zero hC, ne hab, ne hbc, ne hca, lo ha, lo hb, lo hc, nofun, hw⟩
/-- a content ends at the next handle -/
theorem meld_nil (h : Hc w tg hb C g n S) : C.meld g Ct.nil = C := by
  funext x
  unfold Ct.meld
  by_cases q : x < (g : Int)
  · rw [if_pos q]
  · rw [if_neg q]
    cases e : C x with
    | none => rfl
    | some k =>
      rw [← h.c] at e
      obtain ⟨b, h1, h2, _⟩ := cont_some e
      have := h.h.i.hg b h1
      have := h.g
      omega
theorem Tri.nil (h : Tri w wr a b c CA gA nA CB gB nB CC gC nC T) : CA.meld gA Ct.nil = CA := by
  obtain ⟨SA, SB, SC, tA, tB, tC, h⟩ := h
  exact meld_nil h.a
theorem tri_meld (h : Tri w wr a b c CA gA nA CB gB nB CC gC nC T) (hg : gA + gB ≤ 1048576) (hn : nB + nA ≤ 2000) :
    Calls Try.prog 21 #[.pointer (some ⟨a, 0, none⟩), .pointer (some ⟨b, 0, none⟩)] wr fun e w' => e = .returned (.tuple #[.int .i64 gA, .int .i64 0]) ∧ Hid (Tri w w' a b c (CA.meld gA CB) (gA + gB) (nA + nB) Ct.nil 0 0 CC gC nC (fun _ => False)) := by
  obtain ⟨SA, SB, SC, tA, tB, tC, h⟩ := h
  have g1 := h.a.g
  have g2 := h.b.g
  have n1 := h.a.n
  have n2 := h.b.n
  have h2 : Two wr tA tB a b SA SB := ⟨h.a.h, h.b.h, h.ab⟩
  refine (meld_S h2 (by omega) (by omega)).mono ?_
  rintro e w' ⟨rfl, tg, P, S', M⟩
  have hne := h2.ne
  have cno : ∀ k, tC k ≠ .no → ¬ (tA k ≠ .no ∨ tB k ≠ .no) := fun k hk q => q.elim (fun q => q (h.ca k hk)) fun q => hk (h.bc k q)
  have lo : ∀ k, tg k ≠ .no → w.heap.size ≤ k := fun k hk => by
    by_cases q : k < wr.heap.size
    · rcases M.tl k q hk with q2 | q2
      · exact h.la k q2
      · exact h.lb k q2
    · have := h.w.size; omega
  have lb := h.lb b (by rw [h.b.h.m.tp]; exact nofun)
  have cb : tC b = .no := h.bc b (by rw [h.b.h.m.tp]; exact nofun)
  have hPlen : P.length = SB.X.length := by
    have hnd : (P ++ SA.X).Nodup := by rw [← M.X]; exact M.h.i.nd
    have hPn := (List.nodup_append.1 hnd).1
    exact Nat.le_antisymm (nodup_len hPn fun x hx => (M.pm x).1 hx) (nodup_len h.b.h.i.nd fun x hx => (M.pm x).2 hx)
  refine ⟨by rw [g1], S', zS, SC, tg, _, tC, ⟨M.h, ?_, by rw [M.gv, g1, g2], by rw [M.X, List.length_append, hPlen, n1, n2]; omega⟩, hc_zero M.oz, h.c.off M.kp cno, fun k hk => ?_, fun k hk => ?_, fun k hk => ?_, lo, fun k hk => ?_, h.lc, nofun, h.w.trans (M.kp.below h.w.size fun k hk q => ?_)⟩
  · funext x
    have hdS : ∀ y ∈ SA.X, S'.hd y = SA.hd y ∧ S'.ky y = SA.ky y := fun y hy => by rw [M.hd, M.ky]; exact ⟨if_pos hy, if_pos hy⟩
    have hdO : ∀ y ∈ SB.X, S'.hd y = SB.hd y + SA.gv ∧ S'.ky y = SB.ky y := fun y hy => by rw [M.hd, M.ky]; exact ⟨if_neg (h2.dis y hy), if_neg (h2.dis y hy)⟩
    unfold Ct.meld
    by_cases q : x < (gA : Int)
    · rw [if_pos q]
      refine cont_eq M.h.i.hu (fun k e => ?_) (fun e y hy => ?_)
      · rw [← h.a.c] at e
        obtain ⟨y, y1, y2, y3⟩ := cont_some e
        exact ⟨y, by rw [M.X]; exact List.mem_append_right _ y1, by rw [(hdS y y1).1]; exact y2, by rw [(hdS y y1).2]; exact y3⟩
      · rw [M.X] at hy
        rcases List.mem_append.1 hy with hy | hy
        · rw [(hdO y ((M.pm y).1 hy)).1]; omega
        · rw [(hdS y hy).1]
          rw [← h.a.c] at e
          exact cont_none e y hy
    · rw [if_neg q]
      refine cont_eq M.h.i.hu (fun k e => ?_) (fun e y hy => ?_)
      · rw [← h.b.c] at e
        obtain ⟨y, y1, y2, y3⟩ := cont_some e
        exact ⟨y, by rw [M.X]; exact List.mem_append_left _ ((M.pm y).2 y1), by rw [(hdO y y1).1]; omega, by rw [(hdO y y1).2]; exact y3⟩
      · rw [M.X] at hy
        rcases List.mem_append.1 hy with hy | hy
        · have hyB := (M.pm y).1 hy
          rw [← h.b.c] at e
          have := cont_none e y hyB
          rw [(hdO y hyB).1]
          omega
        · rw [(hdS y hy).1]
          have := h.a.h.i.hg y hy
          omega
  · rw [if_neg fun q => hk (by rw [q]; exact M.tb)]
  · by_cases q : k = b
    · rw [q]; exact cb
    · rw [if_neg q] at hk; exact absurd rfl hk
  · by_cases q : tg k = .no
    · exact q
    · by_cases q2 : k < wr.heap.size
      · rcases M.tl k q2 q with q3 | q3
        · exact absurd (h.ca k hk) q3
        · exact absurd (h.bc k q3) hk
      · exact absurd (h.c.h.m.lt k hk) q2
  · by_cases q : k = b
    · rw [q]; exact lb
    · rw [if_neg q] at hk; exact absurd rfl hk
  · rcases q with q | q
    · have := h.la k q; omega
    · have := h.lb k q; omega
end
end Go.Proofs.Ytmcmldlnmmbbgaa
