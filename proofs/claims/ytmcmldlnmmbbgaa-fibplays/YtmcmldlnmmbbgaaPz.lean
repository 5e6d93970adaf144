/-
  The loop over the other's map.
-/
import Derived.Test.YtmcmldlnmmbbgaaPy
import Derived.Maps.RangeWalk
import Derived.Laws.IdiomRangeMap
namespace Go.Proofs.Ytmcmldlnmmbbgaa
open Go.RowKit Go.Maps

theorem rangesKeep {w w1 : World} {b r n : Nat} {D : DataW Nat} {left : Lit → Bool} {cnt : Nat} (h : w.ranges Try.prog 3 pE b r n D left cnt) (e1 : w1.heap[b]? = w.heap[b]?) (e2 : w1.heap[r]? = w.heap[r]?) : w1.ranges Try.prog 3 pE b r n D left cnt := by
  obtain ⟨es, clock, since, seen, c0, hb, F, hs, hD, hr, rest⟩ := h
  exact ⟨es, clock, since, seen, c0, e1.trans hb, F, hs, hD, e2.trans hr, rest⟩
theorem invV (v : Value) (y : DataW Nat × List MemPlace) (h : pE v = some y) : ∃ c : Option Nat, v = optp c := by
  unfold pE at h
  split at h
  · rename_i b; exact ⟨some b, rfl⟩
  · exact ⟨none, rfl⟩
  · cases h
theorem invK (key : Value) (kl : Lit) (h : keyOf Try.prog 3 key = some kl) : ∃ x : Int, key = .int .i64 x := by
  obtain ⟨x, rfl, _⟩ := Maps.keyOf_int_inv Try.underlying3 h
  exact ⟨x, rfl⟩
section
variable {w0 wr w w' : World} {tS tO tg tg' : Nat → Tg} {hb ob m2 r n : Nat} {S S' O : HS} {P Z : List Nat} {mb : Option Nat} {M : DataW Nat} {left : Lit → Bool} {cnt : Nat}
theorem Ph.iter (H : Ph w0 wr tS tO tg hb ob S O P mb) (h : Two w0 tS tO hb ob S O) (hk : Kp (· = r) wr w') (ht : tg r = .no) (hr : w0.heap.size ≤ r) : Ph w0 w' tS tO tg hb ob S O P mb := by
  have k1 : ∀ k, k < wr.heap.size → tg k ≠ .no → w'.heap[k]? = wr.heap[k]? := fun k hk' hn => hk.block k hk' fun q => hn (by rw [show k = r from q]; exact ht)
  have k2 : ∀ k, k < wr.heap.size → tO k ≠ .no → w'.heap[k]? = wr.heap[k]? := fun k hk' hn => hk.block k hk' fun q => by have := h.o.m.lt k hn; omega
  have hm := H.mm
  refine ⟨⟨hm.hp.at (k1 hb hm.hp.lt (by rw [hm.tp]; exact nofun)), fun b hb' => (hm.nd b hb').at (k1 b (hm.nd b hb').lt (by rw [hm.tn b hb']; exact nofun)), fun F hF => (hm.fm F hF).keep fun g hg => k1 g ((hm.fm F hF).lt hg) (by rw [hm.tf F hF g hg]; exact nofun), hm.tp, hm.tn, hm.tf, fun k hk' => Nat.lt_of_lt_of_le (hm.lt k hk') hk.size⟩, ?_, H.oh.at (k2 ob H.oh.lt (by rw [h.o.m.tp]; exact nofun)), fun b hb' hbP => (H.on b hb' hbP).at (k2 b (H.on b hb' hbP).lt (by rw [h.o.m.tn b hb']; exact nofun)), fun F hF hFP => (H.of F hF hFP).keep fun g hg => k2 g ((H.of F hF hFP).lt hg) (by rw [h.o.m.tf F hF g hg]; exact nofun), H.tw, H.ts, H.pn, H.px, H.kp.trans hk fun k hk' q => by omega⟩
  have hp := H.mp
  unfold Mp at *
  cases mb with
  | none => exact hp
  | some m =>
    obtain ⟨M, hM⟩ := hp
    exact ⟨M, hM.t, keepMap hM.o (k1 m hM.o.lt (by rw [hM.t]; exact nofun)), hM.n, hM.a⟩
structure RdA (w0 wr : World) (tS tO tg : Nat → Tg) (hb ob : Nat) (S O : HS) (P : List Nat) (mb : Option Nat) (m2 r n : Nat) (M : DataW Nat) (left : Lit → Bool) (cnt : Nat) : Prop where
  h : Ph w0 wr tS tO tg hb ob S O P mb
  g : wr.ranges Try.prog 3 pE m2 r n M left cnt
  l : ∀ b ∈ O.X, b ∈ P ↔ left (.int .i64 (O.hd b)) = false
  t : tg r = .no
  r : w0.heap.size ≤ r
def Rd (w0 wr : World) (tS tO : Nat → Tg) (hb ob : Nat) (S O : HS) (m2 r n : Nat) (M : DataW Nat) (cnt : Nat) : Prop := ∃ tg P mb left, RdA w0 wr tS tO tg hb ob S O P mb m2 r n M left cnt
theorem Rd.start (h : Two w0 tS tO hb ob S O) (hM : MpA w0 tO O m2 M) {W : World} (hW : Ph w0 W tS tO tS hb ob S O [] S.mb) (hsz : W.heap.size = w0.heap.size) (hg : w'.ranges Try.prog 3 pE m2 W.heap.size n M (Maps.has M) (Maps.size M)) (hgr : W.grownBy w' none) : Rd w0 w' tS tO hb ob S O m2 W.heap.size n M (Maps.size M) := by
  have hno : tS W.heap.size = .no := by
    by_cases q : tS W.heap.size = .no
    · exact q
    · have := h.s.m.lt _ q; omega
  refine ⟨tS, [], S.mb, Maps.has M, hW.iter h (Kp.of_grown hgr fun k e => by cases e) hno (by omega), hg, fun b hb' => ?_, hno, by omega⟩
  have : Maps.has M (.int .i64 (O.hd b)) = true := has_true_of_atKey (y := .held b) fun z => by rw [hM.a, at_of h.o.i.hu hb']; rfl
  rw [this]
  simp
/-- the entry that has come -/
theorem RdA.entry (h : Two w0 tS tO hb ob S O) (hM : MpA w0 tO O m2 M) (H : RdA w0 wr tS tO tg hb ob S O P mb m2 r n M left cnt) {x : Int} {c : Option Nat} {kl : Lit} {y : DataW Nat × List MemPlace} {cnt' : Nat} (hkey : keyOf Try.prog 3 (.int .i64 x) = some kl) (hl : left kl = true) (hy : pE (optp c) = some y) (hat : ∀ zd, M.atKey kl zd = y.1)
    (hrg : w'.ranges Try.prog 3 pE m2 r n M (fun z => left z && !z.sameKey kl) cnt') (hgr : wr.grownBy w' (some r)) :
    ∃ b, c = some b ∧ b ∈ O.X ∧ b ∉ P ∧ Ph w0 w' tS tO tg hb ob S O P mb ∧ (∀ a ∈ O.X, (a ∈ b :: P) ↔ (left (.int .i64 (O.hd a)) && !(Lit.int .i64 (O.hd a)).sameKey kl) = false) := by
  obtain ⟨x', e1, rfl, _⟩ := Maps.keyOf_int_inv Try.underlying3 hkey
  have ex : x = x' := by injection e1
  subst ex
  cases ha : O.at x with
  | none =>
    have q1 := (hM.a x .nil).symm.trans (hat .nil)
    have q2 := (hM.a x (.held 0)).symm.trans (hat (.held 0))
    rw [ha] at q1 q2
    have : (DataW.nil : DataW Nat) = .held 0 := q1.trans q2.symm
    cases this
  | some b =>
    have q1 := (hM.a x .nil).symm.trans (hat .nil)
    rw [ha] at q1
    obtain ⟨hbO, hbx⟩ := at_some ha
    have hc : c = some b := by
      cases c with
      | none =>
        have hy' : (some (DataW.nil, []) : Option (DataW Nat × List MemPlace)) = some y := hy
        rw [← Option.some.inj hy'] at q1
        cases q1
      | some c =>
        have hy' : (some (DataW.held c, []) : Option (DataW Nat × List MemPlace)) = some y := hy
        rw [← Option.some.inj hy'] at q1
        have q1' : (DataW.held b : DataW Nat) = .held c := q1
        exact congrArg some (DataW.held.inj q1').symm
    have hbP : b ∉ P := fun q => by
      have := (H.l b hbO).1 q
      rw [hbx, hl] at this
      cases this
    refine ⟨b, hc, hbO, hbP, H.h.iter h (Kp.of_grown hgr fun k e => (Option.some.inj e).symm) H.t H.r, fun a ha' => ?_⟩
    rw [List.mem_cons, H.l a ha']
    by_cases e : a = b
    · subst e
      have : (Lit.int .i64 (O.hd a)).sameKey (.int .i64 x) = true := by rw [hbx]; exact WideAt.sameKey_self (isKey _)
      rw [this]
      simp
    · have hne : (O.hd a : Int) ≠ x := fun q => e (h.o.i.hu a ha' b hbO (by omega))
      have : (Lit.int .i64 (O.hd a)).sameKey (.int .i64 x) = false := Bool.eq_false_iff.2 fun q => lit_ne hne (WideAt.sameKey_eq q)
      rw [this]
      simp [e]
/-- it is kept -/
theorem RdA.keep (h : Two w0 tS tO hb ob S O) (hM : MpA w0 tO O m2 M) (hg : S.gv + O.gv ≤ 1048576) (hs : O.X.length + S.X.length ≤ 2000) {b : Nat} (H : Ph w0 wr tS tO tg hb ob S O P mb) (hbO : b ∈ O.X) (hbP : b ∉ P) (hrg : wr.ranges Try.prog 3 pE m2 r n M left cnt) (hl : ∀ a ∈ O.X, (a ∈ b :: P) ↔ left (.int .i64 (O.hd a)) = false) (ht : tg r = .no) (hr : w0.heap.size ≤ r) :
    Calls Try.prog 31 #[.pointer (some ⟨hb, 0, none⟩), .pointer (some ⟨b, 0, none⟩)] (wr.setCell ⟨b, 0, none⟩ (.int .i64 ((O.hd b + S.gv : Nat) : Int))) fun e w' => e = .returned (.tuple #[]) ∧ Hid (Rd w0 w' tS tO hb ob S O m2 r n M cnt) := by
  obtain ⟨M1, p1⟩ := H.take h hbO hbP
  have hbS := h.dis b hbO
  have hI := h.s.i.meld h.o.i h.dis hg
  have hsub : ∀ a ∈ (S.mx O (b :: P) mb).X, a ∈ (S.meld O).X := fun a ha => by
    rcases List.mem_append.1 (show a ∈ (b :: P) ++ S.X from ha) with q | q
    · rcases List.mem_cons.1 q with q | q
      · rw [q]; exact List.mem_append_left _ hbO
      · exact List.mem_append_left _ (H.px a q)
    · exact List.mem_append_right _ q
  have hhd : (S.mx O (b :: P) mb).hd b = O.hd b + S.gv := if_neg hbS
  have hlen : P.length ≤ O.X.length := nodup_len H.pn H.px
  have tOb := h.o.m.tn b hbO
  have hblt : b < w0.heap.size := h.o.m.lt b (by rw [tOb]; exact nofun)
  have hOr : tO r = .no := by
    by_cases q : tO r = .no
    · exact q
    · have := h.o.m.lt r q; omega
  refine (keep_S (S := S.mx O P mb) (S' := S.mx O (b :: P) mb) M1 rfl p1 rfl (fun a ha c hc q => hI.hu a (hsub a ha) c (hsub c hc) q) (fun _ _ => rfl) (fun q => ?_) (by rw [hhd]; have := h.o.i.hg b hbO; omega) (by show (P ++ S.X).length ≤ 2000; rw [List.length_append]; omega)).mono ?_
  · rcases List.mem_append.1 (show b ∈ P ++ S.X from q) with q | q
    · exact hbP q
    · exact hbS q
  rintro e w' ⟨rfl, m, tg', M3, p3, c3⟩
  refine ⟨rfl, tg', b :: P, some m, left, H.come h hbO hbP c3 M3 p3, ?_, hl, ?_, hr⟩
  · have hoth : ∀ k, k ≠ b → (wr.setCell ⟨b, 0, none⟩ (.int .i64 ((O.hd b + S.gv : Nat) : Int))).heap[k]? = wr.heap[k]? := fun k hk => Below.heap_setCell _ _ _ _ fun q => hk q
    have hsz : (wr.setCell ⟨b, 0, none⟩ (.int .i64 ((O.hd b + S.gv : Nat) : Int))).heap.size = wr.heap.size := by simp [World.setCell]
    refine rangesKeep hrg ((c3.kp.block m2 (by rw [hsz]; exact hrg.owns.lt) fun q => q ?_).trans (hoth m2 fun q => ?_)) ((c3.kp.block r (by rw [hsz]; exact hrg.lt) fun q => q ?_).trans (hoth r fun q => by omega))
    · unfold tgX
      rw [if_neg (by rw [hM.t]; exact nofun)]
      exact mt_mp0 hM.t
    · have := hM.t
      rw [q, tOb] at this
      cases this
    · unfold tgX
      rw [if_pos hOr]
      exact ht
  · rw [c3.tg r (by have := hrg.lt; simp [World.setCell]; omega)]
    unfold tgX
    rw [if_pos hOr]
    exact ht
/-- all have come -/
theorem RdA.done (h : Two w0 tS tO hb ob S O) (hg : S.gv + O.gv ≤ 1048576) (H : RdA w0 wr tS tO tg hb ob S O P mb m2 r n M left cnt) (hl : ∀ kl, left kl = false) : (∀ b, b ∈ P ↔ b ∈ O.X) ∧ Up w0 wr tS tO tg hb ob S O P mb (S.mx O P mb) O.roots 0 0 := by
  have hP : ∀ b, b ∈ P ↔ b ∈ O.X := fun b => ⟨H.h.px b, fun q => (H.l b q).2 (hl _)⟩
  exact ⟨hP, Up.start h hg H.h hP⟩
end
end Go.Proofs.Ytmcmldlnmmbbgaa
