/-
  line: a tenant's waiters, in order.
-/
import Derived.Test.YthlbeofonbbbdaaQd
import Derived.Maps.RangeWalk
import Derived.Laws.IdiomRangeMap
namespace Go.Proofs.Ythlbeofonbbbdaa
open Go.RowKit Go.Maps

theorem rangesKeep {w w1 : World} {b r n : Nat} {D : DataW Nat} {left : Lit → Bool} {cnt : Nat} (h : w.ranges Try.prog 2 pE b r n D left cnt) (e1 : w1.heap[b]? = w.heap[b]?) (e2 : w1.heap[r]? = w.heap[r]?) : w1.ranges Try.prog 2 pE b r n D left cnt := by
  obtain ⟨es, clock, since, seen, c0, hb, F, hs, hD, hr, rest⟩ := h
  exact ⟨es, clock, since, seen, c0, e1.trans hb, F, hs, hD, e2.trans hr, rest⟩
theorem ranges_r {w : World} {b r n : Nat} {D : DataW Nat} {left : Lit → Bool} {cnt : Nat} (h : w.ranges Try.prog 2 pE b r n D left cnt) {cs : Array Value} {ty : TypeId} {f : Nat × Nat} : w.heap[r]? ≠ some (.cells cs ty f) := by
  obtain ⟨es, clock, since, seen, c0, hb, F, hs, hD, hr, rest⟩ := h
  intro q
  rw [hr] at q
  cases q
theorem ranges_lt {w : World} {b r n : Nat} {D : DataW Nat} {left : Lit → Bool} {cnt : Nat} (h : w.ranges Try.prog 2 pE b r n D left cnt) : r < w.heap.size ∧ b < w.heap.size := by
  obtain ⟨es, clock, since, seen, c0, hb, F, hs, hD, hr, rest⟩ := h
  exact ⟨(Array.getElem?_eq_some_iff.1 hr).1, (Array.getElem?_eq_some_iff.1 hb).1⟩
theorem invV (v : Value) (y : DataW Nat × List MemPlace) (h : pE v = some y) : ∃ c : Option Nat, v = optp c := by
  unfold pE at h
  split at h
  · rename_i b; exact ⟨some b, rfl⟩
  · exact ⟨none, rfl⟩
  · cases h
theorem invK (key : Value) (kl : Lit) (h : keyOf Try.prog 2 key = some kl) : ∃ x : Int, key = .int .i64 x := by
  obtain ⟨x, rfl, _⟩ := Maps.keyOf_int_inv Try.underlying2 h
  exact ⟨x, rfl⟩
theorem info65 : (Try.prog.info? 65).map (fun i => (i.zero, i.size, i.bytes)) = some (some (.pointer none), 1, 8) := by kernel_rfl
def hp (a : Hd) : Value := .pointer (some ⟨a.b, 0, none⟩)
/-- while the map is gone through: Z has come -/
structure Ln (w wr : World) (l : List Hd) (m r : Nat) (M : DataW Nat) (t : List UInt8) (Z : List Hd) (v : Value) (left : Lit → Bool) (cnt : Nat) : Prop where
  rg : wr.ranges Try.prog 2 pE m r (Maps.size M) M left cnt
  z : ∀ a ∈ Z, a ∈ l
  nd : Z.Nodup
  l : ∀ a ∈ l, a ∈ Z ↔ left (.int .i64 a.j.job) = false
  row : wr.ownsRow w.heap.size 65 1 v (Z.filter fun a => a.j.tn == t).length ((Z.filter fun a => a.j.tn == t).map hp)
  b : Below w.heap.size w wr
  m : m < w.heap.size
  r : w.heap.size ≤ r
section
variable {w wr w' : World} {pb m r : Nat} {mw mh : Option Nat} {l Z : List Hd} {M : DataW Nat} {t : List UInt8} {v : Value} {left : Lit → Bool} {cnt : Nat}
theorem Ln.start (hM : MI w m l M) (hq : QW w pb mw mh l) (hg : w'.ranges Try.prog 2 pE m w.heap.size (Maps.size M) M (Maps.has M) (Maps.size M)) (hgr : w.grownBy w' none) : Ln w w' l m w.heap.size M t [] (.slice none 0 0) (Maps.has M) (Maps.size M) := by
  refine ⟨hg, (fun _ h => nomatch h), List.nodup_nil, fun a ha => ?_, World.ownsRow_nil _ _ _ _, (Kp.of_grown (S := fun _ => False) hgr fun k e => by cases e).below (Nat.le_refl _) (fun _ _ h => h), hM.o.lt, Nat.le_refl _⟩
  have : Maps.has M (.int .i64 a.j.job) = true := has_true_of_atKey (y := .held a.b) fun z => by rw [hM.a, hq.at ha]; rfl
  rw [this]
  simp
/-- the one that has come -/
theorem Ln.entry (hM : MI w m l M) (hq : QW w pb mw mh l) (H : Ln w wr l m r M t Z v left cnt) {x : Int} {c : Option Nat} {kl : Lit} {y : DataW Nat × List MemPlace} {cnt' : Nat} (hkey : keyOf Try.prog 2 (.int .i64 x) = some kl) (hl : left kl = true) (hy : pE (optp c) = some y) (hat : ∀ zd, M.atKey kl zd = y.1)
    (hrg : w'.ranges Try.prog 2 pE m r (Maps.size M) M (fun z => left z && !z.sameKey kl) cnt') (hgr : wr.grownBy w' (some r)) :
    ∃ a, c = some a.b ∧ a ∈ l ∧ a ∉ Z ∧ (a.j.tn ≠ t → Ln w w' l m r M t (Z ++ [a]) v (fun z => left z && !z.sameKey kl) cnt') ∧ w'.ownsRow w.heap.size 65 1 v (Z.filter fun a => a.j.tn == t).length ((Z.filter fun a => a.j.tn == t).map hp) ∧ Below w.heap.size w w' ∧ (∀ W v', W.ranges Try.prog 2 pE m r (Maps.size M) M (fun z => left z && !z.sameKey kl) cnt' → W.ownsRow w.heap.size 65 1 v' ((Z ++ [a]).filter fun a => a.j.tn == t).length (((Z ++ [a]).filter fun a => a.j.tn == t).map hp) → Below w.heap.size w W → Ln w W l m r M t (Z ++ [a]) v' (fun z => left z && !z.sameKey kl) cnt') := by
  obtain ⟨x', e1, rfl, _⟩ := Maps.keyOf_int_inv Try.underlying2 hkey
  have ex : x = x' := by injection e1
  subst ex
  have hb' : Below w.heap.size w w' := by
    have hk : Kp (· = r) wr w' := Kp.of_grown hgr fun k e => (Option.some.inj e).symm
    refine H.b.trans (hk.below H.b.size fun k h1 q => ?_)
    have := H.r
    omega
  have hrow : w'.ownsRow w.heap.size 65 1 v (Z.filter fun a => a.j.tn == t).length ((Z.filter fun a => a.j.tn == t).map hp) := by
    refine ownsKeep H.row fun g hg => hgr.block g (World.ownsRow.lt H.row g hg).2 fun e => ?_
    rcases H.row.2 with ⟨q, _⟩ | ⟨g', cap, cur, rfl, hbb, hgg, _⟩
    · rw [q] at hg; cases hg
    · have e' : g = r := Option.some.inj e
      have e2 : g' = g := Option.some.inj hg
      rw [e2, e'] at hgg
      exact ranges_r H.rg hgg
  cases ha : aJ l x with
  | none =>
    have q1 := (hM.a x .nil).symm.trans (hat .nil)
    have q2 := (hM.a x (.held 0)).symm.trans (hat (.held 0))
    rw [ha] at q1 q2
    have : (DataW.nil : DataW Nat) = .held 0 := q1.trans q2.symm
    cases this
  | some b =>
    have q1 := (hM.a x .nil).symm.trans (hat .nil)
    rw [ha] at q1
    obtain ⟨a, haL, hax, hab⟩ := aJ_some ha
    have hc : c = some a.b := by
      rw [hab]
      cases c with
      | none =>
        have hy' : (some (DataW.nil, []) : Option (DataW Nat × List MemPlace)) = some y := hy
        rw [← Option.some.inj hy'] at q1
        cases q1
      | some c =>
        have hy' : (some (DataW.held c, []) : Option (DataW Nat × List MemPlace)) = some y := hy
        rw [← Option.some.inj hy'] at q1
        have q1' : (DataW.held b : DataW Nat) = .held c := q1
        exact congrArg some (DataW.held.inj q1').symm
    have haZ : a ∉ Z := fun q => by
      have := (H.l a haL).1 q
      rw [hax, hl] at this
      cases this
    have key : ∀ W v', W.ranges Try.prog 2 pE m r (Maps.size M) M (fun z => left z && !z.sameKey (.int .i64 x)) cnt' → W.ownsRow w.heap.size 65 1 v' ((Z ++ [a]).filter fun a => a.j.tn == t).length (((Z ++ [a]).filter fun a => a.j.tn == t).map hp) → Below w.heap.size w W → Ln w W l m r M t (Z ++ [a]) v' (fun z => left z && !z.sameKey (.int .i64 x)) cnt' := fun W v' h1 h2 h3 => by
      refine ⟨h1, fun c hc => ?_, ?_, fun c hc => ?_, h2, h3, H.m, H.r⟩
      · rcases List.mem_append.1 hc with q | q
        · exact H.z c q
        · rw [List.mem_singleton.1 q]; exact haL
      · refine List.nodup_append.2 ⟨H.nd, List.nodup_cons.2 ⟨nofun, List.nodup_nil⟩, fun c hc d hd e => ?_⟩
        rw [List.mem_singleton.1 hd] at e
        exact haZ (e ▸ hc)
      · rw [List.mem_append, H.l c hc, List.mem_singleton]
        by_cases e : c = a
        · subst e
          have : (Lit.int .i64 c.j.job).sameKey (.int .i64 x) = true := by rw [hax]; exact WideAt.sameKey_self (isKey _)
          rw [this]
          simp
        · have hne : c.j.job ≠ x := fun q => e (hd_one hq hc haL (q.trans hax.symm))
          have : (Lit.int .i64 c.j.job).sameKey (.int .i64 x) = false := Bool.eq_false_iff.2 fun q => lit_ne hne (WideAt.sameKey_eq q)
          rw [this]
          simp [e]
    refine ⟨a, hc, haL, haZ, fun hne => key w' v hrg ?_ hb', hrow, hb', key⟩
    have e : ((Z ++ [a]).filter fun a => a.j.tn == t) = Z.filter fun a => a.j.tn == t := by rw [List.filter_append]; simp [hne]
    rw [e]
    exact hrow
theorem Ln.done (hq : QW w pb mw mh l) (H : Ln w wr l m r M t Z v left cnt) (hl : ∀ kl, left kl = false) : (Z.filter fun a => a.j.tn == t).Perm (l.filter fun a => a.j.tn == t) := by
  refine List.Perm.filter _ ?_
  have hn : l.Nodup := by
    have := hq.nj
    unfold NJ at this
    rw [List.pairwise_map] at this
    exact this.imp fun {a b} h e => h (by rw [e])
  exact (List.perm_ext_iff_of_nodup H.nd hn).2 fun a => ⟨H.z a, fun ha => (H.l a ha).2 (hl _)⟩
end
end Go.Proofs.Ythlbeofonbbbdaa
