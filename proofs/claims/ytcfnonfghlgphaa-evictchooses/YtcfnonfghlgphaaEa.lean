/-
  Victims as plain data; their rows in memory; their turns.
-/
import Derived.Test.YtcfnonfghlgphaaLa
namespace Go.Proofs.Ytcfnonfghlgphaa
open Go.RowKit Go.Maps

/-- a victim, with the headers of its two rows -/
structure Vi where
  j : Int
  p : Int
  s : Int
  qT : Option Addr
  nT : Nat
  cT : Nat
  qN : Option Addr
  nN : Nat
  cN : Nat
  T : List V
  N : List (List UInt8)
def viC (v : Vi) : List Value := [.int .i64 v.j, .int .i64 v.p, .int .i64 v.s, .slice v.qT v.nT v.cT, .slice v.qN v.nN v.cN]
theorem viC_len (v : Vi) : (viC v).length = 5 := rfl
theorem viC_one (v : Vi) : ∀ u ∈ viC v, u.oneCell' = true := by
  intro u hu
  simp only [viC, List.mem_cons, List.not_mem_nil, or_false] at hu
  rcases hu with rfl | rfl | rfl | rfl | rfl <;> rfl
abbrev in64 (x : Int) : Prop := -9223372036854775808 ≤ x ∧ x < 9223372036854775808
structure Vi.ok (w : World) (v : Vi) : Prop where
  j : in64 v.j
  p : in64 v.p
  s : in64 v.s
  t : TA w v.qT v.T
  ct : v.qT = none → v.cT = 0
  lt : v.T.length = v.nT
  n : NA w v.qN v.N
  cn : v.qN = none → v.cN = 0
  ln : v.N.length = v.nN
  sn : ∀ s ∈ v.N, s.length ≤ 281474976710656
  mt : v.nT ≤ 1000000
  mn : v.nN ≤ 1000000
theorem Vi.ok.below {w w1 : World} {v : Vi} (h : v.ok w) (b : Below w.heap.size w w1) : v.ok w1 := ⟨h.j, h.p, h.s, h.t.below b, h.ct, h.lt, h.n.below b, h.cn, h.ln, h.sn, h.mt, h.mn⟩
/-- its numbers are numbers -/
def Vi.in6 (v : Vi) : Prop := in64 v.j ∧ in64 v.p ∧ in64 v.s
def VIn (L : List Vi) : Prop := ∀ v ∈ L, v.in6
theorem Vi.ok.in6 {w : World} {v : Vi} (h : v.ok w) : v.in6 := ⟨h.j, h.p, h.s⟩
def VOk (w : World) (L : List Vi) : Prop := ∀ v ∈ L, v.ok w
theorem VOk.below {w w1 : World} {L : List Vi} (h : VOk w L) (b : Below w.heap.size w w1) : VOk w1 L := fun v hv => (h v hv).below b
theorem VOk.in6 {w : World} {L : List Vi} (h : VOk w L) : VIn L := fun v hv => (h v hv).in6
abbrev VA (w : World) (q : Option Addr) (L : List Vi) : Prop := GA 5 viC w q L
theorem VA.at {w : World} {q : Option Addr} {L : List Vi} (h : VA w q L) {i : Nat} {v : Vi} (hi : L[i]? = some v) : ∃ g o, q = some ⟨g, o, none⟩ ∧ w.cell? ⟨g, o + i * 5, none⟩ = some (.int .i64 v.j) ∧ w.cell? ⟨g, o + i * 5 + 1, none⟩ = some (.int .i64 v.p) ∧ w.cell? ⟨g, o + i * 5 + 2, none⟩ = some (.int .i64 v.s) ∧ w.cell? ⟨g, o + i * 5 + 3, none⟩ = some (.slice v.qT v.nT v.cT) ∧ w.cell? ⟨g, o + i * 5 + 4, none⟩ = some (.slice v.qN v.nN v.cN) := by
  obtain ⟨g, o, e, hc⟩ := h i v hi
  exact ⟨g, o, e, hc 0 _ rfl, hc 1 _ rfl, hc 2 _ rfl, hc 3 _ rfl, hc 4 _ rfl⟩

/-! ### turns -/
/-- who comes first -/
def vb (a b : Vi) : Prop := a.p < b.p ∨ (a.p = b.p ∧ (b.s < a.s ∨ (a.s = b.s ∧ b.j < a.j)))
instance (a b : Vi) : Decidable (vb a b) := by unfold vb; infer_instance
theorem vb_irrefl (a : Vi) : ¬ vb a a := by unfold vb; omega
theorem vb_trans {a b c : Vi} (h : vb a b) (k : vb b c) : vb a c := by unfold vb at *; omega
theorem vb_asymm {a b : Vi} (h : vb a b) : ¬ vb b a := by unfold vb at *; omega
theorem vb_total {a b : Vi} (h : a.j ≠ b.j) : vb a b ∨ vb b a := by unfold vb; omega
/-- no two of one job -/
abbrev Uj (L : List Vi) : Prop := L.Pairwise fun a b => a.j ≠ b.j
theorem Uj.perm {L M : List Vi} (h : Uj L) (p : L.Perm M) : Uj M := (p.pairwise_iff (fun h e => h e.symm)).1 h
/-- in their turns -/
abbrev Tu (L : List Vi) : Prop := L.Pairwise vb
def insV (x : Vi) : List Vi → List Vi
  | [] => [x]
  | y :: r => if vb x y then x :: y :: r else y :: insV x r
def srtV (L : List Vi) : List Vi := L.foldr insV []
theorem insV_perm (x : Vi) : ∀ l, (insV x l).Perm (x :: l)
  | [] => List.Perm.refl _
  | y :: r => by
    unfold insV
    split
    · exact List.Perm.refl _
    · exact ((insV_perm x r).cons y).trans (List.Perm.swap _ _ _)
theorem insV_tu (x : Vi) : ∀ l, (∀ y ∈ l, x.j ≠ y.j) → Tu l → Tu (insV x l)
  | [], _, _ => List.pairwise_singleton _ _
  | y :: r, hx, h => by
    have h1 := List.pairwise_cons.1 h
    unfold insV
    split
    · rename_i q
      exact List.pairwise_cons.2 ⟨fun z hz => by
        rcases List.mem_cons.1 hz with rfl | hz
        · exact q
        · exact vb_trans q (h1.1 z hz), h⟩
    · rename_i q
      have hyx : vb y x := (vb_total (hx y (List.mem_cons_self ..))).resolve_left q
      refine List.pairwise_cons.2 ⟨fun z hz => ?_, insV_tu x r (fun z e => hx z (List.mem_cons_of_mem _ e)) h1.2⟩
      rcases List.mem_cons.1 ((insV_perm x r).mem_iff.1 hz) with rfl | hz
      · exact hyx
      · exact h1.1 z hz
theorem srtV_perm : ∀ L : List Vi, (srtV L).Perm L
  | [] => List.Perm.refl _
  | x :: r => (insV_perm x _).trans ((srtV_perm r).cons x)
theorem srtV_tu : ∀ L : List Vi, Uj L → Tu (srtV L)
  | [], _ => List.Pairwise.nil
  | x :: r, h => by
    have h1 := List.pairwise_cons.1 h
    exact insV_tu x _ (fun y hy => h1.1 y ((srtV_perm r).mem_iff.1 hy)) (srtV_tu r h1.2)
theorem tu_uniq {L M : List Vi} (h : Tu L) (k : Tu M) (p : L.Perm M) : L = M :=
  List.Perm.eq_of_pairwise (le := vb) (fun _ _ _ _ h1 h2 => absurd h2 (vb_asymm h1)) h k p
theorem srt_eq {L M : List Vi} (h : Tu M) (u : Uj L) (p : M.Perm L) : M = srtV L := tu_uniq h (srtV_tu L u) (p.trans (srtV_perm L).symm)
/-- the first of all stands ahead -/
theorem tu_head {R M : List Vi} {v : Vi} (h : Tu R) (p : R.Perm (v :: M)) (hm : ∀ m ∈ M, vb v m) : ∃ R', R = v :: R' ∧ R'.Perm M := by
  cases R with
  | nil => have := p.length_eq; simp at this
  | cons x r =>
    have h1 := List.pairwise_cons.1 h
    have hx : x = v := by
      by_cases e : x = v
      · exact e
      · have a1 : x ∈ M := by
          rcases List.mem_cons.1 (p.mem_iff.1 (List.mem_cons_self ..)) with q | q
          · exact absurd q e
          · exact q
        have a2 : v ∈ r := by
          rcases List.mem_cons.1 (p.mem_iff.2 (List.mem_cons_self ..)) with q | q
          · exact absurd q.symm e
          · exact q
        exact absurd (h1.1 v a2) (vb_asymm (hm x a1))
    subst hx
    exact ⟨r, rfl, (List.perm_cons x).1 p⟩
/-- those whose priority is below -/
def blw (p : Int) (L : List Vi) : List Vi := L.filter fun v => decide (v.p < p)
theorem srt_blw (p : Int) {L : List Vi} (u : Uj L) : srtV (blw p L) = blw p (srtV L) :=
  (srt_eq (List.Pairwise.sublist List.filter_sublist (srtV_tu L u)) (List.Pairwise.sublist List.filter_sublist u) ((srtV_perm L).filter _)).symm
/-- in turns those that are below come first -/
theorem blw_take (p : Int) : ∀ {L : List Vi}, Tu L → blw p L = L.takeWhile fun v => decide (v.p < p)
  | [], _ => rfl
  | x :: r, h => by
    have h1 := List.pairwise_cons.1 h
    by_cases q : x.p < p
    · show List.filter _ _ = List.takeWhile _ _
      rw [List.filter_cons_of_pos (by simpa using q), List.takeWhile_cons_of_pos (by simpa using q)]
      exact congrArg _ (blw_take p h1.2)
    · show List.filter _ _ = List.takeWhile _ _
      rw [List.takeWhile_cons_of_neg (by simpa using q)]
      refine List.filter_eq_nil_iff.2 fun y hy => ?_
      rcases List.mem_cons.1 hy with rfl | hy
      · simpa using q
      · have := h1.1 y hy
        unfold vb at this
        have : ¬ y.p < p := by omega
        simpa using this
end Go.Proofs.Ytcfnonfghlgphaa
