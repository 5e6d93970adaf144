/-
  The heap as plain data: families, places; joining and leaving. The heap in memory; joining a family. What holds of a heap, as plain mathematics: places, order, degrees. No entry of a heap of two thousand has 28 children; the least of the roots is the least of all. The heap's raise, offer, link over the heap's data.
-/
import Derived.Test.YtcgaekaollhmpaaGreatPc
import Derived.Test.YtcgaekaollhmpaaGreatQd
namespace Go.Proofs.YtcgaekaollhmpaaGreat
open Go.RowKit Go.Maps

/-- a family: the roots with i children, the children of p -/
inductive Fa where
  | rt (i : Nat) | kd (p : Nat)
deriving DecidableEq
section
variable {α β : Type} [DecidableEq α]
def upd (f : α → β) (a : α) (v : β) : α → β := fun x => if x = a then v else f x
theorem upd_same (f : α → β) (a : α) (v : β) : upd f a v a = v := by simp [upd]
theorem upd_other (f : α → β) {a x : α} (v : β) (h : x ≠ a) : upd f a v x = f x := by simp [upd, h]
end
structure HS where
  gv : Nat
  mb : Option Nat
  lst : Option Nat
  X : List Nat
  fl : Fa → List Nat
  fv : Fa → Value
  hd : Nat → Nat
  ky : Nat → K
  par : Nat → Option Nat
  ix : Nat → Nat
  lost : Nat → Bool
  pl : Nat → Option Fa
def HS.val (S : HS) : Fa → Prop
  | .rt i => i < 29
  | .kd p => p ∈ S.X
def HS.ndC (S : HS) (b : Nat) : Nat → Value := fun i => if i = 0 then .int .i64 (S.hd b) else if i = 1 then .int .u64 (S.ky b).n else if i = 2 then .int .u64 (S.ky b).d else if i = 3 then .int .i64 (S.ky b).t else if i = 4 then optp (S.par b) else if i = 5 then S.fv (.kd b) else if i = 6 then .int .i64 (S.ix b) else .bool (S.lost b)
def HS.hpC (S : HS) : Nat → Value := fun i => if i = 0 then .int .i64 S.gv else if i = 1 then .map S.mb else if i = 31 then optp S.lst else S.fv (.rt (i - 2))

structure Lc (S : HS) : Prop where
  fam : ∀ F, S.val F → ∀ (j b : Nat), (S.fl F)[j]? = some b → b ∈ S.X ∧ S.pl b = some F ∧ S.ix b = j
  plc : ∀ b ∈ S.X, ∀ F, S.pl b = some F → S.val F ∧ (S.fl F)[S.ix b]? = some b
  slf : ∀ b ∈ S.X, S.pl b ≠ some (.kd b)

def HS.join (S : HS) (F : Fa) (b : Nat) (v : Value) : HS := { S with fl := upd S.fl F (S.fl F ++ [b]), fv := upd S.fv F v, ix := upd S.ix b (S.fl F).length, pl := upd S.pl b (some F) }
def HS.leave (S : HS) (F : Fa) (b x : Nat) (v : Value) : HS := { S with fl := upd S.fl F (((S.fl F).set (S.ix b) x).dropLast), fv := upd S.fv F v, ix := upd S.ix x (S.ix b), pl := upd S.pl b none }
theorem val_join (S : HS) (F : Fa) (b : Nat) (v : Value) (G : Fa) : (S.join F b v).val G = S.val G := by cases G <;> rfl
theorem val_leave (S : HS) (F : Fa) (b x : Nat) (v : Value) (G : Fa) : (S.leave F b x v).val G = S.val G := by cases G <;> rfl

theorem Lc.join {S : HS} (h : Lc S) {F : Fa} {b : Nat} (v : Value) (hF : S.val F) (hb : b ∈ S.X) (hp : S.pl b = none) (hne : F ≠ .kd b) : Lc (S.join F b v) := by
  refine ⟨fun G hG j c hc => ?_, fun c hc G hG => ?_, fun c hc e => ?_⟩
  · rw [val_join] at hG
    have old : (S.fl G)[j]? = some c → c ∈ S.X ∧ (S.join F b v).pl c = some G ∧ (S.join F b v).ix c = j := fun h0 => by
      obtain ⟨h1, h2, h3⟩ := h.fam G hG j c h0
      have hne : c ≠ b := by rintro rfl; rw [hp] at h2; cases h2
      exact ⟨h1, (upd_other _ _ hne).trans h2, (upd_other _ _ hne).trans h3⟩
    by_cases e : G = F
    · subst e
      have hc' : (S.fl G ++ [b])[j]? = some c := by rw [← hc]; exact congrArg (·[j]?) (upd_same S.fl G _).symm
      by_cases hj : j < (S.fl G).length
      · rw [List.getElem?_append_left hj] at hc'
        exact old hc'
      · rw [List.getElem?_append_right (by omega)] at hc'
        have hj0 : j - (S.fl G).length = 0 := by
          have := (List.getElem?_eq_some_iff.1 hc').1
          simp at this
          omega
        rw [hj0] at hc'
        have e : b = c := by simpa using hc'
        subst e
        exact ⟨hb, upd_same _ _ _, (upd_same _ _ _).trans (by omega)⟩
    · have hc' : (S.fl G)[j]? = some c := by rw [← hc]; exact congrArg (·[j]?) (upd_other S.fl _ e).symm
      exact old hc'
  · rw [val_join]
    by_cases e : c = b
    · subst e
      have hG' : some F = some G := (upd_same S.pl c (some F)).symm.trans hG
      obtain rfl := Option.some.inj hG'
      refine ⟨hF, ?_⟩
      show (upd S.fl F (S.fl F ++ [c]) F)[upd S.ix c (S.fl F).length c]? = _
      rw [upd_same, upd_same]
      simp
    · have hG' : S.pl c = some G := (upd_other S.pl _ e).symm.trans hG
      obtain ⟨h1, h2⟩ := h.plc c hc G hG'
      refine ⟨h1, ?_⟩
      show (upd S.fl F (S.fl F ++ [b]) G)[upd S.ix b (S.fl F).length c]? = _
      rw [upd_other _ _ e]
      by_cases e2 : G = F
      · subst e2
        rw [upd_same, List.getElem?_append_left (List.getElem?_eq_some_iff.1 h2).1]
        exact h2
      · rw [upd_other _ _ e2]
        exact h2
  · have e' : upd S.pl b (some F) c = some (.kd c) := e
    by_cases ec : c = b
    · subst ec; rw [upd_same] at e'; exact hne (Option.some.inj e')
    · rw [upd_other _ _ ec] at e'; exact h.slf c hc e'

theorem Lc.leave {S : HS} (h : Lc S) {F : Fa} {b x m : Nat} (v : Value) (hF : S.val F) (hb : b ∈ S.X) (hp : S.pl b = some F) (hm : (S.fl F).length = m + 1) (hx : (S.fl F)[m]? = some x) : Lc (S.leave F b x v) := by
  obtain ⟨x1, x2, x3⟩ := h.fam F hF m x hx
  have hi := (h.plc b hb F hp).2
  have hil : S.ix b < m + 1 := by rw [← hm]; exact (List.getElem?_eq_some_iff.1 hi).1
  have hbx : S.ix b = m → b = x := fun e => by rw [e, hx] at hi; exact (Option.some.inj hi).symm
  have dl : ∀ (j c : Nat), ((((S.fl F).set (S.ix b) x).dropLast)[j]? = some c) ↔ (j < m ∧ ((j = S.ix b ∧ c = x) ∨ (j ≠ S.ix b ∧ (S.fl F)[j]? = some c))) := by
    intro j c
    have hlen : ((S.fl F).set (S.ix b) x).dropLast.length = m := by rw [List.length_dropLast, List.length_set]; omega
    by_cases hj : j < m
    · rw [List.dropLast_eq_take, List.getElem?_take, if_pos (by rw [List.length_set]; omega), List.getElem?_set]
      by_cases e : S.ix b = j
      · rw [if_pos e, if_pos (by omega)]
        subst e
        simp only [hj, true_and, ne_eq, not_true_eq_false, false_and, or_false, Option.some.injEq]
        exact eq_comm
      · rw [if_neg e]
        simp [hj, Ne.symm e]
    · constructor
      · intro h
        have := (List.getElem?_eq_some_iff.1 h).1
        omega
      · rintro ⟨h, _⟩; omega
  refine ⟨fun G hG j c hc => ?_, fun c hc G hG => ?_, fun c hc e => ?_⟩
  · rw [val_leave] at hG
    by_cases e : G = F
    · subst e
      have hc' : (((S.fl G).set (S.ix b) x).dropLast)[j]? = some c := by rw [← hc]; exact congrArg (·[j]?) (upd_same S.fl G _).symm
      obtain ⟨hj, ⟨e1, rfl⟩ | ⟨e1, h1⟩⟩ := (dl j c).1 hc'
      · have hne : c ≠ b := by rintro rfl; omega
        exact ⟨x1, (upd_other _ _ hne).trans x2, (upd_same _ _ _).trans e1.symm⟩
      · obtain ⟨h2, h3, h4⟩ := h.fam G hF j c h1
        have hne : c ≠ b := by rintro rfl; exact e1 h4.symm
        have hnx : c ≠ x := by rintro rfl; omega
        exact ⟨h2, (upd_other _ _ hne).trans h3, (upd_other _ _ hnx).trans h4⟩
    · have hc' : (S.fl G)[j]? = some c := by rw [← hc]; exact congrArg (·[j]?) (upd_other S.fl _ e).symm
      obtain ⟨h2, h3, h4⟩ := h.fam G hG j c hc'
      have hne : c ≠ b := by rintro rfl; rw [hp] at h3; exact e (Option.some.inj h3).symm
      have hnx : c ≠ x := by rintro rfl; rw [x2] at h3; exact e (Option.some.inj h3).symm
      exact ⟨h2, (upd_other _ _ hne).trans h3, (upd_other _ _ hnx).trans h4⟩
  · rw [val_leave]
    have hne : c ≠ b := by
      rintro rfl
      have hG' : (none : Option Fa) = some G := (upd_same S.pl c none).symm.trans hG
      cases hG'
    have hG' : S.pl c = some G := (upd_other S.pl _ hne).symm.trans hG
    obtain ⟨h1, h2⟩ := h.plc c hc G hG'
    refine ⟨h1, ?_⟩
    show (upd S.fl F _ G)[upd S.ix x (S.ix b) c]? = _
    by_cases e2 : G = F
    · subst e2
      rw [upd_same, dl]
      by_cases e3 : c = x
      · subst e3
        rw [upd_same]
        refine ⟨?_, .inl ⟨rfl, rfl⟩⟩
        have : S.ix b ≠ m := fun e => hne (hbx e).symm
        omega
      · rw [upd_other _ _ e3]
        refine ⟨?_, .inr ⟨fun e => hne ?_, h2⟩⟩
        · have hlt := (List.getElem?_eq_some_iff.1 h2).1
          have : S.ix c ≠ m := fun e => e3 (by rw [e, hx] at h2; exact (Option.some.inj h2).symm)
          omega
        · rw [e, hi] at h2
          exact (Option.some.inj h2).symm
    · rw [upd_other _ _ e2]
      have e3 : c ≠ x := by rintro rfl; rw [x2] at hG'; exact e2 (Option.some.inj hG').symm
      rw [upd_other _ _ e3]
      exact h2
  · have e' : upd S.pl b none c = some (.kd c) := e
    by_cases ec : c = b
    · subst ec; rw [upd_same] at e'; cases e'
    · rw [upd_other _ _ ec] at e'; exact h.slf c hc e'
end Go.Proofs.YtcgaekaollhmpaaGreat

namespace Go.Proofs.YtcgaekaollhmpaaGreat
open Go.RowKit Go.Maps

inductive Tg where
  | no | hp | mp | nd | fm (F : Fa)
deriving DecidableEq
structure Mem (w : World) (tg : Nat → Tg) (hb : Nat) (S : HS) : Prop where
  hp : Blk w hb 98 32 S.hpC
  nd : ∀ b ∈ S.X, Blk w b 100 8 (S.ndC b)
  fm : ∀ F, S.val F → Fam w (S.fv F) (S.fl F)
  tp : tg hb = .hp
  tn : ∀ b ∈ S.X, tg b = .nd
  tf : ∀ F, S.val F → ∀ g, (S.fv F).ownBlock = some g → tg g = .fm F
  lt : ∀ k, tg k ≠ .no → k < w.heap.size
def locB (hb : Nat) : Fa → Nat
  | .rt _ => hb
  | .kd p => p
def locO : Fa → Nat
  | .rt i => 2 + i
  | .kd _ => 5
/-- what a call changes: the blocks T, and new ones; the tags stay -/
structure Chg (T : Nat → Prop) (w w' : World) (t t' : Nat → Tg) : Prop where
  kp : Kp T w w'
  tg : ∀ k, k < w.heap.size → t' k = t k
theorem Chg.refl (T : Nat → Prop) (w : World) (tg : Nat → Tg) : Chg T w w tg tg := ⟨Kp.refl _ _, fun _ _ => rfl⟩
theorem Chg.trans {T T' : Nat → Prop} {a b c : World} {t t1 t2 : Nat → Tg} (h : Chg T a b t t1) (k : Chg T' b c t1 t2) (hT : ∀ k, k < a.heap.size → T' k → T k) : Chg T a c t t2 :=
  ⟨h.kp.trans k.kp hT, fun i hi => (k.tg i (Nat.lt_of_lt_of_le hi h.kp.size)).trans (h.tg i hi)⟩
theorem Chg.mono {T T' : Nat → Prop} {a b : World} {t t1 : Nat → Tg} (h : Chg T a b t t1) (hT : ∀ k, k < a.heap.size → T k → T' k) : Chg T' a b t t1 := ⟨h.kp.mono hT, h.tg⟩
theorem Chg.below {T : Nat → Prop} {w w' : World} {tg : Nat → Tg} (b : Below w.heap.size w w') : Chg T w w' tg tg := ⟨Kp.of_below b, fun _ _ => rfl⟩

theorem Mem.keep {w w' : World} {tg : Nat → Tg} {hb : Nat} {S : HS} (h : Mem w tg hb S) (b : Below w.heap.size w w') : Mem w' tg hb S :=
  ⟨h.hp.at (b.block _ h.hp.lt), fun c hc => (h.nd c hc).at (b.block _ (h.nd c hc).lt), fun F hF => (h.fm F hF).keep fun _ hg => b.block _ ((h.fm F hF).lt hg), h.tp, h.tn, h.tf, fun k hk => Nat.lt_of_lt_of_le (h.lt k hk) b.size⟩
theorem hpC_rt (S : HS) {i : Nat} (hi : i < 29) : S.hpC (2 + i) = S.fv (.rt i) := by
  unfold HS.hpC
  rw [if_neg (by omega), if_neg (by omega), if_neg (by omega), show 2 + i - 2 = i by omega]
theorem ndC_kd (S : HS) (p : Nat) : S.ndC p 5 = S.fv (.kd p) := rfl
theorem Mem.loc {w : World} {tg : Nat → Tg} {hb : Nat} {S : HS} (h : Mem w tg hb S) {F : Fa} (hF : S.val F) : ∃ tp np f, Blk w (locB hb F) tp np f ∧ locO F < np ∧ tp ≠ 96 ∧ f (locO F) = S.fv F := by
  cases F with
  | rt i => exact ⟨98, 32, _, h.hp, (by have : i < 29 := hF; show 2 + i < 32; omega), by decide, hpC_rt S hF⟩
  | kd p => exact ⟨100, 8, _, h.nd p hF, (by show 5 < 8; decide), by decide, rfl⟩
/-- the memory behind a change of one family F and one entry's number -/
theorem Mem.turn {w w' : World} {tg tg' : Nat → Tg} {hb : Nat} {S : HS} (h : Mem w tg hb S) {F : Fa} (hF : S.val F) (x : Nat) (hx : x ∈ S.X) (hne : F ≠ .kd x) (l : List Nat) (v : Value) (n : Nat) (pl : Nat → Option Fa)
    (hv : Fam w' v l) (hl : ∀ tp np f, Blk w (locB hb F) tp np f → Blk w' (locB hb F) tp np (fset f (locO F) v)) (hn : Blk w' x 100 8 (fset (S.ndC x) 6 (.int .i64 n)))
    (hk : Kp (fun k => k = locB hb F ∨ k = x ∨ tg k = .fm F) w w') (ht : ∀ k, k < w.heap.size → tg' k = tg k) (hvt : ∀ g, v.ownBlock = some g → tg' g = .fm F) (hlt : ∀ k, tg' k ≠ .no → k < w'.heap.size) :
    Mem w' tg' hb { S with fl := upd S.fl F l, fv := upd S.fv F v, ix := upd S.ix x n, pl := pl } := by
  have hbl : locB hb F < w.heap.size := by obtain ⟨tp, np, f, h1, _⟩ := h.loc hF; exact h1.lt
  refine ⟨?_, fun c hc => ?_, fun G hG => ?_, (ht hb h.hp.lt).trans h.tp, fun c hc => (ht c (h.nd c hc).lt).trans (h.tn c hc), fun G hG g hg => ?_, hlt⟩
  · cases F with
    | rt i =>
      refine (hl _ _ _ h.hp).same fun j hj => ?_
      show fset S.hpC (2 + i) v j = _
      unfold fset HS.hpC upd
      simp only [Fa.rt.injEq]
      by_cases e0 : j = 0
      · subst e0; simp [show ¬ (0 : Nat) = 2 + i by omega]
      by_cases e1 : j = 1
      · subst e1; simp [show ¬ (1 : Nat) = 2 + i by omega]
      by_cases e2 : j = 31
      · have : i < 29 := hF
        subst e2; simp [show ¬ (31 : Nat) = 2 + i by omega]
      by_cases e3 : j = 2 + i
      · subst e3
        simp [show ¬ (2 + i = 1) by omega, e2, show 2 + i - 2 = i by omega]
      · simp [e0, e1, e2, e3, show ¬ (j - 2 = i) by omega]
    | kd p =>
      have hp : hb ≠ p := fun e => by have h1 := h.tp; have h2 := h.tn p hF; rw [e, h2] at h1; cases h1
      have hx' : hb ≠ x := fun e => by have h1 := h.tp; have h2 := h.tn x hx; rw [e, h2] at h1; cases h1
      refine (h.hp.at (hk.block hb h.hp.lt ?_)).same fun j hj => ?_
      · rintro (e | e | e)
        · exact hp e
        · exact hx' e
        · rw [h.tp] at e; cases e
      · unfold HS.hpC upd
        simp
  · by_cases e : c = x
    · subst e
      refine hn.same fun j hj => ?_
      unfold fset HS.ndC upd
      by_cases e6 : j = 6
      · subst e6; simp
      · rw [if_neg e6]
        by_cases e5 : j = 5
        · subst e5; simp [Ne.symm hne]
        · simp [e6, e5]
    · by_cases ep : F = .kd c
      · subst ep
        refine (hl _ _ _ (h.nd c hc)).same fun j hj => ?_
        show fset (S.ndC c) 5 v j = _
        unfold fset HS.ndC upd
        by_cases e5 : j = 5
        · subst e5; simp
        · rw [if_neg e5]
          simp [e5, e]
      · refine ((h.nd c hc).at (hk.block c (h.nd c hc).lt ?_)).same fun j hj => ?_
        · rintro (e' | e' | e')
          · cases F with
            | rt i => have h1 := h.tn c hc; rw [e', show locB hb (.rt i) = hb from rfl, h.tp] at h1; cases h1
            | kd p => exact ep (by rw [e']; rfl)
          · exact e e'
          · have h1 := h.tn c hc; rw [e'] at h1; cases h1
        · unfold HS.ndC upd
          simp [e, Ne.symm ep]
  · have hG' : S.val G := by cases G <;> exact hG
    show Fam w' (upd S.fv F v G) (upd S.fl F l G)
    by_cases e : G = F
    · subst e; rw [upd_same, upd_same]; exact hv
    · rw [upd_other _ _ e, upd_other _ _ e]
      refine (h.fm G hG').keep fun g hg => hk.block g ((h.fm G hG').lt hg) ?_
      have hgt := h.tf G hG' g hg
      rintro (e' | e' | e')
      · subst e'
        cases F with
        | rt i => rw [show locB hb (.rt i) = hb from rfl, h.tp] at hgt; cases hgt
        | kd p => rw [show locB hb (.kd p) = p from rfl, h.tn p hF] at hgt; cases hgt
      · subst e'; rw [h.tn _ hx] at hgt; cases hgt
      · rw [e'] at hgt; cases hgt; exact e rfl
  · have hG' : S.val G := by cases G <;> exact hG
    have hg' : (upd S.fv F v G).ownBlock = some g := hg
    by_cases e : G = F
    · subst e; rw [upd_same] at hg'; exact hvt g hg'
    · rw [upd_other _ _ e] at hg'
      exact (ht g ((h.fm G hG').lt hg')).trans (h.tf G hG' g hg')
theorem join_S {w : World} {tg : Nat → Tg} {hb : Nat} {S : HS} (h : Mem w tg hb S) {F : Fa} (hF : S.val F) {b : Nat} (hx : b ∈ S.X) (hne : F ≠ .kd b) (hl : (S.fl F).length ≤ 1048576) :
    Calls Tryz.prog 73 #[.pointer (some ⟨locB hb F, locO F, none⟩), ptr b] w fun e w' => e = .returned (.tuple #[]) ∧ ∃ v tg', Mem w' tg' hb (S.join F b v) ∧ Chg (fun k => k = locB hb F ∨ k = b ∨ tg k = .fm F) w w' tg tg' := by
  obtain ⟨tp, np, f, h1, h2, h3, h4⟩ := h.loc hF
  have hpb : locB hb F ≠ b := by
    intro e
    cases F with
    | rt i => have := h.tn b hx; rw [← e, show locB hb (.rt i) = hb from rfl, h.tp] at this; cases this
    | kd p => exact hne (by rw [← e]; rfl)
  refine (join_any w (locB hb F) (locO F) tp np b (S.fv F) (S.fl F) f _ h1 h2 h3 h4 (h.nd b hx) hpb hl (h.fm F hF)).mono ?_
  rintro e w' ⟨rfl, v, k1, k2, k3, k4, k5⟩
  have hkp : Kp (fun k => k = locB hb F ∨ k = b ∨ tg k = .fm F) w w' := k4.mono fun k _ hk => hk.imp_right fun hk => hk.imp_right fun hk => h.tf F hF k hk
  have htg : ∀ k, k < w.heap.size → (fun k => if v.ownBlock = some k then Tg.fm F else if k < w.heap.size then tg k else .no) k = tg k := fun k hk => by
    show (if v.ownBlock = some k then Tg.fm F else if k < w.heap.size then tg k else .no) = tg k
    by_cases e : v.ownBlock = some k
    · rw [if_pos e]
      rcases k5 k e with h5 | h5
      · exact (h.tf F hF k h5).symm
      · omega
    · rw [if_neg e, if_pos hk]
  refine ⟨rfl, v, fun k => if v.ownBlock = some k then Tg.fm F else if k < w.heap.size then tg k else .no, ?_, ⟨hkp, htg⟩⟩
  refine h.turn hF b hx hne (S.fl F ++ [b]) v (S.fl F).length (upd S.pl b (some F)) k1 (fun tp' np' f' hB => ?_) k3 hkp htg (fun g hg => by show (if _ then _ else _) = _; rw [if_pos hg]) (fun k hk => ?_)
  · have e : tp' = tp ∧ np' = np ∧ ∀ j, j < np → f' j = f j := by
      unfold Blk at hB h1
      rw [h1] at hB
      simp only [Option.some.injEq, Obj.cells.injEq] at hB
      have hs := congrArg Array.size hB.1
      simp at hs
      subst hs
      refine ⟨hB.2.1.symm, rfl, fun j hj => ?_⟩
      have := congrArg (fun a => a[j]?) hB.1
      simp [hj] at this
      exact this.symm
    obtain ⟨rfl, rfl, e⟩ := e
    refine k2.same fun j hj => ?_
    unfold fset
    split
    · rfl
    · exact (e j hj).symm
  · have hk' : (if v.ownBlock = some k then Tg.fm F else if k < w.heap.size then tg k else .no) ≠ .no := hk
    by_cases e : v.ownBlock = some k
    · exact k1.lt e
    · rw [if_neg e] at hk'
      split at hk'
      · rename_i h'; exact Nat.lt_of_lt_of_le h' k4.size
      · exact absurd rfl hk'

theorem blk_one {w : World} {b t t' n n' : Nat} {f f' : Nat → Value} (h : Blk w b t n f) (h' : Blk w b t' n' f') : t' = t ∧ n' = n ∧ ∀ j, j < n → f' j = f j := by
  unfold Blk at h h'
  rw [h] at h'
  simp only [Option.some.injEq, Obj.cells.injEq] at h'
  have hs := congrArg Array.size h'.1
  simp at hs
  subst hs
  refine ⟨h'.2.1.symm, rfl, fun j hj => ?_⟩
  have := congrArg (fun a => a[j]?) h'.1
  simp [hj] at this
  exact this.symm
theorem leave_S {w : World} {tg : Nat → Tg} {hb : Nat} {S : HS} (h : Mem w tg hb S) (hL : Lc S) {F : Fa} (hF : S.val F) {b : Nat} (hb' : b ∈ S.X) (hp : S.pl b = some F) (hl : (S.fl F).length ≤ 1048576) :
    Calls Tryz.prog 77 #[.pointer (some ⟨locB hb F, locO F, none⟩), .pointer (some ⟨b, 0, none⟩)] w fun e w' => e = .returned (.tuple #[]) ∧ ∃ x m v, (S.fl F).length = m + 1 ∧ (S.fl F)[m]? = some x ∧ Mem w' tg hb (S.leave F b x v) ∧ Chg (fun k => k = locB hb F ∨ k = x ∨ tg k = .fm F) w w' tg tg := by
  obtain ⟨tp, np, f, h1, h2, h3, h4⟩ := h.loc hF
  have hi := (hL.plc b hb' F hp).2
  have hne : S.fl F ≠ [] := by intro e; rw [e] at hi; simp at hi
  obtain ⟨g, c, hv⟩ := (h.fm F hF).row hne
  obtain ⟨m, hm⟩ : ∃ m, (S.fl F).length = m + 1 := ⟨(S.fl F).length - 1, by have := List.length_pos_iff.2 hne; omega⟩
  obtain ⟨x, hx⟩ : ∃ x, (S.fl F)[m]? = some x := ⟨_, List.getElem?_eq_getElem (by omega)⟩
  obtain ⟨x1, x2, x3⟩ := hL.fam F hF m x hx
  have hFx : F ≠ .kd x := fun e => hL.slf x x1 (by rw [x2, e])
  have hpx : locB hb F ≠ x := by
    intro e
    cases F with
    | rt i => have := h.tn x x1; rw [← e, show locB hb (.rt i) = hb from rfl, h.tp] at this; cases this
    | kd p => exact hFx (by rw [← e]; rfl)
  have hfm := h.fm F hF
  rw [hm] at hv
  rw [hv] at hfm h4
  have htg : tg g = .fm F := h.tf F hF g (by rw [hv]; rfl)
  refine (leave_any w (locB hb F) (locO F) tp np b x (S.ix b) m g c (S.fl F) f (S.ndC b) (S.ndC x) h1 h2 h3 h4 hfm hm hi hx (h.nd b hb') rfl (h.nd x x1) hpx (by omega)).mono ?_
  rintro e w' ⟨rfl, k1, k2, k3, k4⟩
  have hkp : Kp (fun k => k = locB hb F ∨ k = x ∨ tg k = .fm F) w w' := k4.mono fun k _ hk => hk.imp_right fun hk => hk.imp_right fun hk => by rw [hk]; exact htg
  refine ⟨rfl, x, m, .slice (some ⟨g, 0, none⟩) m c, hm, hx, ?_, ⟨hkp, fun _ _ => rfl⟩⟩
  refine h.turn hF x x1 hFx _ _ (S.ix b) (upd S.pl b none) k1 (fun tp' np' f' hB => ?_) k3 hkp (fun _ _ => rfl) (fun g' hg' => ?_) (fun k hk => Nat.lt_of_lt_of_le (h.lt k hk) k4.size)
  · obtain ⟨rfl, rfl, e⟩ := blk_one h1 hB
    refine k2.same fun j hj => ?_
    unfold fset
    split
    · rfl
    · exact (e j hj).symm
  · have e : g = g' := by simpa [Value.ownBlock] using hg'
    rw [← e]; exact htg
end Go.Proofs.YtcgaekaollhmpaaGreat

namespace Go.Proofs.YtcgaekaollhmpaaGreat

def HS.lt (S : HS) (a b : Nat) : Prop := el (S.ky a) (S.hd a) (S.ky b) (S.hd b)
def HS.deg (S : HS) (b : Nat) : Nat := (S.fl (.kd b)).length
/-- an entry's degree, with what it has lost -/
def HS.dv (S : HS) (wk : Option Nat) (c : Nat) : Nat := S.deg c + (if S.lost c then 1 else 0) + (if wk = some c then 1 else 0)
structure Inv (S : HS) (wk : Option Nat) (Z : List Nat) : Prop where
  lc : Lc S
  all : ∀ b ∈ S.X, b ∉ Z → S.pl b ≠ none
  out : ∀ b ∈ Z, b ∈ S.X ∧ S.pl b = none
  rt : ∀ b ∈ S.X, ∀ i, S.pl b = some (.rt i) → S.deg b = i ∧ S.par b = none
  kd : ∀ b ∈ S.X, ∀ p, S.pl b = some (.kd p) → S.par b = some p
  ord : ∀ b ∈ S.X, ∀ p, S.pl b = some (.kd p) → S.lt p b
  dl : ∀ b ∈ S.X, S.deg b < 29
  dg : ∀ p ∈ S.X, ∀ k, (S.fl (.kd p)).countP (fun c => decide (S.dv wk c < k)) ≤ k
  nd : S.X.Nodup
  hu : ∀ a ∈ S.X, ∀ b ∈ S.X, S.hd a = S.hd b → a = b
  hg : ∀ a ∈ S.X, S.hd a < S.gv
  ok : ∀ a ∈ S.X, (S.ky a).ok
  gb : S.gv ≤ 1048576

theorem countP_cut {q : Nat → Bool} {l : List Nat} {m i x : Nat} (hm : l.length = m + 1) (hx : l[m]? = some x) (hi : i < m + 1) : ((l.set i x).dropLast).countP q ≤ l.countP q := by
  obtain ⟨l1, rfl⟩ : ∃ l1, l = l1 ++ [x] := by
    refine ⟨l.dropLast, ?_⟩
    have hne : l ≠ [] := by rintro rfl; simp at hm
    have := List.dropLast_concat_getLast hne
    have e : l.getLast hne = x := by
      rw [List.getLast_eq_getElem]
      obtain ⟨h1, h2⟩ := List.getElem?_eq_some_iff.1 hx
      rw [← h2]
      congr 1
      omega
    rw [e] at this
    exact this.symm
  have hl1 : l1.length = m := by simpa using hm
  rw [List.countP_append]
  by_cases e : i = m
  · subst e
    rw [List.set_append_right _ _ (by omega), show i - l1.length = 0 by omega]
    simp
  · rw [List.set_append_left _ _ (by omega), List.dropLast_concat, List.countP_set (by omega)]
    have : l1.countP q ≥ (if q l1[i] = true then 1 else 0) := by
      by_cases h : q l1[i] = true
      · rw [if_pos h]
        exact List.countP_pos_iff.2 ⟨_, List.getElem_mem _, h⟩
      · rw [if_neg h]; exact Nat.zero_le _
    simp only [List.countP_singleton]
    omega
theorem countP_le {q q' : Nat → Bool} {l : List Nat} (h : ∀ c ∈ l, q' c = true → q c = true) : l.countP q' ≤ l.countP q := List.countP_mono_left h

section
variable {S : HS} {wk : Option Nat} {Z : List Nat}
theorem deg_leave_rt (S : HS) (i b x : Nat) (v : Value) (c : Nat) : (S.leave (.rt i) b x v).deg c = S.deg c := by
  unfold HS.deg HS.leave
  simp only
  rw [upd_other _ _ (by simp)]
theorem Inv.leaveRt (h : Inv S wk Z) {i b x m : Nat} (v : Value) (hb : b ∈ S.X) (hp : S.pl b = some (.rt i)) (hm : (S.fl (.rt i)).length = m + 1) (hx : (S.fl (.rt i))[m]? = some x) : Inv (S.leave (.rt i) b x v) wk (b :: Z) := by
  have hF := (h.lc.plc b hb _ hp).1
  have hpl : ∀ c F, (S.leave (.rt i) b x v).pl c = some F → c ≠ b ∧ S.pl c = some F := fun c F e => by
    have e' : upd S.pl b none c = some F := e
    by_cases ec : c = b
    · subst ec; rw [upd_same] at e'; cases e'
    · rw [upd_other _ _ ec] at e'; exact ⟨ec, e'⟩
  refine ⟨h.lc.leave v hF hb hp hm hx, fun c hc hz => ?_, fun c hc => ?_, fun c hc j e => ?_, fun c hc p e => h.kd c hc p (hpl c _ e).2, fun c hc p e => h.ord c hc p (hpl c _ e).2, fun c hc => ?_, fun p hp' k => ?_, h.nd, h.hu, h.hg, h.ok, h.gb⟩
  · have hcb : c ≠ b := fun e => hz (by simp [e])
    show upd S.pl b none c ≠ none
    rw [upd_other _ _ hcb]
    exact h.all c hc fun e => hz (List.mem_cons_of_mem _ e)
  · show c ∈ S.X ∧ upd S.pl b none c = none
    by_cases ec : c = b
    · subst ec; exact ⟨hb, upd_same _ _ _⟩
    · rw [upd_other _ _ ec]
      exact h.out c ((List.mem_cons.1 hc).resolve_left ec)
  · rw [deg_leave_rt]
    exact h.rt c hc j (hpl c _ e).2
  · rw [deg_leave_rt]; exact h.dl c hc
  · have e : (S.leave (.rt i) b x v).fl (.kd p) = S.fl (.kd p) := by
      unfold HS.leave
      simp only
      rw [upd_other _ _ (by simp)]
    rw [e]
    refine Nat.le_trans (countP_le fun c hc hq => ?_) (h.dg p hp' k)
    have hq' := of_decide_eq_true hq
    refine decide_eq_true ?_
    unfold HS.dv at hq' ⊢
    rw [deg_leave_rt] at hq'
    exact hq'
theorem Inv.leaveKd (h : Inv S wk Z) {p b x m : Nat} (v : Value) (hb : b ∈ S.X) (hp : S.pl b = some (.kd p)) (hnr : ∀ i, S.pl p ≠ some (.rt i)) (hw : wk = none ∨ wk = some b) (hm : (S.fl (.kd p)).length = m + 1) (hx : (S.fl (.kd p))[m]? = some x) : Inv (S.leave (.kd p) b x v) (some p) (b :: Z) := by
  obtain ⟨hF, hi⟩ := h.lc.plc b hb _ hp
  have hpX : p ∈ S.X := hF
  have hil : S.ix b < m + 1 := by rw [← hm]; exact (List.getElem?_eq_some_iff.1 hi).1
  have hpl : ∀ c F, (S.leave (.kd p) b x v).pl c = some F → c ≠ b ∧ S.pl c = some F := fun c F e => by
    have e' : upd S.pl b none c = some F := e
    by_cases ec : c = b
    · subst ec; rw [upd_same] at e'; cases e'
    · rw [upd_other _ _ ec] at e'; exact ⟨ec, e'⟩
  have hdp : (S.leave (.kd p) b x v).deg p = m := by
    unfold HS.deg HS.leave
    simp only
    rw [upd_same, List.length_dropLast, List.length_set]
    omega
  have hdo : ∀ c, c ≠ p → (S.leave (.kd p) b x v).deg c = S.deg c := fun c hc => by
    unfold HS.deg HS.leave
    simp only
    rw [upd_other _ _ (by simpa using hc)]
  have hdp0 : S.deg p = m + 1 := hm
  refine ⟨h.lc.leave v hF hb hp hm hx, fun c hc hz => ?_, fun c hc => ?_, fun c hc j e => ?_, fun c hc p e => h.kd c hc p (hpl c _ e).2, fun c hc p e => h.ord c hc p (hpl c _ e).2, fun c hc => ?_, fun r hr k => ?_, h.nd, h.hu, h.hg, h.ok, h.gb⟩
  · have hcb : c ≠ b := fun e => hz (by simp [e])
    show upd S.pl b none c ≠ none
    rw [upd_other _ _ hcb]
    exact h.all c hc fun e => hz (List.mem_cons_of_mem _ e)
  · show c ∈ S.X ∧ upd S.pl b none c = none
    by_cases ec : c = b
    · subst ec; exact ⟨hb, upd_same _ _ _⟩
    · rw [upd_other _ _ ec]
      exact h.out c ((List.mem_cons.1 hc).resolve_left ec)
  · have e2 := (hpl c _ e).2
    rw [hdo c (fun ec => hnr j (by rw [← ec]; exact e2))]
    exact h.rt c hc j e2
  · by_cases ec : c = p
    · subst ec; have := h.dl c hc; omega
    · rw [hdo c ec]; exact h.dl c hc
  · -- the values of all that stand in a list are at least what they were
    have hv : ∀ c, c ≠ b → S.dv wk c ≤ (S.leave (.kd p) b x v).dv (some p) c := fun c hcb => by
      unfold HS.dv
      have hw' : (if wk = some c then 1 else 0) = 0 := by
        rcases hw with e | e
        · rw [e]; rfl
        · rw [e, if_neg (fun e' => hcb (Option.some.inj e').symm)]
      rw [hw']
      show _ + (if S.lost c then 1 else 0) + 0 ≤ _ + (if S.lost c then 1 else 0) + _
      by_cases ec : c = p
      · subst ec; rw [hdp, if_pos (rfl : some c = some c)]; omega
      · rw [hdo c ec]; omega
    have hnb : ∀ c, c ∈ (S.leave (.kd p) b x v).fl (.kd r) → c ≠ b := fun c hc => by
      obtain ⟨j, hj⟩ := List.getElem?_of_mem hc
      have hr' : (S.leave (.kd p) b x v).val (.kd r) := hr
      have := ((h.lc.leave v hF hb hp hm hx).fam (.kd r) hr' j c hj).2.1
      exact (hpl c _ this).1
    refine Nat.le_trans (countP_le (q := fun c => decide (S.dv wk c < k)) fun c hc hq => ?_) (Nat.le_trans ?_ (h.dg r hr k))
    · have hq' := of_decide_eq_true hq
      exact decide_eq_true (Nat.lt_of_le_of_lt (hv c (hnb c hc)) hq')
    · unfold HS.leave
      simp only
      by_cases er : r = p
      · subst er
        rw [upd_same]
        exact countP_cut hm hx hil
      · rw [upd_other _ _ (by simpa using er)]
        exact Nat.le_refl _

/-- a root is weak without harm -/
theorem Inv.unweak {p : Nat} (h : Inv S (some p) Z) (hp : ∀ r, S.pl p ≠ some (.kd r)) : Inv S none Z := by
  refine ⟨h.lc, h.all, h.out, h.rt, h.kd, h.ord, h.dl, fun r hr k => ?_, h.nd, h.hu, h.hg, h.ok, h.gb⟩
  refine Nat.le_trans (countP_le fun c hc hq => ?_) (h.dg r hr k)
  obtain ⟨j, hj⟩ := List.getElem?_of_mem hc
  have hcp : c ≠ p := fun e => hp r (by rw [← e]; exact (h.lc.fam (.kd r) hr j c hj).2.1)
  have hq' := of_decide_eq_true hq
  refine decide_eq_true ?_
  unfold HS.dv at hq' ⊢
  rw [if_neg (fun e => hcp (Option.some.inj e).symm)]
  simpa using hq'
theorem Inv.losing {p : Nat} (h : Inv S (some p) Z) (hl : S.lost p = false) : Inv { S with lost := upd S.lost p true } none Z := by
  refine ⟨⟨h.lc.fam, h.lc.plc, h.lc.slf⟩, h.all, h.out, h.rt, h.kd, h.ord, h.dl, fun r hr k => ?_, h.nd, h.hu, h.hg, h.ok, h.gb⟩
  refine Nat.le_trans (countP_le fun c hc hq => ?_) (h.dg r hr k)
  have hq' := of_decide_eq_true hq
  refine decide_eq_true ?_
  have hq2 : S.deg c + (if upd S.lost p true c = true then 1 else 0) + 0 < k := hq'
  unfold HS.dv
  by_cases e : c = p
  · subst e
    rw [upd_same] at hq2
    rw [hl]
    simp at hq2 ⊢
    omega
  · rw [upd_other _ _ e] at hq2
    rw [if_neg (fun e' => e (Option.some.inj e').symm)]
    exact hq2
def HS.raise (S : HS) (b : Nat) (v : Value) : HS := HS.join { S with par := upd S.par b none } (.rt (S.deg b)) b v
theorem deg_raise (S : HS) (b : Nat) (v : Value) (c : Nat) : (S.raise b v).deg c = S.deg c := by
  unfold HS.deg HS.raise HS.join
  simp only
  rw [upd_other _ _ (by simp)]
theorem fl_raise (S : HS) (b : Nat) (v : Value) (p : Nat) : (S.raise b v).fl (.kd p) = S.fl (.kd p) := by
  unfold HS.raise HS.join
  simp only
  rw [upd_other _ _ (by simp)]
theorem pl_raise (S : HS) (b : Nat) (v : Value) (c : Nat) : (S.raise b v).pl c = if c = b then some (.rt (S.deg b)) else S.pl c := rfl
theorem Inv.raise (h : Inv S wk Z) {b : Nat} (v : Value) (hb : b ∈ Z) : Inv (S.raise b v) wk (Z.filter (· ≠ b)) := by
  obtain ⟨hX, hp⟩ := h.out b hb
  have hd := h.dl b hX
  have h1 : Lc { S with par := upd S.par b none } := ⟨h.lc.fam, h.lc.plc, h.lc.slf⟩
  have hF : HS.val { S with par := upd S.par b none } (.rt (S.deg b)) := hd
  have hk : ∀ c p, (S.raise b v).pl c = some (.kd p) → c ≠ b ∧ S.pl c = some (.kd p) := fun c p e => by
    rw [pl_raise] at e
    split at e
    · cases e
    · rename_i hc; exact ⟨hc, e⟩
  refine ⟨h1.join v hF hX hp (by simp), fun c hc hz => ?_, fun c hc => ?_, fun c hc j e => ?_, fun c hc p e => ?_, fun c hc p e => h.ord c hc p (hk c p e).2, fun c hc => by rw [deg_raise]; exact h.dl c hc, fun p hp' k => ?_, h.nd, h.hu, h.hg, h.ok, h.gb⟩
  · rw [pl_raise]
    split
    · simp
    · rename_i hcb
      exact h.all c hc fun e => hz (List.mem_filter.2 ⟨e, by simpa using hcb⟩)
  · obtain ⟨z1, z2⟩ := List.mem_filter.1 hc
    have hcb : c ≠ b := by simpa using z2
    rw [pl_raise, if_neg hcb]
    exact h.out c z1
  · rw [deg_raise]
    rw [pl_raise] at e
    show _ ∧ upd S.par b none c = none
    by_cases hcb : c = b
    · subst hcb
      rw [if_pos rfl] at e
      simp only [Option.some.injEq, Fa.rt.injEq] at e
      exact ⟨e, upd_same _ _ _⟩
    · rw [if_neg hcb] at e
      rw [upd_other _ _ hcb]
      exact h.rt c hc j e
  · obtain ⟨e1, e2⟩ := hk c p e
    show upd S.par b none c = _
    rw [upd_other _ _ e1]
    exact h.kd c hc p e2
  · rw [fl_raise]
    refine Nat.le_trans (countP_le fun c hc hq => ?_) (h.dg p hp' k)
    have hq' := of_decide_eq_true hq
    refine decide_eq_true ?_
    unfold HS.dv at hq' ⊢
    rw [deg_raise] at hq'
    exact hq'
def HS.under (S : HS) (a b : Nat) (v : Value) : HS := { S.join (.kd a) b v with par := upd S.par b (some a), lost := upd S.lost b false }
theorem deg_under (S : HS) (a b : Nat) (v : Value) (c : Nat) : (S.under a b v).deg c = if c = a then S.deg a + 1 else S.deg c := by
  unfold HS.deg HS.under HS.join
  simp only
  by_cases e : c = a
  · subst e; rw [upd_same, if_pos rfl]; simp
  · rw [upd_other _ _ (by simpa using e), if_neg e]
theorem pl_under (S : HS) (a b : Nat) (v : Value) (c : Nat) : (S.under a b v).pl c = if c = b then some (.kd a) else S.pl c := rfl
theorem Inv.under (h : Inv S none Z) {a b : Nat} (v : Value) (ha : a ∈ Z) (hb : b ∈ Z) (hab : a ≠ b) (hdg : S.deg b = S.deg a) (hd : S.deg a + 1 < 29) (hlt : S.lt a b) : Inv (S.under a b v) none (Z.filter (· ≠ b)) := by
  obtain ⟨hX, hp⟩ := h.out b hb
  obtain ⟨hXa, hpa⟩ := h.out a ha
  have hJ : Lc (S.join (.kd a) b v) := h.lc.join v hXa hX hp (by simpa using hab)
  refine ⟨⟨hJ.fam, hJ.plc, hJ.slf⟩, fun c hc hz => ?_, fun c hc => ?_, fun c hc j e => ?_, fun c hc p e => ?_, fun c hc p e => ?_, fun c hc => ?_, fun p hp' k => ?_, h.nd, h.hu, h.hg, h.ok, h.gb⟩
  · rw [pl_under]
    split
    · simp
    · rename_i hcb
      exact h.all c hc fun e => hz (List.mem_filter.2 ⟨e, by simpa using hcb⟩)
  · obtain ⟨z1, z2⟩ := List.mem_filter.1 hc
    have hcb : c ≠ b := by simpa using z2
    rw [pl_under, if_neg hcb]
    exact h.out c z1
  · rw [pl_under] at e
    split at e
    · cases e
    · rename_i hcb
      have hca : c ≠ a := fun e' => by rw [e', hpa] at e; cases e
      rw [deg_under, if_neg hca]
      show _ ∧ upd S.par b (some a) c = none
      rw [upd_other _ _ hcb]
      exact h.rt c hc j e
  · rw [pl_under] at e
    show upd S.par b (some a) c = some p
    by_cases hcb : c = b
    · subst hcb
      rw [if_pos rfl] at e
      rw [upd_same]
      simp only [Option.some.injEq, Fa.kd.injEq] at e
      rw [e]
    · rw [if_neg hcb] at e
      rw [upd_other _ _ hcb]
      exact h.kd c hc p e
  · rw [pl_under] at e
    by_cases hcb : c = b
    · subst hcb
      rw [if_pos rfl] at e
      simp only [Option.some.injEq, Fa.kd.injEq] at e
      subst e
      exact hlt
    · rw [if_neg hcb] at e
      exact h.ord c hc p e
  · rw [deg_under]
    split
    · exact hd
    · exact h.dl c hc
  · have hin : ∀ r ∈ S.X, ∀ c ∈ S.fl (.kd r), c ≠ a ∧ c ≠ b := fun r hr c hc => by
      obtain ⟨j, hj⟩ := List.getElem?_of_mem hc
      have := (h.lc.fam (.kd r) hr j c hj).2.1
      exact ⟨fun e => (by rw [e, hpa] at this; cases this), fun e => (by rw [e, hp] at this; cases this)⟩
    have hv : ∀ c, c ≠ a → c ≠ b → (S.under a b v).dv none c = S.dv none c := fun c h1 h2 => by
      unfold HS.dv
      rw [deg_under, if_neg h1]
      show _ + (if upd S.lost b false c = true then 1 else 0) + _ = _
      rw [upd_other _ _ h2]
    have hvb : (S.under a b v).dv none b = S.deg a := by
      unfold HS.dv
      rw [deg_under, if_neg (Ne.symm hab), hdg]
      show _ + (if upd S.lost b false b = true then 1 else 0) + _ = _
      rw [upd_same]
      simp
    have hold : (S.fl (.kd p)).countP (fun c => decide ((S.under a b v).dv none c < k)) ≤ k := by
      refine Nat.le_trans (countP_le fun c hc hq => ?_) (h.dg p hp' k)
      obtain ⟨h1, h2⟩ := hin p hp' c hc
      rw [hv c h1 h2] at hq
      exact hq
    unfold HS.under HS.join
    simp only
    by_cases ep : p = a
    · subst ep
      rw [upd_same]
      show (S.fl (.kd p) ++ [b]).countP (fun c => decide ((S.under p b v).dv none c < k)) ≤ k
      rw [List.countP_append, List.countP_singleton, hvb]
      by_cases hk : k ≤ S.deg p
      · rw [decide_eq_false (by omega)]
        simpa using hold
      · have h1 := List.countP_le_length (p := fun c => decide ((S.under p b v).dv none c < k)) (l := S.fl (.kd p))
        have h2 : S.deg p = (S.fl (.kd p)).length := rfl
        split <;> omega
    · rw [upd_other _ _ (by simpa using ep)]
      exact hold
/-- the entry e is dropped, and its children are nowhere -/
def HS.drop (S : HS) (e : Nat) : HS := { S with X := S.X.filter (· ≠ e), pl := fun c => if S.pl c = some (.kd e) then none else S.pl c }
theorem Inv.drop {e : Nat} (h : Inv S none [e]) : Inv (S.drop e) none (S.fl (.kd e)) := by
  obtain ⟨hX, hp⟩ := h.out e (by simp)
  have mX : ∀ {c}, c ∈ (S.drop e).X → c ∈ S.X ∧ c ≠ e := fun hc => by
    obtain ⟨h1, h2⟩ := List.mem_filter.1 hc
    exact ⟨h1, by simpa using h2⟩
  have toX : ∀ {c}, c ∈ S.X → c ≠ e → c ∈ (S.drop e).X := fun h1 h2 => List.mem_filter.2 ⟨h1, by simpa using h2⟩
  have hpl : ∀ c F, (S.drop e).pl c = some F → S.pl c = some F ∧ F ≠ .kd e := fun c F q => by
    have q' : (if S.pl c = some (.kd e) then none else S.pl c) = some F := q
    split at q'
    · cases q'
    · rename_i hn
      exact ⟨q', fun e' => hn (by rw [q', e'])⟩
  have hvl : ∀ F, (S.drop e).val F → S.val F ∧ F ≠ .kd e := fun F hF => by
    cases F with
    | rt i => exact ⟨hF, by simp⟩
    | kd p => obtain ⟨h1, h2⟩ := mX hF; exact ⟨h1, by simpa using h2⟩
  have hch : ∀ c ∈ S.fl (.kd e), c ∈ S.X ∧ S.pl c = some (.kd e) := fun c hc => by
    obtain ⟨j, hj⟩ := List.getElem?_of_mem hc
    obtain ⟨h1, h2, _⟩ := h.lc.fam (.kd e) hX j c hj
    exact ⟨h1, h2⟩
  refine ⟨⟨fun F hF j b hb => ?_, fun b hb F hF => ?_, fun b hb q => ?_⟩, fun c hc hz => ?_, fun c hc => ?_, fun c hc j q => h.rt c (mX hc).1 j (hpl c _ q).1, fun c hc p q => h.kd c (mX hc).1 p (hpl c _ q).1, fun c hc p q => h.ord c (mX hc).1 p (hpl c _ q).1, fun c hc => h.dl c (mX hc).1, fun p hp' k => h.dg p (mX hp').1 k, h.nd.filter _, fun a ha b hb => h.hu a (mX ha).1 b (mX hb).1, fun a ha => h.hg a (mX ha).1, fun a ha => h.ok a (mX ha).1, h.gb⟩
  · obtain ⟨h1, h2⟩ := hvl F hF
    obtain ⟨k1, k2, k3⟩ := h.lc.fam F h1 j b hb
    refine ⟨toX k1 fun q => (by rw [q, hp] at k2; cases k2), ?_, k3⟩
    show (if S.pl b = some (.kd e) then none else S.pl b) = some F
    rw [k2, if_neg (fun q => h2 (Option.some.inj q))]
  · obtain ⟨k1, k2⟩ := hpl b F hF
    obtain ⟨k3, k4⟩ := h.lc.plc b (mX hb).1 F k1
    refine ⟨?_, k4⟩
    cases F with
    | rt i => exact k3
    | kd p => exact toX k3 (by simpa using k2)
  · exact h.lc.slf b (mX hb).1 (hpl b _ q).1
  · obtain ⟨k1, k2⟩ := mX hc
    show (if S.pl c = some (.kd e) then none else S.pl c) ≠ none
    split
    · rename_i q
      exact absurd (by
        obtain ⟨_, k4⟩ := h.lc.plc c k1 _ q
        exact List.mem_of_getElem? k4) hz
    · exact h.all c k1 (by simpa using k2)
  · obtain ⟨k1, k2⟩ := hch c hc
    refine ⟨toX k1 fun q => (by rw [q, hp] at k2; cases k2), ?_⟩
    show (if S.pl c = some (.kd e) then none else S.pl c) = none
    rw [if_pos k2]
end
end Go.Proofs.YtcgaekaollhmpaaGreat

namespace Go.Proofs.YtcgaekaollhmpaaGreat

theorem nodup_len : ∀ {l m : List Nat}, l.Nodup → (∀ a ∈ l, a ∈ m) → l.length ≤ m.length
  | [], m, _, _ => Nat.zero_le _
  | a :: l, m, h, hs => by
    obtain ⟨h1, h2⟩ := List.nodup_cons.1 h
    have := nodup_len (l := l) (m := m.erase a) h2 fun x hx => (List.mem_erase_of_ne (fun e => h1 (by rw [← e]; exact hx))).2 (hs x (List.mem_cons_of_mem _ hx))
    have h3 := List.length_erase_of_mem (hs a (List.mem_cons_self ..))
    have h4 := List.length_pos_of_mem (hs a (List.mem_cons_self ..))
    rw [List.length_cons]
    omega
section
variable {S : HS} {Z : List Nat}
theorem kids_nodup {wk : Option Nat} (h : Inv S wk Z) {p : Nat} (hp : p ∈ S.X) : (S.fl (.kd p)).Nodup := by
  refine List.pairwise_iff_getElem.2 fun i j hi hj hij e => ?_
  have hx : (S.fl (.kd p))[j]? = some (S.fl (.kd p))[j] := List.getElem?_eq_getElem hj
  have hy : (S.fl (.kd p))[i]? = some (S.fl (.kd p))[j] := by rw [List.getElem?_eq_getElem hi, e]
  have h1 := (h.lc.fam (.kd p) hp j _ hx).2.2
  have h2 := (h.lc.fam (.kd p) hp i _ hy).2.2
  omega
def big (S : HS) (d p : Nat) : List Nat := ((S.fl (.kd p)).filter fun c => !decide (S.dv none c < d - 3)).take 3
theorem big_len (h : Inv S none Z) {p d : Nat} (hp : p ∈ S.X) (hd : d ≤ S.deg p) (h4 : 4 ≤ d) : (big S d p).length = 3 := by
  unfold big
  rw [List.length_take]
  have h1 := h.dg p hp (d - 3)
  have h2 := List.length_eq_countP_add_countP (fun c => decide (S.dv none c < d - 3)) (l := S.fl (.kd p))
  have h3 : ((S.fl (.kd p)).filter fun c => !decide (S.dv none c < d - 3)).length = (S.fl (.kd p)).countP fun c => !decide (S.dv none c < d - 3) := (List.countP_eq_length_filter ..).symm
  have h5 : S.deg p = (S.fl (.kd p)).length := rfl
  have h6 : ((S.fl (.kd p)).countP fun c => decide ¬ (decide (S.dv none c < d - 3)) = true) = (S.fl (.kd p)).countP fun c => !decide (S.dv none c < d - 3) := by
    congr 1
    funext c
    by_cases e : S.dv none c < d - 3 <;> simp [e]
  rw [h6] at h2
  omega
theorem big_mem (h : Inv S none Z) {p d c : Nat} (hp : p ∈ S.X) (hc : c ∈ big S d p) : c ∈ S.X ∧ S.pl c = some (.kd p) ∧ d - 4 ≤ S.deg c := by
  have h1 := List.mem_of_mem_take hc
  obtain ⟨h2, h3⟩ := List.mem_filter.1 h1
  obtain ⟨j, hj⟩ := List.getElem?_of_mem h2
  obtain ⟨k1, k2, _⟩ := h.lc.fam (.kd p) hp j c hj
  refine ⟨k1, k2, ?_⟩
  have h4 : ¬ S.dv none c < d - 3 := by simpa using h3
  unfold HS.dv at h4
  simp only [reduceCtorEq, if_false] at h4
  split at h4 <;> omega
theorem level (h : Inv S none Z) {d : Nat} (h4 : 4 ≤ d) {L : List Nat} (hn : L.Nodup) (hL : ∀ p ∈ L, p ∈ S.X ∧ d ≤ S.deg p) : ∃ L' : List Nat, L'.Nodup ∧ L'.length = 3 * L.length ∧ ∀ p ∈ L', p ∈ S.X ∧ d - 4 ≤ S.deg p := by
  refine ⟨L.flatMap (big S d), ?_, ?_, fun c hc => ?_⟩
  · refine List.pairwise_flatMap.2 ⟨fun p hp => ?_, ?_⟩
    · exact ((kids_nodup h (hL p hp).1).filter _).sublist (List.take_sublist _ _)
    · refine List.Pairwise.imp_of_mem (fun {a b} ha hb hab x hx y hy e => ?_) hn
      obtain ⟨_, k1, _⟩ := big_mem h (hL a ha).1 hx
      obtain ⟨_, k2, _⟩ := big_mem h (hL b hb).1 hy
      rw [e, k2] at k1
      simp only [Option.some.injEq, Fa.kd.injEq] at k1
      exact hab k1.symm
  · clear hn
    induction L with
    | nil => rfl
    | cons a L ih =>
      rw [List.flatMap_cons, List.length_append, big_len h (hL a (List.mem_cons_self ..)).1 (hL a (List.mem_cons_self ..)).2 h4, ih fun p hp => hL p (List.mem_cons_of_mem _ hp), List.length_cons]
      omega
  · obtain ⟨p, hp, hc'⟩ := List.mem_flatMap.1 hc
    obtain ⟨k1, _, k3⟩ := big_mem h (hL p hp).1 hc'
    exact ⟨k1, k3⟩
theorem deg_bound (h : Inv S none Z) (hs : S.X.length ≤ 2000) {b : Nat} (hb : b ∈ S.X) : S.deg b ≤ 27 := by
  refine Decidable.byContradiction fun hd => ?_
  obtain ⟨L1, n1, l1, e1⟩ := level h (d := 28) (by omega) (L := [b]) (by simp) (fun p hp => by simp only [List.mem_singleton] at hp; subst hp; exact ⟨hb, by omega⟩)
  obtain ⟨L2, n2, l2, e2⟩ := level h (d := 24) (by omega) n1 e1
  obtain ⟨L3, n3, l3, e3⟩ := level h (d := 20) (by omega) n2 e2
  obtain ⟨L4, n4, l4, e4⟩ := level h (d := 16) (by omega) n3 e3
  obtain ⟨L5, n5, l5, e5⟩ := level h (d := 12) (by omega) n4 e4
  obtain ⟨L6, n6, l6, e6⟩ := level h (d := 8) (by omega) n5 e5
  obtain ⟨L7, n7, l7, e7⟩ := level h (d := 4) (by omega) n6 e6
  have := nodup_len n7 fun a ha => (e7 a ha).1
  simp at l1
  omega

/-! ### the least -/
def HS.isMin (S : HS) (m : Nat) (Y : Nat → Prop) : Prop := ∀ b, Y b → b = m ∨ S.lt m b
theorem lt_trans' {wk : Option Nat} (h : Inv S wk Z) {a b c : Nat} (ha : a ∈ S.X) (hb : b ∈ S.X) (hc : c ∈ S.X) (h1 : S.lt a b) (h2 : S.lt b c) : S.lt a c := el.trans (h.ok a ha).z (h.ok b hb).z (h.ok c hc).z h1 h2
theorem lt_tri {wk : Option Nat} (h : Inv S wk Z) {a b : Nat} (ha : a ∈ S.X) (hb : b ∈ S.X) (hne : a ≠ b) : S.lt a b ∨ S.lt b a := el_tri _ _ _ _ fun e => hne (h.hu a ha b hb e)
theorem min_exists {wk : Option Nat} (h : Inv S wk Z) : ∀ (L : List Nat), (∀ a ∈ L, a ∈ S.X) → L ≠ [] → ∃ m ∈ L, S.isMin m (· ∈ L)
  | [], _, hn => absurd rfl hn
  | [a], _, _ => ⟨a, by simp, fun b hb => .inl (by simpa using hb)⟩
  | a :: b :: L, hL, _ => by
    obtain ⟨m, hm, hmin⟩ := min_exists h (b :: L) (fun x hx => hL x (List.mem_cons_of_mem _ hx)) (by simp)
    have ha := hL a (List.mem_cons_self ..)
    have hmX := hL m (List.mem_cons_of_mem _ hm)
    by_cases e : a = m
    · refine ⟨m, List.mem_cons_of_mem _ hm, fun x hx => ?_⟩
      rcases List.mem_cons.1 hx with rfl | hx
      · exact .inl e
      · exact hmin x hx
    · rcases lt_tri h ha hmX e with h1 | h1
      · refine ⟨a, List.mem_cons_self .., fun x hx => ?_⟩
        rcases List.mem_cons.1 hx with rfl | hx
        · exact .inl rfl
        · rcases hmin x hx with rfl | h2
          · exact .inr h1
          · exact .inr (lt_trans' h ha hmX (hL x (List.mem_cons_of_mem _ hx)) h1 h2)
      · refine ⟨m, List.mem_cons_of_mem _ hm, fun x hx => ?_⟩
        rcases List.mem_cons.1 hx with rfl | hx
        · exact .inr h1
        · exact hmin x hx
/-- the least of the roots is the least of all -/
theorem root_min {wk : Option Nat} (h : Inv S wk []) {m : Nat} (hm : m ∈ S.X) (hmin : S.isMin m fun b => b ∈ S.X ∧ ∃ i, S.pl b = some (.rt i)) : S.isMin m (· ∈ S.X) := by
  obtain ⟨m0, h0, hmin0⟩ := min_exists h S.X (fun _ h => h) (by rintro e; rw [e] at hm; simp at hm)
  have hroot : ∃ i, S.pl m0 = some (.rt i) := by
    cases hp : S.pl m0 with
    | none => exact absurd hp (h.all m0 h0 (by simp))
    | some F =>
      cases F with
      | rt i => exact ⟨i, rfl⟩
      | kd p =>
        have h1 := h.ord m0 h0 p hp
        have h2 : p ∈ S.X := (h.lc.plc m0 h0 _ hp).1
        rcases hmin0 p h2 with h3 | h3
        · rw [h3] at h1; exact absurd h1 (el_irr _ _)
        · exact absurd h3 (el_asymm h1)
  have e : m0 = m := by
    rcases hmin m0 ⟨h0, hroot⟩ with h1 | h1
    · exact h1
    · rcases hmin0 m hm with h2 | h2
      · exact h2.symm
      · exact absurd h2 (el_asymm h1)
  rw [← e]; exact hmin0
end
end Go.Proofs.YtcgaekaollhmpaaGreat

namespace Go.Proofs.YtcgaekaollhmpaaGreat
open Go.RowKit Go.Maps

theorem fam_len {S : HS} (h : Lc S) {F : Fa} (hF : S.val F) : (S.fl F).length ≤ S.X.length := by
  refine nodup_len (List.pairwise_iff_getElem.2 fun i j hi hj hij e => ?_) fun a ha => ?_
  · have hx : (S.fl F)[j]? = some (S.fl F)[j] := List.getElem?_eq_getElem hj
    have hy : (S.fl F)[i]? = some (S.fl F)[j] := by rw [List.getElem?_eq_getElem hi, e]
    have h1 := (h.fam F hF j _ hx).2.2
    have h2 := (h.fam F hF i _ hy).2.2
    omega
  · obtain ⟨j, hj⟩ := List.getElem?_of_mem ha
    exact (h.fam F hF j a hj).1
section
variable {w w' : World} {tg tg' : Nat → Tg} {hb : Nat} {S S' : HS} {wk : Option Nat} {Z : List Nat}
theorem Mem.ne_hb (h : Mem w tg hb S) {b : Nat} (hb' : b ∈ S.X) : hb ≠ b := fun e => by have h1 := h.tp; rw [e, h.tn b hb'] at h1; cases h1
theorem Mem.node (h : Mem w tg hb S) {b : Nat} (hb' : b ∈ S.X) (hk : Kp (· = b) w w') (S' : HS) (hX : S'.X = S.X) (hfl : S'.fl = S.fl) (hfv : S'.fv = S.fv) (hh : S'.hpC = S.hpC) (ho : ∀ c, c ≠ b → S'.ndC c = S.ndC c) (hn : Blk w' b 100 8 (S'.ndC b)) : Mem w' tg hb S' := by
  have hval : ∀ F, S'.val F → S.val F := fun F hF => by
    cases F with
    | rt i => exact hF
    | kd p => exact (hX ▸ hF : p ∈ S.X)
  refine ⟨by rw [hh]; exact blk_keep h.hp hk (h.ne_hb hb'), fun c hc => ?_, fun F hF => ?_, h.tp, fun c hc => h.tn c (hX ▸ hc), fun F hF g hg => h.tf F (hval F hF) g (by rw [← hfv]; exact hg), fun k hk' => Nat.lt_of_lt_of_le (h.lt k hk') hk.size⟩
  · by_cases e : c = b
    · subst e; exact hn
    · rw [ho c e]
      exact blk_keep (h.nd c (hX ▸ hc)) hk e
  · rw [hfv, hfl]
    refine (h.fm F (hval F hF)).keep fun g hg => hk.block g ((h.fm F (hval F hF)).lt hg) fun e => ?_
    have h1 := h.tf F (hval F hF) g hg
    rw [show g = b from e, h.tn b hb'] at h1
    cases h1
theorem Mem.head (h : Mem w tg hb S) (hk : Kp (· = hb) w w') (S' : HS) (hX : S'.X = S.X) (hfl : S'.fl = S.fl) (hfv : S'.fv = S.fv) (ho : ∀ c, S'.ndC c = S.ndC c) (hn : Blk w' hb 98 32 S'.hpC) : Mem w' tg hb S' := by
  have hval : ∀ F, S'.val F → S.val F := fun F hF => by
    cases F with
    | rt i => exact hF
    | kd p => exact (hX ▸ hF : p ∈ S.X)
  refine ⟨hn, fun c hc => ?_, fun F hF => ?_, h.tp, fun c hc => h.tn c (hX ▸ hc), fun F hF g hg => h.tf F (hval F hF) g (by rw [← hfv]; exact hg), fun k hk' => Nat.lt_of_lt_of_le (h.lt k hk') hk.size⟩
  · rw [ho c]
    exact blk_keep (h.nd c (hX ▸ hc)) hk fun e => h.ne_hb (hX ▸ hc) e.symm
  · rw [hfv, hfl]
    refine (h.fm F (hval F hF)).keep fun g hg => hk.block g ((h.fm F (hval F hF)).lt hg) fun e => ?_
    have h1 := h.tf F (hval F hF) g hg
    rw [show g = hb from e, h.tp] at h1
    cases h1
theorem Mem.kid (h : Mem w tg hb S) {b : Nat} (hb' : b ∈ S.X) : ∃ a c, S.fv (.kd b) = .slice a (S.deg b) c := (h.fm (.kd b) hb').shape
theorem Mem.setPar (h : Mem w tg hb S) {b : Nat} (hb' : b ∈ S.X) (p : Option Nat) : Mem (w.setCell ⟨b, 4, none⟩ (optp p)) tg hb { S with par := upd S.par b p } := by
  refine h.node hb' (Kp.of_set _ _ _ rfl) _ rfl rfl rfl rfl (fun c hc => ?_) (((h.nd b hb').set 4 _).same fun j hj => ?_)
  · funext j
    unfold HS.ndC
    simp only
    rw [upd_other _ _ hc]
  · unfold fset HS.ndC
    simp only
    by_cases e : j = 4
    · subst e; simp [upd_same]
    · simp [e]
theorem Mem.setLost (h : Mem w tg hb S) {b : Nat} (hb' : b ∈ S.X) (p : Bool) : Mem (w.setCell ⟨b, 7, none⟩ (.bool p)) tg hb { S with lost := upd S.lost b p } := by
  refine h.node hb' (Kp.of_set _ _ _ rfl) _ rfl rfl rfl rfl (fun c hc => ?_) (((h.nd b hb').set 7 _).same fun j hj => ?_)
  · funext j
    unfold HS.ndC
    simp only
    rw [upd_other _ _ hc]
  · unfold fset HS.ndC
    simp only
    by_cases e : j = 7
    · subst e; simp [upd_same]
    · rw [if_neg e, show (upd S.lost b p b) = p from upd_same _ _ _]
      by_cases e0 : j = 0
      · simp [e0]
      by_cases e1 : j = 1
      · simp [e1]
      by_cases e2 : j = 2
      · simp [e2]
      by_cases e3 : j = 3
      · simp [e3]
      by_cases e4 : j = 4
      · simp [e4]
      by_cases e5 : j = 5
      · simp [e5]
      by_cases e6 : j = 6
      · simp [e6]
      omega
theorem Mem.setLst (h : Mem w tg hb S) (p : Option Nat) : Mem (w.setCell ⟨hb, 31, none⟩ (optp p)) tg hb { S with lst := p } := by
  refine h.head (Kp.of_set _ _ _ rfl) _ rfl rfl rfl (fun c => rfl) ((h.hp.set 31 _).same fun j hj => ?_)
  unfold fset HS.hpC
  simp only
  by_cases e : j = 31
  · subst e; simp
  · simp [e]

set_option maxHeartbeats 1000000 in
theorem raise_S (h : Hid (Mem w tg hb S)) (hI : Hid (Inv S wk Z)) {b : Nat} (hbZ : Hid (b ∈ Z)) (hs : Hid (S.X.length ≤ 2000)) :
    Calls Tryz.prog 45 #[.pointer (some ⟨hb, 0, none⟩), .pointer (some ⟨b, 0, none⟩)] w fun e w' => e = .returned (.tuple #[]) ∧ ∃ v tg', Mem w' tg' hb (S.raise b v) ∧ Chg (fun k => k = hb ∨ k = b ∨ tg k = .fm (.rt (S.deg b))) w w' tg tg' := by
  obtain ⟨hX, hp⟩ := hI.out.out b hbZ.out
  have hd := hI.out.dl b hX
  have hB := h.out.nd b hX
  have e2 := hB.cell 4 (by decide)
  have f2 := hB.fz 4
  have G1 : Hid (Mem (w.setCell ⟨b, 4, none⟩ (.pointer none)) tg hb { S with par := upd S.par b none }) := h.out.setPar hX none
  have G4 : Hid (Kp (fun k => k = hb ∨ k = b ∨ tg k = .fm (.rt (S.deg b))) w (w.setCell ⟨b, 4, none⟩ (.pointer none))) := Kp.of_set _ _ _ (.inr (.inl rfl))
  have HX : Hid (b ∈ S.X ∧ S.deg b < 29) := ⟨hX, hd⟩
  clear hX hp hd hB
  go_enter Tryz.func45, Tryz.ntmps45
  go_upto_region 1 with fail
  clear f2 e2
  generalize w.setCell ⟨b, 4, none⟩ (.pointer none) = W at *
  have HR : Hid (Calls Tryz.prog 72 #[.pointer (some ⟨hb, 0, none⟩), .pointer (some ⟨b, 0, none⟩)] W fun e w' => e = .returned (.pointer (some ⟨hb, 2 + S.deg b, none⟩)) ∧ Below W.heap.size W w' ∧ w'.heap.size = W.heap.size) := by
    obtain ⟨a, c, hk⟩ := h.out.kid HX.out.1
    exact row_any W hb b (S.deg b) c a _ (G1.out.nd b HX.out.1) hk HX.out.2
  have HJ : Hid (∀ w1, Below W.heap.size W w1 → Calls Tryz.prog 73 #[.pointer (some ⟨hb, 2 + S.deg b, none⟩), .pointer (some ⟨b, 0, none⟩)] w1 fun e w' => e = .returned (.tuple #[]) ∧ ∃ v tg', Hid (Mem w' tg' hb (S.raise b v) ∧ Chg (fun k => k = hb ∨ k = b ∨ tg k = .fm (.rt (S.deg b))) w w' tg tg')) := fun w1 b1 => by
    have hL : Lc { S with par := upd S.par b none } := ⟨hI.out.lc.fam, hI.out.lc.plc, hI.out.lc.slf⟩
    have hF : HS.val { S with par := upd S.par b none } (.rt (S.deg b)) := HX.out.2
    have hlen := fam_len hL hF
    refine (join_S (G1.out.keep b1) (F := .rt (S.deg b)) hF (b := b) HX.out.1 (by simp) (by have := hs.out; exact Nat.le_trans hlen (by show S.X.length ≤ _; omega))).mono ?_
    rintro e w' ⟨rfl, v, tg', m, c⟩
    refine ⟨rfl, v, tg', m, ?_⟩
    exact Chg.trans ⟨G4.out.trans (S' := fun _ => False) (Kp.of_below b1) (fun _ _ h => h.elim), fun _ _ => rfl⟩ c fun k _ hk => hk
  clear G1 G4 h hI hs
  go_wp2_with (first | (go_at_call 72; refine HR.out.mono ?_; rintro e w1 ⟨rfl, b1, _⟩) | (go_at_call 73; refine (HJ.out _ b1).mono ?_; rintro e w2 ⟨rfl, v, tg', R⟩))
  go_end0
  exact ⟨rfl, v, tg', R.out⟩
theorem Mem.n4 (h : Mem w tg hb S) {b : Nat} (hX : b ∈ S.X) : N4 w b (S.ky b) (S.hd b) := ⟨(h.nd b hX).cell 0 (by decide), (h.nd b hX).cell 1 (by decide), (h.nd b hX).cell 2 (by decide), (h.nd b hX).cell 3 (by decide)⟩
def HS.offer (S : HS) (b : Nat) : HS := match S.lst with
  | none => { S with lst := some b }
  | some m => if elB (S.ky b) (S.hd b) (S.ky m) (S.hd m) then { S with lst := some b } else S
set_option maxHeartbeats 1000000 in
theorem offer_no (h : Hid (Mem w tg hb S)) (b m : Nat) (hm : S.lst = some m) (HB : Hid (Calls Tryz.prog 74 #[.pointer (some ⟨b, 0, none⟩), .pointer (some ⟨m, 0, none⟩)] w fun e w' => e = .returned (.bool false) ∧ Below w.heap.size w w')) :
    Calls Tryz.prog 46 #[.pointer (some ⟨hb, 0, none⟩), .pointer (some ⟨b, 0, none⟩)] w fun e w' => e = .returned (.tuple #[]) ∧ Below w.heap.size w w' := by
  have e1 : w.cell? ⟨hb, 31, none⟩ = some (optp S.lst) := h.out.hp.cell 31 (by decide)
  rw [hm] at e1
  unfold optp ptr at e1
  go_enter Tryz.func46, Tryz.ntmps46
  go_wp2_with (go_at_call 74; refine HB.out.mono ?_; rintro e w1 ⟨rfl, b1⟩)
  go_end0
  exact ⟨rfl, b1⟩
set_option maxHeartbeats 1000000 in
theorem offer_yes (h : Hid (Mem w tg hb S)) (b m : Nat) (hm : S.lst = some m) (HB : Hid (Calls Tryz.prog 74 #[.pointer (some ⟨b, 0, none⟩), .pointer (some ⟨m, 0, none⟩)] w fun e w' => e = .returned (.bool true) ∧ Below w.heap.size w w')) :
    Calls Tryz.prog 46 #[.pointer (some ⟨hb, 0, none⟩), .pointer (some ⟨b, 0, none⟩)] w fun e w' => e = .returned (.tuple #[]) ∧ ∃ w1, Below w.heap.size w w1 ∧ w' = w1.setCell ⟨hb, 31, none⟩ (ptr b) := by
  have e1 : w.cell? ⟨hb, 31, none⟩ = some (optp S.lst) := h.out.hp.cell 31 (by decide)
  rw [hm] at e1
  unfold optp ptr at e1
  go_enter Tryz.func46, Tryz.ntmps46
  go_wp2_with (go_at_call 74; refine HB.out.mono ?_; rintro e w1 ⟨rfl, b1⟩; have HP := (h.out.keep b1).hp; have e3 := HP.cell 31 (by decide); have f3 := HP.fz 31; clear HP)
  go_end0
  exact ⟨rfl, w1, b1, rfl⟩
theorem offer_S (h : Mem w tg hb S) {b : Nat} (hX : b ∈ S.X) (hok : ∀ a ∈ S.X, (S.ky a).ok) (hl : ∀ m, S.lst = some m → m ∈ S.X) :
    Calls Tryz.prog 46 #[.pointer (some ⟨hb, 0, none⟩), .pointer (some ⟨b, 0, none⟩)] w fun e w' => e = .returned (.tuple #[]) ∧ Mem w' tg hb (S.offer b) ∧ Kp (· = hb) w w' := by
  cases hm : S.lst with
  | none =>
    refine (offer_none w hb b S.hpC h.hp (by show optp S.lst = _; rw [hm]; rfl)).mono ?_
    rintro e w' ⟨rfl, h1, h2⟩
    refine ⟨rfl, ?_, h2⟩
    unfold HS.offer
    rw [hm]
    refine h.head h2 _ rfl rfl rfl (fun c => rfl) (h1.same fun j hj => ?_)
    unfold fset HS.hpC
    simp only
    by_cases e : j = 31
    · subst e; simp [optp]
    · simp [e]
  | some m =>
    have hmX := hl m hm
    have HB := before_any w b m (S.ky b) (S.ky m) (S.hd b) (S.hd m) (hok b hX) (hok m hmX) (h.n4 hX) (h.n4 hmX)
    unfold HS.offer
    rw [hm]
    simp only
    by_cases e : elB (S.ky b) (S.hd b) (S.ky m) (S.hd m) = true
    · rw [if_pos e]
      rw [e] at HB
      refine (offer_yes h b m hm HB).mono ?_
      rintro e w' ⟨rfl, w1, b1, rfl⟩
      exact ⟨rfl, (h.keep b1).setLst (some b), (Kp.of_below (S := (· = hb)) b1).trans (Kp.of_set (S := (· = hb)) _ ⟨hb, 31, none⟩ _ rfl) fun _ _ h => h⟩
    · rw [if_neg e]
      rw [Bool.not_eq_true] at e
      rw [e] at HB
      refine (offer_no h b m hm HB).mono ?_
      rintro e w' ⟨rfl, b1⟩
      exact ⟨rfl, h.keep b1, Kp.of_below b1⟩
end
end Go.Proofs.YtcgaekaollhmpaaGreat
