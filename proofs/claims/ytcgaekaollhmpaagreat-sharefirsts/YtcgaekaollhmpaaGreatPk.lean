/-
  The heap's cut of a root; its remove, up to the map.
-/
import Derived.Test.YtcgaekaollhmpaaGreatPj
namespace Go.Proofs.YtcgaekaollhmpaaGreat
open Go.RowKit Go.Maps

section
variable {w w' : World} {tg tg' : Nat → Tg} {hb : Nat} {S S' : HS} {wk : Option Nat} {Z : List Nat}
set_option maxHeartbeats 400000 in
theorem cut_root (hb e : Nat) (f : Nat → Value) (h : Hid (Blk w e 100 8 f)) (hf : f 4 = .pointer none) : Calls Tryz.prog 76 #[.pointer (some ⟨hb, 0, none⟩), .pointer (some ⟨e, 0, none⟩)] w fun e w' => e = .returned (.tuple #[]) ∧ w' = w := by
  have c4 := h.out.cell 4 (by decide)
  rw [hf] at c4
  go_enter Tryz.func76, Tryz.ntmps76
  go_wp2_with fail
  go_rounds 1
  go_end0
  exact ⟨rfl, rfl⟩
theorem Mem.drop (h : Mem w tg hb S) (e : Nat) : Mem w tg hb (S.drop e) := by
  have mX : ∀ {c}, c ∈ (S.drop e).X → c ∈ S.X := fun hc => (List.mem_filter.1 hc).1
  have hvl : ∀ F, (S.drop e).val F → S.val F := fun F hF => by
    cases F with
    | rt i => exact hF
    | kd p => exact mX hF
  exact ⟨h.hp, fun b hb => h.nd b (mX hb), fun F hF => h.fm F (hvl F hF), h.tp, fun b hb => h.tn b (mX hb), fun F hF => h.tf F (hvl F hF), h.lt⟩
structure Rmv (w wr : World) (tg : Nat → Tg) (hb e : Nat) (S : HS) (l : List Nat) (ve : Value) (Z : List Nat) (S' : HS) (tg' : Nat → Tg) : Prop where
  m : Mem wr tg' hb S'
  i : Inv S' none Z
  X : S'.X = S.X.filter (· ≠ e)
  hd : S'.hd = S.hd
  ky : S'.ky = S.ky
  gv : S'.gv = S.gv
  mb : S'.mb = S.mb
  lst : S'.lst = S.lst
  n : ∃ f, Blk wr e 100 8 f ∧ f 0 = .int .i64 (S.hd e) ∧ f 5 = ve
  f : Fam wr ve l
  te : tg' e = .nd
  tf : ∀ g, ve.ownBlock = some g → tg' g = .fm (.kd e)
  c : Chg (Mine tg) w wr tg tg'
theorem Rmv.next {e b : Nat} {l : List Nat} {ve : Value} (h : Rmv w w' tg hb e S l ve (b :: Z) S' tg') (hn : (b :: Z).Nodup) (hs : S.X.length ≤ 2000) :
    Calls Tryz.prog 45 #[.pointer (some ⟨hb, 0, none⟩), .pointer (some ⟨b, 0, none⟩)] w' fun q w'' => q = .returned (.tuple #[]) ∧ Hid (∃ S2 tg2, Rmv w w'' tg hb e S l ve Z S2 tg2) := by
  have hs' : S'.X.length ≤ 2000 := by rw [h.X]; exact Nat.le_trans (List.length_filter_le _ _) hs
  have hbX := (h.i.out b (List.mem_cons_self ..)).1
  have hbe : b ≠ e := by
    intro q
    rw [q, h.X] at hbX
    have := (List.mem_filter.1 hbX).2
    simp at this
  refine (raise_S h.m h.i (b := b) (List.mem_cons_self ..) hs').mono ?_
  rintro q w'' ⟨rfl, v, tg2, m2, c2⟩
  obtain ⟨f, f1, f2, f3⟩ := h.n
  have hZ : List.filter (· ≠ b) (b :: Z) = Z := by
    have := (List.nodup_cons.1 hn).1
    rw [List.filter_cons_of_neg (by simp)]
    exact List.filter_eq_self.2 fun a ha => by simp; rintro rfl; exact this ha
  have i2 := h.i.raise v (b := b) (List.mem_cons_self ..)
  rw [hZ] at i2
  have hE : w''.heap[e]? = w'.heap[e]? := c2.kp.block e f1.lt (by
    rintro (q | q | q)
    · have := h.m.tp; rw [← q, h.te] at this; cases this
    · exact hbe q.symm
    · rw [h.te] at q; cases q)
  have hG : ∀ g, ve.ownBlock = some g → w''.heap[g]? = w'.heap[g]? := fun g hg => c2.kp.block g (h.f.lt hg) (by
    have := h.tf g hg
    rintro (q | q | q)
    · rw [q, h.m.tp] at this; cases this
    · rw [q, h.m.tn b hbX] at this; cases this
    · rw [q] at this; cases this)
  exact ⟨rfl, S'.raise b v, tg2, ⟨m2, i2, h.X, h.hd, h.ky, h.gv, h.mb, h.lst, ⟨f, f1.at hE, f2, f3⟩, h.f.keep hG, (c2.tg e f1.lt).trans h.te, fun g hg => (c2.tg g (h.f.lt hg)).trans (h.tf g hg), h.c.then (c2.mine h.m (F := .rt (S'.deg b)) (h.i.dl b hbX) hbX)⟩⟩
theorem Rmv.start {e : Nat} (h : Mem w' tg' hb S') (hI : Inv S' none [e]) (ha : Alike S S') (hc : Chg (Mine tg) w w' tg tg') : Rmv w w' tg hb e S (S'.fl (.kd e)) (S'.fv (.kd e)) (S'.fl (.kd e)) (S'.drop e) tg' := by
  have hX := (hI.out e (by simp)).1
  refine ⟨h.drop e, hI.drop, by show S'.X.filter _ = _; rw [ha.X], ha.hd, ha.ky, ha.gv, ha.mb, ha.lst, ⟨_, h.nd e hX, ?_, rfl⟩, h.fm (.kd e) hX, h.tn e hX, h.tf (.kd e) hX, hc⟩
  show Value.int .i64 (S'.hd e) = _
  rw [ha.hd]
end
end Go.Proofs.YtcgaekaollhmpaaGreat
