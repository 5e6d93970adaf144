/-
  The document's disk: put.
-/
import Derived.Test.YtnohidalomjfmaaRe
import Derived.Deep.RegionLaw
import Derived.Deep.AppendLies
import Derived.Laws.Cover1
namespace Go.Proofs.Ytnohidalomjfmaa
open Go.RowKit Go.Maps

def RF.g (f : RF) : Value := .agg #[f.n, f.v, .int .i64 f.sy]
def b73 (f : RF) : Obj := .cells #[f.n, f.v, .int .i64 f.sy] 73
theorem owns_below {w w1 : World} {t s n B : Nat} {v : Value} {xs : List Value} (h : w.ownsRow 0 t s v n xs) (b : Below w.heap.size w w1) (_ : B = 0) : w1.ownsRow 0 t s v n xs :=
  ownsKeep h fun g hg => b.block g (World.ownsRow.lt h g hg).2

/-- behind the append: what is there -/
structure PutW (w : World) (pb : Nat) (x y : Value) (f : RF) (q : Option Addr) (n c g cap : Nat) (xs : List Value) (W : World) : Prop where
  h1 : W.heap[pb]? = some (.cells #[.slice (some ⟨g, 0, none⟩) (n + 1) cap, x, y] 35 (0, 0))
  h2 : W.heap[w.heap.size]? = some (.cells #[.string ⟨⟨f.nm⟩⟩, .slice f.a f.b.length f.c, .int .i64 f.sy] 73 (0, 0))
  h3 : W.ownsRow 0 73 3 (.slice (some ⟨g, 0, none⟩) (n + 1) cap) (n + 1) xs
  h4 : Kp (fun j => j = pb ∨ (Value.slice q n c).ownBlock = some j) w W
  h5 : (Value.slice q n c).ownBlock = some g ∨ w.heap.size < g
  h6 : g ≠ pb
  h7 : g ≠ w.heap.size
def Grn (w : World) (f : RF) (q : Option Addr) (n c : Nat) (w4 : World) : Prop := ((w.alloc (.cells #[.string ⟨⟨f.nm⟩⟩, .slice f.a f.b.length f.c, .int .i64 f.sy] 73)).alloc (.cells #[.string ⟨⟨f.nm⟩⟩, .slice f.a f.b.length f.c, .int .i64 f.sy] 73)).drew.grownBy w4 (Value.slice q n c).ownBlock
theorem putW {w w4 : World} {pb : Nat} {x y : Value} {f : RF} {q : Option Addr} {n c g cap : Nat} {xs ys : List Value} (h : w.heap[pb]? = some (.cells #[.slice q n c, x, y] 35 (0, 0))) (ho : w.ownsRow 0 73 3 (.slice q n c) n ys) (hne : ∀ g, (Value.slice q n c).ownBlock = some g → g ≠ pb)
    (hown : w4.ownsRow 0 73 3 (.slice (some ⟨g, 0, none⟩) (n + 1) cap) (n + 1) xs) (hgrow : Grn w f q n c w4) (hat : (Value.slice q n c).ownBlock = some g ∨ g = w.heap.size + 1 + 1) :
    w4.heap[pb]? = some (.cells #[.slice q n c, x, y] 35 (0, 0)) ∧ PutW w pb x y f q n c g cap xs (w4.setCell ⟨pb, 0, none⟩ (.slice (some ⟨g, 0, none⟩) (n + 1) cap)) := by
  have hpb : pb < w.heap.size := (Array.getElem?_eq_some_iff.1 h).1
  have hsz : ((w.alloc (.cells #[.string ⟨⟨f.nm⟩⟩, .slice f.a f.b.length f.c, .int .i64 f.sy] 73)).alloc (.cells #[.string ⟨⟨f.nm⟩⟩, .slice f.a f.b.length f.c, .int .i64 f.sy] 73)).drew.heap.size = w.heap.size + 2 := by
    simp
  have bb : Below w.heap.size w ((w.alloc (.cells #[.string ⟨⟨f.nm⟩⟩, .slice f.a f.b.length f.c, .int .i64 f.sy] 73)).alloc (.cells #[.string ⟨⟨f.nm⟩⟩, .slice f.a f.b.length f.c, .int .i64 f.sy] 73)).drew := (((Below.refl _ w).alloc (Nat.le_refl _) _).alloc (by simp) _).drew
  have b1 : ((w.alloc (.cells #[.string ⟨⟨f.nm⟩⟩, .slice f.a f.b.length f.c, .int .i64 f.sy] 73)).alloc (.cells #[.string ⟨⟨f.nm⟩⟩, .slice f.a f.b.length f.c, .int .i64 f.sy] 73)).drew.heap[w.heap.size]? = some (.cells #[.string ⟨⟨f.nm⟩⟩, .slice f.a f.b.length f.c, .int .i64 f.sy] 73 (0, 0)) := at_alloc1 (w := w.alloc (.cells #[.string ⟨⟨f.nm⟩⟩, .slice f.a f.b.length f.c, .int .i64 f.sy] 73)) new0
  unfold Grn at hgrow
  generalize ((w.alloc (.cells #[.string ⟨⟨f.nm⟩⟩, .slice f.a f.b.length f.c, .int .i64 f.sy] 73)).alloc (.cells #[.string ⟨⟨f.nm⟩⟩, .slice f.a f.b.length f.c, .int .i64 f.sy] 73)).drew = V at *
  have hlt := World.ownsRow.lt ho
  have hnp : some pb ≠ (Value.slice q n c).ownBlock := fun e => hne pb e.symm rfl
  have hp4 : w4.heap[pb]? = some (.cells #[.slice q n c, x, y] 35 (0, 0)) := (hgrow.block pb (by omega) hnp).trans ((bb.block pb hpb).trans h)
  have hgp : g ≠ pb := by
    rcases hat with h1 | h1
    · exact hne g h1
    · omega
  refine ⟨hp4, setB hp4 _, ?_, ?_, ?_, ?_, hgp, ?_⟩
  · rw [Below.heap_setCell _ _ _ _ (show w.heap.size ≠ pb by omega)]
    exact (hgrow.block _ (by omega) fun e => by have := (hlt _ e.symm).2; omega).trans b1
  · exact ownsKeep hown fun g' hg' => Below.heap_setCell _ _ _ _ (by cases hg'; exact hgp)
  · refine (((Kp.of_below bb : Kp (fun j => j = pb ∨ (Value.slice q n c).ownBlock = some j) w V).trans (Kp.of_grown (S := fun j => j = pb ∨ (Value.slice q n c).ownBlock = some j) hgrow fun k e => .inr e) fun _ _ e => e).trans (Kp.of_set (S := fun j => j = pb ∨ (Value.slice q n c).ownBlock = some j) w4 ⟨pb, 0, none⟩ (.slice (some ⟨g, 0, none⟩) (n + 1) cap) (.inl rfl)) fun _ _ e => e)
  · rcases hat with h1 | h1
    · exact .inl h1
    · exact .inr (by omega)
  · rcases hat with h1 | h1
    · have := (hlt g h1).2; omega
    · omega

theorem less_before : ∀ (a b : List UInt8), Op.bytesLess a b = bytesBefore a b
  | [], [] => rfl
  | [], _ :: _ => rfl
  | _ :: _, [] => rfl
  | x :: r, y :: s => by
    unfold Op.bytesLess bytesBefore
    rw [less_before r s]
theorem gt_before (a b : List UInt8) : (!(Op.bytesLess a b || a == b)) = bytesBefore b a := by
  rw [less_before]
  by_cases h : a = b
  · subst h
    simp [WideAt.bytes_irrefl]
  · rw [beq_false_of_ne h, Bool.or_false]
    rcases WideAt.bytes_total a b h with h1 | h1
    · rw [h1]
      cases h2 : bytesBefore b a with
      | false => rfl
      | true => have := WideShapes.bytes_trans _ _ _ h1 h2; rw [WideAt.bytes_irrefl] at this; cases this
    · rw [h1]
      cases h2 : bytesBefore a b with
      | false => rfl
      | true => have := WideShapes.bytes_trans _ _ _ h1 h2; rw [WideAt.bytes_irrefl] at this; cases this
theorem gtr_run (a b : List UInt8) (w : World) : (binOp .gtr 9 (.string ⟨⟨a⟩⟩) (.string ⟨⟨b⟩⟩)).run Try.prog w = .ok (.bool (bytesBefore b a)) w := by
  rw [binOp_string_gtr, ← gt_before]
  simp
structure PutL (W : World) (g cap n : Nat) (l : List RF) (fn : List UInt8) (k : Nat) (y : RF) (wr : World) : Prop where
  own : wr.ownsRow 0 73 3 (.slice (some ⟨g, 0, none⟩) (n + 1) cap) (n + 1) (flat (l.take k ++ y :: l.drop k))
  kp : Kp (· = g) W wr
  gt : ∀ z ∈ l.drop k, bytesBefore fn z.nm = true
theorem PutL.at {W wr : World} {g cap n k : Nat} {l : List RF} {fn : List UInt8} {y f : RF} (h : PutL W g cap n l fn k y wr) {i : Nat} (hf : (l.take k ++ y :: l.drop k)[i]? = some f) :
    wr.cell? ⟨g, i * 3, none⟩ = some f.n ∧ wr.cell? ⟨g, i * 3 + 1, none⟩ = some f.v ∧ wr.cell? ⟨g, i * 3 + 2, none⟩ = some (.int .i64 f.sy) ∧ ∀ j, wr.frozen? ⟨g, j, none⟩ = false := by
  rcases rowV_own h.own with ⟨e, _⟩ | ⟨g', c', e, _, _, h3, h4⟩
  · cases e
  · cases e
    obtain ⟨f0, f1, f2⟩ := flat_get _ i f hf
    have g0 := h3 _ _ f0
    have g1 := h3 _ _ f1
    have g2 := h3 _ _ f2
    rw [Nat.zero_add] at g0 g1 g2
    exact ⟨g0, g1, g2, h4⟩
theorem flat_set3 {f' : RF} : ∀ {l : List RF} {k : Nat}, k < l.length → flat (l.set k f') = (((flat l).set (k * 3) (.string ⟨⟨f'.nm⟩⟩)).set (k * 3 + 1) (.slice f'.a f'.b.length f'.c)).set (k * 3 + 2) (.int .i64 f'.sy)
  | [], _, h => by simp at h
  | y :: r, 0, h => by simp [flat, RF.n, RF.v]
  | y :: r, k + 1, h => by
    rw [List.set_cons_succ]
    simp only [flat]
    rw [flat_set3 (l := r) (k := k) (by simpa using h), show (k + 1) * 3 + 2 = k * 3 + 2 + 1 + 1 + 1 by omega, show (k + 1) * 3 + 1 = k * 3 + 1 + 1 + 1 + 1 by omega, show (k + 1) * 3 = k * 3 + 1 + 1 + 1 by omega]
    rfl
/-- a file's three cells are written -/
def set3 (w : World) (g k : Nat) (f : RF) : World := ((w.setCell ⟨g, k * 3, none⟩ (.string ⟨⟨f.nm⟩⟩)).setCell ⟨g, k * 3 + 1, none⟩ (.slice f.a f.b.length f.c)).setCell ⟨g, k * 3 + 2, none⟩ (.int .i64 f.sy)
theorem owns_set3 {w : World} {g n cap k m : Nat} {L : List RF} {f : RF} (h : w.ownsRow 0 73 3 (.slice (some ⟨g, 0, none⟩) n cap) n (flat L)) (hk : k < L.length) : (set3 (w.drewN m) g k f).ownsRow 0 73 3 (.slice (some ⟨g, 0, none⟩) n cap) n (flat (L.set k f)) ∧ Kp (· = g) w (set3 (w.drewN m) g k f) := by
  rw [flat_set3 hk]
  refine ⟨owns_set (owns_set (owns_set (ownsKeep h fun _ _ => rfl) rfl _ _) rfl _ _) rfl _ _, ?_⟩
  refine Kp.trans (S' := (· = g)) (kp_drew m) ?_ fun _ _ e => e
  exact ((Kp.of_set (S := (· = g)) _ _ _ rfl).trans (Kp.of_set (S := (· = g)) _ _ _ rfl) fun _ _ e => e).trans (Kp.of_set (S := (· = g)) _ _ _ rfl) fun _ _ e => e
theorem set_mid {α : Type} (l : List α) (y f : α) (k : Nat) (hk : k ≤ l.length) : (l.take k ++ y :: l.drop k).set k f = l.take k ++ f :: l.drop k := by
  rw [List.set_append_right _ _ (by rw [List.length_take]; omega), List.length_take, show k - min k l.length = 0 by omega]
  rfl
theorem mid_length {α : Type} (l : List α) (y : α) (k : Nat) (hk : k ≤ l.length) : k < (l.take k ++ y :: l.drop k).length := by
  rw [List.length_append, List.length_take, List.length_cons]; omega
theorem PutL.shift {W wr : World} {g cap n t m : Nat} {l : List RF} {fn : List UInt8} {y z : RF} (h : PutL W g cap n l fn (t + 1) y wr) (hz : l[t]? = some z) (hb : bytesBefore fn z.nm = true) : PutL W g cap n l fn t z (set3 (wr.drewN m) g (t + 1) z) := by
  obtain ⟨ht, rfl⟩ := List.getElem?_eq_some_iff.1 hz
  obtain ⟨h1, h2⟩ := owns_set3 (m := m) (f := l[t]) h.own (mid_length l y (t + 1) ht)
  rw [set_mid l y _ (t + 1) ht, List.take_succ_eq_append_getElem ht, List.append_assoc] at h1
  have e : [l[t]] ++ l[t] :: l.drop (t + 1) = l[t] :: l.drop t := by rw [List.drop_eq_getElem_cons ht]; rfl
  rw [e] at h1
  refine ⟨h1, h.kp.trans h2 fun _ _ e => e, fun x hx => ?_⟩
  rw [List.drop_eq_getElem_cons ht] at hx
  rcases List.mem_cons.1 hx with rfl | hx
  · exact hb
  · exact h.gt x hx
/-- behind put -/
structure PutR (w : World) (pb : Nat) (x y : Value) (f : RF) (q : Option Addr) (n c g cap k : Nat) (l : List RF) (W : World) : Prop where
  h1 : W.heap[pb]? = some (.cells #[.slice (some ⟨g, 0, none⟩) (n + 1) cap, x, y] 35 (0, 0))
  h3 : W.ownsRow 0 73 3 (.slice (some ⟨g, 0, none⟩) (n + 1) cap) (n + 1) (flat (l.take k ++ f :: l.drop k))
  h4 : Kp (fun j => j = pb ∨ (Value.slice q n c).ownBlock = some j) w W
  h5 : (Value.slice q n c).ownBlock = some g ∨ w.heap.size < g
  gt : ∀ z ∈ l.drop k, bytesBefore f.nm z.nm = true
  le : k = 0 ∨ ∃ z, l[k - 1]? = some z ∧ bytesBefore f.nm z.nm = false
  hk : k ≤ l.length
theorem PutL.fin {w W wr : World} {pb : Nat} {xx yy : Value} {g cap n c k m : Nat} {q : Option Addr} {l : List RF} {xs : List Value} {y f : RF} (hl : l.length = n) (hk : k ≤ n) (hW : PutW w pb xx yy f q n c g cap xs W) (h : PutL W g cap n l f.nm k y wr) (le : k = 0 ∨ ∃ z, l[k - 1]? = some z ∧ bytesBefore f.nm z.nm = false) :
    PutR w pb xx yy f q n c g cap k l (set3 (wr.drewN m) g k f) := by
  obtain ⟨h1, h2⟩ := owns_set3 (m := m) (f := f) h.own (mid_length l y k (by omega))
  rw [set_mid l y f k (by omega)] at h1
  have hkp := h.kp.trans h2 fun _ _ e => e
  refine ⟨(hkp.block pb ?_ (fun e => hW.h6 e.symm)).trans hW.h1, h1, hW.h4.trans hkp ?_, hW.h5, h.gt, le, by omega⟩
  · exact (Array.getElem?_eq_some_iff.1 hW.h1).1
  · rintro j hj rfl
    rcases hW.h5 with h5 | h5
    · exact .inr h5
    · omega

set_option maxHeartbeats 2000000 in
theorem rput_raw (w : World) (pb : Nat) (l : List RF) (n : Nat) (q : Option Addr) (c : Nat) (x y : Value) (f : RF) (hn : n < 64) (hl : Hid (l.length = n)) (h : Hid (w.heap[pb]? = some (.cells #[.slice q n c, x, y] 35 (0, 0)))) (ho : Hid (w.ownsRow 0 73 3 (.slice q n c) n (flat l))) (hne : Hid (∀ g, (Value.slice q n c).ownBlock = some g → g ≠ pb)) :
    Calls Try.prog 49 #[.pointer (some ⟨pb, 0, none⟩), .agg #[.string ⟨⟨f.nm⟩⟩, .slice f.a f.b.length f.c, .int .i64 f.sy]] w fun e w' => e = .returned (.tuple #[]) ∧ ∃ g cap k, PutR w pb x y f q n c g cap k l w' := by
  obtain ⟨e0, e1, e2⟩ := c3 h.out
  have f0 := fz h.out 0
  have hpb : pb < w.heap.size := block_lt_of_cell e0
  obtain ⟨i0, hi, hz0, hz1, hz2⟩ := info_parts info73
  have HI : Hid (Try.prog.info? 73 = some i0 ∧ i0.zero = some (.agg #[.string ⟨#[]⟩, .slice none 0 0, .int .i64 0]) ∧ i0.size = 3 ∧ i0.bytes = 48) := ⟨hi, hz0, hz1, hz2⟩
  clear hi hz0 hz1 hz2
  have O1 : Hid (((w.alloc (.cells #[.string ⟨⟨f.nm⟩⟩, .slice f.a f.b.length f.c, .int .i64 f.sy] 73)).alloc (.cells #[.string ⟨⟨f.nm⟩⟩, .slice f.a f.b.length f.c, .int .i64 f.sy] 73)).drew.ownsRow 0 73 3 (.slice q n c) n (flat l)) :=
    owns_below (B := 0) ho.out ((((Below.refl _ w).alloc (Nat.le_refl _) _).alloc (by simp) _).drew) rfl
  have HN : Hid (∀ j u, [Value.string ⟨⟨f.nm⟩⟩, .slice f.a f.b.length f.c, .int .i64 f.sy][j]? = some u → ((w.alloc (.cells #[.string ⟨⟨f.nm⟩⟩, .slice f.a f.b.length f.c, .int .i64 f.sy] 73)).alloc (.cells #[.string ⟨⟨f.nm⟩⟩, .slice f.a f.b.length f.c, .int .i64 f.sy] 73)).drew.cell? ((⟨w.heap.size + 1, 0, none⟩ : Addr).add j) = some u) := by
    refine World.news_of_block (cs := #[.string ⟨⟨f.nm⟩⟩, .slice f.a f.b.length f.c, .int .i64 f.sy]) (t := 73) (fr := (0, 0)) ?_
    have := new0 (w := w.alloc (.cells #[.string ⟨⟨f.nm⟩⟩, .slice f.a f.b.length f.c, .int .i64 f.sy] 73)) (o := .cells #[.string ⟨⟨f.nm⟩⟩, .slice f.a f.b.length f.c, .int .i64 f.sy] 73)
    rw [show (w.alloc (.cells #[.string ⟨⟨f.nm⟩⟩, .slice f.a f.b.length f.c, .int .i64 f.sy] 73)).heap.size = w.heap.size + 1 by simp] at this
    exact this
  have H1 : Hid (∀ u ∈ [Value.string ⟨⟨f.nm⟩⟩, .slice f.a f.b.length f.c, .int .i64 f.sy], u.oneCell' = true) := by
    intro u hu
    simp only [List.mem_cons, List.not_mem_nil, or_false] at hu
    rcases hu with rfl | rfl | rfl <;> rfl
  have HP : Hid (∀ g cap xs w4, w4.ownsRow 0 73 3 (.slice (some ⟨g, 0, none⟩) (n + 1) cap) (n + 1) xs → Grn w f q n c w4 → ((Value.slice q n c).ownBlock = some g ∨ g = w.heap.size + 1 + 1) → w4.heap[pb]? = some (.cells #[.slice q n c, x, y] 35 (0, 0)) ∧ PutW w pb x y f q n c g cap xs (w4.setCell ⟨pb, 0, none⟩ (.slice (some ⟨g, 0, none⟩) (n + 1) cap))) := fun g cap xs w4 a b c => putW h.out ho.out hne.out a b c
  have HS : Hid (((w.alloc (.cells #[.string ⟨⟨f.nm⟩⟩, .slice f.a f.b.length f.c, .int .i64 f.sy] 73)).alloc (.cells #[.string ⟨⟨f.nm⟩⟩, .slice f.a f.b.length f.c, .int .i64 f.sy] 73)).drew.heap.size = w.heap.size + 1 + 1) := by
    refine (?_ : _ = _)
    simp
  go_enter Try.func49, Try.ntmps49
  go_wp2_with fail
  go_cut [3] from 5 to 14 (fun s3 wx => ∃ g cap, s3 = .pointer (some ⟨w.heap.size, 0, none⟩) ∧ Hid (PutW w pb x y f q n c g cap (flat l ++ [.string ⟨⟨f.nm⟩⟩, .slice f.a f.b.length f.c, .int .i64 f.sy]) wx))
  case first =>
    go_region_law (refine step_append_lies _ rfl (.tmp 9) (.tmp 11) 33 rfl 0 73 i0 _ 3 48 Try.underlying33 HI.out.1 HI.out.2.1 HI.out.2.2.1 HI.out.2.2.2 rfl (by decide) (.slice q n c) n (flat l) (by simp [Act.eval]) O1.out ⟨w.heap.size + 1, 0, none⟩ 1 1 [.string ⟨⟨f.nm⟩⟩, .slice f.a f.b.length f.c, .int .i64 f.sy] (by simp [Act.eval]) rfl HN.out H1.out (by decide) (by unfold maxLen; omega) (by omega) (Nat.zero_le _) _ HS.out ?_; intro g cap w4 hown hgrow hat hlt; obtain ⟨hw4, hpw⟩ := HP.out g cap _ w4 hown hgrow hat; clear hown hgrow hat hlt; obtain ⟨d0, d1, d2⟩ := c3 hw4; have df := fz hw4 0; have HW : Hid (PutW w pb x y f q n c g cap (flat l ++ [.string ⟨⟨f.nm⟩⟩, .slice f.a f.b.length f.c, .int .i64 f.sy]) (w4.setCell ⟨pb, 0, none⟩ (.slice (some ⟨g, 0, none⟩) (n + 1) cap))) := hpw; clear hpw hw4)
    all_goals (go_wp2_with fail; go_meet)
    all_goals exact ⟨_, _, rfl, HW⟩
  case rest =>
    obtain ⟨g, cap, rfl, HW⟩ := hcut
    clear O1 HN H1 HP HS HI e0 e1 e2 f0
    obtain ⟨d0, d1, d2⟩ := c3 HW.out.h1
    obtain ⟨k0, k1, k2⟩ := c3 HW.out.h2
    go_wp2_with fail
    go_loopw [4] (fun i wr => ∃ (k : Nat) (y : RF), i = .int .i64 k ∧ k ≤ n ∧ PutL wc g cap n l f.nm k y wr) (fun i _ => (intOf i).toNat)
    case atStart =>
      refine ⟨n, f, rfl, Nat.le_refl _, ?_, Kp.refl _ _, fun z hz => ?_⟩
      · have := HW.out.h3
        rw [List.take_of_length_le (by have := hl.out; omega), List.drop_of_length_le (by have := hl.out; omega), flat_append]
        exact this
      · rw [List.drop_of_length_le (by have := hl.out; omega)] at hz
        cases hz
    case round =>
      obtain ⟨k, y, rfl, hk, hp⟩ := hrel
      have HP : Hid (PutL wc g cap n l f.nm k y wr) := hp
      obtain ⟨d0, d1, d2⟩ := c3 ((hp.kp.block pb (block_lt_of_cell d0) (fun e => HW.out.h6 e.symm)).trans HW.out.h1)
      obtain ⟨k0, k1, k2⟩ := c3 ((hp.kp.block w.heap.size (block_lt_of_cell k0) (fun e => HW.out.h7 e.symm)).trans HW.out.h2)
      clear hp
      cases k with
      | zero =>
        obtain ⟨q0, q1, q2, cf⟩ := HP.out.at (i := 0) (f := y) rfl
        rw [Nat.zero_mul] at q0 q1 q2
        rw [Nat.zero_add] at q1 q2
        have cf0 := cf 0
        have cf1 := cf 1
        have cf2 := cf 2
        clear cf
        have hti2 : (0 : Int) < (n : Int) + 1 := by omega
        go_wp2_with fail
        go_quiet (fail)
        go_wp2_with fail
        go_region
        all_goals go_wp2_with fail
        all_goals go_end0
        all_goals exact ⟨rfl, g, cap, 0, HP.out.fin hl.out hk HW.out (.inl rfl)⟩
      | succ t =>
        obtain ⟨z, hz⟩ : ∃ z, l[t]? = some z := ⟨l[t]'(by have := hl.out; omega), List.getElem?_eq_getElem _⟩
        obtain ⟨c0, c1, c2, cf⟩ := HP.out.at (i := t) (f := z) (by rw [List.getElem?_append_left (by rw [List.length_take]; have := hl.out; omega), List.getElem?_take, if_pos (by omega)]; exact hz)
        obtain ⟨q0, q1, q2, _⟩ := HP.out.at (i := t + 1) (f := y) (by rw [List.getElem?_append_right (by rw [List.length_take]; omega), List.length_take, show t + 1 - min (t + 1) l.length = 0 by have := hl.out; omega]; rfl)
        have cf0 := cf ((t + 1) * 3)
        have cf1 := cf ((t + 1) * 3 + 1)
        have cf2 := cf ((t + 1) * 3 + 2)
        have HZ : Hid _ := hz
        clear hz cf
        have hwr : IntKind.i64.wrap (t : Int) = (t : Int) := by rw [IntKind.wrap_i64]; omega
        have hti : (t : Int) < (n : Int) + 1 := by omega
        have hti2 : (t : Int) + 1 < (n : Int) + 1 := by omega
        unfold RF.n at c0 q0
        unfold RF.v at c1 q1
        by_cases hb : bytesBefore f.nm z.nm = true
        · have hb1 := gt_before z.nm f.nm
          rw [hb] at hb1
          have hg := gtr_run z.nm f.nm
          rw [hb] at hg
          go_wp2_with fail
          go_quiet (fail)
          go_wp2_with fail
          go_region
          all_goals go_wp2_with fail
          all_goals refine ⟨⟨t, z, rfl, by omega, HP.out.shift HZ.out hb⟩, ?_⟩
          all_goals simp [intOf]
        · have hb' : bytesBefore f.nm z.nm = false := by simpa using hb
          have hb1 := gt_before z.nm f.nm
          rw [hb'] at hb1
          have hg := gtr_run z.nm f.nm
          rw [hb'] at hg
          clear hb
          go_wp2_with fail
          go_quiet (fail)
          go_wp2_with fail
          go_region
          all_goals go_wp2_with fail
          all_goals go_end0
          all_goals exact ⟨rfl, g, cap, t + 1, HP.out.fin hl.out hk HW.out (.inr ⟨z, HZ.out, hb'⟩)⟩

theorem ins_mid {f : RF} : ∀ {l : List RF} {k : Nat}, Srt RF.nm l → (∀ z ∈ l.drop k, bytesBefore f.nm z.nm = true) → (k = 0 ∨ ∃ z, l[k - 1]? = some z ∧ bytesBefore f.nm z.nm = false) → ins RF.nm f l = l.take k ++ f :: l.drop k
  | [], k, _, _, _ => by simp [ins]
  | y :: r, 0, _, gt, _ => by
    have := gt y (List.mem_cons_self ..)
    unfold ins
    rw [if_pos this]
    rfl
  | y :: r, k + 1, hs, gt, le => by
    have h1 := List.pairwise_cons.1 hs
    obtain ⟨z, hz, hf⟩ := le.resolve_left (by omega)
    rw [Nat.add_sub_cancel] at hz
    have hy : bytesBefore f.nm y.nm = false := by
      cases hq : bytesBefore f.nm y.nm with
      | false => rfl
      | true =>
        cases k with
        | zero =>
          have : y = z := by simpa using hz
          rw [this, hf] at hq; cases hq
        | succ k =>
          have := WideShapes.bytes_trans _ _ _ hq (h1.1 z (List.mem_of_getElem? (i := k) (by simpa using hz)))
          rw [hf] at this; cases this
    unfold ins
    rw [if_neg (by rw [hy]; simp), List.take_succ_cons, List.drop_succ_cons, List.cons_append]
    congr 1
    refine ins_mid h1.2 (fun z hz => gt z (by simpa using hz)) ?_
    cases k with
    | zero => exact .inl rfl
    | succ k => exact .inr ⟨z, by simpa using hz, hf⟩

def tgP (tg : Nat → Tg) (g : Nat) : Nat → Tg := fun j => if j = g then .mp else tg j
theorem rput_any {w : World} {tg : Nat → Tg} {pb : Nat} {D : DK} {v : Value} {l : List RF} {z : Int} (h : RAt w tg pb D v l z) (f : RF) (hf : RFAt w tg f) (hn : fnd RF.nm f.nm l = none) (hl : l.length < 64) :
    Calls Try.prog 49 #[.pointer (some ⟨pb, 0, none⟩), .agg #[.string ⟨⟨f.nm⟩⟩, .slice f.a f.b.length f.c, .int .i64 f.sy]] w fun e w' => e = .returned (.tuple #[]) ∧ ∃ tg' v', RAt w' tg' pb ⟨ins Fil.nm f.s D.fs, D.down, D.fuse⟩ v' (ins RF.nm f l) z ∧ Step tg tg' w w' := by
  obtain ⟨q, c, rfl, hz⟩ : ∃ q c, v = .slice q l.length c ∧ (q = none → c = 0) := by
    rcases rowV_own h.own with ⟨rfl, h0⟩ | ⟨g, c, rfl, _⟩
    · exact ⟨none, 0, by rw [h0], fun _ => rfl⟩
    · exact ⟨_, c, rfl, nofun⟩
  refine (rput_raw w pb l l.length q c _ _ f hl rfl h.cell h.own (fun g hg e => by have := h.tm g hg; rw [e, h.tp] at this; cases this)).mono ?_
  rintro e w' ⟨rfl, g, cap, k, R⟩
  have hins := ins_mid h.srt R.gt R.le
  have hlt : g < w'.heap.size := (World.ownsRow.lt R.h3 g rfl).2
  have hsame : ∀ j, tg j ≠ .no → tgP tg g j = tg j := by
    intro j hj
    unfold tgP
    split
    · rename_i e
      subst e
      rcases R.h5 with h5 | h5
      · exact (h.tm j h5).symm
      · have := h.lt j hj; omega
    · rfl
  have hb : ∀ j, tg j ≠ .no → tg j ≠ .dk → tg j ≠ .mp → w'.heap[j]? = w.heap[j]? := fun j h1 h2 h3 => R.h4.block j (h.lt j h1) fun e => by
    rcases e with rfl | e
    · exact h2 h.tp
    · exact h3 (h.tm j e)
  refine ⟨rfl, tgP tg g, .slice (some ⟨g, 0, none⟩) (l.length + 1) cap, ⟨R.h1, ?_, ?_, ?_, ?_, h.fz, ?_, ?_, ?_, ?_⟩, ?_, ?_⟩
  · rw [hsame pb (by rw [h.tp]; exact nofun)]; exact h.tp
  · rw [ins_length, hins]; exact R.h3
  · intro g' hg'
    cases hg'
    simp [tgP]
  · show ins Fil.nm f.s D.fs = _
    rw [h.fs]
    exact (map_ins (fun _ => rfl) f l).symm
  · intro x hx
    have : RFAt w tg x := by
      rcases mem_ins.1 hx with rfl | hx
      · exact hf
      · exact h.fl x hx
    exact this.keep (fun j hj => hb j (by rw [hj]; exact nofun) (by rw [hj]; exact nofun) (by rw [hj]; exact nofun)) fun j hj => (hsame j (by rw [hj]; exact nofun)).trans hj
  · exact srt_ins h.srt (fnd_none hn)
  · rw [ins_length]; omega
  · intro j hj
    unfold tgP at hj
    split at hj
    · rename_i e; rw [e]; exact hlt
    · exact Nat.lt_of_lt_of_le (h.lt j hj) R.h4.size
  · refine R.h4.mono fun j _ e => ?_
    rcases e with rfl | e
    · rw [h.tp]; exact nofun
    · rw [h.tm j e]; exact nofun
  · intro j hj
    unfold tgP at hj
    split at hj
    · rename_i e
      subst e
      rcases R.h5 with h5 | h5
      · left; rw [h.tm j h5]; exact nofun
      · right; omega
    · exact .inl hj
end Go.Proofs.Ytnohidalomjfmaa
