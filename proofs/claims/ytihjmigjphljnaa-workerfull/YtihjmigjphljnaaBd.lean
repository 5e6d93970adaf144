/-
  The document's Register of a node that isn't there.
-/
import Derived.Test.YtihjmigjphljnaaBc
import Derived.Deep.RegionHeld3
import Derived.Deep.RegionLaw
import Derived.Deep.AppendLies
import Derived.Deep.MidRow
import Derived.Laws.Cover1
set_option linter.unusedSimpArgs false
namespace Go.Proofs.Ytihjmigjphljnaa
open Go.RowKit Go.Maps
open Tk

theorem set_mid {α : Type} (l : List α) (y f : α) (k : Nat) (hk : k ≤ l.length) : (l.take k ++ y :: l.drop k).set k f = l.take k ++ f :: l.drop k := by
  rw [List.set_append_right _ _ (by rw [List.length_take]; omega), List.length_take, show k - min k l.length = 0 by omega]
  rfl
theorem mid_length {α : Type} (l : List α) (y : α) (k : Nat) (hk : k ≤ l.length) : k < (l.take k ++ y :: l.drop k).length := by
  rw [List.length_append, List.length_take, List.length_cons]; omega
theorem ins_mid {f : Nd} : ∀ {l : List Nd} {k : Nat}, Srt Nd.k l → (∀ z ∈ l.drop k, bytesBefore f.k z.k = true) → (k = 0 ∨ ∃ z, l[k - 1]? = some z ∧ bytesBefore f.k z.k = false) → ins Nd.k f l = l.take k ++ f :: l.drop k
  | [], k, _, _, _ => by simp [ins]
  | y :: r, 0, _, gt, _ => by
    have := gt y (List.mem_cons_self ..)
    unfold ins
    rw [if_pos this]
    rfl
  | y :: r, k + 1, hs, gt, le => by
    have h1 := List.pairwise_cons.1 hs
    obtain ⟨z, hz, hf⟩ := le.resolve_left (by omega)
    rw [Nat.add_sub_cancel] at hz
    have hy : bytesBefore f.k y.k = false := by
      cases hq : bytesBefore f.k y.k with
      | false => rfl
      | true =>
        cases k with
        | zero =>
          have : y = z := by simpa using hz
          rw [this, hf] at hq; cases hq
        | succ k =>
          have := WideShapes.bytes_trans _ _ _ hq (h1.1 z (List.mem_of_getElem? (i := k) (by simpa using hz)))
          rw [hf] at this; cases this
    unfold ins
    rw [if_neg (by rw [hy]; simp), List.take_succ_cons, List.drop_succ_cons, List.cons_append]
    congr 1
    refine ins_mid h1.2 (fun z hz => gt z (by simpa using hz)) ?_
    cases k with
    | zero => exact .inl rfl
    | succ k => exact .inr ⟨z, by simpa using hz, hf⟩
/-- behind the append: what is there -/
structure PutW (w : World) (rb : Nat) (s : ByteArray) (ep : Int) (v : V) (now : Int) (q : Option Addr) (n c g cap : Nat) (xs : List Value) (W : World) : Prop where
  h1 : W.heap[rb]? = some (.cells #[.slice (some ⟨g, 0, none⟩) (n + 1) cap] 29 (0, 0))
  h2 : W.heap[w.heap.size]? = some (.cells #[.string s, .int .i64 ep, .int .i64 v.a, .int .i64 v.b, .int .i64 v.c, .int .i64 v.d, .int .i64 now, .bool true] 46 (0, 0))
  h3 : W.ownsRow 0 46 8 (.slice (some ⟨g, 0, none⟩) (n + 1) cap) (n + 1) xs
  h4 : Kp (fun j => j = rb ∨ (Value.slice q n c).ownBlock = some j) w W
  h5 : (Value.slice q n c).ownBlock = some g ∨ w.heap.size < g
  h6 : g ≠ rb
  h7 : g ≠ w.heap.size
def Grn (w : World) (s : ByteArray) (ep : Int) (v : V) (now : Int) (q : Option Addr) (n c : Nat) (w4 : World) : Prop := ((w.alloc (.cells #[.string s, .int .i64 ep, .int .i64 v.a, .int .i64 v.b, .int .i64 v.c, .int .i64 v.d, .int .i64 now, .bool true] 46)).alloc (.cells #[.string s, .int .i64 ep, .int .i64 v.a, .int .i64 v.b, .int .i64 v.c, .int .i64 v.d, .int .i64 now, .bool true] 46)).drew.grownBy w4 (Value.slice q n c).ownBlock
theorem putW {w w4 : World} {rb : Nat} {s : ByteArray} {ep now : Int} {v : V} {q : Option Addr} {n c g cap : Nat} {xs ys : List Value} (h : w.heap[rb]? = some (.cells #[.slice q n c] 29 (0, 0))) (ho : w.ownsRow 0 46 8 (.slice q n c) n ys) (hne : ∀ g, (Value.slice q n c).ownBlock = some g → g ≠ rb)
    (hown : w4.ownsRow 0 46 8 (.slice (some ⟨g, 0, none⟩) (n + 1) cap) (n + 1) xs) (hgrow : Grn w s ep v now q n c w4) (hat : (Value.slice q n c).ownBlock = some g ∨ g = w.heap.size + 1 + 1) :
    w4.heap[rb]? = some (.cells #[.slice q n c] 29 (0, 0)) ∧ PutW w rb s ep v now q n c g cap xs (w4.setCell ⟨rb, 0, none⟩ (.slice (some ⟨g, 0, none⟩) (n + 1) cap)) := by
  have hpb : rb < w.heap.size := (Array.getElem?_eq_some_iff.1 h).1
  have hsz : ((w.alloc (.cells #[.string s, .int .i64 ep, .int .i64 v.a, .int .i64 v.b, .int .i64 v.c, .int .i64 v.d, .int .i64 now, .bool true] 46)).alloc (.cells #[.string s, .int .i64 ep, .int .i64 v.a, .int .i64 v.b, .int .i64 v.c, .int .i64 v.d, .int .i64 now, .bool true] 46)).drew.heap.size = w.heap.size + 2 := by
    simp
  have bb : Below w.heap.size w ((w.alloc (.cells #[.string s, .int .i64 ep, .int .i64 v.a, .int .i64 v.b, .int .i64 v.c, .int .i64 v.d, .int .i64 now, .bool true] 46)).alloc (.cells #[.string s, .int .i64 ep, .int .i64 v.a, .int .i64 v.b, .int .i64 v.c, .int .i64 v.d, .int .i64 now, .bool true] 46)).drew := (((Below.refl _ w).alloc (Nat.le_refl _) _).alloc (by simp) _).drew
  have b1 : ((w.alloc (.cells #[.string s, .int .i64 ep, .int .i64 v.a, .int .i64 v.b, .int .i64 v.c, .int .i64 v.d, .int .i64 now, .bool true] 46)).alloc (.cells #[.string s, .int .i64 ep, .int .i64 v.a, .int .i64 v.b, .int .i64 v.c, .int .i64 v.d, .int .i64 now, .bool true] 46)).drew.heap[w.heap.size]? = some (.cells #[.string s, .int .i64 ep, .int .i64 v.a, .int .i64 v.b, .int .i64 v.c, .int .i64 v.d, .int .i64 now, .bool true] 46 (0, 0)) := at_alloc (w := w.alloc (.cells #[.string s, .int .i64 ep, .int .i64 v.a, .int .i64 v.b, .int .i64 v.c, .int .i64 v.d, .int .i64 now, .bool true] 46)) new0
  unfold Grn at hgrow
  generalize ((w.alloc (.cells #[.string s, .int .i64 ep, .int .i64 v.a, .int .i64 v.b, .int .i64 v.c, .int .i64 v.d, .int .i64 now, .bool true] 46)).alloc (.cells #[.string s, .int .i64 ep, .int .i64 v.a, .int .i64 v.b, .int .i64 v.c, .int .i64 v.d, .int .i64 now, .bool true] 46)).drew = V at *
  have hlt := World.ownsRow.lt ho
  have hnp : some rb ≠ (Value.slice q n c).ownBlock := fun e => hne rb e.symm rfl
  have hp4 : w4.heap[rb]? = some (.cells #[.slice q n c] 29 (0, 0)) := (hgrow.block rb (by omega) hnp).trans ((bb.block rb hpb).trans h)
  have hgp : g ≠ rb := by
    rcases hat with h1 | h1
    · exact hne g h1
    · omega
  refine ⟨hp4, setB hp4 _, ?_, ?_, ?_, ?_, hgp, ?_⟩
  · rw [Below.heap_setCell _ _ _ _ (show w.heap.size ≠ rb by omega)]
    exact (hgrow.block _ (by omega) fun e => by have := (hlt _ e.symm).2; omega).trans b1
  · exact ownsKeep hown fun g' hg' => Below.heap_setCell _ _ _ _ (by cases hg'; exact hgp)
  · refine (((Kp.of_below bb : Kp (fun j => j = rb ∨ (Value.slice q n c).ownBlock = some j) w V).trans (Kp.of_grown (S := fun j => j = rb ∨ (Value.slice q n c).ownBlock = some j) hgrow fun k e => .inr e) fun _ _ e => e).trans (Kp.of_set (S := fun j => j = rb ∨ (Value.slice q n c).ownBlock = some j) w4 ⟨rb, 0, none⟩ (.slice (some ⟨g, 0, none⟩) (n + 1) cap) (.inl rfl)) fun _ _ e => e)
  · rcases hat with h1 | h1
    · exact .inl h1
    · exact .inr (by omega)
  · rcases hat with h1 | h1
    · have := (hlt g h1).2; omega
    · omega
structure PutL (W : World) (g cap n : Nat) (l : List Nd) (fn : List UInt8) (k : Nat) (y : Nd) (wr : World) : Prop where
  own : AR wr (.slice (some ⟨g, 0, none⟩) (n + 1) cap) (l.take k ++ y :: l.drop k)
  kp : Kp (· = g) W wr
  gt : ∀ z ∈ l.drop k, bytesBefore fn z.k = true
theorem PutL.shift {W wr wd : World} {g cap n t k : Nat} {l : List Nd} {fn : List UInt8} {y z : Nd} (hk : t + 1 = k) (h : PutL W g cap n l fn k y wr) (hd : wd.heap = wr.heap) (hd2 : Kp (· = g) wr wd) (hz : l[t]? = some z) (hb : bytesBefore fn z.k = true) : PutL W g cap n l fn t z (set8 wd g (k * 8) z) := by
  subst hk
  obtain ⟨ht, rfl⟩ := List.getElem?_eq_some_iff.1 hz
  have h1 := ar_set8 (k := t + 1) (h.own.keep (w1 := wd) fun _ _ => by rw [hd]) (mid_length l y (t + 1) ht) l[t]
  rw [set_mid l y _ (t + 1) ht, List.take_succ_eq_append_getElem ht, List.append_assoc] at h1
  have e : [l[t]] ++ l[t] :: l.drop (t + 1) = l[t] :: l.drop t := by rw [List.drop_eq_getElem_cons ht]; rfl
  rw [e] at h1
  refine ⟨h1, h.kp.trans (kp_set8 hd2 rfl) fun _ _ e => e, fun x hx => ?_⟩
  rw [List.drop_eq_getElem_cons ht] at hx
  rcases List.mem_cons.1 hx with rfl | hx
  · exact hb
  · exact h.gt x hx
/-- behind the whole -/
structure PutR (w : World) (rb : Nat) (f : Nd) (q : Option Addr) (n c g cap k : Nat) (l : List Nd) (W : World) : Prop where
  h1 : W.heap[rb]? = some (.cells #[.slice (some ⟨g, 0, none⟩) (n + 1) cap] 29 (0, 0))
  h3 : AR W (.slice (some ⟨g, 0, none⟩) (n + 1) cap) (l.take k ++ f :: l.drop k)
  h4 : Kp (fun j => j = rb ∨ (Value.slice q n c).ownBlock = some j) w W
  h5 : (Value.slice q n c).ownBlock = some g ∨ w.heap.size < g
  gt : ∀ z ∈ l.drop k, bytesBefore f.k z.k = true
  le : k = 0 ∨ ∃ z, l[k - 1]? = some z ∧ bytesBefore f.k z.k = false
  hk : k ≤ l.length
theorem PutL.fin {w W wr wd : World} {rb : Nat} {g cap n c k : Nat} {q : Option Addr} {l : List Nd} {xs : List Value} {y : Nd} {s : ByteArray} {ep now : Int} {v : V} (hl : l.length = n) (hk : k ≤ n) (hW : PutW w rb s ep v now q n c g cap xs W) (h : PutL W g cap n l s.data.toList k y wr) (hd : wd.heap = wr.heap) (hd2 : Kp (· = g) wr wd) (le : k = 0 ∨ ∃ z, l[k - 1]? = some z ∧ bytesBefore s.data.toList z.k = false) :
    PutR w rb ⟨s, ep, v, now, true⟩ q n c g cap k l (set8 wd g (k * 8) ⟨s, ep, v, now, true⟩) := by
  have h1 := ar_set8 (k := k) (h.own.keep (w1 := wd) fun _ _ => by rw [hd]) (mid_length l y k (by omega)) ⟨s, ep, v, now, true⟩
  rw [set_mid l y _ k (by omega)] at h1
  have hkp : Kp (· = g) W (set8 wd g (k * 8) ⟨s, ep, v, now, true⟩) := h.kp.trans (kp_set8 hd2 rfl) fun _ _ e => e
  refine ⟨(hkp.block rb ?_ (fun e => hW.h6 e.symm)).trans hW.h1, h1, hW.h4.trans hkp ?_, hW.h5, h.gt, le, by omega⟩
  · exact (Array.getElem?_eq_some_iff.1 hW.h1).1
  · rintro j hj rfl
    rcases hW.h5 with h5 | h5
    · exact .inr h5
    · omega
set_option maxHeartbeats 8000000 in
set_option maxRecDepth 100000 in
theorem rreg_add (w : World) (rb n c : Nat) (q : Option Addr) (D : List Nd) (s : ByteArray) (hs : s.size ≤ 281474976710656) (ep now : Int) (v : V) (hnm : Txt.name s = true) (hv : v.ok = true) (hr : inR ep now) (hn : n < 12) (hR : Hid (RAt w rb q n c D)) (H : Hid (∀ w1, Below w.heap.size w w1 → Calls Try.prog 39 #[.pointer (some ⟨rb, 0, none⟩), .string s] w1 fun e w' => e = .returned (.int .i64 (-1)) ∧ w' = w1)) : Calls Try.prog 22 #[.pointer (some ⟨rb, 0, none⟩), .string s, .int .i64 ep, .agg #[.int .i64 v.a, .int .i64 v.b, .int .i64 v.c, .int .i64 v.d], .int .i64 now] w fun e w' => e = ansR (false, 0) ∧ Hid (∃ U g cap k, Below w.heap.size w U ∧ PutR U rb ⟨s, ep, v, now, true⟩ q n c g cap k D w') := by
  obtain ⟨q0, q1, q2, q3, -⟩ := cells4 (new0 (w := w) (o := .cells #[.int .i64 v.a, .int .i64 v.b, .int .i64 v.c, .int .i64 v.d] 32 (0, 0)))
  have Y : Hid (Below w.heap.size w (w.alloc (.cells #[.int .i64 v.a, .int .i64 v.b, .int .i64 v.c, .int .i64 v.d] 32 (0, 0)))) := (Below.refl _ w).alloc (Nat.le_refl _) _
  have ZZ : Hid ((w.alloc (.cells #[.int .i64 v.a, .int .i64 v.b, .int .i64 v.c, .int .i64 v.d] 32 (0, 0))).heap[w.heap.size]? = some (.cells #[.int .i64 v.a, .int .i64 v.b, .int .i64 v.c, .int .i64 v.d] 32 (0, 0))) := new0
  have HN := rname_hid hs hnm
  have HC := rok_hid hv
  have hn12 : (n : Int) < 12 := by omega
  obtain ⟨⟨i1, i2⟩, i3, i4⟩ := hr
  clear hv hs hnm
  go_enter Try.func22, Try.ntmps22
  go_upto_region 3 with (first | (go_at_call 37; refine (HN.out _).mono ?_; rintro e w1 ⟨rfl, rfl⟩; clear HN) | (go_at_call 38; refine (HC.out _).mono ?_; rintro e w1 ⟨rfl, hb⟩))
  have Y1 : Hid (Below w.heap.size w w1) := below_from Y.out hb.out Y.out.size
  have Z1 := at_below hb.out (Nat.le_refl _) ZZ.out
  clear q0 q1 q2 q3 Y HC hb ZZ
  go_upto_region 6 with (go_at_call 39; refine (H.out _ Y1.out).mono ?_; rintro e w2 ⟨rfl, h2⟩; obtain rfl := h2.symm)
  have hm1 : (-1 : Int) < 0 := by omega
  have R1 : Hid (RAt w1 rb q n c D) := hR.out.below Y1.out
  obtain ⟨q0, q1, q2, q3, -⟩ := cells4 Z1
  have e0 := c1 R1.out.cell
  have f0 := fz R1.out.cell 0
  have hpb : rb < w1.heap.size := R1.out.lt
  have hl : Hid (D.length = n) := R1.out.n.symm
  have h : Hid (w1.heap[rb]? = some (.cells #[.slice q n c] 29 (0, 0))) := R1.out.cell
  have ho : Hid (w1.ownsRow 0 46 8 (.slice q n c) n (D.flatMap aC)) := by
    have := R1.out.row
    unfold AR GRow at this
    rw [← R1.out.n] at this
    exact this
  have hne : Hid (∀ g, (Value.slice q n c).ownBlock = some g → g ≠ rb) := fun g hg => by
    rcases R1.out.row.2 with ⟨e, _⟩ | ⟨g', cap, cur, e, hb, hgg, _⟩
    · rw [e] at hg; cases hg
    · rw [e] at hg
      cases hg
      exact cells_ne hgg R1.out.cell (by decide)
  clear Z1 H hR R1
  obtain ⟨i0, hi, hz0, hz1, hz2⟩ := info_parts info46
  have HI : Hid (Try.prog.info? 46 = some i0 ∧ i0.zero = some (.agg #[.string ⟨#[]⟩, .int .i64 0, .int .i64 0, .int .i64 0, .int .i64 0, .int .i64 0, .int .i64 0, .bool false]) ∧ i0.size = 8 ∧ i0.bytes = 72) := ⟨hi, hz0, hz1, hz2⟩
  clear hi hz0 hz1 hz2
  have O1 : Hid (((w1.alloc (.cells #[.string s, .int .i64 ep, .int .i64 v.a, .int .i64 v.b, .int .i64 v.c, .int .i64 v.d, .int .i64 now, .bool true] 46)).alloc (.cells #[.string s, .int .i64 ep, .int .i64 v.a, .int .i64 v.b, .int .i64 v.c, .int .i64 v.d, .int .i64 now, .bool true] 46)).drew.ownsRow 0 46 8 (.slice q n c) n (D.flatMap aC)) :=
    ownsKeep ho.out fun g hg => ((((Below.refl _ w1).alloc (Nat.le_refl _) _).alloc (by simp) _).drew).block g (World.ownsRow.lt ho.out g hg).2
  have HN : Hid (∀ j u, ([.string s, .int .i64 ep, .int .i64 v.a, .int .i64 v.b, .int .i64 v.c, .int .i64 v.d, .int .i64 now, .bool true] : List Value)[j]? = some u → ((w1.alloc (.cells #[.string s, .int .i64 ep, .int .i64 v.a, .int .i64 v.b, .int .i64 v.c, .int .i64 v.d, .int .i64 now, .bool true] 46)).alloc (.cells #[.string s, .int .i64 ep, .int .i64 v.a, .int .i64 v.b, .int .i64 v.c, .int .i64 v.d, .int .i64 now, .bool true] 46)).drew.cell? ((⟨w1.heap.size + 1, 0, none⟩ : Addr).add j) = some u) := by
    refine World.news_of_block (cs := #[.string s, .int .i64 ep, .int .i64 v.a, .int .i64 v.b, .int .i64 v.c, .int .i64 v.d, .int .i64 now, .bool true]) (t := 46) (fr := (0, 0)) ?_
    have := new0 (w := w1.alloc (.cells #[.string s, .int .i64 ep, .int .i64 v.a, .int .i64 v.b, .int .i64 v.c, .int .i64 v.d, .int .i64 now, .bool true] 46)) (o := .cells #[.string s, .int .i64 ep, .int .i64 v.a, .int .i64 v.b, .int .i64 v.c, .int .i64 v.d, .int .i64 now, .bool true] 46)
    rw [show (w1.alloc (.cells #[.string s, .int .i64 ep, .int .i64 v.a, .int .i64 v.b, .int .i64 v.c, .int .i64 v.d, .int .i64 now, .bool true] 46)).heap.size = w1.heap.size + 1 by simp] at this
    exact this
  have H1 : Hid (∀ u ∈ ([.string s, .int .i64 ep, .int .i64 v.a, .int .i64 v.b, .int .i64 v.c, .int .i64 v.d, .int .i64 now, .bool true] : List Value), u.oneCell' = true) := aC_one ⟨s, ep, v, now, true⟩
  have HP : Hid (∀ g cap xs w4, w4.ownsRow 0 46 8 (.slice (some ⟨g, 0, none⟩) (n + 1) cap) (n + 1) xs → Grn w1 s ep v now q n c w4 → ((Value.slice q n c).ownBlock = some g ∨ g = w1.heap.size + 1 + 1) → w4.heap[rb]? = some (.cells #[.slice q n c] 29 (0, 0)) ∧ PutW w1 rb s ep v now q n c g cap xs (w4.setCell ⟨rb, 0, none⟩ (.slice (some ⟨g, 0, none⟩) (n + 1) cap))) := fun g cap xs w4 a b c => putW h.out ho.out hne.out a b c
  have HS : Hid (((w1.alloc (.cells #[.string s, .int .i64 ep, .int .i64 v.a, .int .i64 v.b, .int .i64 v.c, .int .i64 v.d, .int .i64 now, .bool true] 46)).alloc (.cells #[.string s, .int .i64 ep, .int .i64 v.a, .int .i64 v.b, .int .i64 v.c, .int .i64 v.d, .int .i64 now, .bool true] 46)).drew.heap.size = w1.heap.size + 1 + 1) := by
    refine (?_ : _ = _)
    simp
  go_upto_region 15 with fail
  go_cut [13] from 87 to 96 (fun s8 wx => ∃ g cap, s8 = .pointer (some ⟨w1.heap.size, 0, none⟩) ∧ Hid (PutW w1 rb s ep v now q n c g cap (D.flatMap aC ++ [.string s, .int .i64 ep, .int .i64 v.a, .int .i64 v.b, .int .i64 v.c, .int .i64 v.d, .int .i64 now, .bool true]) wx))
  case first =>
    go_region_law (refine step_append_lies _ rfl (.tmp 91) (.tmp 93) 27 rfl 0 46 i0 _ 8 72 Try.underlying27 HI.out.1 HI.out.2.1 HI.out.2.2.1 HI.out.2.2.2 rfl (by decide) (.slice q n c) n (D.flatMap aC) (by simp [Act.eval]) O1.out ⟨w1.heap.size + 1, 0, none⟩ 1 1 [.string s, .int .i64 ep, .int .i64 v.a, .int .i64 v.b, .int .i64 v.c, .int .i64 v.d, .int .i64 now, .bool true] (by simp [Act.eval]) rfl HN.out H1.out (by decide) (by unfold maxLen; omega) (by omega) (Nat.zero_le _) _ HS.out ?_; intro g cap w4 hown hgrow hat hlt; obtain ⟨hw4, hpw⟩ := HP.out g cap _ w4 hown hgrow hat; clear hown hgrow hat hlt; have d0 := c1 hw4; have df := fz hw4 0; have HW : Hid (PutW w1 rb s ep v now q n c g cap (D.flatMap aC ++ [.string s, .int .i64 ep, .int .i64 v.a, .int .i64 v.b, .int .i64 v.c, .int .i64 v.d, .int .i64 now, .bool true]) (w4.setCell ⟨rb, 0, none⟩ (.slice (some ⟨g, 0, none⟩) (n + 1) cap))) := hpw; clear hpw hw4)
    all_goals (go_wp2_with fail; go_meet)
    all_goals exact ⟨_, _, rfl, HW⟩
  case rest =>
    obtain ⟨g, cap, rfl, HW⟩ := hcut
    clear O1 HN H1 HP HS HI e0 f0 q0 q1 q2 q3
    have d0 := c1 HW.out.h1
    have df := fz HW.out.h1 0
    have k0 := Lib.cell_of_heap HW.out.h2 0
    have HK : Hid (rb < wc.heap.size ∧ w1.heap.size < wc.heap.size) := ⟨(Array.getElem?_eq_some_iff.1 HW.out.h1).1, (Array.getElem?_eq_some_iff.1 HW.out.h2).1⟩
    clear k0
    go_upto_region 17 with fail
    have hw9 : IntKind.i64.wrap ((n : Int) + 1 - 1) = (n : Int) := by rw [IntKind.wrap_i64]; omega
    go_wp2_with fail
    go_loopw [12] (fun i wr => ∃ (k : Nat) (y : Nd), i = .int .i64 k ∧ k ≤ n ∧ PutL wc g cap n D s.data.toList k y wr) (fun i _ => (intOf i).toNat)
    case atStart =>
      refine ⟨n, ⟨s, ep, v, now, true⟩, by simp, Nat.le_refl _, ?_, Kp.refl _ _, fun z hz => ?_⟩
      · have := HW.out.h3
        rw [List.take_of_length_le (by have := hl.out; omega), List.drop_of_length_le (by have := hl.out; omega)]
        unfold AR GRow
        rw [List.length_append, hl.out, List.flatMap_append]
        exact this
      · rw [List.drop_of_length_le (by have := hl.out; omega)] at hz
        cases hz
    case round =>
      obtain ⟨k, y, rfl, hk, hp⟩ := hrel
      have HP : Hid (PutL wc g cap n D s.data.toList k y wr) := hp
      have d1 := c1 ((hp.kp.block rb HK.out.1 (fun e => HW.out.h6 e.symm)).trans HW.out.h1)
      have HB8 : Hid (wr.heap[w1.heap.size]? = some (.cells #[.string s, .int .i64 ep, .int .i64 v.a, .int .i64 v.b, .int .i64 v.c, .int .i64 v.d, .int .i64 now, .bool true] 46 (0, 0))) := (hp.kp.block w1.heap.size HK.out.2 (fun e => HW.out.h7 e.symm)).trans HW.out.h2
      clear hp d0 df
      have HX8 : Hid (wr.rangeAt w1.heap.size 0 (aC ⟨s, ep, v, now, true⟩)) := fun j u hj => by
        rw [Nat.zero_add, cell_of HB8.out]
        simpa [aC] using hj
      by_cases hk0 : k = 0
      · subst hk0
        have hti2 : (0 : Int) < (n : Int) + 1 := by omega
        have HF : Hid (∀ wd : World, wd.heap = wr.heap → Kp (· = g) wr wd → PutR w1 rb ⟨s, ep, v, now, true⟩ q n c g cap 0 D (set8 wd g (0 * 8) ⟨s, ep, v, now, true⟩)) := fun wd h1 h2 => HP.out.fin hl.out hk HW.out h1 h2 (.inl rfl)
        have HT : Hid (wr.there g (0 * 8) 8) := ar_there HP.out.own (mid_length D y 0 (by have := hl.out; omega))
        have HG : Hid (rb ≠ g ∧ w1.heap.size ≠ g) := ⟨fun e => HW.out.h6 e.symm, fun e => HW.out.h7 e.symm⟩
        go_wp2_with fail
        refine wp_region_held_drew (S := fun w' => w'.cell? ⟨rb, 0, none⟩ = some (.slice (some ⟨g, 0, none⟩) (n + 1) cap) ∧ w'.rangeAt w1.heap.size 0 (aC ⟨s, ep, v, now, true⟩)) (by kernel_rfl) ⟨d1, HX8.out⟩ (fun h0 => ?_)
        refine wpAnyH_take (i := 0) (v := (.pointer (some ⟨rb, 0, none⟩))) rfl (by kernel_rfl) (by kernel_rfl) (by kernel_rfl) (fun _ _ _ h => h) (Or.inl ⟨by rfl, fun w hSw => ?_⟩) h0 ?_
        next => (clear hSw; first | rfl | go_simp)
        simp only [Act.put, List.setIfInBounds_toArray, List.set_cons_zero, List.set_cons_succ, List.getElem_toArray, List.getElem_cons_succ, List.getElem_cons_zero]
        refine wpAnyH_take (i := 1) (v := (.pointer (some ⟨rb, 0, none⟩))) rfl (by kernel_rfl) (by kernel_rfl) (by kernel_rfl) (fun _ _ _ h => h) (Or.inl ⟨by rfl, fun w hSw => ?_⟩) h0 ?_
        next => (clear hSw; first | rfl | go_simp)
        simp only [Act.put, List.setIfInBounds_toArray, List.set_cons_zero, List.set_cons_succ, List.getElem_toArray, List.getElem_cons_succ, List.getElem_cons_zero]
        refine wpAnyH_take (i := 2) (v := (.pointer (some ⟨rb, 0, none⟩))) rfl (by kernel_rfl) (by kernel_rfl) (by kernel_rfl) (fun _ _ _ h => h) (Or.inl ⟨by rfl, fun w hSw => ?_⟩) h0 ?_
        next => (clear hSw; first | rfl | go_simp)
        simp only [Act.put, List.setIfInBounds_toArray, List.set_cons_zero, List.set_cons_succ, List.getElem_toArray, List.getElem_cons_succ, List.getElem_cons_zero]
        refine wpAnyH_take (i := 3) (v := (.slice (some ⟨g, 0, none⟩) (n + 1) cap)) rfl (by kernel_rfl) (by kernel_rfl) (by kernel_rfl) (fun _ _ _ h => h) (Or.inl ⟨by rfl, fun w hSw => ?_⟩) h0 ?_
        next => (have hc := hSw.1; go_simp)
        simp only [Act.put, List.setIfInBounds_toArray, List.set_cons_zero, List.set_cons_succ, List.getElem_toArray, List.getElem_cons_succ, List.getElem_cons_zero]
        refine wpAnyH_take (i := 4) (v := (.int .i64 (0 : Nat))) rfl (by kernel_rfl) (by kernel_rfl) (by kernel_rfl) (fun _ _ _ h => h) (Or.inl ⟨by rfl, fun w hSw => ?_⟩) h0 ?_
        next => (clear hSw; first | rfl | go_simp)
        simp only [Act.put, List.setIfInBounds_toArray, List.set_cons_zero, List.set_cons_succ, List.getElem_toArray, List.getElem_cons_succ, List.getElem_cons_zero]
        refine wpAnyH_take (i := 5) (v := (.agg (aC ⟨s, ep, v, now, true⟩).toArray)) rfl (by kernel_rfl) (by kernel_rfl) (by kernel_rfl) (fun _ _ _ h => h) (yieldsIf_load_mid (by rfl) _ _ rfl _ _ rfl (aC ⟨s, ep, v, now, true⟩) _ (fun _ h => h.2) Try.underlying46 rfl info46s) h0 ?_
        simp only [Act.put, List.setIfInBounds_toArray, List.set_cons_zero, List.set_cons_succ, List.getElem_toArray, List.getElem_cons_succ, List.getElem_cons_zero]
        refine wpAnyH_take (i := 6) (v := (.pointer (some ⟨g, 0 * 8, none⟩))) rfl (by kernel_rfl) (by kernel_rfl) (by kernel_rfl) (fun _ _ _ h => h) (Or.inl ⟨by rfl, fun w hSw => ?_⟩) h0 ?_
        next => (clear hSw; go_simp)
        simp only [Act.put, List.setIfInBounds_toArray, List.set_cons_zero, List.set_cons_succ, List.getElem_toArray, List.getElem_cons_succ, List.getElem_cons_zero]
        refine wpAnyH_ready (rs := [7]) (by kernel_rfl) (by simp) (AllReadyH.cons rfl (fun K hK => ?_) AllReadyH.nil)
        rw [if_pos (by rfl)]
        refine wp_store_mid 46 _ _ rfl g (0 * 8) (aC ⟨s, ep, v, now, true⟩).toArray rfl rfl HT.out info46s (all_oneCell_toArray (aC_one _)) ?_
        rw [setC_eq]
        refine hK.out _ _ ⟨(cell_set8 HG.out.1).trans d1, range_set8 HX8.out (.inl HG.out.2)⟩ (fun h1 => ?_)
        have HF2 : Hid (PutR w1 rb ⟨s, ep, v, now, true⟩ q n c g cap 0 D (set8 wr.drew g (0 * 8) ⟨s, ep, v, now, true⟩)) := HF.out wr.drew rfl (Kp.drew (Kp.refl _ _) 1)
        clear h0 h1 hK HF HT HG d1 HX8 HP
        generalize set8 wr.drew g (0 * 8) ⟨s, ep, v, now, true⟩ = W9 at *
        refine wpAnyH_done (by kernel_rfl) ?_ _
        go_wp2_with fail
        go_ret2
        exact ⟨rfl, w1, g, cap, 0, Y1.out, HF2.out⟩
      · obtain ⟨t, ht⟩ : ∃ t, t + 1 = k := ⟨k - 1, by omega⟩
        obtain ⟨z, hz⟩ : ∃ z, D[t]? = some z := ⟨D[t]'(by have := hl.out; omega), List.getElem?_eq_getElem _⟩
        have hzm : (D.take k ++ y :: D.drop k)[t]? = some z := by rw [List.getElem?_append_left (by rw [List.length_take]; have := hl.out; omega), List.getElem?_take, if_pos (by omega)]; exact hz
        have HRT : Hid (wr.rangeAt g (t * 8) (aC z)) := ar_range HP.out.own hzm
        obtain ⟨z0, -⟩ := HP.out.own.cells hzm
        have HZ : Hid (D[t]? = some z) := hz
        have HTK : Hid (t + 1 = k) := ht
        have g1 : (0 : Int) < (k : Int) := by omega
        have g2 : decide ((0 : Int) < (k : Int)) = true := decide_eq_true g1
        have g3 : (k : Int) - 1 = (t : Int) := by omega
        have g4 : IntKind.i64.wrap (t : Int) = (t : Int) := by rw [IntKind.wrap_i64]; omega
        have g5 : (t : Int) < (n : Int) + 1 := by omega
        have g6 : (k : Int) < (n : Int) + 1 := by omega
        clear hz hzm ht hk0
        by_cases hb : bytesBefore s.data.toList z.k = true
        · have hb1 := gtK z s
          rw [hb] at hb1
          have hg := gtrK z s
          rw [hb] at hg
          have HBB : Hid (bytesBefore s.data.toList z.k = true) := hb
          have HF : Hid (∀ wd : World, wd.heap = wr.heap → Kp (· = g) wr wd → PutL wc g cap n D s.data.toList t z (set8 wd g (k * 8) z)) := fun wd h1 h2 => PutL.shift HTK.out HP.out h1 h2 HZ.out HBB.out
          have HT : Hid (wr.there g (k * 8) 8) := ar_there HP.out.own (mid_length D y k (by have := hl.out; omega))
          have HG : Hid (rb ≠ g) := fun e => HW.out.h6 e.symm
          have HAP : Hid (t * 8 + (aC z).length ≤ k * 8) := by show _ ≤ _; rw [aC_len]; have := HTK.out; omega
          clear hb HB8 HX8
          go_wp2_with fail
          refine wp_region_held_drew (S := fun w' => w'.cell? ⟨rb, 0, none⟩ = some (.slice (some ⟨g, 0, none⟩) (n + 1) cap) ∧ w'.rangeAt g (t * 8) (aC z)) (by kernel_rfl) ⟨d1, HRT.out⟩ (fun h0 => ?_)
          refine wpAnyH_take (i := 0) (v := (.pointer (some ⟨rb, 0, none⟩))) rfl (by kernel_rfl) (by kernel_rfl) (by kernel_rfl) (fun _ _ _ h => h) (Or.inl ⟨by rfl, fun w hSw => ?_⟩) h0 ?_
          next => (clear hSw; first | rfl | go_simp)
          simp only [Act.put, List.setIfInBounds_toArray, List.set_cons_zero, List.set_cons_succ, List.getElem_toArray, List.getElem_cons_succ, List.getElem_cons_zero]
          refine wpAnyH_take (i := 1) (v := (.pointer (some ⟨rb, 0, none⟩))) rfl (by kernel_rfl) (by kernel_rfl) (by kernel_rfl) (fun _ _ _ h => h) (Or.inl ⟨by rfl, fun w hSw => ?_⟩) h0 ?_
          next => (clear hSw; first | rfl | go_simp)
          simp only [Act.put, List.setIfInBounds_toArray, List.set_cons_zero, List.set_cons_succ, List.getElem_toArray, List.getElem_cons_succ, List.getElem_cons_zero]
          refine wpAnyH_take (i := 2) (v := (.pointer (some ⟨rb, 0, none⟩))) rfl (by kernel_rfl) (by kernel_rfl) (by kernel_rfl) (fun _ _ _ h => h) (Or.inl ⟨by rfl, fun w hSw => ?_⟩) h0 ?_
          next => (clear hSw; first | rfl | go_simp)
          simp only [Act.put, List.setIfInBounds_toArray, List.set_cons_zero, List.set_cons_succ, List.getElem_toArray, List.getElem_cons_succ, List.getElem_cons_zero]
          refine wpAnyH_take (i := 3) (v := (.slice (some ⟨g, 0, none⟩) (n + 1) cap)) rfl (by kernel_rfl) (by kernel_rfl) (by kernel_rfl) (fun _ _ _ h => h) (Or.inl ⟨by rfl, fun w hSw => ?_⟩) h0 ?_
          next => (have hc := hSw.1; go_simp)
          simp only [Act.put, List.setIfInBounds_toArray, List.set_cons_zero, List.set_cons_succ, List.getElem_toArray, List.getElem_cons_succ, List.getElem_cons_zero]
          refine wpAnyH_take (i := 4) (v := (.int .i64 (k : Nat))) rfl (by kernel_rfl) (by kernel_rfl) (by kernel_rfl) (fun _ _ _ h => h) (Or.inl ⟨by rfl, fun w hSw => ?_⟩) h0 ?_
          next => (clear hSw; first | rfl | go_simp)
          simp only [Act.put, List.setIfInBounds_toArray, List.set_cons_zero, List.set_cons_succ, List.getElem_toArray, List.getElem_cons_succ, List.getElem_cons_zero]
          refine wpAnyH_take (i := 5) (v := (.pointer (some ⟨rb, 0, none⟩))) rfl (by kernel_rfl) (by kernel_rfl) (by kernel_rfl) (fun _ _ _ h => h) (Or.inl ⟨by rfl, fun w hSw => ?_⟩) h0 ?_
          next => (clear hSw; first | rfl | go_simp)
          simp only [Act.put, List.setIfInBounds_toArray, List.set_cons_zero, List.set_cons_succ, List.getElem_toArray, List.getElem_cons_succ, List.getElem_cons_zero]
          refine wpAnyH_take (i := 6) (v := (.pointer (some ⟨rb, 0, none⟩))) rfl (by kernel_rfl) (by kernel_rfl) (by kernel_rfl) (fun _ _ _ h => h) (Or.inl ⟨by rfl, fun w hSw => ?_⟩) h0 ?_
          next => (clear hSw; first | rfl | go_simp)
          simp only [Act.put, List.setIfInBounds_toArray, List.set_cons_zero, List.set_cons_succ, List.getElem_toArray, List.getElem_cons_succ, List.getElem_cons_zero]
          refine wpAnyH_take (i := 7) (v := (.pointer (some ⟨rb, 0, none⟩))) rfl (by kernel_rfl) (by kernel_rfl) (by kernel_rfl) (fun _ _ _ h => h) (Or.inl ⟨by rfl, fun w hSw => ?_⟩) h0 ?_
          next => (clear hSw; first | rfl | go_simp)
          simp only [Act.put, List.setIfInBounds_toArray, List.set_cons_zero, List.set_cons_succ, List.getElem_toArray, List.getElem_cons_succ, List.getElem_cons_zero]
          refine wpAnyH_take (i := 8) (v := (.slice (some ⟨g, 0, none⟩) (n + 1) cap)) rfl (by kernel_rfl) (by kernel_rfl) (by kernel_rfl) (fun _ _ _ h => h) (Or.inl ⟨by rfl, fun w hSw => ?_⟩) h0 ?_
          next => (have hc := hSw.1; go_simp)
          simp only [Act.put, List.setIfInBounds_toArray, List.set_cons_zero, List.set_cons_succ, List.getElem_toArray, List.getElem_cons_succ, List.getElem_cons_zero]
          refine wpAnyH_take (i := 9) (v := (.int .i64 (k : Nat))) rfl (by kernel_rfl) (by kernel_rfl) (by kernel_rfl) (fun _ _ _ h => h) (Or.inl ⟨by rfl, fun w hSw => ?_⟩) h0 ?_
          next => (clear hSw; first | rfl | go_simp)
          simp only [Act.put, List.setIfInBounds_toArray, List.set_cons_zero, List.set_cons_succ, List.getElem_toArray, List.getElem_cons_succ, List.getElem_cons_zero]
          refine wpAnyH_take (i := 10) (v := (.int .i64 (t : Nat))) rfl (by kernel_rfl) (by kernel_rfl) (by kernel_rfl) (fun _ _ _ h => h) (Or.inl ⟨by rfl, fun w hSw => ?_⟩) h0 ?_
          next => (clear hSw; go_simp)
          simp only [Act.put, List.setIfInBounds_toArray, List.set_cons_zero, List.set_cons_succ, List.getElem_toArray, List.getElem_cons_succ, List.getElem_cons_zero]
          refine wpAnyH_take (i := 11) (v := (.pointer (some ⟨g, t * 8, none⟩))) rfl (by kernel_rfl) (by kernel_rfl) (by kernel_rfl) (fun _ _ _ h => h) (Or.inl ⟨by rfl, fun w hSw => ?_⟩) h0 ?_
          next => (clear hSw; go_simp)
          simp only [Act.put, List.setIfInBounds_toArray, List.set_cons_zero, List.set_cons_succ, List.getElem_toArray, List.getElem_cons_succ, List.getElem_cons_zero]
          refine wpAnyH_take (i := 12) (v := (.agg (aC z).toArray)) rfl (by kernel_rfl) (by kernel_rfl) (by kernel_rfl) (fun _ _ _ h => h) (yieldsIf_load_mid (by rfl) _ _ rfl _ _ rfl (aC z) _ (fun _ h => h.2) Try.underlying46 rfl info46s) h0 ?_
          simp only [Act.put, List.setIfInBounds_toArray, List.set_cons_zero, List.set_cons_succ, List.getElem_toArray, List.getElem_cons_succ, List.getElem_cons_zero]
          refine wpAnyH_take (i := 13) (v := (.pointer (some ⟨g, k * 8, none⟩))) rfl (by kernel_rfl) (by kernel_rfl) (by kernel_rfl) (fun _ _ _ h => h) (Or.inl ⟨by rfl, fun w hSw => ?_⟩) h0 ?_
          next => (clear hSw; go_simp)
          simp only [Act.put, List.setIfInBounds_toArray, List.set_cons_zero, List.set_cons_succ, List.getElem_toArray, List.getElem_cons_succ, List.getElem_cons_zero]
          refine wpAnyH_ready (rs := [14]) (by kernel_rfl) (by simp) (AllReadyH.cons rfl (fun K hK => ?_) AllReadyH.nil)
          rw [if_pos (by rfl)]
          refine wp_store_mid 46 _ _ rfl g (k * 8) (aC z).toArray rfl rfl HT.out info46s (all_oneCell_toArray (aC_one _)) ?_
          rw [setC_eq]
          refine hK.out _ _ ⟨(cell_set8 HG.out).trans d1, range_set8 HRT.out (.inr (.inl HAP.out))⟩ (fun h1 => ?_)
          have HF2 : Hid (PutL wc g cap n D s.data.toList t z (set8 wr.drew g (k * 8) z)) := HF.out wr.drew rfl (Kp.drew (Kp.refl _ _) 1)
          clear h0 h1 hK HF HT HG d1 HRT HP
          generalize set8 wr.drew g (k * 8) z = W9 at *
          refine wpAnyH_done (by kernel_rfl) ?_ _
          go_wp2_with fail
          exact ⟨⟨t, z, rfl, by have := HTK.out; omega, HF2.out⟩, by simp only [intOf]; omega⟩
        · have hb' : bytesBefore s.data.toList z.k = false := by simpa using hb
          have hb1 := gtK z s
          rw [hb'] at hb1
          have hg := gtrK z s
          rw [hb'] at hg
          have HBB : Hid (bytesBefore s.data.toList z.k = false) := hb'
          clear hb hb' HRT
          have HF : Hid (∀ wd : World, wd.heap = wr.heap → Kp (· = g) wr wd → PutR w1 rb ⟨s, ep, v, now, true⟩ q n c g cap k D (set8 wd g (k * 8) ⟨s, ep, v, now, true⟩)) := fun wd h1 h2 => HP.out.fin hl.out hk HW.out h1 h2 (.inr ⟨z, by have := HZ.out; rwa [show k - 1 = t by have := HTK.out; omega], HBB.out⟩)
          have HT : Hid (wr.there g (k * 8) 8) := ar_there HP.out.own (mid_length D y k (by have := hl.out; omega))
          have HG : Hid (rb ≠ g ∧ w1.heap.size ≠ g) := ⟨fun e => HW.out.h6 e.symm, fun e => HW.out.h7 e.symm⟩
          go_wp2_with fail
          refine wp_region_held_drew (S := fun w' => w'.cell? ⟨rb, 0, none⟩ = some (.slice (some ⟨g, 0, none⟩) (n + 1) cap) ∧ w'.rangeAt w1.heap.size 0 (aC ⟨s, ep, v, now, true⟩)) (by kernel_rfl) ⟨d1, HX8.out⟩ (fun h0 => ?_)
          refine wpAnyH_take (i := 0) (v := (.pointer (some ⟨rb, 0, none⟩))) rfl (by kernel_rfl) (by kernel_rfl) (by kernel_rfl) (fun _ _ _ h => h) (Or.inl ⟨by rfl, fun w hSw => ?_⟩) h0 ?_
          next => (clear hSw; first | rfl | go_simp)
          simp only [Act.put, List.setIfInBounds_toArray, List.set_cons_zero, List.set_cons_succ, List.getElem_toArray, List.getElem_cons_succ, List.getElem_cons_zero]
          refine wpAnyH_take (i := 1) (v := (.pointer (some ⟨rb, 0, none⟩))) rfl (by kernel_rfl) (by kernel_rfl) (by kernel_rfl) (fun _ _ _ h => h) (Or.inl ⟨by rfl, fun w hSw => ?_⟩) h0 ?_
          next => (clear hSw; first | rfl | go_simp)
          simp only [Act.put, List.setIfInBounds_toArray, List.set_cons_zero, List.set_cons_succ, List.getElem_toArray, List.getElem_cons_succ, List.getElem_cons_zero]
          refine wpAnyH_take (i := 2) (v := (.pointer (some ⟨rb, 0, none⟩))) rfl (by kernel_rfl) (by kernel_rfl) (by kernel_rfl) (fun _ _ _ h => h) (Or.inl ⟨by rfl, fun w hSw => ?_⟩) h0 ?_
          next => (clear hSw; first | rfl | go_simp)
          simp only [Act.put, List.setIfInBounds_toArray, List.set_cons_zero, List.set_cons_succ, List.getElem_toArray, List.getElem_cons_succ, List.getElem_cons_zero]
          refine wpAnyH_take (i := 3) (v := (.slice (some ⟨g, 0, none⟩) (n + 1) cap)) rfl (by kernel_rfl) (by kernel_rfl) (by kernel_rfl) (fun _ _ _ h => h) (Or.inl ⟨by rfl, fun w hSw => ?_⟩) h0 ?_
          next => (have hc := hSw.1; go_simp)
          simp only [Act.put, List.setIfInBounds_toArray, List.set_cons_zero, List.set_cons_succ, List.getElem_toArray, List.getElem_cons_succ, List.getElem_cons_zero]
          refine wpAnyH_take (i := 4) (v := (.int .i64 (k : Nat))) rfl (by kernel_rfl) (by kernel_rfl) (by kernel_rfl) (fun _ _ _ h => h) (Or.inl ⟨by rfl, fun w hSw => ?_⟩) h0 ?_
          next => (clear hSw; first | rfl | go_simp)
          simp only [Act.put, List.setIfInBounds_toArray, List.set_cons_zero, List.set_cons_succ, List.getElem_toArray, List.getElem_cons_succ, List.getElem_cons_zero]
          refine wpAnyH_take (i := 5) (v := (.agg (aC ⟨s, ep, v, now, true⟩).toArray)) rfl (by kernel_rfl) (by kernel_rfl) (by kernel_rfl) (fun _ _ _ h => h) (yieldsIf_load_mid (by rfl) _ _ rfl _ _ rfl (aC ⟨s, ep, v, now, true⟩) _ (fun _ h => h.2) Try.underlying46 rfl info46s) h0 ?_
          simp only [Act.put, List.setIfInBounds_toArray, List.set_cons_zero, List.set_cons_succ, List.getElem_toArray, List.getElem_cons_succ, List.getElem_cons_zero]
          refine wpAnyH_take (i := 6) (v := (.pointer (some ⟨g, k * 8, none⟩))) rfl (by kernel_rfl) (by kernel_rfl) (by kernel_rfl) (fun _ _ _ h => h) (Or.inl ⟨by rfl, fun w hSw => ?_⟩) h0 ?_
          next => (clear hSw; go_simp)
          simp only [Act.put, List.setIfInBounds_toArray, List.set_cons_zero, List.set_cons_succ, List.getElem_toArray, List.getElem_cons_succ, List.getElem_cons_zero]
          refine wpAnyH_ready (rs := [7]) (by kernel_rfl) (by simp) (AllReadyH.cons rfl (fun K hK => ?_) AllReadyH.nil)
          rw [if_pos (by rfl)]
          refine wp_store_mid 46 _ _ rfl g (k * 8) (aC ⟨s, ep, v, now, true⟩).toArray rfl rfl HT.out info46s (all_oneCell_toArray (aC_one _)) ?_
          rw [setC_eq]
          refine hK.out _ _ ⟨(cell_set8 HG.out.1).trans d1, range_set8 HX8.out (.inl HG.out.2)⟩ (fun h1 => ?_)
          have HF2 : Hid (PutR w1 rb ⟨s, ep, v, now, true⟩ q n c g cap k D (set8 wr.drew g (k * 8) ⟨s, ep, v, now, true⟩)) := HF.out wr.drew rfl (Kp.drew (Kp.refl _ _) 1)
          clear h0 h1 hK HF HT HG d1 HX8 HP
          generalize set8 wr.drew g (k * 8) ⟨s, ep, v, now, true⟩ = W9 at *
          refine wpAnyH_done (by kernel_rfl) ?_ _
          go_wp2_with fail
          go_ret2
          exact ⟨rfl, w1, g, cap, k, Y1.out, HF2.out⟩
end Go.Proofs.Ytihjmigjphljnaa
