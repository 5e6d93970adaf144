/-
  The document's ledger: Open of an account that isn't there.
-/
import Derived.Test.YtehgcaaeifnjeaaRc
import Derived.Deep.RegionHeld3
import Derived.Deep.MidRow
set_option linter.unusedSimpArgs false
namespace Go.Proofs.Ytehgcaaeifnjeaa
open Go.RowKit Go.Maps

theorem less_before : ∀ (a b : List UInt8), Op.bytesLess a b = bytesBefore a b
  | [], [] => rfl
  | [], _ :: _ => rfl
  | _ :: _, [] => rfl
  | x :: r, y :: s => by
    unfold Op.bytesLess bytesBefore
    rw [less_before r s]
theorem gt_before (a b : List UInt8) : (!(Op.bytesLess a b || a == b)) = bytesBefore b a := by
  rw [less_before]
  by_cases h : a = b
  · subst h
    simp [WideAt.bytes_irrefl]
  · rw [beq_false_of_ne h, Bool.or_false]
    rcases WideAt.bytes_total a b h with h1 | h1
    · rw [h1]
      cases h2 : bytesBefore b a with
      | false => rfl
      | true => have := WideShapes.bytes_trans _ _ _ h1 h2; rw [WideAt.bytes_irrefl] at this; cases this
    · rw [h1]
      cases h2 : bytesBefore a b with
      | false => rfl
      | true => have := WideShapes.bytes_trans _ _ _ h1 h2; rw [WideAt.bytes_irrefl] at this; cases this
theorem gtr_run (a b : List UInt8) (w : World) : (binOp .gtr 9 (.string ⟨⟨a⟩⟩) (.string ⟨⟨b⟩⟩)).run Try.prog w = .ok (.bool (bytesBefore b a)) w := by
  rw [binOp_string_gtr, ← gt_before]
  simp
theorem set_mid {α : Type} (l : List α) (y f : α) (k : Nat) (hk : k ≤ l.length) : (l.take k ++ y :: l.drop k).set k f = l.take k ++ f :: l.drop k := by
  rw [List.set_append_right _ _ (by rw [List.length_take]; omega), List.length_take, show k - min k l.length = 0 by omega]
  rfl
theorem mid_length {α : Type} (l : List α) (y : α) (k : Nat) (hk : k ≤ l.length) : k < (l.take k ++ y :: l.drop k).length := by
  rw [List.length_append, List.length_take, List.length_cons]; omega
theorem ins_mid {f : A} : ∀ {l : List A} {k : Nat}, Srt A.nm l → (∀ z ∈ l.drop k, bytesBefore f.nm z.nm = true) → (k = 0 ∨ ∃ z, l[k - 1]? = some z ∧ bytesBefore f.nm z.nm = false) → ins A.nm f l = l.take k ++ f :: l.drop k
  | [], k, _, _, _ => by simp [ins]
  | y :: r, 0, _, gt, _ => by
    have := gt y (List.mem_cons_self ..)
    unfold ins
    rw [if_pos this]
    rfl
  | y :: r, k + 1, hs, gt, le => by
    have h1 := List.pairwise_cons.1 hs
    obtain ⟨z, hz, hf⟩ := le.resolve_left (by omega)
    rw [Nat.add_sub_cancel] at hz
    have hy : bytesBefore f.nm y.nm = false := by
      cases hq : bytesBefore f.nm y.nm with
      | false => rfl
      | true =>
        cases k with
        | zero =>
          have : y = z := by simpa using hz
          rw [this, hf] at hq; cases hq
        | succ k =>
          have := WideShapes.bytes_trans _ _ _ hq (h1.1 z (List.mem_of_getElem? (i := k) (by simpa using hz)))
          rw [hf] at this; cases this
    unfold ins
    rw [if_neg (by rw [hy]; simp), List.take_succ_cons, List.drop_succ_cons, List.cons_append]
    congr 1
    refine ins_mid h1.2 (fun z hz => gt z (by simpa using hz)) ?_
    cases k with
    | zero => exact .inl rfl
    | succ k => exact .inr ⟨z, by simpa using hz, hf⟩
theorem ar_there {w : World} {g n c k : Nat} {L : List A} (h : AR w (.slice (some ⟨g, 0, none⟩) n c) L) (hk : k < L.length) : w.there g (k * 9) 9 := fun j hj => by
  obtain ⟨a, ha⟩ : ∃ a, L[k]? = some a := ⟨_, List.getElem?_eq_getElem hk⟩
  refine ⟨?_, h.fz _⟩
  obtain ⟨g', e, hc⟩ := h.at aC_len ha
  simp only [Option.some.injEq, Addr.mk.injEq, and_true] at e
  subst e
  rw [hc j _ (List.getElem?_eq_getElem (by rw [aC_len]; exact hj))]
  rfl
theorem ar_range {w : World} {g n c k : Nat} {L : List A} {a : A} (h : AR w (.slice (some ⟨g, 0, none⟩) n c) L) (ha : L[k]? = some a) : w.rangeAt g (k * 9) (aC a) := fun j u hj => by
  obtain ⟨g', e, hc⟩ := h.at aC_len ha
  simp only [Option.some.injEq, Addr.mk.injEq, and_true] at e
  subst e
  exact hc j u hj
theorem set9_eq (w : World) (g o : Nat) (x : A) : w.setCells g o (aC x) = set9 w g o x := rfl
theorem setC_eq (w : World) (g o : Nat) (x : A) : w.setCells g o (aC x).toArray.toList = set9 w g o x := rfl
theorem range_set9 {w : World} {g o b o' : Nat} {x y : A} (h : w.rangeAt b o' (aC y)) (hap : b ≠ g ∨ o' + (aC y).length ≤ o ∨ o + (aC x).length ≤ o') : (set9 w g o x).rangeAt b o' (aC y) := by
  rw [← set9_eq]
  exact World.rangeAt_setCells_apart h g o (aC x) hap
theorem info65s : (Try.prog.info? 65).map (·.size) = some 9 := by kernel_rfl
theorem cell_set9 {w : World} {g o rb : Nat} {x : A} (h : rb ≠ g) : (set9 w g o x).cell? ⟨rb, 0, none⟩ = w.cell? ⟨rb, 0, none⟩ := by
  rw [← set9_eq]
  exact World.cell?_setCells_out g (aC x) o w ⟨rb, 0, none⟩ (fun e => absurd e h)
/-- behind the append: what is there -/
structure PutW (w : World) (rb : Nat) (s : List UInt8) (v : V) (q : Option Addr) (n c g cap : Nat) (xs : List Value) (W : World) : Prop where
  h1 : W.heap[rb]? = some (.cells #[.slice (some ⟨g, 0, none⟩) (n + 1) cap] 30 (0, 0))
  h2 : W.heap[w.heap.size]? = some (.cells #[.string ⟨⟨s⟩⟩, .int .i64 v.a, .int .i64 v.b, .int .i64 v.c, .int .i64 v.d, .int .i64 0, .int .i64 0, .int .i64 0, .int .i64 0] 65 (0, 0))
  h3 : W.ownsRow 0 65 9 (.slice (some ⟨g, 0, none⟩) (n + 1) cap) (n + 1) xs
  h4 : Kp (fun j => j = rb ∨ (Value.slice q n c).ownBlock = some j) w W
  h5 : (Value.slice q n c).ownBlock = some g ∨ w.heap.size < g
  h6 : g ≠ rb
  h7 : g ≠ w.heap.size
def Grn (w : World) (s : List UInt8) (v : V) (q : Option Addr) (n c : Nat) (w4 : World) : Prop := ((w.alloc (.cells #[.string ⟨⟨s⟩⟩, .int .i64 v.a, .int .i64 v.b, .int .i64 v.c, .int .i64 v.d, .int .i64 0, .int .i64 0, .int .i64 0, .int .i64 0] 65)).alloc (.cells #[.string ⟨⟨s⟩⟩, .int .i64 v.a, .int .i64 v.b, .int .i64 v.c, .int .i64 v.d, .int .i64 0, .int .i64 0, .int .i64 0, .int .i64 0] 65)).drew.grownBy w4 (Value.slice q n c).ownBlock
theorem putW {w w4 : World} {rb : Nat} {s : List UInt8} {v : V} {q : Option Addr} {n c g cap : Nat} {xs ys : List Value} (h : w.heap[rb]? = some (.cells #[.slice q n c] 30 (0, 0))) (ho : w.ownsRow 0 65 9 (.slice q n c) n ys) (hne : ∀ g, (Value.slice q n c).ownBlock = some g → g ≠ rb)
    (hown : w4.ownsRow 0 65 9 (.slice (some ⟨g, 0, none⟩) (n + 1) cap) (n + 1) xs) (hgrow : Grn w s v q n c w4) (hat : (Value.slice q n c).ownBlock = some g ∨ g = w.heap.size + 1 + 1) :
    w4.heap[rb]? = some (.cells #[.slice q n c] 30 (0, 0)) ∧ PutW w rb s v q n c g cap xs (w4.setCell ⟨rb, 0, none⟩ (.slice (some ⟨g, 0, none⟩) (n + 1) cap)) := by
  have hpb : rb < w.heap.size := (Array.getElem?_eq_some_iff.1 h).1
  have hsz : ((w.alloc (.cells #[.string ⟨⟨s⟩⟩, .int .i64 v.a, .int .i64 v.b, .int .i64 v.c, .int .i64 v.d, .int .i64 0, .int .i64 0, .int .i64 0, .int .i64 0] 65)).alloc (.cells #[.string ⟨⟨s⟩⟩, .int .i64 v.a, .int .i64 v.b, .int .i64 v.c, .int .i64 v.d, .int .i64 0, .int .i64 0, .int .i64 0, .int .i64 0] 65)).drew.heap.size = w.heap.size + 2 := by
    simp
  have bb : Below w.heap.size w ((w.alloc (.cells #[.string ⟨⟨s⟩⟩, .int .i64 v.a, .int .i64 v.b, .int .i64 v.c, .int .i64 v.d, .int .i64 0, .int .i64 0, .int .i64 0, .int .i64 0] 65)).alloc (.cells #[.string ⟨⟨s⟩⟩, .int .i64 v.a, .int .i64 v.b, .int .i64 v.c, .int .i64 v.d, .int .i64 0, .int .i64 0, .int .i64 0, .int .i64 0] 65)).drew := (((Below.refl _ w).alloc (Nat.le_refl _) _).alloc (by simp) _).drew
  have b1 : ((w.alloc (.cells #[.string ⟨⟨s⟩⟩, .int .i64 v.a, .int .i64 v.b, .int .i64 v.c, .int .i64 v.d, .int .i64 0, .int .i64 0, .int .i64 0, .int .i64 0] 65)).alloc (.cells #[.string ⟨⟨s⟩⟩, .int .i64 v.a, .int .i64 v.b, .int .i64 v.c, .int .i64 v.d, .int .i64 0, .int .i64 0, .int .i64 0, .int .i64 0] 65)).drew.heap[w.heap.size]? = some (.cells #[.string ⟨⟨s⟩⟩, .int .i64 v.a, .int .i64 v.b, .int .i64 v.c, .int .i64 v.d, .int .i64 0, .int .i64 0, .int .i64 0, .int .i64 0] 65 (0, 0)) := at_alloc (w := w.alloc (.cells #[.string ⟨⟨s⟩⟩, .int .i64 v.a, .int .i64 v.b, .int .i64 v.c, .int .i64 v.d, .int .i64 0, .int .i64 0, .int .i64 0, .int .i64 0] 65)) new0
  unfold Grn at hgrow
  generalize ((w.alloc (.cells #[.string ⟨⟨s⟩⟩, .int .i64 v.a, .int .i64 v.b, .int .i64 v.c, .int .i64 v.d, .int .i64 0, .int .i64 0, .int .i64 0, .int .i64 0] 65)).alloc (.cells #[.string ⟨⟨s⟩⟩, .int .i64 v.a, .int .i64 v.b, .int .i64 v.c, .int .i64 v.d, .int .i64 0, .int .i64 0, .int .i64 0, .int .i64 0] 65)).drew = V at *
  have hlt := World.ownsRow.lt ho
  have hnp : some rb ≠ (Value.slice q n c).ownBlock := fun e => hne rb e.symm rfl
  have hp4 : w4.heap[rb]? = some (.cells #[.slice q n c] 30 (0, 0)) := (hgrow.block rb (by omega) hnp).trans ((bb.block rb hpb).trans h)
  have hgp : g ≠ rb := by
    rcases hat with h1 | h1
    · exact hne g h1
    · omega
  refine ⟨hp4, setB hp4 _, ?_, ?_, ?_, ?_, hgp, ?_⟩
  · rw [Below.heap_setCell _ _ _ _ (show w.heap.size ≠ rb by omega)]
    exact (hgrow.block _ (by omega) fun e => by have := (hlt _ e.symm).2; omega).trans b1
  · exact ownsKeep hown fun g' hg' => Below.heap_setCell _ _ _ _ (by cases hg'; exact hgp)
  · refine (((Kp.of_below bb : Kp (fun j => j = rb ∨ (Value.slice q n c).ownBlock = some j) w V).trans (Kp.of_grown (S := fun j => j = rb ∨ (Value.slice q n c).ownBlock = some j) hgrow fun k e => .inr e) fun _ _ e => e).trans (Kp.of_set (S := fun j => j = rb ∨ (Value.slice q n c).ownBlock = some j) w4 ⟨rb, 0, none⟩ (.slice (some ⟨g, 0, none⟩) (n + 1) cap) (.inl rfl)) fun _ _ e => e)
  · rcases hat with h1 | h1
    · exact .inl h1
    · exact .inr (by omega)
  · rcases hat with h1 | h1
    · have := (hlt g h1).2; omega
    · omega
structure PutL (W : World) (g cap n : Nat) (l : List A) (fn : List UInt8) (k : Nat) (y : A) (wr : World) : Prop where
  own : AR wr (.slice (some ⟨g, 0, none⟩) (n + 1) cap) (l.take k ++ y :: l.drop k)
  kp : Kp (· = g) W wr
  gt : ∀ z ∈ l.drop k, bytesBefore fn z.nm = true
theorem PutL.shift {W wr wd : World} {g cap n t k : Nat} {l : List A} {fn : List UInt8} {y z : A} (hk : t + 1 = k) (h : PutL W g cap n l fn k y wr) (hd : wd.heap = wr.heap) (hd2 : Kp (· = g) wr wd) (hz : l[t]? = some z) (hb : bytesBefore fn z.nm = true) : PutL W g cap n l fn t z (set9 wd g (k * 9) z) := by
  subst hk
  obtain ⟨ht, rfl⟩ := List.getElem?_eq_some_iff.1 hz
  have h1 := ar_set9 (k := t + 1) (h.own.keep (w1 := wd) fun _ _ => by rw [hd]) (mid_length l y (t + 1) ht) l[t]
  rw [set_mid l y _ (t + 1) ht, List.take_succ_eq_append_getElem ht, List.append_assoc] at h1
  have e : [l[t]] ++ l[t] :: l.drop (t + 1) = l[t] :: l.drop t := by rw [List.drop_eq_getElem_cons ht]; rfl
  rw [e] at h1
  refine ⟨h1, h.kp.trans (kp_set9 hd2 rfl) fun _ _ e => e, fun x hx => ?_⟩
  rw [List.drop_eq_getElem_cons ht] at hx
  rcases List.mem_cons.1 hx with rfl | hx
  · exact hb
  · exact h.gt x hx
/-- behind the whole -/
structure PutR (w : World) (rb : Nat) (f : A) (q : Option Addr) (n c g cap k : Nat) (l : List A) (W : World) : Prop where
  h1 : W.heap[rb]? = some (.cells #[.slice (some ⟨g, 0, none⟩) (n + 1) cap] 30 (0, 0))
  h3 : AR W (.slice (some ⟨g, 0, none⟩) (n + 1) cap) (l.take k ++ f :: l.drop k)
  h4 : Kp (fun j => j = rb ∨ (Value.slice q n c).ownBlock = some j) w W
  h5 : (Value.slice q n c).ownBlock = some g ∨ w.heap.size < g
  gt : ∀ z ∈ l.drop k, bytesBefore f.nm z.nm = true
  le : k = 0 ∨ ∃ z, l[k - 1]? = some z ∧ bytesBefore f.nm z.nm = false
  hk : k ≤ l.length
theorem PutL.fin {w W wr wd : World} {rb : Nat} {g cap n c k : Nat} {q : Option Addr} {l : List A} {xs : List Value} {y : A} {s : List UInt8} {v : V} (hl : l.length = n) (hk : k ≤ n) (hW : PutW w rb s v q n c g cap xs W) (h : PutL W g cap n l s k y wr) (hd : wd.heap = wr.heap) (hd2 : Kp (· = g) wr wd) (le : k = 0 ∨ ∃ z, l[k - 1]? = some z ∧ bytesBefore s z.nm = false) :
    PutR w rb ⟨s, v, V.nil⟩ q n c g cap k l (set9 wd g (k * 9) ⟨s, v, V.nil⟩) := by
  have h1 := ar_set9 (k := k) (h.own.keep (w1 := wd) fun _ _ => by rw [hd]) (mid_length l y k (by omega)) ⟨s, v, V.nil⟩
  rw [set_mid l y _ k (by omega)] at h1
  have hkp : Kp (· = g) W (set9 wd g (k * 9) ⟨s, v, V.nil⟩) := h.kp.trans (kp_set9 hd2 rfl) fun _ _ e => e
  refine ⟨(hkp.block rb ?_ (fun e => hW.h6 e.symm)).trans hW.h1, h1, hW.h4.trans hkp ?_, hW.h5, h.gt, le, by omega⟩
  · exact (Array.getElem?_eq_some_iff.1 hW.h1).1
  · rintro j hj rfl
    rcases hW.h5 with h5 | h5
    · exact .inr h5
    · omega
set_option maxHeartbeats 8000000 in
set_option maxRecDepth 100000 in
theorem ropen_add (w : World) (rb n c : Nat) (q : Option Addr) (D : List A) (s : List UInt8) (v : V) (hv : fm v.a v.b v.c v.d = true) (hn : n < 64) (hR : Hid (RAt w rb q n c D)) (H : Hid (∀ w1, Below w.heap.size w w1 → Calls Try.prog 32 #[.pointer (some ⟨rb, 0, none⟩), .string ⟨⟨s⟩⟩] w1 fun e w' => e = .returned (.int .i64 (-1)) ∧ w' = w1)) : Calls Try.prog 23 #[.pointer (some ⟨rb, 0, none⟩), .string ⟨⟨s⟩⟩, .agg #[.int .i64 v.a, .int .i64 v.b, .int .i64 v.c, .int .i64 v.d]] w fun e w' => e = .returned (.int .i64 0) ∧ Hid (∃ U g cap k, Below w.heap.size w U ∧ PutR U rb ⟨s, v, V.nil⟩ q n c g cap k D w') := by
  have HC : Hid (∀ (w : World), Calls Try.prog 21 #[.agg #[.int .i64 v.a, .int .i64 v.b, .int .i64 v.c, .int .i64 v.d]] w fun e w' => e = .returned (.bool true) ∧ Hid (Below w.heap.size w w')) := fun w => by have := rformed_any v.a v.b v.c v.d w; rwa [hv] at this
  obtain ⟨q0, q1, q2, q3, -⟩ := cells4 (new0 (w := w) (o := .cells #[.int .i64 v.a, .int .i64 v.b, .int .i64 v.c, .int .i64 v.d] 33 (0, 0)))
  have Y : Hid (Below w.heap.size w (w.alloc (.cells #[.int .i64 v.a, .int .i64 v.b, .int .i64 v.c, .int .i64 v.d] 33 (0, 0)))) := (Below.refl _ w).alloc (Nat.le_refl _) _
  have ZZ : Hid ((w.alloc (.cells #[.int .i64 v.a, .int .i64 v.b, .int .i64 v.c, .int .i64 v.d] 33 (0, 0))).heap[w.heap.size]? = some (.cells #[.int .i64 v.a, .int .i64 v.b, .int .i64 v.c, .int .i64 v.d] 33 (0, 0))) := new0
  have hd64 : decide ((64 : Int) ≤ (n : Int)) = false := decide_eq_false (by omega)
  have hn64 : ¬ (64 : Int) ≤ (n : Int) := by omega
  clear hv
  go_enter Try.func23, Try.ntmps23
  go_wp2_with (go_at_call 21; refine (HC.out _).mono ?_)
  first | rintro e w1 rfl b1 | rintro e w1 ⟨rfl, b1⟩
  have b2 : Below (w.alloc (.cells #[.int .i64 v.a, .int .i64 v.b, .int .i64 v.c, .int .i64 v.d] 33 (0, 0))).heap.size (w.alloc (.cells #[.int .i64 v.a, .int .i64 v.b, .int .i64 v.c, .int .i64 v.d] 33 (0, 0))) w1 := by
    rw [World.size_alloc]
    exact b1.out
  have Y1 : Hid (Below w.heap.size w w1) := below_from Y.out b2 Y.out.size
  have Z1 := at_below b2 (Nat.le_refl _) ZZ.out
  clear q0 q1 q2 q3 b1 b2 ZZ Y HC
  go_upto_region 7 with (go_at_call 32; refine (H.out _ Y1.out).mono ?_; rintro e w2 ⟨rfl, h2⟩; obtain rfl := h2.symm)
  have R1 : Hid (RAt w1 rb q n c D) := hR.out.below Y1.out
  obtain ⟨q0, q1, q2, q3, -⟩ := cells4 Z1
  have e0 := c1 R1.out.cell
  have f0 := fz R1.out.cell 0
  have hpb : rb < w1.heap.size := R1.out.lt
  have hl : Hid (D.length = n) := R1.out.n.symm
  have h : Hid (w1.heap[rb]? = some (.cells #[.slice q n c] 30 (0, 0))) := R1.out.cell
  have ho : Hid (w1.ownsRow 0 65 9 (.slice q n c) n (D.flatMap aC)) := by
    have := R1.out.row
    unfold AR GRow at this
    rw [← R1.out.n] at this
    exact this
  have hne : Hid (∀ g, (Value.slice q n c).ownBlock = some g → g ≠ rb) := fun g hg => by
    rcases R1.out.row.2 with ⟨e, _⟩ | ⟨g', cap, cur, e, hb, hgg, _⟩
    · rw [e] at hg; cases hg
    · rw [e] at hg
      cases hg
      exact cells_ne hgg R1.out.cell (by decide)
  clear Z1 H hR R1
  obtain ⟨i0, hi, hz0, hz1, hz2⟩ := info_parts info65
  have HI : Hid (Try.prog.info? 65 = some i0 ∧ i0.zero = some (.agg #[.string ⟨#[]⟩, .int .i64 0, .int .i64 0, .int .i64 0, .int .i64 0, .int .i64 0, .int .i64 0, .int .i64 0, .int .i64 0]) ∧ i0.size = 9 ∧ i0.bytes = 80) := ⟨hi, hz0, hz1, hz2⟩
  clear hi hz0 hz1 hz2
  have O1 : Hid (((w1.alloc (.cells #[.string ⟨⟨s⟩⟩, .int .i64 v.a, .int .i64 v.b, .int .i64 v.c, .int .i64 v.d, .int .i64 0, .int .i64 0, .int .i64 0, .int .i64 0] 65)).alloc (.cells #[.string ⟨⟨s⟩⟩, .int .i64 v.a, .int .i64 v.b, .int .i64 v.c, .int .i64 v.d, .int .i64 0, .int .i64 0, .int .i64 0, .int .i64 0] 65)).drew.ownsRow 0 65 9 (.slice q n c) n (D.flatMap aC)) :=
    ownsKeep ho.out fun g hg => ((((Below.refl _ w1).alloc (Nat.le_refl _) _).alloc (by simp) _).drew).block g (World.ownsRow.lt ho.out g hg).2
  have HN : Hid (∀ j u, ([.string ⟨⟨s⟩⟩, .int .i64 v.a, .int .i64 v.b, .int .i64 v.c, .int .i64 v.d, .int .i64 0, .int .i64 0, .int .i64 0, .int .i64 0] : List Value)[j]? = some u → ((w1.alloc (.cells #[.string ⟨⟨s⟩⟩, .int .i64 v.a, .int .i64 v.b, .int .i64 v.c, .int .i64 v.d, .int .i64 0, .int .i64 0, .int .i64 0, .int .i64 0] 65)).alloc (.cells #[.string ⟨⟨s⟩⟩, .int .i64 v.a, .int .i64 v.b, .int .i64 v.c, .int .i64 v.d, .int .i64 0, .int .i64 0, .int .i64 0, .int .i64 0] 65)).drew.cell? ((⟨w1.heap.size + 1, 0, none⟩ : Addr).add j) = some u) := by
    refine World.news_of_block (cs := #[.string ⟨⟨s⟩⟩, .int .i64 v.a, .int .i64 v.b, .int .i64 v.c, .int .i64 v.d, .int .i64 0, .int .i64 0, .int .i64 0, .int .i64 0]) (t := 65) (fr := (0, 0)) ?_
    have := new0 (w := w1.alloc (.cells #[.string ⟨⟨s⟩⟩, .int .i64 v.a, .int .i64 v.b, .int .i64 v.c, .int .i64 v.d, .int .i64 0, .int .i64 0, .int .i64 0, .int .i64 0] 65)) (o := .cells #[.string ⟨⟨s⟩⟩, .int .i64 v.a, .int .i64 v.b, .int .i64 v.c, .int .i64 v.d, .int .i64 0, .int .i64 0, .int .i64 0, .int .i64 0] 65)
    rw [show (w1.alloc (.cells #[.string ⟨⟨s⟩⟩, .int .i64 v.a, .int .i64 v.b, .int .i64 v.c, .int .i64 v.d, .int .i64 0, .int .i64 0, .int .i64 0, .int .i64 0] 65)).heap.size = w1.heap.size + 1 by simp] at this
    exact this
  have H1 : Hid (∀ u ∈ ([.string ⟨⟨s⟩⟩, .int .i64 v.a, .int .i64 v.b, .int .i64 v.c, .int .i64 v.d, .int .i64 0, .int .i64 0, .int .i64 0, .int .i64 0] : List Value), u.oneCell' = true) := aC_one ⟨s, v, V.nil⟩
  have HP : Hid (∀ g cap xs w4, w4.ownsRow 0 65 9 (.slice (some ⟨g, 0, none⟩) (n + 1) cap) (n + 1) xs → Grn w1 s v q n c w4 → ((Value.slice q n c).ownBlock = some g ∨ g = w1.heap.size + 1 + 1) → w4.heap[rb]? = some (.cells #[.slice q n c] 30 (0, 0)) ∧ PutW w1 rb s v q n c g cap xs (w4.setCell ⟨rb, 0, none⟩ (.slice (some ⟨g, 0, none⟩) (n + 1) cap))) := fun g cap xs w4 a b c => putW h.out ho.out hne.out a b c
  have HS : Hid (((w1.alloc (.cells #[.string ⟨⟨s⟩⟩, .int .i64 v.a, .int .i64 v.b, .int .i64 v.c, .int .i64 v.d, .int .i64 0, .int .i64 0, .int .i64 0, .int .i64 0] 65)).alloc (.cells #[.string ⟨⟨s⟩⟩, .int .i64 v.a, .int .i64 v.b, .int .i64 v.c, .int .i64 v.d, .int .i64 0, .int .i64 0, .int .i64 0, .int .i64 0] 65)).drew.heap.size = w1.heap.size + 1 + 1) := by
    refine (?_ : _ = _)
    simp
  go_upto_region 10 with fail
  go_cut [8] from 34 to 43 (fun s8 wx => ∃ g cap, s8 = .pointer (some ⟨w1.heap.size, 0, none⟩) ∧ Hid (PutW w1 rb s v q n c g cap (D.flatMap aC ++ [.string ⟨⟨s⟩⟩, .int .i64 v.a, .int .i64 v.b, .int .i64 v.c, .int .i64 v.d, .int .i64 0, .int .i64 0, .int .i64 0, .int .i64 0]) wx))
  case first =>
    go_region_law (refine step_append_lies _ rfl (.tmp 38) (.tmp 40) 28 rfl 0 65 i0 _ 9 80 Try.underlying28 HI.out.1 HI.out.2.1 HI.out.2.2.1 HI.out.2.2.2 rfl (by decide) (.slice q n c) n (D.flatMap aC) (by simp [Act.eval]) O1.out ⟨w1.heap.size + 1, 0, none⟩ 1 1 [.string ⟨⟨s⟩⟩, .int .i64 v.a, .int .i64 v.b, .int .i64 v.c, .int .i64 v.d, .int .i64 0, .int .i64 0, .int .i64 0, .int .i64 0] (by simp [Act.eval]) rfl HN.out H1.out (by decide) (by unfold maxLen; omega) (by omega) (Nat.zero_le _) _ HS.out ?_; intro g cap w4 hown hgrow hat hlt; obtain ⟨hw4, hpw⟩ := HP.out g cap _ w4 hown hgrow hat; clear hown hgrow hat hlt; have d0 := c1 hw4; have df := fz hw4 0; have HW : Hid (PutW w1 rb s v q n c g cap (D.flatMap aC ++ [.string ⟨⟨s⟩⟩, .int .i64 v.a, .int .i64 v.b, .int .i64 v.c, .int .i64 v.d, .int .i64 0, .int .i64 0, .int .i64 0, .int .i64 0]) (w4.setCell ⟨rb, 0, none⟩ (.slice (some ⟨g, 0, none⟩) (n + 1) cap))) := hpw; clear hpw hw4)
    all_goals (go_wp2_with fail; go_meet)
    all_goals exact ⟨_, _, rfl, HW⟩
  case rest =>
    obtain ⟨g, cap, rfl, HW⟩ := hcut
    clear O1 HN H1 HP HS HI e0 f0 q0 q1 q2 q3
    have d0 := c1 HW.out.h1
    have df := fz HW.out.h1 0
    have k0 := Lib.cell_of_heap HW.out.h2 0
    have HK : Hid (rb < wc.heap.size ∧ w1.heap.size < wc.heap.size) := ⟨(Array.getElem?_eq_some_iff.1 HW.out.h1).1, (Array.getElem?_eq_some_iff.1 HW.out.h2).1⟩
    clear k0
    go_upto_region 12 with fail
    have hw9 : IntKind.i64.wrap ((n : Int) + 1 - 1) = (n : Int) := by rw [IntKind.wrap_i64]; omega
    go_wp2_with fail
    go_loopw [7] (fun i wr => ∃ (k : Nat) (y : A), i = .int .i64 k ∧ k ≤ n ∧ PutL wc g cap n D s k y wr) (fun i _ => (intOf i).toNat)
    case atStart =>
      refine ⟨n, ⟨s, v, V.nil⟩, by simp, Nat.le_refl _, ?_, Kp.refl _ _, fun z hz => ?_⟩
      · have := HW.out.h3
        rw [List.take_of_length_le (by have := hl.out; omega), List.drop_of_length_le (by have := hl.out; omega)]
        unfold AR GRow
        rw [List.length_append, hl.out, List.flatMap_append]
        exact this
      · rw [List.drop_of_length_le (by have := hl.out; omega)] at hz
        cases hz
    case round =>
      obtain ⟨k, y, rfl, hk, hp⟩ := hrel
      have HP : Hid (PutL wc g cap n D s k y wr) := hp
      have d1 := c1 ((hp.kp.block rb HK.out.1 (fun e => HW.out.h6 e.symm)).trans HW.out.h1)
      have HB8 : Hid (wr.heap[w1.heap.size]? = some (.cells #[.string ⟨⟨s⟩⟩, .int .i64 v.a, .int .i64 v.b, .int .i64 v.c, .int .i64 v.d, .int .i64 0, .int .i64 0, .int .i64 0, .int .i64 0] 65 (0, 0))) := (hp.kp.block w1.heap.size HK.out.2 (fun e => HW.out.h7 e.symm)).trans HW.out.h2
      clear hp d0 df
      have HX8 : Hid (wr.rangeAt w1.heap.size 0 (aC ⟨s, v, V.nil⟩)) := fun j u hj => by
        rw [Nat.zero_add, cell_of HB8.out]
        simpa [aC, V.nil] using hj
      by_cases hk0 : k = 0
      · subst hk0
        have hti2 : (0 : Int) < (n : Int) + 1 := by omega
        have HF : Hid (∀ wd : World, wd.heap = wr.heap → Kp (· = g) wr wd → PutR w1 rb ⟨s, v, V.nil⟩ q n c g cap 0 D (set9 wd g (0 * 9) ⟨s, v, V.nil⟩)) := fun wd h1 h2 => HP.out.fin hl.out hk HW.out h1 h2 (.inl rfl)
        have HT : Hid (wr.there g (0 * 9) 9) := ar_there HP.out.own (mid_length D y 0 (by have := hl.out; omega))
        have HG : Hid (rb ≠ g ∧ w1.heap.size ≠ g) := ⟨fun e => HW.out.h6 e.symm, fun e => HW.out.h7 e.symm⟩
        go_wp2_with fail
        refine wp_region_held_drew (S := fun w' => w'.cell? ⟨rb, 0, none⟩ = some (.slice (some ⟨g, 0, none⟩) (n + 1) cap) ∧ w'.rangeAt w1.heap.size 0 (aC ⟨s, v, V.nil⟩)) (by kernel_rfl) ⟨d1, HX8.out⟩ (fun h0 => ?_)
        refine wpAnyH_take (i := 0) (v := (.pointer (some ⟨rb, 0, none⟩))) rfl (by kernel_rfl) (by kernel_rfl) (by kernel_rfl) (fun _ _ _ h => h) (Or.inl ⟨by rfl, fun w hSw => ?_⟩) h0 ?_
        next => (clear hSw; first | rfl | go_simp)
        simp only [Act.put, List.setIfInBounds_toArray, List.set_cons_zero, List.set_cons_succ, List.getElem_toArray, List.getElem_cons_succ, List.getElem_cons_zero]
        refine wpAnyH_take (i := 1) (v := (.pointer (some ⟨rb, 0, none⟩))) rfl (by kernel_rfl) (by kernel_rfl) (by kernel_rfl) (fun _ _ _ h => h) (Or.inl ⟨by rfl, fun w hSw => ?_⟩) h0 ?_
        next => (clear hSw; first | rfl | go_simp)
        simp only [Act.put, List.setIfInBounds_toArray, List.set_cons_zero, List.set_cons_succ, List.getElem_toArray, List.getElem_cons_succ, List.getElem_cons_zero]
        refine wpAnyH_take (i := 2) (v := (.pointer (some ⟨rb, 0, none⟩))) rfl (by kernel_rfl) (by kernel_rfl) (by kernel_rfl) (fun _ _ _ h => h) (Or.inl ⟨by rfl, fun w hSw => ?_⟩) h0 ?_
        next => (clear hSw; first | rfl | go_simp)
        simp only [Act.put, List.setIfInBounds_toArray, List.set_cons_zero, List.set_cons_succ, List.getElem_toArray, List.getElem_cons_succ, List.getElem_cons_zero]
        refine wpAnyH_take (i := 3) (v := (.slice (some ⟨g, 0, none⟩) (n + 1) cap)) rfl (by kernel_rfl) (by kernel_rfl) (by kernel_rfl) (fun _ _ _ h => h) (Or.inl ⟨by rfl, fun w hSw => ?_⟩) h0 ?_
        next => (have hc := hSw.1; go_simp)
        simp only [Act.put, List.setIfInBounds_toArray, List.set_cons_zero, List.set_cons_succ, List.getElem_toArray, List.getElem_cons_succ, List.getElem_cons_zero]
        refine wpAnyH_take (i := 4) (v := (.int .i64 (0 : Nat))) rfl (by kernel_rfl) (by kernel_rfl) (by kernel_rfl) (fun _ _ _ h => h) (Or.inl ⟨by rfl, fun w hSw => ?_⟩) h0 ?_
        next => (clear hSw; first | rfl | go_simp)
        simp only [Act.put, List.setIfInBounds_toArray, List.set_cons_zero, List.set_cons_succ, List.getElem_toArray, List.getElem_cons_succ, List.getElem_cons_zero]
        refine wpAnyH_take (i := 5) (v := (.agg (aC ⟨s, v, V.nil⟩).toArray)) rfl (by kernel_rfl) (by kernel_rfl) (by kernel_rfl) (fun _ _ _ h => h) (yieldsIf_load_mid (by rfl) _ _ rfl _ _ rfl (aC ⟨s, v, V.nil⟩) _ (fun _ h => h.2) Try.underlying65 rfl info65s) h0 ?_
        simp only [Act.put, List.setIfInBounds_toArray, List.set_cons_zero, List.set_cons_succ, List.getElem_toArray, List.getElem_cons_succ, List.getElem_cons_zero]
        refine wpAnyH_take (i := 6) (v := (.pointer (some ⟨g, 0 * 9, none⟩))) rfl (by kernel_rfl) (by kernel_rfl) (by kernel_rfl) (fun _ _ _ h => h) (Or.inl ⟨by rfl, fun w hSw => ?_⟩) h0 ?_
        next => (clear hSw; go_simp)
        simp only [Act.put, List.setIfInBounds_toArray, List.set_cons_zero, List.set_cons_succ, List.getElem_toArray, List.getElem_cons_succ, List.getElem_cons_zero]
        refine wpAnyH_ready (rs := [7]) (by kernel_rfl) (by simp) (AllReadyH.cons rfl (fun K hK => ?_) AllReadyH.nil)
        rw [if_pos (by rfl)]
        refine wp_store_mid 65 _ _ rfl g (0 * 9) (aC ⟨s, v, V.nil⟩).toArray rfl rfl HT.out info65s (all_oneCell_toArray (aC_one _)) ?_
        rw [setC_eq]
        refine hK.out _ _ ⟨(cell_set9 HG.out.1).trans d1, range_set9 HX8.out (.inl HG.out.2)⟩ (fun h1 => ?_)
        have HF2 : Hid (PutR w1 rb ⟨s, v, V.nil⟩ q n c g cap 0 D (set9 wr.drew g (0 * 9) ⟨s, v, V.nil⟩)) := HF.out wr.drew rfl (Kp.drew (Kp.refl _ _) 1)
        clear h0 h1 hK HF HT HG d1 HX8 HP
        generalize set9 wr.drew g (0 * 9) ⟨s, v, V.nil⟩ = W9 at *
        refine wpAnyH_done (by kernel_rfl) ?_ _
        go_wp2_with fail
        go_ret
        exact ⟨rfl, w1, g, cap, 0, Y1.out, HF2.out⟩
      · obtain ⟨t, ht⟩ : ∃ t, t + 1 = k := ⟨k - 1, by omega⟩
        obtain ⟨z, hz⟩ : ∃ z, D[t]? = some z := ⟨D[t]'(by have := hl.out; omega), List.getElem?_eq_getElem _⟩
        have hzm : (D.take k ++ y :: D.drop k)[t]? = some z := by rw [List.getElem?_append_left (by rw [List.length_take]; have := hl.out; omega), List.getElem?_take, if_pos (by omega)]; exact hz
        have HRT : Hid (wr.rangeAt g (t * 9) (aC z)) := ar_range HP.out.own hzm
        obtain ⟨z0, -⟩ := HP.out.own.cells hzm
        have HZ : Hid (D[t]? = some z) := hz
        have HTK : Hid (t + 1 = k) := ht
        have g1 : (0 : Int) < (k : Int) := by omega
        have g2 : decide ((0 : Int) < (k : Int)) = true := decide_eq_true g1
        have g3 : (k : Int) - 1 = (t : Int) := by omega
        have g4 : IntKind.i64.wrap (t : Int) = (t : Int) := by rw [IntKind.wrap_i64]; omega
        have g5 : (t : Int) < (n : Int) + 1 := by omega
        have g6 : (k : Int) < (n : Int) + 1 := by omega
        clear hz hzm ht hk0
        by_cases hb : bytesBefore s z.nm = true
        · have hb1 := gt_before z.nm s
          rw [hb] at hb1
          have hg := gtr_run z.nm s
          rw [hb] at hg
          have HBB : Hid (bytesBefore s z.nm = true) := hb
          have HF : Hid (∀ wd : World, wd.heap = wr.heap → Kp (· = g) wr wd → PutL wc g cap n D s t z (set9 wd g (k * 9) z)) := fun wd h1 h2 => PutL.shift HTK.out HP.out h1 h2 HZ.out HBB.out
          have HT : Hid (wr.there g (k * 9) 9) := ar_there HP.out.own (mid_length D y k (by have := hl.out; omega))
          have HG : Hid (rb ≠ g) := fun e => HW.out.h6 e.symm
          have HAP : Hid (t * 9 + (aC z).length ≤ k * 9) := by show _ ≤ _; rw [aC_len]; have := HTK.out; omega
          clear hb HB8 HX8
          go_wp2_with fail
          refine wp_region_held_drew (S := fun w' => w'.cell? ⟨rb, 0, none⟩ = some (.slice (some ⟨g, 0, none⟩) (n + 1) cap) ∧ w'.rangeAt g (t * 9) (aC z)) (by kernel_rfl) ⟨d1, HRT.out⟩ (fun h0 => ?_)
          refine wpAnyH_take (i := 0) (v := (.pointer (some ⟨rb, 0, none⟩))) rfl (by kernel_rfl) (by kernel_rfl) (by kernel_rfl) (fun _ _ _ h => h) (Or.inl ⟨by rfl, fun w hSw => ?_⟩) h0 ?_
          next => (clear hSw; first | rfl | go_simp)
          simp only [Act.put, List.setIfInBounds_toArray, List.set_cons_zero, List.set_cons_succ, List.getElem_toArray, List.getElem_cons_succ, List.getElem_cons_zero]
          refine wpAnyH_take (i := 1) (v := (.pointer (some ⟨rb, 0, none⟩))) rfl (by kernel_rfl) (by kernel_rfl) (by kernel_rfl) (fun _ _ _ h => h) (Or.inl ⟨by rfl, fun w hSw => ?_⟩) h0 ?_
          next => (clear hSw; first | rfl | go_simp)
          simp only [Act.put, List.setIfInBounds_toArray, List.set_cons_zero, List.set_cons_succ, List.getElem_toArray, List.getElem_cons_succ, List.getElem_cons_zero]
          refine wpAnyH_take (i := 2) (v := (.pointer (some ⟨rb, 0, none⟩))) rfl (by kernel_rfl) (by kernel_rfl) (by kernel_rfl) (fun _ _ _ h => h) (Or.inl ⟨by rfl, fun w hSw => ?_⟩) h0 ?_
          next => (clear hSw; first | rfl | go_simp)
          simp only [Act.put, List.setIfInBounds_toArray, List.set_cons_zero, List.set_cons_succ, List.getElem_toArray, List.getElem_cons_succ, List.getElem_cons_zero]
          refine wpAnyH_take (i := 3) (v := (.slice (some ⟨g, 0, none⟩) (n + 1) cap)) rfl (by kernel_rfl) (by kernel_rfl) (by kernel_rfl) (fun _ _ _ h => h) (Or.inl ⟨by rfl, fun w hSw => ?_⟩) h0 ?_
          next => (have hc := hSw.1; go_simp)
          simp only [Act.put, List.setIfInBounds_toArray, List.set_cons_zero, List.set_cons_succ, List.getElem_toArray, List.getElem_cons_succ, List.getElem_cons_zero]
          refine wpAnyH_take (i := 4) (v := (.int .i64 (k : Nat))) rfl (by kernel_rfl) (by kernel_rfl) (by kernel_rfl) (fun _ _ _ h => h) (Or.inl ⟨by rfl, fun w hSw => ?_⟩) h0 ?_
          next => (clear hSw; first | rfl | go_simp)
          simp only [Act.put, List.setIfInBounds_toArray, List.set_cons_zero, List.set_cons_succ, List.getElem_toArray, List.getElem_cons_succ, List.getElem_cons_zero]
          refine wpAnyH_take (i := 5) (v := (.pointer (some ⟨rb, 0, none⟩))) rfl (by kernel_rfl) (by kernel_rfl) (by kernel_rfl) (fun _ _ _ h => h) (Or.inl ⟨by rfl, fun w hSw => ?_⟩) h0 ?_
          next => (clear hSw; first | rfl | go_simp)
          simp only [Act.put, List.setIfInBounds_toArray, List.set_cons_zero, List.set_cons_succ, List.getElem_toArray, List.getElem_cons_succ, List.getElem_cons_zero]
          refine wpAnyH_take (i := 6) (v := (.pointer (some ⟨rb, 0, none⟩))) rfl (by kernel_rfl) (by kernel_rfl) (by kernel_rfl) (fun _ _ _ h => h) (Or.inl ⟨by rfl, fun w hSw => ?_⟩) h0 ?_
          next => (clear hSw; first | rfl | go_simp)
          simp only [Act.put, List.setIfInBounds_toArray, List.set_cons_zero, List.set_cons_succ, List.getElem_toArray, List.getElem_cons_succ, List.getElem_cons_zero]
          refine wpAnyH_take (i := 7) (v := (.pointer (some ⟨rb, 0, none⟩))) rfl (by kernel_rfl) (by kernel_rfl) (by kernel_rfl) (fun _ _ _ h => h) (Or.inl ⟨by rfl, fun w hSw => ?_⟩) h0 ?_
          next => (clear hSw; first | rfl | go_simp)
          simp only [Act.put, List.setIfInBounds_toArray, List.set_cons_zero, List.set_cons_succ, List.getElem_toArray, List.getElem_cons_succ, List.getElem_cons_zero]
          refine wpAnyH_take (i := 8) (v := (.slice (some ⟨g, 0, none⟩) (n + 1) cap)) rfl (by kernel_rfl) (by kernel_rfl) (by kernel_rfl) (fun _ _ _ h => h) (Or.inl ⟨by rfl, fun w hSw => ?_⟩) h0 ?_
          next => (have hc := hSw.1; go_simp)
          simp only [Act.put, List.setIfInBounds_toArray, List.set_cons_zero, List.set_cons_succ, List.getElem_toArray, List.getElem_cons_succ, List.getElem_cons_zero]
          refine wpAnyH_take (i := 9) (v := (.int .i64 (k : Nat))) rfl (by kernel_rfl) (by kernel_rfl) (by kernel_rfl) (fun _ _ _ h => h) (Or.inl ⟨by rfl, fun w hSw => ?_⟩) h0 ?_
          next => (clear hSw; first | rfl | go_simp)
          simp only [Act.put, List.setIfInBounds_toArray, List.set_cons_zero, List.set_cons_succ, List.getElem_toArray, List.getElem_cons_succ, List.getElem_cons_zero]
          refine wpAnyH_take (i := 10) (v := (.int .i64 (t : Nat))) rfl (by kernel_rfl) (by kernel_rfl) (by kernel_rfl) (fun _ _ _ h => h) (Or.inl ⟨by rfl, fun w hSw => ?_⟩) h0 ?_
          next => (clear hSw; go_simp)
          simp only [Act.put, List.setIfInBounds_toArray, List.set_cons_zero, List.set_cons_succ, List.getElem_toArray, List.getElem_cons_succ, List.getElem_cons_zero]
          refine wpAnyH_take (i := 11) (v := (.pointer (some ⟨g, t * 9, none⟩))) rfl (by kernel_rfl) (by kernel_rfl) (by kernel_rfl) (fun _ _ _ h => h) (Or.inl ⟨by rfl, fun w hSw => ?_⟩) h0 ?_
          next => (clear hSw; go_simp)
          simp only [Act.put, List.setIfInBounds_toArray, List.set_cons_zero, List.set_cons_succ, List.getElem_toArray, List.getElem_cons_succ, List.getElem_cons_zero]
          refine wpAnyH_take (i := 12) (v := (.agg (aC z).toArray)) rfl (by kernel_rfl) (by kernel_rfl) (by kernel_rfl) (fun _ _ _ h => h) (yieldsIf_load_mid (by rfl) _ _ rfl _ _ rfl (aC z) _ (fun _ h => h.2) Try.underlying65 rfl info65s) h0 ?_
          simp only [Act.put, List.setIfInBounds_toArray, List.set_cons_zero, List.set_cons_succ, List.getElem_toArray, List.getElem_cons_succ, List.getElem_cons_zero]
          refine wpAnyH_take (i := 13) (v := (.pointer (some ⟨g, k * 9, none⟩))) rfl (by kernel_rfl) (by kernel_rfl) (by kernel_rfl) (fun _ _ _ h => h) (Or.inl ⟨by rfl, fun w hSw => ?_⟩) h0 ?_
          next => (clear hSw; go_simp)
          simp only [Act.put, List.setIfInBounds_toArray, List.set_cons_zero, List.set_cons_succ, List.getElem_toArray, List.getElem_cons_succ, List.getElem_cons_zero]
          refine wpAnyH_ready (rs := [14]) (by kernel_rfl) (by simp) (AllReadyH.cons rfl (fun K hK => ?_) AllReadyH.nil)
          rw [if_pos (by rfl)]
          refine wp_store_mid 65 _ _ rfl g (k * 9) (aC z).toArray rfl rfl HT.out info65s (all_oneCell_toArray (aC_one _)) ?_
          rw [setC_eq]
          refine hK.out _ _ ⟨(cell_set9 HG.out).trans d1, range_set9 HRT.out (.inr (.inl HAP.out))⟩ (fun h1 => ?_)
          have HF2 : Hid (PutL wc g cap n D s t z (set9 wr.drew g (k * 9) z)) := HF.out wr.drew rfl (Kp.drew (Kp.refl _ _) 1)
          clear h0 h1 hK HF HT HG d1 HRT HP
          generalize set9 wr.drew g (k * 9) z = W9 at *
          refine wpAnyH_done (by kernel_rfl) ?_ _
          go_wp2_with fail
          exact ⟨⟨t, z, rfl, by have := HTK.out; omega, HF2.out⟩, by simp only [intOf]; omega⟩
        · have hb' : bytesBefore s z.nm = false := by simpa using hb
          have hb1 := gt_before z.nm s
          rw [hb'] at hb1
          have hg := gtr_run z.nm s
          rw [hb'] at hg
          have HBB : Hid (bytesBefore s z.nm = false) := hb'
          clear hb hb' HRT
          have HF : Hid (∀ wd : World, wd.heap = wr.heap → Kp (· = g) wr wd → PutR w1 rb ⟨s, v, V.nil⟩ q n c g cap k D (set9 wd g (k * 9) ⟨s, v, V.nil⟩)) := fun wd h1 h2 => HP.out.fin hl.out hk HW.out h1 h2 (.inr ⟨z, by have := HZ.out; rwa [show k - 1 = t by have := HTK.out; omega], HBB.out⟩)
          have HT : Hid (wr.there g (k * 9) 9) := ar_there HP.out.own (mid_length D y k (by have := hl.out; omega))
          have HG : Hid (rb ≠ g ∧ w1.heap.size ≠ g) := ⟨fun e => HW.out.h6 e.symm, fun e => HW.out.h7 e.symm⟩
          go_wp2_with fail
          refine wp_region_held_drew (S := fun w' => w'.cell? ⟨rb, 0, none⟩ = some (.slice (some ⟨g, 0, none⟩) (n + 1) cap) ∧ w'.rangeAt w1.heap.size 0 (aC ⟨s, v, V.nil⟩)) (by kernel_rfl) ⟨d1, HX8.out⟩ (fun h0 => ?_)
          refine wpAnyH_take (i := 0) (v := (.pointer (some ⟨rb, 0, none⟩))) rfl (by kernel_rfl) (by kernel_rfl) (by kernel_rfl) (fun _ _ _ h => h) (Or.inl ⟨by rfl, fun w hSw => ?_⟩) h0 ?_
          next => (clear hSw; first | rfl | go_simp)
          simp only [Act.put, List.setIfInBounds_toArray, List.set_cons_zero, List.set_cons_succ, List.getElem_toArray, List.getElem_cons_succ, List.getElem_cons_zero]
          refine wpAnyH_take (i := 1) (v := (.pointer (some ⟨rb, 0, none⟩))) rfl (by kernel_rfl) (by kernel_rfl) (by kernel_rfl) (fun _ _ _ h => h) (Or.inl ⟨by rfl, fun w hSw => ?_⟩) h0 ?_
          next => (clear hSw; first | rfl | go_simp)
          simp only [Act.put, List.setIfInBounds_toArray, List.set_cons_zero, List.set_cons_succ, List.getElem_toArray, List.getElem_cons_succ, List.getElem_cons_zero]
          refine wpAnyH_take (i := 2) (v := (.pointer (some ⟨rb, 0, none⟩))) rfl (by kernel_rfl) (by kernel_rfl) (by kernel_rfl) (fun _ _ _ h => h) (Or.inl ⟨by rfl, fun w hSw => ?_⟩) h0 ?_
          next => (clear hSw; first | rfl | go_simp)
          simp only [Act.put, List.setIfInBounds_toArray, List.set_cons_zero, List.set_cons_succ, List.getElem_toArray, List.getElem_cons_succ, List.getElem_cons_zero]
          refine wpAnyH_take (i := 3) (v := (.slice (some ⟨g, 0, none⟩) (n + 1) cap)) rfl (by kernel_rfl) (by kernel_rfl) (by kernel_rfl) (fun _ _ _ h => h) (Or.inl ⟨by rfl, fun w hSw => ?_⟩) h0 ?_
          next => (have hc := hSw.1; go_simp)
          simp only [Act.put, List.setIfInBounds_toArray, List.set_cons_zero, List.set_cons_succ, List.getElem_toArray, List.getElem_cons_succ, List.getElem_cons_zero]
          refine wpAnyH_take (i := 4) (v := (.int .i64 (k : Nat))) rfl (by kernel_rfl) (by kernel_rfl) (by kernel_rfl) (fun _ _ _ h => h) (Or.inl ⟨by rfl, fun w hSw => ?_⟩) h0 ?_
          next => (clear hSw; first | rfl | go_simp)
          simp only [Act.put, List.setIfInBounds_toArray, List.set_cons_zero, List.set_cons_succ, List.getElem_toArray, List.getElem_cons_succ, List.getElem_cons_zero]
          refine wpAnyH_take (i := 5) (v := (.agg (aC ⟨s, v, V.nil⟩).toArray)) rfl (by kernel_rfl) (by kernel_rfl) (by kernel_rfl) (fun _ _ _ h => h) (yieldsIf_load_mid (by rfl) _ _ rfl _ _ rfl (aC ⟨s, v, V.nil⟩) _ (fun _ h => h.2) Try.underlying65 rfl info65s) h0 ?_
          simp only [Act.put, List.setIfInBounds_toArray, List.set_cons_zero, List.set_cons_succ, List.getElem_toArray, List.getElem_cons_succ, List.getElem_cons_zero]
          refine wpAnyH_take (i := 6) (v := (.pointer (some ⟨g, k * 9, none⟩))) rfl (by kernel_rfl) (by kernel_rfl) (by kernel_rfl) (fun _ _ _ h => h) (Or.inl ⟨by rfl, fun w hSw => ?_⟩) h0 ?_
          next => (clear hSw; go_simp)
          simp only [Act.put, List.setIfInBounds_toArray, List.set_cons_zero, List.set_cons_succ, List.getElem_toArray, List.getElem_cons_succ, List.getElem_cons_zero]
          refine wpAnyH_ready (rs := [7]) (by kernel_rfl) (by simp) (AllReadyH.cons rfl (fun K hK => ?_) AllReadyH.nil)
          rw [if_pos (by rfl)]
          refine wp_store_mid 65 _ _ rfl g (k * 9) (aC ⟨s, v, V.nil⟩).toArray rfl rfl HT.out info65s (all_oneCell_toArray (aC_one _)) ?_
          rw [setC_eq]
          refine hK.out _ _ ⟨(cell_set9 HG.out.1).trans d1, range_set9 HX8.out (.inl HG.out.2)⟩ (fun h1 => ?_)
          have HF2 : Hid (PutR w1 rb ⟨s, v, V.nil⟩ q n c g cap k D (set9 wr.drew g (k * 9) ⟨s, v, V.nil⟩)) := HF.out wr.drew rfl (Kp.drew (Kp.refl _ _) 1)
          clear h0 h1 hK HF HT HG d1 HX8 HP
          generalize set9 wr.drew g (k * 9) ⟨s, v, V.nil⟩ = W9 at *
          refine wpAnyH_done (by kernel_rfl) ?_ _
          go_wp2_with fail
          go_ret
          exact ⟨rfl, w1, g, cap, k, Y1.out, HF2.out⟩
end Go.Proofs.Ytehgcaaeifnjeaa
