/-
  WireEncodes: the law out of the contracts.
-/
import Derived.Test.YtnkkiepoljbhlaaEnl
import Derived.Test.YtnkkiepoljbhlaaAwk
import Derived.Deep.RegionHeld3
import Derived.Deep.MidRow
set_option linter.unusedSimpArgs false
namespace Go.Proofs.Ytnkkiepoljbhlaa
open Go.RowKit

/-- behind both calls of Encode: the record's box, and two rows of bytes that hold the same -/
structure Cx (w W : World) (cs : Array Value) (a b : Option Addr) (l : List UInt8) : Prop where
  bl : Below w.heap.size w W
  x : W.heap[w.heap.size]? = some (.cells cs 32 (0, 0))
  la : Lies W a l
  lb : Lies W b l
theorem Lies.below {W W' : World} {a : Option Addr} {l : List UInt8} (h : Lies W a l) (b : Below W.heap.size W W') : Lies W' a l := Lies.keep b (Nat.le_refl _) h
theorem pl_all (p : PL) : p.cells.all (·.oneCell') = true := by kernel_rfl
theorem Cx.next {w W W' : World} {cs : Array Value} {a b : Option Addr} {l : List UInt8} (h : Cx w W cs a b l) (hb : Below W.heap.size W W') : Cx w W' cs a b l :=
  ⟨h.bl.trans (hb.mono h.bl.size), at_below hb (Nat.le_refl _) h.x, h.la.below hb, h.lb.below hb⟩
theorem Cx.range {w W : World} {cs : Array Value} {a b : Option Addr} {l : List UInt8} (h : Cx w W cs a b l) : W.rangeAt w.heap.size 0 cs.toList := fun j v hv => by
  rw [Nat.zero_add, cell_of_row _ _ j _ 32 (0, 0) h.x]
  simpa using hv
set_option maxHeartbeats 2000000 in
set_option maxRecDepth 100000 in
theorem law_enc0 (p p' : PL) (R : Value) (w : World) (l : List UInt8) (hl : l.length < 1152921504606846976)
    (HM : ∀ W, Calls Try.prog 8 #[.agg p.cells] W fun e w' => e = .returned R ∧ Below W.heap.size W w')
    (HP : ∀ W, Calls Try.prog 9 #[R] W fun e w' => e = .returned (.agg p'.cells) ∧ Below W.heap.size W w')
    (HE : ∀ W, Below w.heap.size w W → Calls Try.prog 10 #[R] W fun e w' => ∃ q k c, e = .returned (.tuple #[.slice q k c, .int .i64 0]) ∧ Own w' W.heap.size (.slice q k c) l ∧ Below W.heap.size W w')
    (HR : ∀ W, Below w.heap.size w W → Calls Try.prog 11 #[.agg p'.cells] W fun e w' => ∃ q k c, e = .returned (.tuple #[.slice q k c, .int .i64 0]) ∧ Own w' W.heap.size (.slice q k c) l ∧ Below W.heap.size W w')
    (HF : ∀ W, Below w.heap.size w W → Calls Try.prog 13 #[R] W fun e w' => e = .returned (.bool true) ∧ Below W.heap.size W w')
    (HG : ∀ W, Below w.heap.size w W → Calls Try.prog 14 #[.agg p'.cells] W fun e w' => e = .returned (.bool true) ∧ Below W.heap.size W w') :
    Calls Try.prog 3 #[.agg p.cells] w fun e w' => e = .returned (.bool true) ∧ Below w.heap.size w w' := by
  obtain ⟨cs, hcs⟩ : ∃ cs : Array Value, p'.cells = cs := ⟨_, rfl⟩
  have JA : Hid (p'.cells.all (·.oneCell') = true) := pl_all p'
  have JI : Hid ((Try.prog.info? 32).map (·.size) = some p'.cells.size) := size32
  have SZ : Hid ((Try.prog.info? 32).map (·.size) = some p.cells.size) := size32
  have JS : Hid (p.cells.size = p'.cells.size) := rfl
  have HSZ : Hid (p'.cells.size = 27) := rfl
  rw [hcs] at HP HR HG JA JI JS HSZ
  have K8 : Hid (∀ W, Calls Try.prog 8 #[.agg p.cells] W fun e w' => e = .returned R ∧ Hid (Below W.heap.size W w')) := HM
  have K9 : Hid (∀ W, Calls Try.prog 9 #[R] W fun e w' => e = .returned (.agg cs) ∧ Hid (Below W.heap.size W w')) := HP
  have K10 : Hid (∀ W, Below w.heap.size w W → Calls Try.prog 10 #[R] W fun e w' => ∃ q k c, e = .returned (.tuple #[.slice q k c, .int .i64 0]) ∧ Hid (Own w' W.heap.size (.slice q k c) l ∧ Below W.heap.size W w')) := HE
  have K11 : Hid (∀ W, Below w.heap.size w W → Calls Try.prog 11 #[.agg cs] W fun e w' => ∃ q k c, e = .returned (.tuple #[.slice q k c, .int .i64 0]) ∧ Hid (Own w' W.heap.size (.slice q k c) l ∧ Below W.heap.size W w')) := HR
  have K13 : Hid (∀ (W : World) (a b : Option Addr), Hid (Cx w W cs a b l) → Calls Try.prog 13 #[R] W fun e w' => e = .returned (.bool true) ∧ Hid (Cx w w' cs a b l)) := fun W a b h => (HF W h.out.bl).mono fun e w' ⟨h1, h2⟩ => ⟨h1, h.out.next h2⟩
  have K14 : Hid (∀ (W : World) (a b : Option Addr), Hid (Cx w W cs a b l) → Calls Try.prog 14 #[.agg cs] W fun e w' => e = .returned (.bool true) ∧ Hid (Cx w w' cs a b l)) := fun W a b h => (HG W h.out.bl).mono fun e w' ⟨h1, h2⟩ => ⟨h1, h.out.next h2⟩
  have K12 : Hid (∀ (W : World) (a b : Option Addr) (c d : Nat), Hid (Cx w W cs a b l) → Calls Try.prog 12 #[.slice a l.length c, .slice b l.length d] W fun e w' => e = .returned (.bool true) ∧ Hid (Cx w w' cs a b l)) := fun W a b c d h => (same_any l l a b c d W hl h.out.la h.out.lb).mono fun e w' ⟨h1, h2⟩ => ⟨by rw [h1]; simp, h.out.next h2⟩
  clear HM HP HE HR HF HG hl hcs
  have P1 : Hid ((w.alloc (.cells p.cells 32)).heap[w.heap.size]? = some (.cells p.cells 32 (0, 0))) := new0
  have y1 : Hid (Below w.heap.size w (w.alloc (.cells p.cells 32))) := (Below.refl _ w).alloc (Nat.le_refl _) _
  go_enter Try.func3, Try.ntmps3
  go_upto_region 1 with fail
  generalize w.alloc (.cells p.cells 32) = W1 at *
  go_upto_region 3 with (go_at_call 7; refine (awake_any _).mono ?_; rintro e w1 ⟨rfl, b1⟩)
  have P2 : Hid _ := at_below b1 (Nat.le_refl _) P1.out
  have y2 : Hid _ := below_from y1.out b1 y1.out.size
  clear b1 P1 y1
  iterate 1 go_step
  refine wpList_load_row rfl 32 _ rfl w.heap.size rfl 32 _ (0, 0) _ P2.out Try.underlying32 rfl SZ.out ?_
  go_upto_region 4 with (go_at_call 8; refine (K8.out _).mono ?_; rintro e w2 ⟨rfl, b2⟩)
  have P3 : Hid _ := at_below b2.out (Nat.le_refl _) P2.out
  have y3 : Hid _ := below_from y2.out b2.out y2.out.size
  clear b2 P2 y2
  go_wp2_with (go_at_call 9; refine (K9.out _).mono ?_)
  rintro e w3 ⟨rfl, b3⟩
  have P4 : Hid _ := at_below b3.out (Nat.le_refl _) P3.out
  have y4 : Hid _ := below_from y3.out b3.out y3.out.size
  clear b3 P3 y3
  dsimp only
  iterate 1 go_step
  refine wpList_store_row rfl 32 _ _ rfl w.heap.size cs rfl rfl 32 _ P4.out JI.out JS.out JA.out ?_
  have P5 : Hid _ := set_row (c' := cs) P4.out
  have y5 : Hid (Below w.heap.size w (w3.setRow w.heap.size cs)) := below_setRow y4.out (Nat.le_refl _)
  generalize w3.setRow w.heap.size cs = W5 at *
  clear P4 y4
  go_upto_region 6 with (go_at_call 10; refine (K10.out _ y5.out).mono ?_; rintro e w6 ⟨qa, na, ca, rfl, o6⟩)
  have P6 : Hid _ := at_below o6.out.2 (Nat.le_refl _) P5.out
  have y6 : Hid _ := below_from y5.out o6.out.2 y5.out.size
  clear P5 y5
  iterate 1 go_step
  refine wpList_load_row rfl 32 _ rfl w.heap.size rfl 32 _ (0, 0) _ P6.out Try.underlying32 rfl JI.out ?_
  go_upto_region 7 with (go_at_call 11; refine (K11.out _ y6.out).mono ?_; rintro e w7 ⟨qb, nb, cb, rfl, o7⟩)
  have eA : l.length = na := (own_parts o6.out.1).2.2
  have eB : l.length = nb := (own_parts o7.out.1).2.2
  subst eA eB
  have X0 : Hid (Cx w w7 cs qa qb l) := ⟨below_from y6.out o7.out.2 y6.out.size, at_below o7.out.2 (Nat.le_refl _) P6.out, (own_parts (o6.out.1.keep o7.out.2)).1, (own_parts o7.out.1).1⟩
  clear P6 y6 o6 o7
  have X1 : Hid (Cx w w7.drew cs qa qb l) := X0.out.next (below_drewN (Below.refl _ w7) 1)
  clear X0
  have hi32 : (Try.prog.info? 32).map (·.size) = some cs.toList.length := by rw [Array.length_toList]; exact JI.out
  refine wp_region_held_drew (S := fun w' => Cx w w' cs qa qb l) (by kernel_rfl) X1.out (fun h0 => ?_)
  refine wpAnyH_take (i := 0) (v := (.int .i64 0)) rfl (by kernel_rfl) (by kernel_rfl) (by kernel_rfl) (fun _ _ _ h => h) (Or.inl ⟨by rfl, fun w hSw => ?_⟩) h0 ?_
  next => (clear hSw; first | rfl | go_simp)
  simp only [Act.put, List.setIfInBounds_toArray, List.set_cons_zero, List.set_cons_succ, List.getElem_toArray, List.getElem_cons_succ, List.getElem_cons_zero]
  refine wpAnyH_take (i := 1) (v := (.int .i64 0)) rfl (by kernel_rfl) (by kernel_rfl) (by kernel_rfl) (fun _ _ _ h => h) (Or.inl ⟨by rfl, fun w hSw => ?_⟩) h0 ?_
  next => (clear hSw; first | rfl | go_simp)
  simp only [Act.put, List.setIfInBounds_toArray, List.set_cons_zero, List.set_cons_succ, List.getElem_toArray, List.getElem_cons_succ, List.getElem_cons_zero]
  refine wpAnyH_take (i := 2) (v := (.bool true)) rfl (by kernel_rfl) (by kernel_rfl) (by kernel_rfl) (fun _ _ _ h => h) (Or.inl ⟨by rfl, fun w hSw => ?_⟩) h0 ?_
  next => (clear hSw; first | rfl | go_simp)
  simp only [Act.put, List.setIfInBounds_toArray, List.set_cons_zero, List.set_cons_succ, List.getElem_toArray, List.getElem_cons_succ, List.getElem_cons_zero]
  refine wpAnyH_take (i := 3) (v := (.bool true)) rfl (by kernel_rfl) (by kernel_rfl) (by kernel_rfl) (fun _ _ _ h => h) (Or.inl ⟨by rfl, fun w hSw => ?_⟩) h0 ?_
  next => (clear hSw; first | rfl | go_simp)
  simp only [Act.put, List.setIfInBounds_toArray, List.set_cons_zero, List.set_cons_succ, List.getElem_toArray, List.getElem_cons_succ, List.getElem_cons_zero]
  refine wpAnyH_take (i := 4) (v := (.slice qa l.length ca)) rfl (by kernel_rfl) (by kernel_rfl) (by kernel_rfl) (fun _ _ _ h => h) (Or.inl ⟨by rfl, fun w hSw => ?_⟩) h0 ?_
  next => (clear hSw; first | rfl | go_simp)
  simp only [Act.put, List.setIfInBounds_toArray, List.set_cons_zero, List.set_cons_succ, List.getElem_toArray, List.getElem_cons_succ, List.getElem_cons_zero]
  refine wpAnyH_take (i := 5) (v := (.slice qb l.length cb)) rfl (by kernel_rfl) (by kernel_rfl) (by kernel_rfl) (fun _ _ _ h => h) (Or.inl ⟨by rfl, fun w hSw => ?_⟩) h0 ?_
  next => (clear hSw; first | rfl | go_simp)
  simp only [Act.put, List.setIfInBounds_toArray, List.set_cons_zero, List.set_cons_succ, List.getElem_toArray, List.getElem_cons_succ, List.getElem_cons_zero]
  refine wpAnyH_ready (rs := [6]) (by kernel_rfl) (by simp) (AllReadyH.cons rfl (fun K hK => ?_) AllReadyH.nil)
  go_simp
  go_at_call 12
  refine (K12.out _ _ _ _ _ X1).mono ?_
  rintro e w8 ⟨rfl, X2⟩
  go_wp2_with fail
  refine hK.out _ _ X2.out (fun h1 => ?_)
  clear hK K
  try simp only [Act.put, List.setIfInBounds_toArray, List.set_cons_zero, List.set_cons_succ, List.getElem_toArray, List.getElem_cons_succ, List.getElem_cons_zero]
  refine wpAnyH_take (i := 7) (v := (.bool true)) rfl (by kernel_rfl) (by kernel_rfl) (by kernel_rfl) (fun _ _ _ h => h) (Or.inl ⟨by rfl, fun w hSw => ?_⟩) h1 ?_
  next => (clear hSw; first | rfl | go_simp)
  simp only [Act.put, List.setIfInBounds_toArray, List.set_cons_zero, List.set_cons_succ, List.getElem_toArray, List.getElem_cons_succ, List.getElem_cons_zero]
  refine wpAnyH_take (i := 8) (v := (.bool true)) rfl (by kernel_rfl) (by kernel_rfl) (by kernel_rfl) (fun _ _ _ h => h) (Or.inl ⟨by rfl, fun w hSw => ?_⟩) h1 ?_
  next => (clear hSw; first | rfl | go_simp)
  simp only [Act.put, List.setIfInBounds_toArray, List.set_cons_zero, List.set_cons_succ, List.getElem_toArray, List.getElem_cons_succ, List.getElem_cons_zero]
  refine wpAnyH_take (i := 9) (v := R) rfl (by kernel_rfl) (by kernel_rfl) (by kernel_rfl) (fun _ _ _ h => h) (Or.inl ⟨by rfl, fun w hSw => ?_⟩) h1 ?_
  next => (clear hSw; first | rfl | go_simp)
  simp only [Act.put, List.setIfInBounds_toArray, List.set_cons_zero, List.set_cons_succ, List.getElem_toArray, List.getElem_cons_succ, List.getElem_cons_zero]
  refine wpAnyH_take (i := 11) (v := .agg cs) rfl (by kernel_rfl) (by kernel_rfl) (by kernel_rfl) (fun _ _ _ h => h) (yieldsIf_load_mid (by rfl) _ _ rfl _ _ rfl cs.toList _ (fun _ h => Cx.range h) Try.underlying32 rfl hi32) h1 ?_
  simp only [Act.put, List.setIfInBounds_toArray, List.set_cons_zero, List.set_cons_succ, List.getElem_toArray, List.getElem_cons_succ, List.getElem_cons_zero]
  refine wpAnyH_ready (rs := [10]) (by kernel_rfl) (by simp) (AllReadyH.cons rfl (fun K hK => ?_) AllReadyH.nil)
  go_simp
  go_at_call 13
  refine (K13.out _ _ _ X2).mono ?_
  rintro e w9 ⟨rfl, X3⟩
  go_wp2_with fail
  refine hK.out _ _ X3.out (fun h2 => ?_)
  clear hK K
  try simp only [Act.put, List.setIfInBounds_toArray, List.set_cons_zero, List.set_cons_succ, List.getElem_toArray, List.getElem_cons_succ, List.getElem_cons_zero]
  refine wpAnyH_ready (rs := [12]) (by kernel_rfl) (by simp) (AllReadyH.cons rfl (fun K hK => ?_) AllReadyH.nil)
  go_simp
  go_at_call 14
  refine (K14.out _ _ _ X3).mono ?_
  rintro e w10 ⟨rfl, X4⟩
  go_wp2_with fail
  refine hK.out _ _ X4.out (fun h3 => ?_)
  clear hK K
  try simp only [Act.put, List.setIfInBounds_toArray, List.set_cons_zero, List.set_cons_succ, List.getElem_toArray, List.getElem_cons_succ, List.getElem_cons_zero]
  refine wpAnyH_take (i := 13) (v := (.bool true)) rfl (by kernel_rfl) (by kernel_rfl) (by kernel_rfl) (fun _ _ _ h => h) (Or.inl ⟨by rfl, fun w hSw => ?_⟩) h3 ?_
  next => (clear hSw; first | rfl | go_simp)
  simp only [Act.put, List.setIfInBounds_toArray, List.set_cons_zero, List.set_cons_succ, List.getElem_toArray, List.getElem_cons_succ, List.getElem_cons_zero]
  refine wpAnyH_take (i := 14) (v := (.bool true)) rfl (by kernel_rfl) (by kernel_rfl) (by kernel_rfl) (fun _ _ _ h => h) (Or.inl ⟨by rfl, fun w hSw => ?_⟩) h3 ?_
  next => (clear hSw; first | rfl | go_simp)
  simp only [Act.put, List.setIfInBounds_toArray, List.set_cons_zero, List.set_cons_succ, List.getElem_toArray, List.getElem_cons_succ, List.getElem_cons_zero]
  refine wpAnyH_take (i := 15) (v := (.bool true)) rfl (by kernel_rfl) (by kernel_rfl) (by kernel_rfl) (fun _ _ _ h => h) (Or.inl ⟨by rfl, fun w hSw => ?_⟩) h3 ?_
  next => (clear hSw; first | rfl | go_simp)
  simp only [Act.put, List.setIfInBounds_toArray, List.set_cons_zero, List.set_cons_succ, List.getElem_toArray, List.getElem_cons_succ, List.getElem_cons_zero]
  refine wpAnyH_done (by kernel_rfl) ?_ _
  go_wp2_with fail
  go_ret
  exact ⟨rfl, X4.out.bl⟩
set_option maxHeartbeats 2000000 in
set_option maxRecDepth 100000 in
theorem law_enc4 (p p' : PL) (R : Value) (w : World) (l : List UInt8) (hl : l.length < 1152921504606846976)
    (HM : ∀ W, Calls Try.prog 8 #[.agg p.cells] W fun e w' => e = .returned R ∧ Below W.heap.size W w')
    (HP : ∀ W, Calls Try.prog 9 #[R] W fun e w' => e = .returned (.agg p'.cells) ∧ Below W.heap.size W w')
    (HE : ∀ W, Below w.heap.size w W → Calls Try.prog 10 #[R] W fun e w' => ∃ q k c, e = .returned (.tuple #[.slice q k c, .int .i64 4]) ∧ Own w' W.heap.size (.slice q k c) l ∧ Below W.heap.size W w')
    (HR : ∀ W, Below w.heap.size w W → Calls Try.prog 11 #[.agg p'.cells] W fun e w' => ∃ q k c, e = .returned (.tuple #[.slice q k c, .int .i64 4]) ∧ Own w' W.heap.size (.slice q k c) l ∧ Below W.heap.size W w')
    (HF : ∀ W, Below w.heap.size w W → Calls Try.prog 13 #[R] W fun e w' => e = .returned (.bool false) ∧ Below W.heap.size W w')
    (HG : ∀ W, Below w.heap.size w W → Calls Try.prog 14 #[.agg p'.cells] W fun e w' => e = .returned (.bool false) ∧ Below W.heap.size W w') :
    Calls Try.prog 3 #[.agg p.cells] w fun e w' => e = .returned (.bool true) ∧ Below w.heap.size w w' := by
  obtain ⟨cs, hcs⟩ : ∃ cs : Array Value, p'.cells = cs := ⟨_, rfl⟩
  have JA : Hid (p'.cells.all (·.oneCell') = true) := pl_all p'
  have JI : Hid ((Try.prog.info? 32).map (·.size) = some p'.cells.size) := size32
  have SZ : Hid ((Try.prog.info? 32).map (·.size) = some p.cells.size) := size32
  have JS : Hid (p.cells.size = p'.cells.size) := rfl
  have HSZ : Hid (p'.cells.size = 27) := rfl
  rw [hcs] at HP HR HG JA JI JS HSZ
  have K8 : Hid (∀ W, Calls Try.prog 8 #[.agg p.cells] W fun e w' => e = .returned R ∧ Hid (Below W.heap.size W w')) := HM
  have K9 : Hid (∀ W, Calls Try.prog 9 #[R] W fun e w' => e = .returned (.agg cs) ∧ Hid (Below W.heap.size W w')) := HP
  have K10 : Hid (∀ W, Below w.heap.size w W → Calls Try.prog 10 #[R] W fun e w' => ∃ q k c, e = .returned (.tuple #[.slice q k c, .int .i64 4]) ∧ Hid (Own w' W.heap.size (.slice q k c) l ∧ Below W.heap.size W w')) := HE
  have K11 : Hid (∀ W, Below w.heap.size w W → Calls Try.prog 11 #[.agg cs] W fun e w' => ∃ q k c, e = .returned (.tuple #[.slice q k c, .int .i64 4]) ∧ Hid (Own w' W.heap.size (.slice q k c) l ∧ Below W.heap.size W w')) := HR
  have K13 : Hid (∀ (W : World) (a b : Option Addr), Hid (Cx w W cs a b l) → Calls Try.prog 13 #[R] W fun e w' => e = .returned (.bool false) ∧ Hid (Cx w w' cs a b l)) := fun W a b h => (HF W h.out.bl).mono fun e w' ⟨h1, h2⟩ => ⟨h1, h.out.next h2⟩
  have K14 : Hid (∀ (W : World) (a b : Option Addr), Hid (Cx w W cs a b l) → Calls Try.prog 14 #[.agg cs] W fun e w' => e = .returned (.bool false) ∧ Hid (Cx w w' cs a b l)) := fun W a b h => (HG W h.out.bl).mono fun e w' ⟨h1, h2⟩ => ⟨h1, h.out.next h2⟩
  have K12 : Hid (∀ (W : World) (a b : Option Addr) (c d : Nat), Hid (Cx w W cs a b l) → Calls Try.prog 12 #[.slice a l.length c, .slice b l.length d] W fun e w' => e = .returned (.bool true) ∧ Hid (Cx w w' cs a b l)) := fun W a b c d h => (same_any l l a b c d W hl h.out.la h.out.lb).mono fun e w' ⟨h1, h2⟩ => ⟨by rw [h1]; simp, h.out.next h2⟩
  clear HM HP HE HR HF HG hl hcs
  have P1 : Hid ((w.alloc (.cells p.cells 32)).heap[w.heap.size]? = some (.cells p.cells 32 (0, 0))) := new0
  have y1 : Hid (Below w.heap.size w (w.alloc (.cells p.cells 32))) := (Below.refl _ w).alloc (Nat.le_refl _) _
  go_enter Try.func3, Try.ntmps3
  go_upto_region 1 with fail
  generalize w.alloc (.cells p.cells 32) = W1 at *
  go_upto_region 3 with (go_at_call 7; refine (awake_any _).mono ?_; rintro e w1 ⟨rfl, b1⟩)
  have P2 : Hid _ := at_below b1 (Nat.le_refl _) P1.out
  have y2 : Hid _ := below_from y1.out b1 y1.out.size
  clear b1 P1 y1
  iterate 1 go_step
  refine wpList_load_row rfl 32 _ rfl w.heap.size rfl 32 _ (0, 0) _ P2.out Try.underlying32 rfl SZ.out ?_
  go_upto_region 4 with (go_at_call 8; refine (K8.out _).mono ?_; rintro e w2 ⟨rfl, b2⟩)
  have P3 : Hid _ := at_below b2.out (Nat.le_refl _) P2.out
  have y3 : Hid _ := below_from y2.out b2.out y2.out.size
  clear b2 P2 y2
  go_wp2_with (go_at_call 9; refine (K9.out _).mono ?_)
  rintro e w3 ⟨rfl, b3⟩
  have P4 : Hid _ := at_below b3.out (Nat.le_refl _) P3.out
  have y4 : Hid _ := below_from y3.out b3.out y3.out.size
  clear b3 P3 y3
  dsimp only
  iterate 1 go_step
  refine wpList_store_row rfl 32 _ _ rfl w.heap.size cs rfl rfl 32 _ P4.out JI.out JS.out JA.out ?_
  have P5 : Hid _ := set_row (c' := cs) P4.out
  have y5 : Hid (Below w.heap.size w (w3.setRow w.heap.size cs)) := below_setRow y4.out (Nat.le_refl _)
  generalize w3.setRow w.heap.size cs = W5 at *
  clear P4 y4
  go_upto_region 6 with (go_at_call 10; refine (K10.out _ y5.out).mono ?_; rintro e w6 ⟨qa, na, ca, rfl, o6⟩)
  have P6 : Hid _ := at_below o6.out.2 (Nat.le_refl _) P5.out
  have y6 : Hid _ := below_from y5.out o6.out.2 y5.out.size
  clear P5 y5
  iterate 1 go_step
  refine wpList_load_row rfl 32 _ rfl w.heap.size rfl 32 _ (0, 0) _ P6.out Try.underlying32 rfl JI.out ?_
  go_upto_region 7 with (go_at_call 11; refine (K11.out _ y6.out).mono ?_; rintro e w7 ⟨qb, nb, cb, rfl, o7⟩)
  have eA : l.length = na := (own_parts o6.out.1).2.2
  have eB : l.length = nb := (own_parts o7.out.1).2.2
  subst eA eB
  have X0 : Hid (Cx w w7 cs qa qb l) := ⟨below_from y6.out o7.out.2 y6.out.size, at_below o7.out.2 (Nat.le_refl _) P6.out, (own_parts (o6.out.1.keep o7.out.2)).1, (own_parts o7.out.1).1⟩
  clear P6 y6 o6 o7
  have X1 : Hid (Cx w w7.drew cs qa qb l) := X0.out.next (below_drewN (Below.refl _ w7) 1)
  clear X0
  have hi32 : (Try.prog.info? 32).map (·.size) = some cs.toList.length := by rw [Array.length_toList]; exact JI.out
  refine wp_region_held_drew (S := fun w' => Cx w w' cs qa qb l) (by kernel_rfl) X1.out (fun h0 => ?_)
  refine wpAnyH_take (i := 0) (v := (.int .i64 4)) rfl (by kernel_rfl) (by kernel_rfl) (by kernel_rfl) (fun _ _ _ h => h) (Or.inl ⟨by rfl, fun w hSw => ?_⟩) h0 ?_
  next => (clear hSw; first | rfl | go_simp)
  simp only [Act.put, List.setIfInBounds_toArray, List.set_cons_zero, List.set_cons_succ, List.getElem_toArray, List.getElem_cons_succ, List.getElem_cons_zero]
  refine wpAnyH_take (i := 1) (v := (.int .i64 4)) rfl (by kernel_rfl) (by kernel_rfl) (by kernel_rfl) (fun _ _ _ h => h) (Or.inl ⟨by rfl, fun w hSw => ?_⟩) h0 ?_
  next => (clear hSw; first | rfl | go_simp)
  simp only [Act.put, List.setIfInBounds_toArray, List.set_cons_zero, List.set_cons_succ, List.getElem_toArray, List.getElem_cons_succ, List.getElem_cons_zero]
  refine wpAnyH_take (i := 2) (v := (.bool true)) rfl (by kernel_rfl) (by kernel_rfl) (by kernel_rfl) (fun _ _ _ h => h) (Or.inl ⟨by rfl, fun w hSw => ?_⟩) h0 ?_
  next => (clear hSw; first | rfl | go_simp)
  simp only [Act.put, List.setIfInBounds_toArray, List.set_cons_zero, List.set_cons_succ, List.getElem_toArray, List.getElem_cons_succ, List.getElem_cons_zero]
  refine wpAnyH_take (i := 3) (v := (.bool true)) rfl (by kernel_rfl) (by kernel_rfl) (by kernel_rfl) (fun _ _ _ h => h) (Or.inl ⟨by rfl, fun w hSw => ?_⟩) h0 ?_
  next => (clear hSw; first | rfl | go_simp)
  simp only [Act.put, List.setIfInBounds_toArray, List.set_cons_zero, List.set_cons_succ, List.getElem_toArray, List.getElem_cons_succ, List.getElem_cons_zero]
  refine wpAnyH_take (i := 4) (v := (.slice qa l.length ca)) rfl (by kernel_rfl) (by kernel_rfl) (by kernel_rfl) (fun _ _ _ h => h) (Or.inl ⟨by rfl, fun w hSw => ?_⟩) h0 ?_
  next => (clear hSw; first | rfl | go_simp)
  simp only [Act.put, List.setIfInBounds_toArray, List.set_cons_zero, List.set_cons_succ, List.getElem_toArray, List.getElem_cons_succ, List.getElem_cons_zero]
  refine wpAnyH_take (i := 5) (v := (.slice qb l.length cb)) rfl (by kernel_rfl) (by kernel_rfl) (by kernel_rfl) (fun _ _ _ h => h) (Or.inl ⟨by rfl, fun w hSw => ?_⟩) h0 ?_
  next => (clear hSw; first | rfl | go_simp)
  simp only [Act.put, List.setIfInBounds_toArray, List.set_cons_zero, List.set_cons_succ, List.getElem_toArray, List.getElem_cons_succ, List.getElem_cons_zero]
  refine wpAnyH_ready (rs := [6]) (by kernel_rfl) (by simp) (AllReadyH.cons rfl (fun K hK => ?_) AllReadyH.nil)
  go_simp
  go_at_call 12
  refine (K12.out _ _ _ _ _ X1).mono ?_
  rintro e w8 ⟨rfl, X2⟩
  go_wp2_with fail
  refine hK.out _ _ X2.out (fun h1 => ?_)
  clear hK K
  try simp only [Act.put, List.setIfInBounds_toArray, List.set_cons_zero, List.set_cons_succ, List.getElem_toArray, List.getElem_cons_succ, List.getElem_cons_zero]
  refine wpAnyH_take (i := 7) (v := (.bool true)) rfl (by kernel_rfl) (by kernel_rfl) (by kernel_rfl) (fun _ _ _ h => h) (Or.inl ⟨by rfl, fun w hSw => ?_⟩) h1 ?_
  next => (clear hSw; first | rfl | go_simp)
  simp only [Act.put, List.setIfInBounds_toArray, List.set_cons_zero, List.set_cons_succ, List.getElem_toArray, List.getElem_cons_succ, List.getElem_cons_zero]
  refine wpAnyH_take (i := 8) (v := (.bool true)) rfl (by kernel_rfl) (by kernel_rfl) (by kernel_rfl) (fun _ _ _ h => h) (Or.inl ⟨by rfl, fun w hSw => ?_⟩) h1 ?_
  next => (clear hSw; first | rfl | go_simp)
  simp only [Act.put, List.setIfInBounds_toArray, List.set_cons_zero, List.set_cons_succ, List.getElem_toArray, List.getElem_cons_succ, List.getElem_cons_zero]
  refine wpAnyH_take (i := 9) (v := R) rfl (by kernel_rfl) (by kernel_rfl) (by kernel_rfl) (fun _ _ _ h => h) (Or.inl ⟨by rfl, fun w hSw => ?_⟩) h1 ?_
  next => (clear hSw; first | rfl | go_simp)
  simp only [Act.put, List.setIfInBounds_toArray, List.set_cons_zero, List.set_cons_succ, List.getElem_toArray, List.getElem_cons_succ, List.getElem_cons_zero]
  refine wpAnyH_take (i := 11) (v := .agg cs) rfl (by kernel_rfl) (by kernel_rfl) (by kernel_rfl) (fun _ _ _ h => h) (yieldsIf_load_mid (by rfl) _ _ rfl _ _ rfl cs.toList _ (fun _ h => Cx.range h) Try.underlying32 rfl hi32) h1 ?_
  simp only [Act.put, List.setIfInBounds_toArray, List.set_cons_zero, List.set_cons_succ, List.getElem_toArray, List.getElem_cons_succ, List.getElem_cons_zero]
  refine wpAnyH_ready (rs := [10]) (by kernel_rfl) (by simp) (AllReadyH.cons rfl (fun K hK => ?_) AllReadyH.nil)
  go_simp
  go_at_call 13
  refine (K13.out _ _ _ X2).mono ?_
  rintro e w9 ⟨rfl, X3⟩
  go_wp2_with fail
  refine hK.out _ _ X3.out (fun h2 => ?_)
  clear hK K
  try simp only [Act.put, List.setIfInBounds_toArray, List.set_cons_zero, List.set_cons_succ, List.getElem_toArray, List.getElem_cons_succ, List.getElem_cons_zero]
  refine wpAnyH_ready (rs := [12]) (by kernel_rfl) (by simp) (AllReadyH.cons rfl (fun K hK => ?_) AllReadyH.nil)
  go_simp
  go_at_call 14
  refine (K14.out _ _ _ X3).mono ?_
  rintro e w10 ⟨rfl, X4⟩
  go_wp2_with fail
  refine hK.out _ _ X4.out (fun h3 => ?_)
  clear hK K
  try simp only [Act.put, List.setIfInBounds_toArray, List.set_cons_zero, List.set_cons_succ, List.getElem_toArray, List.getElem_cons_succ, List.getElem_cons_zero]
  refine wpAnyH_take (i := 13) (v := (.bool true)) rfl (by kernel_rfl) (by kernel_rfl) (by kernel_rfl) (fun _ _ _ h => h) (Or.inl ⟨by rfl, fun w hSw => ?_⟩) h3 ?_
  next => (clear hSw; first | rfl | go_simp)
  simp only [Act.put, List.setIfInBounds_toArray, List.set_cons_zero, List.set_cons_succ, List.getElem_toArray, List.getElem_cons_succ, List.getElem_cons_zero]
  refine wpAnyH_take (i := 14) (v := (.bool true)) rfl (by kernel_rfl) (by kernel_rfl) (by kernel_rfl) (fun _ _ _ h => h) (Or.inl ⟨by rfl, fun w hSw => ?_⟩) h3 ?_
  next => (clear hSw; first | rfl | go_simp)
  simp only [Act.put, List.setIfInBounds_toArray, List.set_cons_zero, List.set_cons_succ, List.getElem_toArray, List.getElem_cons_succ, List.getElem_cons_zero]
  refine wpAnyH_take (i := 15) (v := (.bool true)) rfl (by kernel_rfl) (by kernel_rfl) (by kernel_rfl) (fun _ _ _ h => h) (Or.inl ⟨by rfl, fun w hSw => ?_⟩) h3 ?_
  next => (clear hSw; first | rfl | go_simp)
  simp only [Act.put, List.setIfInBounds_toArray, List.set_cons_zero, List.set_cons_succ, List.getElem_toArray, List.getElem_cons_succ, List.getElem_cons_zero]
  refine wpAnyH_done (by kernel_rfl) ?_ _
  go_wp2_with fail
  go_ret
  exact ⟨rfl, X4.out.bl⟩
end Go.Proofs.Ytnkkiepoljbhlaa
