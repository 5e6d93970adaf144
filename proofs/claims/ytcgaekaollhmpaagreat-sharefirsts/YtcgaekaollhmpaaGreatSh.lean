/-
  Order.
-/
import Derived.Test.YtcgaekaollhmpaaGreatSg
namespace Go.Proofs.YtcgaekaollhmpaaGreat
open Go.RowKit Go.Maps

/-- a name's cell -/
def sC (s : List UInt8) : List Value := [.string ⟨⟨s⟩⟩]
theorem sC_len (s : List UInt8) : (sC s).length = 1 := rfl
theorem sC_one (s : List UInt8) : ∀ u ∈ sC s, u.oneCell' = true := by
  intro u hu
  rw [List.mem_singleton.1 hu]
  rfl
abbrev SR (b : Nat) (w : World) (v : Value) (L : List (List UInt8)) : Prop := GRow 9 1 sC b w v L
theorem info9 : (Tryz.prog.info? 9).map (fun i => (i.zero, i.size, i.bytes)) = some (some (.string ⟨#[]⟩), 1, 16) := by kernel_rfl
set_option maxHeartbeats 400000 in
theorem clone_any (s : List UInt8) (w : World) (hs : s.length ≤ 281474976710656) : Calls Tryz.prog 13 #[.string ⟨⟨s⟩⟩] w fun e w' => e = .returned (.string ⟨⟨s⟩⟩) ∧ Below w.heap.size w w' := by
  go_enter Tryz.func13, Tryz.ntmps13
  go_wp2_with (go_at_call 28; refine (Tryz.stringslite_Clone ⟨⟨s⟩⟩ w hs).mono ?_; rintro e w1 ⟨rfl, b1⟩)
  go_ret
  exact ⟨rfl, b1⟩
theorem make26 (w : World) (n : Nat) (hn : n ≤ 1000000) : ∃ w', (Instr.makeSlice 24 (.int .i64 0) (.int .i64 (n : Int))).run Tryz.prog w = .ok (.slice (some ⟨w.heap.size, 0, none⟩) 0 n) w' ∧ SR w.heap.size w' (.slice (some ⟨w.heap.size, 0, none⟩) 0 n) [] ∧ Below w.heap.size w w' := by
  obtain ⟨i0, hi, hz0, hz1, hz2⟩ := info_parts info9
  obtain ⟨w', h1, h2, h3⟩ := run_make_own (P := Tryz.prog) w w.heap.size 24 9 i0 _ 1 Tryz.underlying24 hi hz0 hz1 .i64 .i64 n (by rw [hz2]; omega) (by unfold maxLen; omega) (Nat.le_refl _)
  exact ⟨w', h1, h2, below_grown h3 (Nat.le_refl _) (fun g e => by cases e)⟩
/-- a name put behind an owned row: only that row's block changes -/
theorem append_s {ops : Array Oper} {rest : List Oper} {o : Oper} {a : Act} {Q : Exit → Act → World → Prop} {w : World} {B : Nat} (hgd : o.guard = none) (s x : Operand)
    (ho : o.op = .call { callee := .builtin .append, args := #[s, x], argTypes := #[24, 24] }) (gN i cc : Nat) (l : List (List UInt8)) (nm : List UInt8) (hs : a.eval s = .slice (some ⟨gN, 0, none⟩) i cc) (hown : SR B w (.slice (some ⟨gN, 0, none⟩) i cc) l)
    (g c : Nat) (hx : a.eval x = .slice (some ⟨g, 0, none⟩) 1 c) (hm : w.cell? ⟨g, 0, none⟩ = some (.string ⟨⟨nm⟩⟩)) (hb : i ≤ 1000000) (hB : B ≤ w.heap.size)
    (h : ∀ gN' c' w', SR B w' (.slice (some ⟨gN', 0, none⟩) (i + 1) c') (l ++ [nm]) → Kp (· = gN) w w' → (gN' = gN ∨ gN' = w.heap.size) → wpList Tryz.prog ops Q rest (a.put o.dst (.slice (some ⟨gN', 0, none⟩) (i + 1) c')) w') :
    wpList Tryz.prog ops Q (o :: rest) a w := by
  obtain ⟨i0, hi, hz0, hz1, hz2⟩ := info_parts info9
  have hil := hown.len
  have hown' : w.ownsRow B 9 1 (.slice (some ⟨gN, 0, none⟩) i cc) i (l.flatMap sC) := by have := hown; unfold SR GRow at this; rw [← hil] at this; exact this
  refine wpList_append_own_at _ hgd s x 24 ho B 9 i0 (.string ⟨#[]⟩) 1 16 Tryz.underlying24 hi hz0 hz1 hz2 rfl (by decide) _ i (l.flatMap sC) hs hown' ⟨g, 0, none⟩ 1 c [.string ⟨⟨nm⟩⟩] hx rfl
    (fun j u hu => ?_) (by intro u hu; simp only [List.mem_singleton] at hu; subst hu; rfl) (by unfold maxLen; omega) (by omega) hB (fun v' w' h1 h2 _ h4 => ?_)
  · cases j with
    | zero => simp at hu; subst hu; exact hm
    | succ j => simp at hu
  · have hg : SR B w' v' (l ++ [nm]) := by
      unfold SR GRow
      rw [List.length_append, ← hil, List.flatMap_append]
      exact h1
    rcases hg.2 with ⟨_, q⟩ | ⟨gN', cap, cur, e1, _⟩
    · simp at q
    · rw [List.length_append, ← hil] at e1
      subst e1
      refine h gN' cap w' hg (Kp.of_grown h2 fun k e => (Option.some.inj e).symm) ?_
      rcases h4 with e | e
      · exact .inl (Option.some.inj e)
      · exact .inr (Option.some.inj e)
theorem Lw.kp2 {w wr w' : World} {hb g n : Nat} {C : Ct} {T T1 T2 : Nat → Prop} (h : Lw w wr hb C g n T1) (k : Kp T wr w') (hs : ∀ j, T j → T1 j) (hT : ∀ j, T j → w.heap.size ≤ j) (h2 : ∀ j, T2 j → T1 j ∨ (wr.heap.size ≤ j ∧ j < w'.heap.size)) : Lw w w' hb C g n T2 := by
  obtain ⟨S, tg, h⟩ := h
  have hm := h.h.h.m
  have hkk : ∀ j, tg j ≠ .no → w'.heap[j]? = wr.heap[j]? := fun j hj => k.block j (hm.lt j hj) fun q => hj (h.u j (hs j q)).2
  refine ⟨S, tg, ⟨⟨⟨hm.hp.at (hkk hb (by rw [hm.tp]; exact nofun)), fun b hb' => (hm.nd b hb').at (hkk b (by rw [hm.tn b hb']; exact nofun)), fun F hF => (hm.fm F hF).keep fun g' hg' => hkk g' (by rw [hm.tf F hF g' hg']; exact nofun), hm.tp, hm.tn, hm.tf, fun j hj => Nat.lt_of_lt_of_le (hm.lt j hj) k.size⟩, ?_, h.h.h.i, h.h.h.l⟩, h.h.c, h.h.g, h.h.n⟩, h.t, fun j hj => ?_, h.b.trans (k.below h.b.size fun j hj q => by have := hT j q; omega)⟩
  · have hp := h.h.h.p
    unfold Mp at *
    cases hmb : S.mb with
    | none => rw [hmb] at hp; exact hp
    | some mp =>
      rw [hmb] at hp
      obtain ⟨M, hM⟩ := hp
      exact ⟨M, hM.t, keepMap hM.o (hkk mp (by rw [hM.t]; exact nofun)), hM.n, hM.a⟩
  · rcases h2 j hj with q | ⟨q1, q2⟩
    · exact ⟨Nat.lt_of_lt_of_le (h.u j q).1 k.size, (h.u j q).2⟩
    · refine ⟨q2, ?_⟩
      by_cases q : tg j = .no
      · exact q
      · have := hm.lt _ q; omega
theorem Lin.kp2 {w wr w' : World} {lb n : Nat} {C : Ct} {T T' : Nat → Prop} (h : Lin w wr lb C n T) (k : Kp T wr w') (hT : ∀ j, T j → w.heap.size ≤ j) (h2 : ∀ j, T' j → T j ∨ (wr.heap.size ≤ j ∧ j < w'.heap.size)) : Lin w w' lb C n T' := by
  rcases h with ⟨h1, h3, h⟩ | ⟨g, hb, hr, cap, T1, h⟩
  · have hl := (Array.getElem?_eq_some_iff.1 h.a).1
    refine .inl ⟨h1, h3, h.b.trans (k.below h.b.size fun j hj q => by have := hT j q; omega), fun j hj => ?_, ⟨fun q => ?_, h.l.2⟩, (k.block lb hl h.l.1).trans h.a⟩
    · rcases h2 j hj with q | q
      · exact Nat.lt_of_lt_of_le (h.t j q) k.size
      · exact q.2
    · rcases h2 lb q with q | q
      · exact h.l.1 q
      · omega
  · have hl := (Array.getElem?_eq_some_iff.1 h.a).1
    have hr' : hr < wr.heap.size := block_lt_of_cell h.c
    refine .inr ⟨g, hb, hr, cap, fun j => T1 j ∨ T' j, h.h.kp2 k h.s hT (fun j hj => ?_), fun j hj => .inr hj, ⟨.inl h.l.1, fun q => ?_, h.l.2.2⟩, ⟨.inl h.r.1, fun q => ?_, h.r.2.2⟩, (k.block lb hl h.l.2.1).trans h.a, cell_kp k h.c h.r.2.1⟩
    · rcases hj with q | q
      · exact .inl q
      · exact (h2 j q).imp (h.s j) id
    · rcases h2 lb q with q | q
      · exact h.l.2.1 q
      · omega
    · rcases h2 hr q with q | q
      · exact h.r.2.1 q
      · omega
/-- while names are given out -/
structure Od (w wr : World) (S : List Tn) (gS gN lb i cc : Nat) (P : List Nat) : Prop where
  r : SR w.heap.size wr (.slice (some ⟨gN, 0, none⟩) i cc) (P.map fun x => (tA S x).nm)
  n : P.length = i
  p : IxP S P
  l : Lin w wr lb (dC S P) (S.length - i) (fun j => j = gS ∨ j = gN)
  s : Tr wr gS S
  g : w.heap.size ≤ gS ∧ w.heap.size ≤ gN ∧ gS ≠ gN
def OrdP (w : World) (all : Vs.V) (L : List U) (e : Ending) (w' : World) : Prop :=
  ∃ p m c' err R, e = .returned (.tuple #[.slice p m c', .int .i64 (err : Nat)]) ∧ m ≤ 1000 ∧ Hid (OrdR all L err R ∧ SR w.heap.size w' (.slice p m c') (R.map Tn.nm) ∧ Below w.heap.size w w')
set_option maxHeartbeats 4000000 in
set_option maxRecDepth 100000 in
theorem order_any (all : Vs.V) (q : Option Addr) (n c : Nat) (L : List U) (w : World) (hn : n = L.length) (hr : UArg w q L) (hm : n ≤ 1000) :
    Calls Tryz.prog 8 #[.agg #[.int .i64 all.a, .int .i64 all.b, .int .i64 all.c, .int .i64 all.d], .slice q n c] w (OrdP w all L) := by
  have B0 : Hid (Below w.heap.size w (w.alloc (.cells #[.int .i64 all.a, .int .i64 all.b, .int .i64 all.c, .int .i64 all.d] 23))) := (Below.refl _ w).alloc (Nat.le_refl _) _
  obtain ⟨a0, a1, a2, a3⟩ := c4b (new0 (w := w) (o := .cells #[.int .i64 all.a, .int .i64 all.b, .int .i64 all.c, .int .i64 all.d] 23))
  have H15 := weighed_any all q n c L _ hn (hr.below B0.out) hm
  have HN : Hid (∀ u ∈ L, u.nm.length ≤ 281474976710656) := hr.s
  have HL : Hid (n = L.length) := hn
  obtain ⟨l0, l1, l2, l3⟩ := all
  simp only [] at H15 a0 a1 a2 a3 B0
  have HW : Hid (Calls Tryz.prog 9 #[.agg #[.int .i64 l0, .int .i64 l1, .int .i64 l2, .int .i64 l3], .slice q n c] (w.alloc (.cells #[.int .i64 l0, .int .i64 l1, .int .i64 l2, .int .i64 l3] 23)) (WgP (w.alloc (.cells #[.int .i64 l0, .int .i64 l1, .int .i64 l2, .int .i64 l3] 23)) ⟨l0, l1, l2, l3⟩ L)) := H15
  clear hr hn H15
  go_enter Tryz.func8, Tryz.ntmps8
  go_upto_region 1 with fail
  obtain ⟨bw, hbw⟩ : ∃ bw, bw = w.heap.size := ⟨_, rfl⟩
  rw [← hbw] at a0 a1 a2 a3 ⊢
  clear hbw
  generalize w.alloc (.cells #[.int .i64 l0, .int .i64 l1, .int .i64 l2, .int .i64 l3] 23) = W1 at *
  go_upto_region 2 with (go_at_call 9; refine HW.out.mono ?_; rintro e W2 ⟨p, m, c1, err, S, rfl, hmS0, hW⟩; have hmS : Hid (m = S.length) := hmS0; clear hmS0)
  have HS : Hid (WgR ⟨l0, l1, l2, l3⟩ L err S ∧ (err = 0 → ∃ g, p = some ⟨g, 0, none⟩ ∧ w.heap.size ≤ g ∧ g < W2.heap.size ∧ Tr W2 g S) ∧ Below w.heap.size w W2 ∧ m = S.length) := by
    obtain ⟨h1, h2, h3⟩ := hW.out
    refine ⟨h1, fun e => ?_, B0.out.trans (h3.mono B0.out.size), hmS.out⟩
    obtain ⟨g, e1, e2, e3, e4, _⟩ := h2 e
    exact ⟨g, e1, Nat.le_trans B0.out.size e2, e3, e4⟩
  have hm1 : m ≤ 1000 := by
    have h1 := HL.out
    rcases hW.out.1 with ⟨_, _, e⟩ | ⟨_, _, _, e⟩ | ⟨_, _, _, e, _⟩
    · rw [hmS.out, e]; simp
    · rw [hmS.out, e]; simp
    · have := e.length_eq; have h2 := hmS.out; rw [List.length_map] at this; omega
  clear hW hmS HW B0 a0 a1 a2 a3
  by_cases he : err = 0
  · obtain rfl := he
    obtain ⟨gS, rfl, hg1, hg2, hg3⟩ := HS.out.2.1 rfl
    obtain ⟨hd1, hd2, -, hd3, hd4⟩ : fstE ⟨l0, l1, l2, l3⟩ L = 0 ∧ Nd L ∧ (0 : Nat) = 0 ∧ S.Perm (L.map (ten ⟨l0, l1, l2, l3⟩)) ∧ S.Pairwise fun a b => bytesBefore a.nm b.nm = true := by
      rcases HS.out.1 with ⟨_, e, _⟩ | ⟨_, _, e, _⟩ | e
      · exact absurd rfl e
      · cases e
      · exact e
    obtain ⟨W3, hmk, hrow, hb3⟩ := make26 W2 m (by omega)
    have hok : ∀ t ∈ S, Tok t := fun t ht => by
      obtain ⟨u, hu, rfl⟩ := List.mem_map.1 (hd3.mem_iff.1 ht)
      exact ten_ok (fstE_zero.1 hd1 u hu)
    have hz : Hid (∀ t ∈ S, t.nm.length ≤ 281474976710656) := fun t ht => by
      obtain ⟨u, hu, rfl⟩ := List.mem_map.1 (hd3.mem_iff.1 ht)
      exact HN.out u hu
    have hbw3 : Below w.heap.size w W3 := HS.out.2.2.1.trans (hb3.mono HS.out.2.2.1.size)
    have hgN : W2.heap.size < W3.heap.size := hrow.lt rfl
    have H16 : Hid (Calls Tryz.prog 11 #[.slice (some ⟨gS, 0, none⟩) m c1] W3 fun e w' => ∃ lb, e = .returned (.pointer (some ⟨lb, 0, none⟩)) ∧ Hid (Od w w' S gS W2.heap.size lb 0 m [])) := by
      refine (lined_any w W3 gS m c1 S (fun j => j = gS ∨ j = W2.heap.size) HS.out.2.2.2 (hg3.keep (hb3.block gS hg2)) hbw3 (fun j hj => by omega) hm1 hok).mono ?_
      rintro e w' ⟨lb, rfl, h⟩
      obtain ⟨h1, h2⟩ := h.out
      have hsz := HS.out.2.2.1.size
      refine ⟨lb, rfl, ⟨?_, rfl, ixp_nil S, ?_, (hg3.keep (hb3.block gS hg2)).keep (h2.block gS (by omega)), hg1, hsz, by omega⟩⟩
      · have := hrow.below h2
        refine ⟨this.1, ?_⟩
        rcases this.2 with q | ⟨g, cap, cur, e1, e2, e3⟩
        · exact .inl q
        · exact .inr ⟨g, cap, cur, e1, by omega, e3⟩
      · rw [dC_nil, ← HS.out.2.2.2]; exact h1
    have HD : Hid (fstE ⟨l0, l1, l2, l3⟩ L = 0 ∧ Nd L ∧ S.Perm (L.map (ten ⟨l0, l1, l2, l3⟩)) ∧ (S.Pairwise fun a b => bytesBefore a.nm b.nm = true) ∧ m = S.length) := ⟨hd1, hd2, hd3, hd4, HS.out.2.2.2⟩
    obtain ⟨gN, hgNe⟩ : ∃ gN, gN = W2.heap.size := ⟨_, rfl⟩
    rw [← hgNe] at H16 hmk
    clear hgNe hd1 hd2 hd3 hd4 hok hbw3 hgN hrow hb3 HS hg1 hg2 hg3
    go_upto_region 5 with fail
    clear hmk
    go_upto_region 6 with (go_at_call 11; refine H16.out.mono ?_; rintro e W4 ⟨lb, rfl, h4⟩)
    have HO : Hid (Od w W4 S gS gN lb 0 m []) := h4.out
    clear H16 h4
    go_wp2_with fail
    go_loopw [8, 28] (fun y x wr => ∃ (i gN cc : Nat), y = .slice (some ⟨gN, 0, none⟩) i cc ∧ x = .int .i64 i ∧ i ≤ m ∧ Hid (∃ P, Od w wr S gS gN lb i cc P)) (fun _ x _ => m - (intOf x).toNat)
    case atStart => exact ⟨0, gN, m, rfl, rfl, Nat.zero_le _, [], HO.out⟩
    case round =>
      clear HO
      obtain ⟨i, gN, cc, rfl, rfl, hi, HI⟩ := hrel
      by_cases him : i < m
      · have i1 : (i : Int) < (m : Int) := by omega
        have i2 : decide ((i : Int) < (m : Int)) = true := decide_eq_true i1
        obtain ⟨P, hP⟩ := HI.out
        obtain ⟨x, k, m1, m2⟩ := next_any hP.l (by have := HD.out.2.2.2.2; omega) (by have := HD.out.2.2.2.2; omega)
        obtain ⟨hp2, hx, rfl⟩ := hP.p.pop m1
        have H17 : Hid (Calls Tryz.prog 12 #[.pointer (some ⟨lb, 0, none⟩)] wr fun e w' => e = .returned (.tuple #[.int .i64 (x : Int), .int .i64 0]) ∧ Hid (SR w.heap.size w' (.slice (some ⟨gN, 0, none⟩) i cc) (P.map fun x => (tA S x).nm) ∧ Lin w w' lb (dC S (P ++ [x])) (S.length - (i + 1)) (fun j => j = gS ∨ j = gN) ∧ Tr w' gS S)) := by
          refine m2.mono ?_
          rintro e w' ⟨rfl, h⟩
          obtain ⟨h1, h2⟩ := h.out
          rw [dC_del] at h1
          exact ⟨rfl, hP.r.keep fun g e => h2 g (.inr (Option.some.inj e).symm), h1, hP.s.keep (h2 gS (.inl rfl))⟩
        have HP : Hid (IxP S (P ++ [x]) ∧ P.length = i ∧ w.heap.size ≤ gS ∧ w.heap.size ≤ gN ∧ gS ≠ gN) := ⟨hp2, hP.n, hP.g⟩
        have HX : Hid (S[x]? = some (tA S x)) := tA_lt hx
        have hxm : x < m := by have := HD.out.2.2.2.2; omega
        have x1 : (x : Int) < (m : Int) := by omega
        have H18 : Hid (∀ W, Calls Tryz.prog 13 #[.string ⟨⟨(tA S x).nm⟩⟩] W fun e w' => e = .returned (.string ⟨⟨(tA S x).nm⟩⟩) ∧ Hid (Below W.heap.size W w')) := fun W => clone_any _ W (hz.out _ (List.mem_of_getElem? HX.out))
        clear HI hP m1 m2 hp2 hx
        obtain ⟨nm, hnm⟩ : ∃ nm, nm = (tA S x).nm := ⟨_, rfl⟩
        have HNM : Hid (nm = (tA S x).nm) := hnm
        rw [← hnm] at H18
        clear hnm
        go_upto_region 9 with (go_at_call 12; refine H17.out.mono ?_; rintro e W5 ⟨rfl, h5⟩)
        have y0 : W5.cell? ⟨gS, x * 3, none⟩ = some (.string ⟨⟨nm⟩⟩) := by rw [HNM.out]; exact (h5.out.2.2.at HX.out).1
        clear H17
        go_wp2_with (first
          | (go_at_call 13; refine (H18.out _).mono ?_; rintro e w6 ⟨rfl, b6⟩)
          | (at_builtin; refine append_s (w := w6.alloc (.cells #[.string ⟨⟨nm⟩⟩] 9)) (B := w.heap.size) rfl _ _ rfl gN i cc _ nm rfl (h5.out.1.below (b6.out.alloc b6.out.size _)) w6.heap.size 1 rfl (Lib.cell_of_heap new0 0) (by omega) (Nat.le_trans h5.out.2.1.below.size (b6.out.alloc b6.out.size _).size) ?_; intro gN' c8 w8 hr8 hk8 hl8))
        have b7 := b6.out.alloc b6.out.size (.cells #[.string ⟨⟨nm⟩⟩] 9)
        obtain ⟨f1, f2, f3, f4, f5⟩ := HP.out
        have hlt8 : gN' < w8.heap.size := hr8.lt rfl
        refine ⟨⟨i + 1, gN', c8, rfl, by simp, him, P ++ [x], ?_, by simp [f2], f1, ?_, ?_, f3, ?_, ?_⟩, by simp [intOf]; omega⟩
        · rw [List.map_append, List.map_singleton, ← HNM.out]; exact hr8
        · have L7 := h5.out.2.1.more b7 (T' := fun j => j = gS ∨ j = gN) fun j hj => .inl hj
          refine L7.kp2 (hk8.mono fun j _ e => .inr e) (fun j hj => by omega) fun j hj => ?_
          rcases hj with e | e
          · exact .inl (.inl e)
          · rcases hl8 with q | q
            · exact .inl (.inr (e.trans q))
            · exact .inr ⟨by omega, by omega⟩
        · have hS7 := h5.out.2.2.keep (b7.block gS (h5.out.2.1.lt gS (.inl rfl)))
          exact hS7.keep (hk8.block gS (Nat.lt_of_lt_of_le (h5.out.2.1.lt gS (.inl rfl)) b7.size) f5)
        · exact hr8.ge rfl
        · rcases hl8 with q | q
          · rw [q]; exact f5
          · have h1 := h5.out.2.1.lt gS (.inl rfl)
            have h2 := b7.size
            omega
      · have i1 : ¬ (i : Int) < (m : Int) := by omega
        have i2 : decide ((i : Int) < (m : Int)) = false := decide_eq_false i1
        obtain ⟨P, hP⟩ := HI.out
        have HF : Hid (∃ R, OrdR ⟨l0, l1, l2, l3⟩ L 0 R ∧ SR w.heap.size wr (.slice (some ⟨gN, 0, none⟩) i cc) (R.map Tn.nm) ∧ Below w.heap.size w wr) := by
          obtain ⟨h1, h2, h3, h4, h5⟩ := HD.out
          have hl := hP.l
          rw [show S.length - i = 0 by omega] at hl
          obtain ⟨q1, q2⟩ := hP.p.all h4 hl.empty
          refine ⟨P.map (tA S), .inr (.inr ⟨h1, h2, rfl, q1.trans h3, q2⟩), ?_, hl.below⟩
          rw [List.map_map]
          exact hP.r
        clear HI hP HD
        go_wp2_with fail
        go_ret2
        obtain ⟨R, h1, h2, h3⟩ := HF.out
        exact ⟨_, i, cc, 0, R, rfl, by omega, h1, h2, h3⟩
  · have s1 : ¬ (err : Int) = 0 := by omega
    have s2 : ((err : Int) == 0) = false := by simpa using he
    have s3 : decide ((err : Int) = 0) = false := decide_eq_false s1
    have HF : Hid (OrdR ⟨l0, l1, l2, l3⟩ L err [] ∧ Below w.heap.size w W2) := by
      refine ⟨?_, HS.out.2.2.1⟩
      rcases HS.out.1 with ⟨h1, h2, _⟩ | ⟨h1, h2, h3, _⟩ | ⟨_, _, h3, _⟩
      · exact .inl ⟨h1, h2, rfl⟩
      · exact .inr (.inl ⟨h1, h2, h3, rfl⟩)
      · exact absurd h3 he
    clear HS HN HL
    go_wp2_with fail
    go_ret2
    exact ⟨none, 0, 0, err, [], rfl, by omega, HF.out.1, GRow.nil _ _ _ _ _, HF.out.2⟩
end Go.Proofs.YtcgaekaollhmpaaGreat
