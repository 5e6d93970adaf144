/-
  The heap's Meld.
-/
import Derived.Test.YtmcmldlnmmbbgaaMa
namespace Go.Proofs.Ytmcmldlnmmbbgaa
open Go.RowKit Go.Maps
section
variable {w : World} {tS tO : Nat → Tg} {hb ob : Nat} {S O : HS}
set_option maxHeartbeats 4000000 in
set_option maxRecDepth 100000 in
theorem meld_none (h : Hid (Two w tS tO hb ob S O)) (hg : Hid (S.gv + O.gv ≤ 1048576)) (hs : Hid (O.X.length + S.X.length ≤ 2000)) (hm2 : Hid (O.mb = none)) (hX : Hid (O.X = [])) :
    Calls Try.prog 21 #[.pointer (some ⟨hb, 0, none⟩), .pointer (some ⟨ob, 0, none⟩)] w fun e w' => e = .returned (.tuple #[.int .i64 S.gv, .int .i64 0]) ∧ Hid (∃ tg P S', Mlt w w' tS tO tg hb ob S O P S') := by
  have q24 := ptr24 h.out.s.m.hp h.out.o.m.hp h.out.ne
  have e0 := h.out.s.m.hp.cell 0 (by decide)
  have f0 := h.out.s.m.hp.fz 0
  have o0 := h.out.o.m.hp.cell 0 (by decide)
  rw [show S.hpC 0 = .int .i64 (S.gv : Int) from rfl] at e0
  rw [show O.hpC 0 = .int .i64 (O.gv : Int) from rfl] at o0
  have g1 : (S.gv : Int) + (O.gv : Int) ≤ 1048576 := by have := hg.out; omega
  have g2 : 0 ≤ (S.gv : Int) := by omega
  have g3 : 0 ≤ (O.gv : Int) := by omega
  have HW : Hid (Ph w (w.setCell ⟨hb, 0, none⟩ (.int .i64 ((S.gv : Int) + (O.gv : Int)))) tS tO tS hb ob S O [] S.mb) := Ph.start h.out
  generalize hx : (S.gv : Int) = x at *
  generalize hy : (O.gv : Int) = y at *
  have HX : Hid (x = (S.gv : Int) ∧ y = (O.gv : Int)) := ⟨hx.symm, hy.symm⟩
  clear hx hy
  go_enter Try.func21, Try.ntmps21
  go_upto_region 3 with fail
  go_region
  all_goals go_upto_region 6 with fail
  all_goals go_region
  have W1 : Hid (∀ W, W = (w.setCell ⟨hb, 0, none⟩ (.int .i64 (x + y))).drew.drew → Ph w (W.alloc (.mapIter none 0 #[] 0)) tS tO tS hb ob S O [] S.mb ∧ W.cell? ⟨ob, 1, none⟩ = some (.map none)) := fun W e => by
    subst e
    have hno : tS w.heap.size = .no := by
      by_cases q : tS w.heap.size = .no
      · exact q
      · have := h.out.s.m.lt _ q; omega
    have hP := HW.out.iter (r := w.heap.size) (w' := (w.setCell ⟨hb, 0, none⟩ (.int .i64 (x + y))).drew.drew) h.out ⟨rfl, rfl, rfl, Nat.le_refl _, fun _ _ _ => rfl⟩ hno (Nat.le_refl _)
    refine ⟨hP.iter (r := w.heap.size) h.out (Kp.alloc _ _) hno (Nat.le_refl _), ?_⟩
    have := hP.oh.cell 1 (by decide)
    rw [show O.hpC 1 = .map O.mb from rfl, hm2.out] at this
    exact this
  generalize (w.setCell ⟨hb, 0, none⟩ (.int .i64 (x + y))).drew.drew = W at *
  obtain ⟨V0, o1⟩ := W1.out _ rfl
  obtain ⟨P, hPe⟩ : ∃ P : List Nat, P = [] := ⟨_, rfl⟩
  obtain ⟨mb, hmbe⟩ : ∃ mb, mb = S.mb := ⟨_, rfl⟩
  have V1 : Ph w (W.alloc (.mapIter none 0 #[] 0)) tS tO tS hb ob S O P mb := by rw [hPe, hmbe]; exact V0
  have HP : Hid (∀ b, b ∈ P ↔ b ∈ O.X) := fun b => by rw [hX.out, hPe]
  have hU := Up.start h.out hg.out V1 HP.out
  have HU : Hid (UpE w (W.alloc (.mapIter none 0 #[] 0)) tS tO hb ob S O P mb 0 0) := ⟨_, _, _, hU⟩
  have HOL : Hid (O.X.length ≤ 2000) := Nat.le_trans (Nat.le_add_right _ _) hs.out
  have HL : Hid ((P ++ S.X).length ≤ 2000) := by rw [hPe]; exact Nat.le_trans (Nat.le_add_left _ _) hs.out
  clear V0 V1 W1 HW e0 o0 f0 q24 hPe hmbe
  have i67 : Hid ((Try.prog.info? 67).map (·.size) = some (rts O).length) := by show _ = _; rw [rts_len]; exact info67
  have r67 : Hid ((W.alloc (.mapIter none 0 #[] 0)).rangeAt ob 2 (rts O)) := rts_at hU.oh
  have X67 : Hid (∀ (w1 : World) (d : Nat), d < 29 → (Instr.index 67 (.agg (rts O).toArray) (.int .i64 d)).run Try.prog w1 = .ok (O.fv (.rt d)) w1) := fun w1 d hd => index67 w1 hd (rts_get O hd)
  clear hU hg hs
  generalize rts O = L at *
  have hrg := run_range_nilMap (P := Try.prog) W 64 3 68 Try.underlying64
  have hnx : ∀ ty, (Instr.next (.pointer (some ⟨W.heap.size, 0, none⟩)) false ty).run Try.prog (W.alloc (.mapIter none 0 #[] 0)) = _ := fun ty => run_next_nilMap W ty 0 0 #[]
  go_wp2_with fail
  refine wp_loop_rounds 1 ?_
  rw [rounds_succ]
  go_wp2_with (first | (refine wpList_load_mid rfl 67 _ rfl ob 2 rfl L _ r67.out Try.underlying67 rfl i67.out ?_) | go_in)
  clear hrg hnx
  generalize W.alloc (.mapIter none 0 #[] 0) = wr at *
  clear i67 r67
  go_loopw [73] (fun i wr => ∃ d : Nat, d ≤ 29 ∧ i = .int .i64 d ∧ UpE w wr tS tO hb ob S O P mb d 0) (fun i _ => 29 - (intOf i).toNat)
  case atStart => exact ⟨0, by omega, rfl, HU.out⟩
  case round =>
    obtain ⟨d, hd, rfl, hE⟩ := hrel
    have HE : Hid (UpE w wr tS tO hb ob S O P mb d 0) := hE
    clear hE HU
    by_cases hd2 : ¬ d < 29
    · have hi : ¬ (d : Int) < 29 := by omega
      have hde : d = 29 := by omega
      subst hde
      clear X67 HL
      have o31 : wr.cell? ⟨ob, 31, none⟩ = some (optp O.lst) := by
        obtain ⟨S', Z, tg', hU⟩ := HE.out
        exact hU.oh.cell 31 (by decide)
      cases hl : O.lst with
      | none =>
        rw [hl] at o31
        unfold optp at o31
        have HB : Hid (wr.heap[ob]? = some (.cells (Array.ofFn (n := 32) fun i => O.hpC i.val) 70 (0, 0))) := by
          obtain ⟨S', Z, tg', hU⟩ := HE.out
          exact hU.oh
        have HF : Hid (Hid (∃ tg P S', Mlt w (wr.setRow ob zeroH) tS tO tg hb ob S O P S')) := by
          obtain ⟨S', Z, tg', hU⟩ := HE.out
          exact ⟨tg', P, S', (hU.leastNo h.out HP.out hl).zero h.out HP.out⟩
        clear HE hl
        go_wp2_with (first | (refine wpList_store_row rfl 70 _ _ rfl ob zeroH rfl rfl 70 (Array.ofFn (n := 32) fun i => O.hpC i.val) HB.out info70s (zsz _) zone ?_) | go_in)
        go_ret2
        exact ⟨rfl, HF.out⟩
      | some xo =>
        rw [hl] at o31
        unfold optp ptr at o31
        have H33 : Hid (Calls Try.prog 33 #[.pointer (some ⟨hb, 0, none⟩), .pointer (some ⟨xo, 0, none⟩)] wr fun e w' => e = .returned (.tuple #[]) ∧ Hid (∃ tg S2, Meld w w' tS tO tg hb ob S O P S2)) := HE.out.least h.out HP.out hl
        clear HE hl
        go_upto_region 23 with (go_at_call 33; refine H33.out.mono ?_; rintro e w9 ⟨rfl, H9⟩)
        have HB : Hid (w9.heap[ob]? = some (.cells (Array.ofFn (n := 32) fun i => O.hpC i.val) 70 (0, 0))) := by
          obtain ⟨tg', S2, hM9⟩ := H9.out
          exact hM9.oh
        have HF : Hid (Hid (∃ tg P S', Mlt w (w9.setRow ob zeroH) tS tO tg hb ob S O P S')) := by
          obtain ⟨tg', S2, hM9⟩ := H9.out
          exact ⟨tg', P, S2, hM9.zero h.out HP.out⟩
        clear H9 H33 o31
        go_wp2_with (first | (refine wpList_store_row rfl 70 _ _ rfl ob zeroH rfl rfl 70 (Array.ofFn (n := 32) fun i => O.hpC i.val) HB.out info70s (zsz _) zone ?_) | go_in)
        go_ret2
        exact ⟨rfl, HF.out⟩
    have hd3 : d < 29 := Decidable.not_not.1 hd2
    have hi : (d : Int) < 29 := by omega
    clear hd2
    obtain ⟨a, c, hv⟩ : ∃ a c, O.fv (.rt d) = .slice a (O.fl (.rt d)).length c := by
      obtain ⟨S', Z, tg', hU⟩ := HE.out
      exact (hU.of d hd3).shape
    have i1 := X67.out wr d hd3
    rw [hv] at i1
    have HV : Hid (O.fv (.rt d) = .slice a (O.fl (.rt d)).length c) := hv
    have hlen : (O.fl (.rt d)).length ≤ 2000 := Nat.le_trans (fam_len h.out.o.i.lc (F := .rt d) hd3) HOL.out
    obtain ⟨l, hl⟩ : ∃ l, l = O.fl (.rt d) := ⟨_, rfl⟩
    have HLE : Hid (l = O.fl (.rt d)) := hl
    rw [← hl] at i1 hlen HV
    clear hl hv
    go_wp2_with fail
    go_loopw [78] (fun i wr => ∃ j : Nat, j ≤ l.length ∧ i = .int .i64 j ∧ UpE w wr tS tO hb ob S O P mb d j) (fun i _ => l.length - (intOf i).toNat)
    case atStart => exact ⟨0, Nat.zero_le _, rfl, HE.out⟩
    case round =>
      obtain ⟨j, hj, rfl, hO⟩ := hrel
      have O1 : Hid (UpE w wr tS tO hb ob S O P mb d j) := hO
      clear hO HE i1
      by_cases hjl : j < l.length
      · have hi2 : (j : Int) < (l.length : Int) := by omega
        obtain ⟨x2, hx2⟩ : ∃ x2, (O.fl (.rt d))[j]? = some x2 := ⟨_, List.getElem?_eq_getElem (by rw [← HLE.out]; exact hjl)⟩
        have hF2 : Fam wr (.slice a l.length c) l := by
          obtain ⟨S', Z, tg', hU⟩ := O1.out
          have := hU.of d hd3
          rw [HV.out, ← HLE.out] at this
          exact this
        obtain ⟨g, c', hg'⟩ := hF2.row (by intro e; rw [e] at hjl; simp at hjl)
        have ea : a = some ⟨g, 0, none⟩ ∧ c = c' := by simpa using hg'
        obtain ⟨rfl, rfl⟩ := ea
        obtain ⟨p0, _⟩ := hF2.cell (by rw [HLE.out]; exact hx2)
        unfold ptr at p0
        have H32 : Hid (Calls Try.prog 32 #[.pointer (some ⟨hb, 0, none⟩), .pointer (some ⟨x2, 0, none⟩)] wr fun e w'' => e = .returned (.tuple #[]) ∧ Hid (UpE w w'' tS tO hb ob S O P mb d (j + 1))) := O1.out.next h.out HL.out hd3 hx2
        clear hx2 hF2 hg' O1
        go_wp2_with (go_at_call 32; refine H32.out.mono ?_; rintro e w6 ⟨rfl, H6⟩)
        exact ⟨⟨j + 1, by omega, by go_num, H6.out⟩, by simp [intOf]; omega⟩
      · have hi2 : ¬ (j : Int) < (l.length : Int) := by omega
        have HD : Hid (UpE w wr tS tO hb ob S O P mb (d + 1) 0) := O1.out.row (by rw [← HLE.out]; omega)
        clear O1
        go_wp2_with fail
        exact ⟨⟨d + 1, by omega, by go_num, HD.out⟩, by simp [intOf]; omega⟩
theorem meld_S (h : Two w tS tO hb ob S O) (hg : S.gv + O.gv ≤ 1048576) (hs : O.X.length + S.X.length ≤ 2000) :
    Calls Try.prog 21 #[.pointer (some ⟨hb, 0, none⟩), .pointer (some ⟨ob, 0, none⟩)] w fun e w' => e = .returned (.tuple #[.int .i64 S.gv, .int .i64 0]) ∧ Hid (∃ tg P S', Mlt w w' tS tO tg hb ob S O P S') := by
  have hp := h.o.p
  unfold Mp at hp
  cases hm : O.mb with
  | none =>
    rw [hm] at hp
    exact meld_none h hg hs hm hp
  | some m2 =>
    rw [hm] at hp
    obtain ⟨M, hM⟩ := hp
    exact meld_some h hg hs hm hM
end
end Go.Proofs.Ytmcmldlnmmbbgaa
