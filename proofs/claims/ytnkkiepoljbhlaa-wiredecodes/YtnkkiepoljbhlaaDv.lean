/-
  The document's plain, of a placed task: a number and a list of names.
-/
import Derived.Test.YtnkkiepoljbhlaaDu
import Derived.Test.YtnkkiepoljbhlaaCpy
namespace Go.Proofs.Ytnkkiepoljbhlaa
open Go.RowKit

/-- a number, and so many names -/
def ndsD (l : List UInt8) : Option ((Nat × List (List UInt8)) × List UInt8) := (numD 7 l).bind fun a => (numD 7 a.2).bind fun b => (repD txtD (min b.1 10) b.2).bind fun c => some ((a.1, c.1), c.2)
theorem nds_of {l : List UInt8} {a0 a1 a2 a3 x n : Nat} {xs : List (List UInt8)} {bad b1 b2 b3 : Bool} (h1 : OneX (numD 7) l a0 bad x a1 b1) (h2 : OneX (numD 7) l a1 b1 n a2 b2) (h3 : OneX (repD txtD (min n 10)) l a2 b2 xs a3 b3) : OneX ndsD l a0 bad (x, xs) a3 b3 := by
  have up : ∀ {α : Type} {D : List UInt8 → Option (α × List UInt8)} {a k : Nat} {x : α} {c d : Bool}, OneX D l a c x k d → c = true → d = true := fun h e => by
    rcases h with ⟨_, _, q⟩ | ⟨q, _⟩
    · rw [q] at e; cases e
    · exact q
  cases bad with
  | true => exact .inr ⟨up h3 (up h2 (up h1 rfl)), .inl rfl⟩
  | false =>
  cases b1 with
  | true =>
    refine .inr ⟨up h3 (up h2 rfl), .inr ?_⟩
    have q := (h1.rot).resolve_left nofun
    unfold ndsD
    rw [q]; rfl
  | false =>
  cases b2 with
  | true =>
    refine .inr ⟨up h3 rfl, .inr ?_⟩
    have q := (h2.rot).resolve_left nofun
    unfold ndsD
    simp [h1.good.1, q]
  | false =>
  cases b3 with
  | true =>
    refine .inr ⟨rfl, .inr ?_⟩
    have q := (h3.rot).resolve_left nofun
    unfold ndsD
    simp [h1.good.1, h2.good.1, q]
  | false =>
    refine .inl ⟨?_, rfl, rfl⟩
    unfold ndsD
    simp [h1.good.1, h2.good.1, h3.good.1]
section
variable {w0 w w' W : World} {rb k k' a : Nat} {l : List UInt8} {bad bd bd' : Bool} {p : PL}
theorem RQ.grow (h : RQ w0 w rb l k bad p) (b : Below (w0.heap.size + 2) w w') : RQ w0 w' rb l k bad p := by
  have hlt := h.lt
  refine ⟨?_, h.le, hlt, (b.block _ (by omega)).trans h.b0, (b.block _ (by omega)).trans h.b1, ⟨b.os.trans h.kp.os, b.tape.trans h.kp.tape, b.output.trans h.kp.output, Nat.le_trans h.kp.size b.size, fun j hj hn => (b.block j (by omega)).trans (h.kp.block j hj hn)⟩⟩
  obtain ⟨p, c, h1, h2⟩ := h.rd
  refine ⟨p, c, (b.block rb (by omega)).trans h1, ?_, h2.nc, h2.bl, h2.cm⟩
  rcases h2.ly with e | ⟨g, o, rfl, hrow⟩
  · exact .inl e
  · refine .inr ⟨g, o, rfl, fun i x hx => ?_⟩
    have h3 := (h2.bl _ rfl).1
    have h4 := hrow i x hx
    unfold World.cell? at h4 ⊢
    rw [b.block g (by simp only at h3; omega)]
    exact h4
theorem RQ.drew (h : RQ w0 w rb l k bad p) (q : Nat) : RQ w0 (w.drewN q) rb l k bad p := ⟨h.rd.drew, h.le, h.lt, h.b0, h.b1, h.kp.drew⟩
theorem RQ.nsAt {x : Option Addr} {n c : Nat} (h : RQ w W rb l k bd { p with ns := ⟨x, n, c⟩ }) : W.cell? ⟨w.heap.size + 1, 25, none⟩ = some (.slice x n c) := h.at 25 _ rfl
theorem RQ.nsSet {q q' : SL} (h : RQ w W rb l k bd { p with ns := q }) : RQ w (W.setCell ⟨w.heap.size + 1, 25, none⟩ (.slice q'.a q'.n q'.c)) rb l k bd { p with ns := q' } := h.set _ rfl
end
/-- names as strings -/
def strs (xs : List (List UInt8)) : List Value := xs.map fun s => .string ⟨⟨s⟩⟩
/-- plain's answer, of a placed task -/
def PlN (w : World) (rb : Nat) (l : List UInt8) (at0 : Nat) (bad : Bool) (e : Ending) (w' : World) : Prop := ∃ (x : Nat) (xs : List (List UInt8)) (ns : SL) (k : Nat) (bad' : Bool), e = .returned (.agg (PL.cells { PL.zero with kind := 7, id := (x : Nat), ns := ns })) ∧ k ≤ l.length ∧ Rf w' rb l k bad' ∧ RdK rb w w' ∧ w'.ownsRow (w.heap.size + 2) 9 1 ns.v xs.length (strs xs) ∧ OneX ndsD l at0 bad (x, xs) k bad'
set_option maxHeartbeats 4000000 in
set_option maxRecDepth 100000 in
theorem plain7 (w : World) (rb at0 : Nat) (l : List UInt8) (bad : Bool) (h : Rf w rb l at0 bad) (ha : at0 ≤ l.length) : Calls Try.prog 34 #[.pointer (some ⟨rb, 0, none⟩), .int .i64 7] w fun e w' => PlN w rb l at0 bad e w' := by
  obtain ⟨p0, hp⟩ : ∃ p : PL, Hid (p = { PL.zero with kind := 7 }) := ⟨_, rfl⟩
  go_enter Try.func34, Try.ntmps34
  go_upto_region 2 with (first
    | refine wpList_buildTo rfl 32 _ rfl (some 9) rfl p0.cells (by rw [hp.out]; kernel_rfl) ?_
    | refine wpList_store_rowTo rfl 32 _ _ rfl rfl (w.heap.size + 1) p0.cells rfl rfl 32 _ (two_heap w _ _) (size32p p0) rfl (PL.cells_one p0) ?_)
  refine (?_ : ∀ W, Hid (RQ w W rb l at0 bad p0) → Code.wp Try.prog _ _ _ W) _ (RQ.begun h ha)
  clear h ha
  intro W HS
  go_upto_region 21 with (go_at_call 62; refine (rq62 HS.out).mono ?_; rintro e w1 ⟨x0, a0, d0, rfl, k0⟩; have c24 := k0.out.1.at 24 _ (PL.at24 _); have f24 := k0.out.1.fz 24)
  have K0 : Hid (RQ w _ rb l a0 d0 _) := k0.out.1.id x0
  clear c24 f24
  obtain ⟨p1, hp1⟩ : ∃ r : PL, Hid (r = { p0 with id := (x0 : Nat) }) := ⟨_, rfl⟩
  rw [← hp1.out] at K0
  go_upto_region 22 with (go_at_call 62; refine (rq62 K0.out).mono ?_; rintro e w5 ⟨n5, a5, d5, rfl, k5⟩)
  have hl5 : n5 < 562949953421312 := k5.out.2.2
  have k5x : Hid (OneX (numD 7) l a0 d0 n5 a5 d5) := k5.out.2.1
  have KN : Hid (RQ w w5 rb l a5 d5 { p1 with ns := .nil }) := by have := k5.out.1; rw [hp1.out, hp.out] at this ⊢; exact this
  go_wp2_with fail
  go_loopw [7] (fun x wr => ∃ (i : Nat), x = .int .i64 i ∧ i ≤ 10 ∧ i ≤ n5 ∧ Hid (∃ (pa : SL) (xs : List (List UInt8)) (k : Nat) (bd : Bool), RQ w wr rb l k bd { p1 with ns := pa } ∧ xs.length = i ∧ wr.ownsRow (w.heap.size + 2) 9 1 pa.v i (strs xs) ∧ OneX (repD txtD i) l a5 d5 xs k bd)) (fun x _ => 10 - (intOf x).toNat)
  case atStart =>
    refine ⟨0, rfl, by omega, by omega, SL.nil, [], a5, d5, KN.out, rfl, ?_, OneX.start⟩
    exact World.ownsRow_nil _ _ _ _
  case round =>
    obtain ⟨i, rfl, hi, hin, HI⟩ := hrel
    obtain ⟨pa, xs, k, bd, hJ, hlen, hown, hone⟩ := HI.out
    have HO : Hid (xs.length = i ∧ wr.ownsRow (w.heap.size + 2) 9 1 pa.v i (strs xs) ∧ OneX (repD txtD i) l a5 d5 xs k bd) := ⟨hlen, hown, hone⟩
    obtain ⟨qa, qn, qc⟩ := pa
    have HJ : Hid (RQ w wr rb l k bd { p1 with ns := ⟨qa, qn, qc⟩ }) := hJ
    obtain ⟨p, c, hb, hB⟩ := hJ.rd
    obtain ⟨⟨r0, r1, r2⟩, g0, g1, g2⟩ := three_cells hb
    have c4 := HJ.out.nsAt
    have f4 := HJ.out.fz 25
    clear hJ hlen hown hone hb hB HI r0 r1 g0 g1 g2
    by_cases hD : i < n5 ∧ i < 10 ∧ bd = false
    · obtain ⟨h1, h2, rfl⟩ := hD
      have l1 : (i : Int) < (n5 : Int) := by omega
      have l2 : (i : Int) < 10 := by omega
      have m1 : decide ((i : Int) < (n5 : Int)) = true := decide_eq_true l1
      have m2 : decide ((i : Int) < 10) = true := decide_eq_true l2
      go_wp2_with fail
      have H6 : Hid (∀ q, Calls Try.prog 61 #[.pointer (some ⟨rb, 0, none⟩)] (wr.drewN q) fun e w' => ∃ (s : List UInt8) (k' : Nat) (bd' : Bool), e = .returned (.string ⟨⟨s⟩⟩) ∧ Hid (RQ w w' rb l k' bd' { p1 with ns := ⟨qa, qn, qc⟩ } ∧ OneX txtD l k false s k' bd' ∧ RdK rb (wr.drewN q) w')) := fun q => (rtext_any (wr.drewN q) rb k l false (HJ.out.drew q).rd HJ.out.le).mono (by
        rintro e w' ⟨m, k', bd', rfl, h2⟩
        obtain ⟨q2, q3, q4, q5, q6⟩ := h2.out
        exact ⟨m, k', bd', rfl, (HJ.out.drew q).read q4 q3 q5, q6, q5⟩)
      obtain ⟨i2, hi2, hz0, hz1, hz2⟩ := info_parts info9
      have HI2 : Hid (Try.prog.info? 9 = some i2 ∧ i2.zero = some (.string ⟨#[]⟩) ∧ i2.size = 1 ∧ i2.bytes = 16) := ⟨hi2, hz0, hz1, hz2⟩
      have hrl : rb < w.heap.size := HJ.out.lt
      obtain ⟨xv, hxv⟩ : ∃ y, strs xs = y := ⟨_, rfl⟩
      have HOW : Hid (∀ (q : Nat) w6 (m : List UInt8), RdK rb (wr.drewN q) w6 → (w6.alloc (.cells #[.string ⟨⟨m⟩⟩] 9)).ownsRow (w.heap.size + 2) 9 1 (.slice qa qn qc) i xv) := fun q w6 m hk => by
        rw [← hxv]
        have o1 : w6.ownsRow (w.heap.size + 2) 9 1 (.slice qa qn qc) i _ := own_read HO.out.2.1 (by omega) ⟨hk.os, hk.tape, hk.output, hk.size, hk.block⟩
        exact own_below o1 ((Below.refl _ w6).alloc (Nat.le_refl _) _)
      have HX : Hid (strs xs = xv) := hxv
      clear hxv hi2 hz0 hz1 hz2
      go_region_with (first
        | (go_at_call 61; refine (H6.out _).mono ?_; rintro e w6 ⟨m6, k6, bd6, rfl, h6⟩; have hjl : w.heap.size + 1 < w6.heap.size := (Array.getElem?_eq_some_iff.1 h6.out.1.b1).1; have z6 := h6.out.1.nsAt; have f6 := h6.out.1.fz 25; have O6 : Hid ((w6.alloc (.cells #[.string ⟨⟨m6⟩⟩] 9)).ownsRow (w.heap.size + 2) 9 1 (.slice qa qn qc) i xv) := HOW.out _ _ _ h6.out.2.2; have N6 : Hid (∀ j u, [Value.string ⟨⟨m6⟩⟩][j]? = some u → (w6.alloc (.cells #[.string ⟨⟨m6⟩⟩] 9)).cell? ((⟨w6.heap.size, 0, none⟩ : Addr).add j) = some u) := World.news_of_block (cs := #[.string ⟨⟨m6⟩⟩]) (t := 9) (fr := (0, 0)) new0; have S6 : Hid ((w6.alloc (.cells #[.string ⟨⟨m6⟩⟩] 9)).heap.size = w6.heap.size + 1) := (by refine (?_ : _ = _); simp); have Z6 : Hid (w.heap.size + 2 ≤ (w6.alloc (.cells #[.string ⟨⟨m6⟩⟩] 9)).heap.size) := (by refine (?_ : w.heap.size + 2 ≤ _); simp; omega); obtain ⟨g, cap, w4, hr, hown, hgrow, hat, hlt⟩ := run_append_lies (P := Try.prog) (w6.alloc (.cells #[.string ⟨⟨m6⟩⟩] 9)) 28 28 (w.heap.size + 2) 9 i2 _ 1 16 Try.underlying28 HI2.out.1 HI2.out.2.1 HI2.out.2.2.1 HI2.out.2.2.2 rfl (by decide) (.slice qa qn qc) i xv O6.out ⟨w6.heap.size, 0, none⟩ 1 1 [.string ⟨⟨m6⟩⟩] rfl N6.out (by intro u hu; rw [List.mem_singleton.1 hu]; rfl) (by decide) (by unfold maxLen; omega) (by omega) Z6.out _ S6.out; have B4 : Hid (Below (w.heap.size + 2) (w6.alloc (.cells #[.string ⟨⟨m6⟩⟩] 9)) w4) := below_grown hgrow Z6.out (fun g e => (World.ownsRow.lt O6.out g e).1); have J4 : Hid (RQ w w4 rb l k6 bd6 { p1 with ns := ⟨qa, qn, qc⟩ } ∧ w4.ownsRow (w.heap.size + 2) 9 1 (.slice (some ⟨g, 0, none⟩) (i + 1) cap) (i + 1) (xv ++ [.string ⟨⟨m6⟩⟩])) := ⟨(h6.out.1.grow ((Below.refl _ w6).alloc (by omega) _)).grow B4.out, hown⟩; have z4 := J4.out.1.nsAt; have f44 := J4.out.1.fz 25; clear hown hgrow hat hlt)
        | ((show Oper.upon _ { dst := some 81, op := _, type := _, pos := _, after := _, guard := _ } _ _ _ _; refine upon_eq (Y := ((Builtin.append_ #[28, 28] 28 #[.slice qa qn qc, .slice (some ⟨w6.heap.size, 0, none⟩) 1 1]).run Try.prog (w6.alloc (.cells #[.string ⟨⟨m6⟩⟩] 9))).andThen fun a w' => .ok (.value a) w') (by clear hr; go_simp) ?_; refine upon_val hr ?_)))
      all_goals
        go_wp2_with fail
        refine ⟨⟨i + 1, by simp, by omega, by omega, ⟨some ⟨g, 0, none⟩, i + 1, cap⟩, xs ++ [m6], k6, bd6, J4.out.1.nsSet (q' := ⟨some ⟨g, 0, none⟩, i + 1, cap⟩), by rw [List.length_append, HO.out.1]; rfl, ?_, OneX.snoc HO.out.2.2 h6.out.2.1⟩, by simp only [intOf]; omega⟩
        have o4 := own_cell (i := 25) (u := .slice (some ⟨g, 0, none⟩) (i + 1) cap) J4.out.2 (Nat.lt_succ_self _)
        rw [← HX.out] at o4
        unfold strs at o4 ⊢
        rw [List.map_append]
        exact o4
    · have hE : Hid (OneX (repD txtD (min n5 10)) l a5 d5 xs k bd) := HO.out.2.2.enough (by omega) (by
        by_cases hb : bd = true
        · exact .inr hb
        · have hb' : bd = false := by simpa using hb
          left
          have h3 : ¬ (i < n5 ∧ i < 10) := fun q => hD ⟨q.1, q.2, hb'⟩
          omega)
      have hX : (((i : Int) < (n5 : Int)) = False ∧ decide ((i : Int) < (n5 : Int)) = false) ∨ ((((i : Int) < (n5 : Int)) = True ∧ decide ((i : Int) < (n5 : Int)) = true) ∧ (((i : Int) < 10) = False ∧ decide ((i : Int) < 10) = false)) ∨ ((((i : Int) < (n5 : Int)) = True ∧ decide ((i : Int) < (n5 : Int)) = true) ∧ (((i : Int) < 10) = True ∧ decide ((i : Int) < 10) = true) ∧ bd = true) := by
        by_cases x1 : i < n5
        · by_cases x2 : i < 10
          · have hb : bd = true := by
              by_cases hb : bd = true
              · exact hb
              · exact absurd ⟨x1, x2, by simpa using hb⟩ hD
            exact .inr (.inr ⟨⟨by simp; omega, decide_eq_true (by omega)⟩, ⟨by simp; omega, decide_eq_true (by omega)⟩, hb⟩)
          · exact .inr (.inl ⟨⟨by simp; omega, decide_eq_true (by omega)⟩, ⟨by simp; omega, decide_eq_false (by omega)⟩⟩)
        · exact .inl ⟨by simp; omega, decide_eq_false (by omega)⟩
      clear hD c4 f4
      obtain ⟨p2, hp2⟩ : ∃ r : PL, Hid (r = { p1 with ns := ⟨qa, qn, qc⟩ }) := ⟨_, rfl⟩
      rw [← hp2.out] at HJ
      have HF : Hid _ := HJ.out.fin
      have ep : Hid (p2 = { PL.zero with kind := 7, id := (x0 : Nat), ns := ⟨qa, qn, qc⟩ }) := by
        have := hp2.out
        rw [hp1.out, hp.out] at this
        exact this
      rcases hX with ⟨x1, x2⟩ | ⟨⟨x1, x2⟩, x3, x4⟩ | ⟨⟨x1, x2⟩, ⟨x3, x4⟩, rfl⟩
      all_goals
        go_wp2_with (first
          | refine wpList_load_row rfl 32 _ rfl (w.heap.size + 1) rfl 32 p2.cells (0, 0) _ HJ.out.b1 Try.underlying32 rfl (size32p _) ?_
          | refine wpList_store_row rfl 32 _ _ rfl w.heap.size p2.cells rfl rfl 32 PL.zero.cells HJ.out.b0 (size32p _) rfl (PL.cells_one _) ?_)
        refine bodyPost_ret (back34 _ _ _ w.heap.size rfl HF.out.1) rfl ?_
        have oo := HO.out.2.1
        rw [← HO.out.1] at oo
        exact ⟨x0, xs, ⟨qa, qn, qc⟩, k, _, by rw [ep.out], HF.out.2.1, HF.out.2.2.1, HF.out.2.2.2, own_row oo (by omega), nds_of k0.out.2.1 k5x.out hE.out⟩
end Go.Proofs.Ytnkkiepoljbhlaa
