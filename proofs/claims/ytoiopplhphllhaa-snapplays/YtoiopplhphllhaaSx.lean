/-
  The law of all runs.
-/
import Derived.Test.YtoiopplhphllhaaSw
namespace Go.Proofs.Ytoiopplhphllhaa
open Go.RowKit Go.Maps

theorem wrap64_lt (x : Int) : wrap64 x < 9223372036854775808 := by
  unfold wrap64
  omega
theorem k4 {w : World} {g : Nat} {a b c d : Value} {t : TypeId} (h : w.heap[g]? = some (.cells #[a, b, c, d] t (0, 0))) : w.cell? ⟨g, 0, none⟩ = some a ∧ w.cell? ⟨g, 1, none⟩ = some b ∧ w.cell? ⟨g, 2, none⟩ = some c ∧ w.cell? ⟨g, 3, none⟩ = some d :=
  ⟨Lib.cell_of_heap h 0, Lib.cell_of_heap h 1, Lib.cell_of_heap h 2, Lib.cell_of_heap h 3⟩
theorem clean_pw {w0 wr : World} {tg : Nat → Tg} {pb pw pm : Nat} {D : DK} {s : CP} {W M : PT} (h : PW w0 wr tg pb D s pw pm W M) :
    Calls Try.prog 14 #[.pointer (some ⟨pb, 0, none⟩)] wr fun e w' => ∃ (r : Int) (D' : DK), e = .returned (.int .i64 r) ∧ (r = 0 ∨ r = 11 ∧ D'.down = true) ∧ PW w0 w' tg pb D' s pw pm W M := by
  obtain ⟨y, hy⟩ := h.fs
  refine (clean_any h.a.d hy).mono ?_
  rintro e w' ⟨rfl, d, st⟩
  by_cases hd : D.down = true
  · have e : cleanD D = (11, D) := by unfold cleanD; rw [if_pos hd]
    rw [e] at d ⊢
    exact ⟨11, D, rfl, .inr ⟨rfl, hd⟩, h.step d st h.fs⟩
  · rcases clean_N (show D.down = false by simpa using hd) hy with ⟨x1, x2, x3, x4⟩ | ⟨x1, x2, x3, x4⟩
    · exact ⟨_, _, rfl, .inl x1, h.step d st ⟨_, x2⟩⟩
    · exact ⟨_, _, rfl, .inr ⟨x1, x2⟩, h.step d st x4⟩
theorem fitE_vals (n : Int) (ps : List (List UInt8)) : fitE n ps = 0 ∨ fitE n ps = 1 ∨ fitE n ps = 2 ∨ fitE n ps = 6 := by
  unfold fitE
  split
  · exact .inr (.inr (.inl rfl))
  · split
    · exact .inr (.inl rfl)
    · split
      · exact .inr (.inr (.inr rfl))
      · exact .inl rfl
/-- what a Save in a run leaves -/
structure SvR (w0 : World) (pb pw pm ob : Nat) (s : CP) (W M : PT) (o : OPc) (r : Int) (w' : World) (tg' : Nat → Tg) (D' : DK) : Prop where
  ob_ : w'.heap[ob]? = some (.cells #[.int .i64 o.kind, .int .i64 o.n, .slice o.q o.l.length o.c, .slice o.a o.ch.length o.d] 32 (0, 0))
  pw_ : w'.heap[pw]? = some (.cells #[.bool W.i, .int .i64 W.n, .slice W.q W.m W.c] 29 (0, 0))
  pm_ : w'.heap[pm]? = some (.cells #[.bool M.i, .int .i64 M.n, .slice M.q M.m M.c] 29 (0, 0))
  b : Below w0.heap.size w0 w'
  dw : Calls Try.prog 13 #[.pointer (some ⟨pb, 0, none⟩)] w' fun e w2 => e = .returned (.bool D'.down) ∧ w2 = w'
  al : (r = 11 ∧ D'.down = true ∧ PW w0 w' tg' pb D' s pw pm W M) ∨ (r = fitE o.n (o.l.map RC.b) ∧ r ≠ 0 ∧ r ≠ 11 ∧ PW w0 w' tg' pb D' s pw pm W M) ∨ (r = 0 ∧ fitE o.n (o.l.map RC.b) = 0 ∧ ∃ s', PW w0 (((w'.setCell ⟨pw, 0, none⟩ (.bool true)).setCell ⟨pw, 1, none⟩ (.int .i64 o.n)).setCell ⟨pw, 2, none⟩ (.slice o.q o.l.length o.c)) tg' pb D' s' pw pm ⟨true, o.n, o.q, o.l.length, o.c⟩ M)
theorem save_pw {w0 wr : World} {tg : Nat → Tg} {pb pw pm ob : Nat} {D : DK} {s : CP} {W M : PT} {o : OPc} (h : PW w0 wr tg pb D s pw pm W M) (ho : OPok w0 o) (hob : wr.heap[ob]? = some (.cells #[.int .i64 o.kind, .int .i64 o.n, .slice o.q o.l.length o.c, .slice o.a o.ch.length o.d] 32 (0, 0))) (tob : tg ob = .no) :
    Calls Try.prog 11 #[.pointer (some ⟨pb, 0, none⟩), .int .i64 o.n, .slice o.q o.l.length o.c] wr fun e w' => ∃ (r : Int) (tg' : Nat → Tg) (D' : DK), e = .returned (.int .i64 r) ∧ SvR w0 pb pw pm ob s W M o r w' tg' D' := by
  obtain ⟨y, hy⟩ := h.fs
  refine (save_any h.a.d o.n o.l o.q o.c _ rfl (by have := ho.b1; omega) (ho.ps.keep h.a.b)).mono ?_
  rintro e w' ⟨rfl, tg', d, st⟩
  have a' := h.a.step d st
  have hdw : ∀ E : DK, Dsk w' tg' pb E → Calls Try.prog 13 #[.pointer (some ⟨pb, 0, none⟩)] w' fun e w2 => e = .returned (.bool E.down) ∧ w2 = w' := fun E hE => by
    obtain ⟨_, _, _, dd⟩ := hE
    exact down_at w' pb _ _ _ _ dd.cell
  refine ⟨_, tg', _, rfl, (step_blk st hob tob).1, (step_blk st h.w h.tw).1, (step_blk st h.m h.tm).1, a'.b, hdw _ d, ?_⟩
  by_cases hd : D.down = true
  · rw [save_down hd] at d ⊢
    exact .inl ⟨rfl, hd, h.step d st h.fs⟩
  · have hd' : D.down = false := by simpa using hd
    by_cases hf : fitE o.n (o.l.map RC.b) = 0
    · rcases save_N hd' hy o.n (o.l.map RC.b) hf with ⟨x1, x2, x3, x4⟩ | ⟨x1, x2, x3, x4⟩
      · refine .inr (.inr ⟨x1, hf, some (o.n.toNat, o.l.map RC.b), ?_⟩)
        exact h.stepW (s' := some (o.n.toNat, o.l.map RC.b)) d st ⟨_, x2⟩ (by show fitE (o.n.toNat : Nat) (o.l.map RC.b) = 0; rw [fit_nat hf]; exact hf) ⟨true, o.n, o.q, o.l.length, o.c⟩ ⟨o.l, rfl, ho.ps, .inr ⟨o.n.toNat, rfl, rfl, (fit_nat hf).symm⟩⟩
      · exact .inl ⟨x1, x2, h.step d st x4⟩
    · rw [save_no hd' _ _ hf] at d ⊢
      refine .inr (.inl ⟨rfl, hf, ?_, h.step d st h.fs⟩)
      show fitE o.n (o.l.map RC.b) ≠ 11
      rcases fitE_vals o.n (o.l.map RC.b) with e | e | e | e <;> rw [e] <;> decide
set_option maxHeartbeats 8000000 in
set_option maxRecDepth 100000 in
theorem plays_law (q : Option Addr) (m c : Nat) (os : List OPc) (w : World) (hl : Hid (os.length = m)) (hm : m ≤ 140737488355328) (hS : Hid (Scr w q os)) :
    Calls Try.prog 3 #[.slice q m c] w fun e w' => e = .returned (.bool true) ∧ Below w.heap.size w w' := by
  have H8 : Hid (∀ w, Calls Try.prog 8 #[] w fun e w' => e = .returned (.bool true) ∧ Below w.heap.size w w') := fun w => awake_any w
  go_enter Try.func3, Try.ntmps3
  go_wp2_with (go_at_call 8; refine (H8.out _).mono ?_)
  rintro e w1 ⟨rfl, b1⟩
  have y1 : Hid (Below w.heap.size w w1) := b1
  have H9 : Hid (Calls Try.prog 9 #[.slice q m c] w1 fun e w' => FewR w1 e w') := few_any os q m c w1 hl.out hm (hS.out.keep b1)
  clear b1
  go_wp2_with (go_at_call 9; refine H9.out.mono ?_)
  rintro e w2 ⟨bb, rfl, rfl⟩
  cases bb with
  | false =>
    go_wp2_with (go_at_call 8; refine (H8.out _).mono ?_)
    rintro e w3 ⟨rfl, b3⟩
    go_wp2_with fail
    go_ret
    exact ⟨rfl, below_from y1.out b3 y1.out.size⟩
  | true =>
  go_wp2_with (go_at_call 10; refine (new_law w w2 y1.out).mono ?_)
  rintro e w3 ⟨pb, rfl, tg3, a3⟩
  have PW0 : Hid (PW w ((w3.alloc (.cells #[.bool false, .int .i64 0, .slice none 0 0] 29)).alloc (.cells #[.bool false, .int .i64 0, .slice none 0 0] 29)) tg3 pb DK.new none w3.heap.size (w3.heap.size + 1) ⟨false, 0, none, 0, 0⟩ ⟨false, 0, none, 0, 0⟩) := by
    have b4 : Below w3.heap.size w3 ((w3.alloc (.cells #[.bool false, .int .i64 0, .slice none 0 0] 29)).alloc (.cells #[.bool false, .int .i64 0, .slice none 0 0] 29)) := ((Below.refl _ w3).alloc (Nat.le_refl _) _).alloc (by simp) _
    have hn := new0 (w := w3.alloc (.cells #[.bool false, .int .i64 0, .slice none 0 0] 29)) (o := .cells #[.bool false, .int .i64 0, .slice none 0 0] 29)
    rw [show (w3.alloc (.cells #[.bool false, .int .i64 0, .slice none 0 0] 29)).heap.size = w3.heap.size + 1 by simp] at hn
    exact ⟨a3.keep b4, ⟨none, rfl⟩, trivial, at_alloc new0, hn, no_of fun e => by have := a3.d.lt e; omega, no_of fun e => by have := a3.d.lt e; omega, a3.b.size, by have := a3.b.size; omega, by omega, [], rfl, pcs_nil _, .inl ⟨rfl, rfl⟩⟩
  clear a3 H9 H8 y1
  go_wp2_with fail
  generalize (w3.alloc (.cells #[.bool false, .int .i64 0, .slice none 0 0] 29)).alloc (.cells #[.bool false, .int .i64 0, .slice none 0 0] 29) = w4 at *
  obtain ⟨pm, hpm⟩ : ∃ pm, pm = w3.heap.size + 1 := ⟨_, rfl⟩
  rw [← hpm] at PW0 ⊢
  clear hpm
  generalize w3.heap.size = pw at *
  go_loopw [6] (fun i wr => ∃ (k : Nat) (tg : Nat → Tg) (D : DK) (s : CP) (W M : PT), k ≤ m ∧ i = .int .i64 k ∧ PW w wr tg pb D s pw pm W M) (fun i _ => m - (intOf i).toNat)
  case atStart => exact ⟨0, tg3, _, _, _, _, Nat.zero_le _, rfl, PW0.out⟩
  case round =>
    obtain ⟨k, tg, D, s, W, M, hk, rfl, hPW⟩ := hrel
    have HP : Hid (PW w wr tg pb D s pw pm W M) := hPW
    clear hPW
    by_cases hlt : ¬ k < m
    · have hi : ¬ (k : Int) < (m : Int) := by omega
      go_wp2_with fail
      go_ret
      exact ⟨rfl, HP.out.a.b⟩
    have hi : (k : Int) < (m : Int) := by omega
    obtain ⟨o, g, f, ho, rfl, hok, x0, x1, x2, x3⟩ := (hS.out.keep HP.out.a.b).at (k := k) (by have := hl.out; omega)
    have HO : Hid (OPok w o) := hS.out.each o (List.mem_of_getElem? ho)
    have b1 : Below wr.heap.size wr (wr.alloc (.cells #[.int .i64 o.kind, .int .i64 o.n, .slice o.q o.l.length o.c, .slice o.a o.ch.length o.d] 32)) := (Below.refl _ wr).alloc (Nat.le_refl _) _
    have HP1 : Hid (PW w (wr.alloc (.cells #[.int .i64 o.kind, .int .i64 o.n, .slice o.q o.l.length o.c, .slice o.a o.ch.length o.d] 32)) tg pb D s pw pm W M) := HP.out.keep b1
    have NX : Hid (∀ (tg' : Nat → Tg) (D' : DK) (s' : CP) (W' M' : PT) (w' : World), PW w w' tg' pb D' s' pw pm W' M' → (∃ (k1 : Nat) (tg : Nat → Tg) (D : DK) (s : CP) (W M : PT), k1 ≤ m ∧ Value.int .i64 ((k : Int) + 1) = .int .i64 k1 ∧ PW w w' tg pb D s pw pm W M)) := fun tg' D' s' W' M' w' h => ⟨k + 1, tg', D', s', W', M', by omega, by go_num, h⟩
    clear hok ho b1
    by_cases k5 : (o.kind == 1) = false ∧ (o.kind == 3) = false ∧ (o.kind == 4) = false ∧ (o.kind == 5) = false
    · obtain ⟨c1, c3, c4, c5⟩ := k5
      obtain ⟨e0, e1, e2⟩ := k3 HP1.out.w
      have H17 : Hid (Calls Try.prog 17 #[.pointer (some ⟨pb, 0, none⟩), .agg #[.bool W.i, .int .i64 W.n, .slice W.q W.m W.c]] (wr.alloc (.cells #[.int .i64 o.kind, .int .i64 o.n, .slice o.q o.l.length o.c, .slice o.a o.ch.length o.d] 32)) fun e w' => e = .returned (.bool true) ∧ Below (wr.alloc (.cells #[.int .i64 o.kind, .int .i64 o.n, .slice o.q o.l.length o.c, .slice o.a o.ch.length o.d] 32)).heap.size (wr.alloc (.cells #[.int .i64 o.kind, .int .i64 o.n, .slice o.q o.l.length o.c, .slice o.a o.ch.length o.d] 32)) w') := HP1.out.is
      go_wp2_with (go_at_call 17; refine H17.out.mono ?_)
      first | rintro e w5 rfl b5 | rintro e w5 ⟨rfl, b5⟩
      have b5' : Below (wr.alloc (.cells #[.int .i64 o.kind, .int .i64 o.n, .slice o.q o.l.length o.c, .slice o.a o.ch.length o.d] 32)).heap.size (wr.alloc (.cells #[.int .i64 o.kind, .int .i64 o.n, .slice o.q o.l.length o.c, .slice o.a o.ch.length o.d] 32)) w5 := by simpa using b5
      have P5 : Hid (PW w w5 tg pb D s pw pm W M) := HP1.out.keep b5'
      clear b5 b5' H17 e0 e1 e2
      go_wp2_with fail
      exact ⟨NX.out _ _ _ _ _ _ P5.out, by simp [intOf]; omega⟩
    by_cases k4' : o.kind = 4
    · have c1 : (o.kind == 1) = false := by rw [k4']; rfl
      have c3 : (o.kind == 3) = false := by rw [k4']; rfl
      have c4 : (o.kind == 4) = true := by rw [k4']; rfl
      have H15 : Hid (∀ z : Int, z < 9223372036854775808 → Calls Try.prog 15 #[.pointer (some ⟨pb, 0, none⟩), .int .i64 z] (wr.alloc (.cells #[.int .i64 o.kind, .int .i64 o.n, .slice o.q o.l.length o.c, .slice o.a o.ch.length o.d] 32)) fun e w' => e = .returned (.tuple #[]) ∧ PW w w' tg pb (setF D z) s pw pm W M) := by
        intro z hz
        refine (setfuse_any z hz HP1.out.a.d).mono ?_
        rintro e w' ⟨rfl, dd, st⟩
        exact ⟨rfl, HP1.out.step dd st HP1.out.fs⟩
      clear k4' k5
      go_wp2_with (go_at_call 15; refine (H15.out _ (wrap64_lt _)).mono ?_)
      first | rintro e w5 rfl p5 | rintro e w5 ⟨rfl, p5⟩
      obtain ⟨e0, e1, e2⟩ := k3 p5.w
      have H17 : Hid (Calls Try.prog 17 #[.pointer (some ⟨pb, 0, none⟩), .agg #[.bool W.i, .int .i64 W.n, .slice W.q W.m W.c]] w5 fun e w' => e = .returned (.bool true) ∧ Below w5.heap.size w5 w') := p5.is
      generalize hse : setF D _ = D5 at *
      have P5 : Hid (PW w w5 tg pb D5 s pw pm W M) := p5
      clear p5 H15 hse
      go_wp2_with (go_at_call 17; refine H17.out.mono ?_)
      first | rintro e w6 rfl b6 | rintro e w6 ⟨rfl, b6⟩
      have P6 : Hid (PW w w6 tg pb D5 s pw pm W M) := P5.out.keep b6
      clear b6 H17 e0 e1 e2
      go_wp2_with fail
      exact ⟨NX.out _ _ _ _ _ _ P6.out, by simp [intOf]; omega⟩
    by_cases k3' : o.kind = 3
    · have c1 : (o.kind == 1) = false := by rw [k3']; rfl
      have c3 : (o.kind == 3) = true := by rw [k3']; rfl
      have H14 : Hid (Calls Try.prog 14 #[.pointer (some ⟨pb, 0, none⟩)] (wr.alloc (.cells #[.int .i64 o.kind, .int .i64 o.n, .slice o.q o.l.length o.c, .slice o.a o.ch.length o.d] 32)) fun e w' => ∃ (r : Int) (D' : DK), e = .returned (.int .i64 r) ∧ (r = 0 ∨ r = 11 ∧ D'.down = true) ∧ PW w w' tg pb D' s pw pm W M) := clean_pw HP1.out
      clear k3' k5 k4'
      go_wp2_with (go_at_call 14; refine H14.out.mono ?_)
      first | rintro e w5 r5 D5 rfl al5 p5 | rintro e w5 ⟨r5, D5, rfl, al5, p5⟩
      have P5 : Hid (PW w w5 tg pb D5 s pw pm W M) := p5
      rcases al5 with rfl | ⟨rfl, hd5⟩
      · clear p5 H14
        obtain ⟨e0, e1, e2⟩ := k3 P5.out.w
        have H17 : Hid (Calls Try.prog 17 #[.pointer (some ⟨pb, 0, none⟩), .agg #[.bool W.i, .int .i64 W.n, .slice W.q W.m W.c]] w5 fun e w' => e = .returned (.bool true) ∧ Below w5.heap.size w5 w') := P5.out.is
        go_wp2_with (go_at_call 17; refine H17.out.mono ?_)
        first | rintro e w6 rfl b6 | rintro e w6 ⟨rfl, b6⟩
        have P6 : Hid (PW w w6 tg pb D5 s pw pm W M) := P5.out.keep b6
        clear b6 H17 e0 e1 e2
        go_wp2_with fail
        exact ⟨NX.out _ _ _ _ _ _ P6.out, by simp [intOf]; omega⟩
      · have H13 : Hid (Calls Try.prog 13 #[.pointer (some ⟨pb, 0, none⟩)] w5 fun e w' => e = .returned (.bool true) ∧ w' = w5) := p5.down true hd5
        clear p5 H14 hd5
        go_wp2_with (go_at_call 13; refine H13.out.mono ?_)
        first | rintro e w5' rfl rfl | rintro e w5' ⟨rfl, rfl⟩
        obtain ⟨e0, e1, e2⟩ := k3 P5.out.w
        have H17 : Hid (Calls Try.prog 17 #[.pointer (some ⟨pb, 0, none⟩), .agg #[.bool W.i, .int .i64 W.n, .slice W.q W.m W.c]] w5' fun e w' => e = .returned (.bool true) ∧ Below w5'.heap.size w5' w') := P5.out.is
        go_wp2_with (go_at_call 17; refine H17.out.mono ?_)
        first | rintro e w6 rfl b6 | rintro e w6 ⟨rfl, b6⟩
        have P6 : Hid (PW w w6 tg pb D5 s pw pm W M) := P5.out.keep b6
        clear b6 H17 e0 e1 e2
        go_wp2_with fail
        exact ⟨NX.out _ _ _ _ _ _ P6.out, by simp [intOf]; omega⟩
    by_cases k5' : o.kind = 5
    · have c1 : (o.kind == 1) = false := by rw [k5']; rfl
      have c3 : (o.kind == 3) = false := by rw [k5']; rfl
      have c4 : (o.kind == 4) = false := by rw [k5']; rfl
      have c5 : (o.kind == 5) = true := by rw [k5']; rfl
      have H16 : Hid (Calls Try.prog 16 #[.pointer (some ⟨pb, 0, none⟩), .slice o.a o.ch.length o.d] (wr.alloc (.cells #[.int .i64 o.kind, .int .i64 o.n, .slice o.q o.l.length o.c, .slice o.a o.ch.length o.d] 32)) fun e w' => e = .returned (.tuple #[]) ∧ PW w w' tg pb (restartD D o.ch) s pw pm W M) := by
        refine (restart_any HP1.out.a.d o.ch o.a _ o.d rfl HO.out.hd (HP1.out.a.off HO.out.chs)).mono ?_
        rintro e w' ⟨rfl, dd, st⟩
        obtain ⟨y, hy⟩ := HP1.out.fs
        obtain ⟨y', e1, -⟩ := restart_N hy o.ch
        exact ⟨rfl, HP1.out.step dd st ⟨y', e1⟩⟩
      generalize restartD D o.ch = D5 at *
      clear k3' k5 k4' k5'
      go_wp2_with (go_at_call 16; refine H16.out.mono ?_)
      first | rintro e w5 rfl p5 | rintro e w5 ⟨rfl, p5⟩
      have P5 : Hid (PW w w5 tg pb D5 s pw pm W M) := p5
      obtain ⟨m0, m1, m2⟩ := k3 p5.m
      clear p5 H16
      by_cases hmi : M.i = true
      · rw [hmi] at m0
        obtain ⟨e0, e1, e2⟩ := k3 P5.out.w
        have H17 : Hid (Calls Try.prog 17 #[.pointer (some ⟨pb, 0, none⟩), .agg #[.bool W.i, .int .i64 W.n, .slice W.q W.m W.c]] w5 fun e w' => e = .returned (.bool true) ∧ Below w5.heap.size w5 w') := P5.out.is
        go_wp2_with (go_at_call 17; refine H17.out.mono ?_)
        first | rintro e w6 rfl b6 | rintro e w6 ⟨rfl, b6⟩
        have P6 : Hid (PW w w6 tg pb D5 s pw pm W M) := P5.out.keep b6
        clear b6 H17 e0 e1 e2 m0 m1 m2
        have P7 : Hid (PW w (((w6.setCell ⟨pm, 0, none⟩ (.bool false)).setCell ⟨pm, 1, none⟩ (.int .i64 0)).setCell ⟨pm, 2, none⟩ (.slice none 0 0)) tg pb D5 s pw pm W ⟨false, 0, none, 0, 0⟩) := P6.out.setM ⟨false, 0, none, 0, 0⟩
        obtain ⟨e0, e1, e2⟩ := k3 P7.out.w
        have H17 : Hid (Calls Try.prog 17 #[.pointer (some ⟨pb, 0, none⟩), .agg #[.bool W.i, .int .i64 W.n, .slice W.q W.m W.c]] (((w6.setCell ⟨pm, 0, none⟩ (.bool false)).setCell ⟨pm, 1, none⟩ (.int .i64 0)).setCell ⟨pm, 2, none⟩ (.slice none 0 0)) fun e w' => e = .returned (.bool true) ∧ Below (((w6.setCell ⟨pm, 0, none⟩ (.bool false)).setCell ⟨pm, 1, none⟩ (.int .i64 0)).setCell ⟨pm, 2, none⟩ (.slice none 0 0)).heap.size (((w6.setCell ⟨pm, 0, none⟩ (.bool false)).setCell ⟨pm, 1, none⟩ (.int .i64 0)).setCell ⟨pm, 2, none⟩ (.slice none 0 0)) w') := P7.out.is
        have zm := k3 P6.out.m
        obtain ⟨m0, m1, m2⟩ := zm
        have f0 := fz P6.out.m 0
        have f1 := fz P6.out.m 1
        have f2 := fz P6.out.m 2
        go_wp2_with (go_at_call 17; refine H17.out.mono ?_)
        first | rintro e w8 rfl b8 | rintro e w8 ⟨rfl, b8⟩
        have b8' : Below (((w6.setCell ⟨pm, 0, none⟩ (.bool false)).setCell ⟨pm, 1, none⟩ (.int .i64 0)).setCell ⟨pm, 2, none⟩ (.slice none 0 0)).heap.size (((w6.setCell ⟨pm, 0, none⟩ (.bool false)).setCell ⟨pm, 1, none⟩ (.int .i64 0)).setCell ⟨pm, 2, none⟩ (.slice none 0 0)) w8 := by simpa [World.setCell] using b8
        have P8 : Hid (PW w w8 tg pb D5 s pw pm W ⟨false, 0, none, 0, 0⟩) := P7.out.keep b8'
        clear b8 b8' H17 e0 e1 e2 m0 m1 m2 f0 f1 f2
        go_wp2_with fail
        exact ⟨NX.out _ _ _ _ _ _ P8.out, by simp [intOf]; omega⟩
      · rw [show M.i = false by simpa using hmi] at m0
        clear m1 m2
        have P7 : Hid (PW w (((w5.setCell ⟨pm, 0, none⟩ (.bool false)).setCell ⟨pm, 1, none⟩ (.int .i64 0)).setCell ⟨pm, 2, none⟩ (.slice none 0 0)) tg pb D5 s pw pm W ⟨false, 0, none, 0, 0⟩) := P5.out.setM ⟨false, 0, none, 0, 0⟩
        obtain ⟨e0, e1, e2⟩ := k3 P7.out.w
        have H17 : Hid (Calls Try.prog 17 #[.pointer (some ⟨pb, 0, none⟩), .agg #[.bool W.i, .int .i64 W.n, .slice W.q W.m W.c]] (((w5.setCell ⟨pm, 0, none⟩ (.bool false)).setCell ⟨pm, 1, none⟩ (.int .i64 0)).setCell ⟨pm, 2, none⟩ (.slice none 0 0)) fun e w' => e = .returned (.bool true) ∧ Below (((w5.setCell ⟨pm, 0, none⟩ (.bool false)).setCell ⟨pm, 1, none⟩ (.int .i64 0)).setCell ⟨pm, 2, none⟩ (.slice none 0 0)).heap.size (((w5.setCell ⟨pm, 0, none⟩ (.bool false)).setCell ⟨pm, 1, none⟩ (.int .i64 0)).setCell ⟨pm, 2, none⟩ (.slice none 0 0)) w') := P7.out.is
        have zm := k3 P5.out.m
        obtain ⟨m0, m1, m2⟩ := zm
        have f0 := fz P5.out.m 0
        have f1 := fz P5.out.m 1
        have f2 := fz P5.out.m 2
        go_wp2_with (go_at_call 17; refine H17.out.mono ?_)
        first | rintro e w8 rfl b8 | rintro e w8 ⟨rfl, b8⟩
        have b8' : Below (((w5.setCell ⟨pm, 0, none⟩ (.bool false)).setCell ⟨pm, 1, none⟩ (.int .i64 0)).setCell ⟨pm, 2, none⟩ (.slice none 0 0)).heap.size (((w5.setCell ⟨pm, 0, none⟩ (.bool false)).setCell ⟨pm, 1, none⟩ (.int .i64 0)).setCell ⟨pm, 2, none⟩ (.slice none 0 0)) w8 := by simpa [World.setCell] using b8
        have P8 : Hid (PW w w8 tg pb D5 s pw pm W ⟨false, 0, none, 0, 0⟩) := P7.out.keep b8'
        clear b8 b8' H17 e0 e1 e2 m0 m1 m2 f0 f1 f2
        go_wp2_with fail
        exact ⟨NX.out _ _ _ _ _ _ P8.out, by simp [intOf]; omega⟩
    have k1' : o.kind = 1 := by
      refine Decidable.by_contra fun h1 => k5 ⟨by simpa using h1, by simpa using k3', by simpa using k4', by simpa using k5'⟩
    have c1 : (o.kind == 1) = true := by rw [k1']; rfl
    clear k5 k3' k4' k5' k1'
    have T0 : tg wr.heap.size = .no := no_of fun e => Nat.lt_irrefl _ (HP.out.a.d.lt e)
    have H11 : Hid (Calls Try.prog 11 #[.pointer (some ⟨pb, 0, none⟩), .int .i64 o.n, .slice o.q o.l.length o.c] (wr.alloc (.cells #[.int .i64 o.kind, .int .i64 o.n, .slice o.q o.l.length o.c, .slice o.a o.ch.length o.d] 32)) fun e w' => ∃ (r : Int) (tg' : Nat → Tg) (D' : DK), e = .returned (.int .i64 r) ∧ SvR w pb pw pm wr.heap.size s W M o r w' tg' D') := save_pw HP1.out HO.out new0 T0
    clear T0
    go_wp2_with (go_at_call 11; refine H11.out.mono ?_)
    first | rintro e w5 r5 tg5 D5 rfl sv | rintro e w5 ⟨r5, tg5, D5, rfl, sv⟩
    have SV : Hid (SvR w pb pw pm wr.heap.size s W M o r5 w5 tg5 D5) := sv
    obtain ⟨z0, z1, z2, z3⟩ := k4 sv.ob_
    have hob : wr.heap.size < w5.heap.size := block_lt_of_cell z0
    have H12 : Hid (Calls Try.prog 12 #[.int .i64 o.n, .slice o.q o.l.length o.c] w5 fun e w' => e = .returned (.int .i64 (fitE o.n (o.l.map RC.b))) ∧ w' = w5) := fits_any o.n o.l o.q o.c _ w5 rfl HO.out.b1 (HO.out.ps.keep sv.b)
    have hal := sv.al
    generalize hfe : fitE o.n (o.l.map RC.b) = fe at *
    clear sv H11 x0 x1 x2 x3
    rcases hal with ⟨rfl, hd, hp⟩ | ⟨hr, hr0, hr11, hp⟩ | ⟨rfl, hf0, s', hp⟩
    · have P5 : Hid (PW w w5 tg5 pb D5 s pw pm W M) := hp
      have H13 : Hid (Calls Try.prog 13 #[.pointer (some ⟨pb, 0, none⟩)] w5 fun e w' => e = .returned (.bool true) ∧ w' = w5) := hp.down true hd
      obtain ⟨m0, m1, m2⟩ := k3 hp.m
      have f0 := fz hp.m 0
      have f1 := fz hp.m 1
      have f2 := fz hp.m 2
      clear hp hd hfe
      by_cases h0 : fe = 0
      · subst h0
        by_cases hmi : M.i = true
        · rw [hmi] at m0
          go_wp2_with (first
            | (go_at_call 12; refine H12.out.mono ?_; first | rintro e w5' rfl rfl | rintro e w5' ⟨rfl, rfl⟩)
            | (go_at_call 13; refine H13.out.mono ?_; first | rintro e w5' rfl rfl | rintro e w5' ⟨rfl, rfl⟩))
          exact ⟨NX.out _ _ _ _ _ _ P5.out, by simp [intOf]; omega⟩
        · rw [show M.i = false by simpa using hmi] at m0
          have P6 : Hid (PW w (((w5.setCell ⟨pm, 0, none⟩ (.bool true)).setCell ⟨pm, 1, none⟩ (.int .i64 o.n)).setCell ⟨pm, 2, none⟩ (.slice o.q o.l.length o.c)) tg5 pb D5 s pw pm W ⟨true, o.n, o.q, o.l.length, o.c⟩) := P5.out.setM ⟨true, o.n, o.q, o.l.length, o.c⟩
          go_wp2_with (first
            | (go_at_call 12; refine H12.out.mono ?_; first | rintro e w5' rfl rfl | rintro e w5' ⟨rfl, rfl⟩)
            | (go_at_call 13; refine H13.out.mono ?_; first | rintro e w5' rfl rfl | rintro e w5' ⟨rfl, rfl⟩))
          exact ⟨NX.out _ _ _ _ _ _ P6.out, by simp [intOf]; omega⟩
      · have h0' : (fe == 0) = false := by simpa using h0
        go_wp2_with (first
          | (go_at_call 12; refine H12.out.mono ?_; first | rintro e w5' rfl rfl | rintro e w5' ⟨rfl, rfl⟩)
          | (go_at_call 13; refine H13.out.mono ?_; first | rintro e w5' rfl rfl | rintro e w5' ⟨rfl, rfl⟩))
        exact ⟨NX.out _ _ _ _ _ _ P5.out, by simp [intOf]; omega⟩
    · subst hr
      have P5 : Hid (PW w w5 tg5 pb D5 s pw pm W M) := hp
      have h0' : (r5 == 0) = false := by simpa using hr0
      have h1' : (r5 == 11) = false := by simpa using hr11
      obtain ⟨e0, e1, e2⟩ := k3 hp.w
      have H17 : Hid (Calls Try.prog 17 #[.pointer (some ⟨pb, 0, none⟩), .agg #[.bool W.i, .int .i64 W.n, .slice W.q W.m W.c]] w5 fun e w' => e = .returned (.bool true) ∧ Below w5.heap.size w5 w') := hp.is
      clear hp hfe
      go_wp2_with (go_at_call 12; refine H12.out.mono ?_)
      first | rintro e w5' rfl rfl | rintro e w5' ⟨rfl, rfl⟩
      go_wp2_with (go_at_call 17; refine H17.out.mono ?_)
      first | rintro e w6 rfl b6 | rintro e w6 ⟨rfl, b6⟩
      have P6 : Hid (PW w w6 tg5 pb D5 s pw pm W M) := P5.out.keep b6
      clear b6 H17 e0 e1 e2
      go_wp2_with fail
      exact ⟨NX.out _ _ _ _ _ _ P6.out, by simp [intOf]; omega⟩
    · subst hf0
      have P6 : Hid (PW w (((w5.setCell ⟨pw, 0, none⟩ (.bool true)).setCell ⟨pw, 1, none⟩ (.int .i64 o.n)).setCell ⟨pw, 2, none⟩ (.slice o.q o.l.length o.c)) tg5 pb D5 s' pw pm ⟨true, o.n, o.q, o.l.length, o.c⟩ M) := hp
      obtain ⟨e0, e1, e2⟩ := k3 hp.w
      obtain ⟨m0, m1, m2⟩ := k3 SV.out.pw_
      have f0 := fz SV.out.pw_ 0
      have f1 := fz SV.out.pw_ 1
      have f2 := fz SV.out.pw_ 2
      have H17 : Hid (Calls Try.prog 17 #[.pointer (some ⟨pb, 0, none⟩), .agg #[.bool true, .int .i64 o.n, .slice o.q o.l.length o.c]] (((w5.setCell ⟨pw, 0, none⟩ (.bool true)).setCell ⟨pw, 1, none⟩ (.int .i64 o.n)).setCell ⟨pw, 2, none⟩ (.slice o.q o.l.length o.c)) fun e w' => e = .returned (.bool true) ∧ Below (((w5.setCell ⟨pw, 0, none⟩ (.bool true)).setCell ⟨pw, 1, none⟩ (.int .i64 o.n)).setCell ⟨pw, 2, none⟩ (.slice o.q o.l.length o.c)).heap.size (((w5.setCell ⟨pw, 0, none⟩ (.bool true)).setCell ⟨pw, 1, none⟩ (.int .i64 o.n)).setCell ⟨pw, 2, none⟩ (.slice o.q o.l.length o.c)) w') := hp.is
      clear hp hfe
      go_wp2_with (go_at_call 12; refine H12.out.mono ?_)
      first | rintro e w5' rfl rfl | rintro e w5' ⟨rfl, rfl⟩
      go_wp2_with (go_at_call 17; refine H17.out.mono ?_)
      first | rintro e w6 rfl b6 | rintro e w6 ⟨rfl, b6⟩
      have b6' : Below (((w5'.setCell ⟨pw, 0, none⟩ (.bool true)).setCell ⟨pw, 1, none⟩ (.int .i64 o.n)).setCell ⟨pw, 2, none⟩ (.slice o.q o.l.length o.c)).heap.size (((w5'.setCell ⟨pw, 0, none⟩ (.bool true)).setCell ⟨pw, 1, none⟩ (.int .i64 o.n)).setCell ⟨pw, 2, none⟩ (.slice o.q o.l.length o.c)) w6 := by simpa [World.setCell] using b6
      have P7 : Hid (PW w w6 tg5 pb D5 s' pw pm ⟨true, o.n, o.q, o.l.length, o.c⟩ M) := P6.out.keep b6'
      clear b6 b6' H17 e0 e1 e2 m0 m1 m2
      go_wp2_with fail
      exact ⟨NX.out _ _ _ _ _ _ P7.out, by simp [intOf]; omega⟩
end Go.Proofs.Ytoiopplhphllhaa
