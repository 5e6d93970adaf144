/-
  The law of a crash at each operation of a Save.
-/
import Derived.Test.YtoiopplhphllhaaSu
namespace Go.Proofs.Ytoiopplhphllhaa
open Go.RowKit Go.Maps

theorem scr_two {w : World} {q q' : Option Addr} {m m' c c' : Nat} {l l' : List RC} (hl : l.length = m) (hl' : l'.length = m') (hP : Pcs w q l) (hP' : Pcs w q' l') (h1 : m ≤ 140737488355328) (h1' : m' ≤ 140737488355328) (h3 : ∀ r ∈ l, r.b.length ≤ 140737488355328) (h3' : ∀ r ∈ l', r.b.length ≤ 140737488355328) :
    Scr (w.alloc (.cells #[.int .i64 0, .int .i64 0, .slice q m c, .slice none 0 0, .int .i64 0, .int .i64 0, .slice q' m' c', .slice none 0 0] 32)) (some ⟨w.heap.size, 0, none⟩) [⟨0, 0, q, c, l, none, 0, []⟩, ⟨0, 0, q', c', l', none, 0, []⟩] := by
  subst hl hl'
  refine ⟨.inr ⟨_, 0, rfl, fun k u hu => ?_⟩, fun o ho => ?_⟩
  · have h : (w.alloc (.cells #[.int .i64 0, .int .i64 0, .slice q l.length c, .slice none 0 0, .int .i64 0, .int .i64 0, .slice q' l'.length c', .slice none 0 0] 32)).heap[w.heap.size]? = some (.cells #[.int .i64 0, .int .i64 0, .slice q l.length c, .slice none 0 0, .int .i64 0, .int .i64 0, .slice q' l'.length c', .slice none 0 0] 32 (0, 0)) := new0
    have hu' : [Value.int .i64 0, .int .i64 0, .slice q l.length c, .slice none 0 0, .int .i64 0, .int .i64 0, .slice q' l'.length c', .slice none 0 0][k]? = some u := hu
    rw [Nat.zero_add]
    match k, hu' with
    | 0, e => cases e; exact Lib.cell_of_heap h 0
    | 1, e => cases e; exact Lib.cell_of_heap h 1
    | 2, e => cases e; exact Lib.cell_of_heap h 2
    | 3, e => cases e; exact Lib.cell_of_heap h 3
    | 4, e => cases e; exact Lib.cell_of_heap h 4
    | 5, e => cases e; exact Lib.cell_of_heap h 5
    | 6, e => cases e; exact Lib.cell_of_heap h 6
    | 7, e => cases e; exact Lib.cell_of_heap h 7
    | k + 8, e => simp at e
  · have b := (Below.refl _ w).alloc (Nat.le_refl _) (.cells #[.int .i64 0, .int .i64 0, .slice q l.length c, .slice none 0 0, .int .i64 0, .int .i64 0, .slice q' l'.length c', .slice none 0 0] 32)
    simp only [List.mem_cons, List.not_mem_nil, or_false] at ho
    rcases ho with rfl | rfl
    · exact ⟨hP.keep b, .inl rfl, fun _ => rfl, Nat.le_refl _, h1, Nat.zero_le _, h3⟩
    · exact ⟨hP'.keep b, .inl rfl, fun _ => rfl, Nat.le_refl _, h1', Nat.zero_le _, h3'⟩
/-- what a Save with a fuse, and a restart, leave -/
theorem crash_N {D : DK} {y : OB} {n1 : Nat} {ps1 : List (List UInt8)} (hd : D.down = false) (h : D.fs = fsN none (fileOf (some (n1, ps1))) y) (n : Nat) (ps : List (List UInt8)) (hf : fitE n ps = 0) (ch : List UInt8) :
    ((saveD D n ps).1 = 0 ∧ ∃ y', (restartD (saveD D n ps).2 ch).fs = fsN none (fileOf (some (n, ps))) y') ∨ ((saveD D n ps).1 = 11 ∧ ∃ y', (restartD (saveD D n ps).2 ch).fs = fsN none (fileOf (some (n1, ps1))) y') := by
  rcases save_N hd h n ps hf with ⟨h1, h2, h3, h4⟩ | ⟨h1, h2, h3, y2, h4⟩
  · left
    obtain ⟨y', e, -⟩ := restart_N (s := some (n, ps)) h2 ch
    exact ⟨h1, y', e⟩
  · right
    obtain ⟨y', e, -⟩ := restart_N (s := some (n1, ps1)) h4 ch
    exact ⟨h1, y', e⟩
set_option maxHeartbeats 8000000 in
set_option maxRecDepth 100000 in
theorem all_law (q q' a : Option Addr) (m m' c c' n d : Nat) (l l' : List RC) (ch : List UInt8) (w : World) (hl : Hid (l.length = m)) (hl' : Hid (l'.length = m')) (hP : Hid (Pcs w q l)) (hP' : Hid (Pcs w q' l')) (h1 : m ≤ 140737488355328) (h1' : m' ≤ 140737488355328) (h3 : Hid (∀ r ∈ l, r.b.length ≤ 140737488355328)) (h3' : Hid (∀ r ∈ l', r.b.length ≤ 140737488355328)) (hb : Hid (ch.length = n)) (hL : Hid (Lies w a ch)) (hnd : Hid (n ≤ d)) :
    Calls Try.prog 4 #[.slice q m c, .slice q' m' c', .slice a n d] w fun e w' => e = .returned (.bool true) ∧ Below w.heap.size w w' := by
  have H8 : Hid (∀ w, Calls Try.prog 8 #[] w fun e w' => e = .returned (.bool true) ∧ Below w.heap.size w w') := fun w => awake_any w
  go_enter Try.func4, Try.ntmps4
  go_wp2_with (go_at_call 8; refine (H8.out _).mono ?_)
  rintro e w1 ⟨rfl, b1⟩
  have y2 : Hid (Below w.heap.size w (w1.alloc (.cells #[.int .i64 0, .int .i64 0, .slice q m c, .slice none 0 0, .int .i64 0, .int .i64 0, .slice q' m' c', .slice none 0 0] 32))) := b1.alloc b1.size _
  have H9 : Hid (Calls Try.prog 9 #[.slice (some ⟨w1.heap.size, 0, none⟩) 2 2] (w1.alloc (.cells #[.int .i64 0, .int .i64 0, .slice q m c, .slice none 0 0, .int .i64 0, .int .i64 0, .slice q' m' c', .slice none 0 0] 32)) fun e w' => FewR (w1.alloc (.cells #[.int .i64 0, .int .i64 0, .slice q m c, .slice none 0 0, .int .i64 0, .int .i64 0, .slice q' m' c', .slice none 0 0] 32)) e w') := few_any [⟨0, 0, q, c, l, none, 0, []⟩, ⟨0, 0, q', c', l', none, 0, []⟩] _ 2 2 _ rfl (by omega) (scr_two hl.out hl'.out (hP.out.keep b1) (hP'.out.keep b1) h1 h1' h3.out h3'.out)
  clear b1
  go_wp2_with (go_at_call 9; refine H9.out.mono ?_)
  rintro e w2 ⟨bb, rfl, rfl⟩
  generalize w1.alloc (.cells #[.int .i64 0, .int .i64 0, .slice q m c, .slice none 0 0, .int .i64 0, .int .i64 0, .slice q' m' c', .slice none 0 0] 32) = w2 at *
  cases bb with
  | false =>
    go_wp2_with (go_at_call 8; refine (H8.out _).mono ?_)
    rintro e w3 ⟨rfl, b3⟩
    go_wp2_with fail
    go_ret
    exact ⟨rfl, below_from y2.out b3 y2.out.size⟩
  | true =>
  have y4 : Hid (Below w.heap.size w ((w2.alloc (.cells #[.bool true, .int .i64 1, .slice q m c] 29)).alloc (.cells #[.bool true, .int .i64 2, .slice q' m' c'] 29))) := (y2.out.alloc y2.out.size _).alloc (by have := y2.out.size; simp; omega) _
  have PA : Hid (((w2.alloc (.cells #[.bool true, .int .i64 1, .slice q m c] 29)).alloc (.cells #[.bool true, .int .i64 2, .slice q' m' c'] 29)).heap[w2.heap.size]? = some (.cells #[.bool true, .int .i64 1, .slice q m c] 29 (0, 0))) := at_alloc new0
  have PB : Hid (((w2.alloc (.cells #[.bool true, .int .i64 1, .slice q m c] 29)).alloc (.cells #[.bool true, .int .i64 2, .slice q' m' c'] 29)).heap[w2.heap.size + 1]? = some (.cells #[.bool true, .int .i64 2, .slice q' m' c'] 29 (0, 0))) := by
    have := new0 (w := w2.alloc (.cells #[.bool true, .int .i64 1, .slice q m c] 29)) (o := .cells #[.bool true, .int .i64 2, .slice q' m' c'] 29)
    rwa [show (w2.alloc (.cells #[.bool true, .int .i64 1, .slice q m c] 29)).heap.size = w2.heap.size + 1 by simp] at this
  have HF1 : Hid (Calls Try.prog 12 #[.int .i64 1, .slice q m c] ((w2.alloc (.cells #[.bool true, .int .i64 1, .slice q m c] 29)).alloc (.cells #[.bool true, .int .i64 2, .slice q' m' c'] 29)) fun e w' => e = .returned (.int .i64 (fitE 1 (l.map RC.b))) ∧ w' = (w2.alloc (.cells #[.bool true, .int .i64 1, .slice q m c] 29)).alloc (.cells #[.bool true, .int .i64 2, .slice q' m' c'] 29)) := fits_any 1 l q c m _ hl.out h1 (hP.out.keep y4.out)
  have HF2 : Hid (Calls Try.prog 12 #[.int .i64 2, .slice q' m' c'] ((w2.alloc (.cells #[.bool true, .int .i64 1, .slice q m c] 29)).alloc (.cells #[.bool true, .int .i64 2, .slice q' m' c'] 29)) fun e w' => e = .returned (.int .i64 (fitE 2 (l'.map RC.b))) ∧ w' = (w2.alloc (.cells #[.bool true, .int .i64 1, .slice q m c] 29)).alloc (.cells #[.bool true, .int .i64 2, .slice q' m' c'] 29)) := fits_any 2 l' q' c' m' _ hl'.out h1' (hP'.out.keep y4.out)
  by_cases hf1 : ¬ fitE 1 (l.map RC.b) = 0
  · have hf1' : (fitE 1 (l.map RC.b) != 0) = true := by simpa using hf1
    generalize fitE 1 (l.map RC.b) = fe at *
    go_wp2_with (go_at_call_of 12 (Value.int .i64 1); refine HF1.out.mono ?_)
    rintro e w5 ⟨rfl, rfl⟩
    go_wp2_with fail
    go_ret
    exact ⟨rfl, y4.out⟩
  have hf1 : fitE 1 (l.map RC.b) = 0 := Decidable.not_not.1 hf1
  by_cases hf2 : ¬ fitE 2 (l'.map RC.b) = 0
  · have hf2' : (fitE 2 (l'.map RC.b) != 0) = true := by simpa using hf2
    rw [hf1] at HF1
    generalize fitE 2 (l'.map RC.b) = fe at *
    go_wp2_with (go_at_call_of 12 (Value.int .i64 1); refine HF1.out.mono ?_)
    rintro e w5 ⟨rfl, rfl⟩
    go_wp2_with (go_at_call 12; refine HF2.out.mono ?_)
    rintro e w5 ⟨rfl, rfl⟩
    go_wp2_with fail
    go_ret
    exact ⟨rfl, y4.out⟩
  have hf2 : fitE 2 (l'.map RC.b) = 0 := Decidable.not_not.1 hf2
  rw [hf1] at HF1
  rw [hf2] at HF2
  have E1 : Hid (fitE 1 (l.map RC.b) = 0) := hf1
  have E2 : Hid (fitE 2 (l'.map RC.b) = 0) := hf2
  clear hf1 hf2
  go_wp2_with (go_at_call_of 12 (Value.int .i64 1); refine HF1.out.mono ?_)
  rintro e w5 ⟨rfl, rfl⟩
  go_wp2_with (go_at_call 12; refine HF2.out.mono ?_)
  rintro e w5 ⟨rfl, rfl⟩
  clear HF1 HF2 H9 H8 y2
  generalize (w2.alloc (.cells #[.bool true, .int .i64 1, .slice q m c] 29)).alloc (.cells #[.bool true, .int .i64 2, .slice q' m' c'] 29) = w5 at *
  generalize w2.heap.size = pa at *
  go_wp2_with fail
  go_loopw [9] (fun i wr => ∃ k : Nat, k ≤ 12 ∧ i = .int .i64 k ∧ Below w.heap.size w wr ∧ wr.heap[pa]? = some (.cells #[.bool true, .int .i64 1, .slice q m c] 29 (0, 0)) ∧ wr.heap[pa + 1]? = some (.cells #[.bool true, .int .i64 2, .slice q' m' c'] 29 (0, 0))) (fun i _ => 12 - (intOf i).toNat)
  case atStart => exact ⟨0, Nat.zero_le _, rfl, y4.out, PA.out, PB.out⟩
  case round =>
    obtain ⟨k, hk, rfl, hb0, hpa, hpb⟩ := hrel
    have B0 : Hid (Below w.heap.size w wr) := hb0
    have QA : Hid (wr.heap[pa]? = some (.cells #[.bool true, .int .i64 1, .slice q m c] 29 (0, 0))) := hpa
    have QB : Hid (wr.heap[pa + 1]? = some (.cells #[.bool true, .int .i64 2, .slice q' m' c'] 29 (0, 0))) := hpb
    clear hb0 hpa hpb
    by_cases hlt : ¬ k < 12
    · have hi : ¬ (k : Int) < 12 := by omega
      go_wp2_with fail
      go_ret
      exact ⟨rfl, B0.out⟩
    have hi : (k : Int) < 12 := by omega
    have IS : Hid (∀ (W : World) (tg : Nat → Tg) (pb : Nat) (E : DK) (s : Nat × List (List UInt8)) (r1 : Nat × List (List UInt8)) (qq : Option Addr) (mm cc : Nat) (ll : List RC) (y : OB), At wr W tg pb E → E.down = false → E.fs = fsN none (fileOf (some s)) y → fitE s.1 s.2 = 0 → ll.length = mm → Pcs w qq ll → Calls Try.prog 17 #[.pointer (some ⟨pb, 0, none⟩), .agg #[.bool true, .int .i64 r1.1, .slice qq mm cc]] W fun e w' => e = .returned (.bool (decide (s.1 = r1.1 ∧ s.2 = ll.map RC.b))) ∧ Below W.heap.size W w') := by
      intro W tg pb E s r1 qq mm cc ll y hA hd hE hf hll hPP
      have := is_any hA.d (some s) (holds_N hE hf) true r1.1 qq mm cc ll hll ((hPP.keep B0.out).keep hA.b)
      rw [show isB E (some s) true r1.1 (ll.map RC.b) = decide (s.1 = r1.1 ∧ s.2 = ll.map RC.b) by
        unfold isB
        rw [if_neg (by simp [hd]), if_pos rfl]
        obtain ⟨s1, s2⟩ := s
        exact decide_eq_decide.2 (by simp [Int.natCast_inj])] at this
      exact this
    go_wp2_with (go_at_call 10; refine (new_law wr wr (Below.refl _ _)).mono ?_)
    first | rintro e w6 pb rfl tg6 a6 | rintro e w6 ⟨pb, rfl, tg6, a6⟩
    have H11 : Hid (Calls Try.prog 11 #[.pointer (some ⟨pb, 0, none⟩), .int .i64 1, .slice q m c] w6 fun e w' => e = .returned (.int .i64 0) ∧ ∃ tg' D', At wr w' tg' pb D' ∧ D'.down = false ∧ D'.fs = fsN none (fileOf (some (1, l.map RC.b))) none) := by
      refine (save_done (o := none) (x := none) (y := none) a6 1 l q c m hl.out (by omega) ((hP.out.keep B0.out).keep a6.b) rfl rfl rfl E1.out).mono ?_
      rintro e w' ⟨rfl, tg', D', x1, x2, x3, x4, x5⟩
      exact ⟨rfl, tg', D', x1, x3, x5⟩
    clear a6
    go_wp2_with (go_at_call 11; refine H11.out.mono ?_)
    first | rintro e w7 rfl tg7 D7 a7 d7 n7 | rintro e w7 ⟨rfl, tg7, D7, a7, d7, n7⟩
    have H15 : Hid (Calls Try.prog 15 #[.pointer (some ⟨pb, 0, none⟩), .int .i64 k] w7 fun e w' => e = .returned (.tuple #[]) ∧ At wr w' tg7 pb (setF D7 k)) := by
      refine (setfuse_any k (by omega) a7.d).mono ?_
      rintro e w' ⟨rfl, dd, st⟩
      exact ⟨rfl, a7.step dd st⟩
    have N8 : Hid ((setF D7 k).down = false ∧ (setF D7 k).fs = fsN none (fileOf (some (1, l.map RC.b))) none) := ⟨d7, n7⟩
    generalize setF D7 k = D8 at *
    clear a7 d7 n7 H11
    go_wp2_with (go_at_call 15; refine H15.out.mono ?_)
    first | rintro e w8 rfl a8 | rintro e w8 ⟨rfl, a8⟩
    have CR := crash_N N8.out.1 N8.out.2 2 (l'.map RC.b) E2.out ch
    have H11b : Hid (Calls Try.prog 11 #[.pointer (some ⟨pb, 0, none⟩), .int .i64 2, .slice q' m' c'] w8 fun e w' => e = .returned (.int .i64 (saveD D8 2 (l'.map RC.b)).1) ∧ ∃ tg', At wr w' tg' pb (saveD D8 2 (l'.map RC.b)).2) := by
      refine (save_law a8 2 l' q' c' m' hl'.out (by omega) ((hP'.out.keep B0.out).keep a8.b)).mono ?_
      rintro e w' ⟨rfl, tg', x1, x2⟩
      exact ⟨rfl, tg', x1⟩
    have CR' : Hid (((saveD D8 2 (l'.map RC.b)).1 = 0 ∧ ∃ y', (restartD (saveD D8 2 (l'.map RC.b)).2 ch).fs = fsN none (fileOf (some (2, l'.map RC.b))) y') ∨ ((saveD D8 2 (l'.map RC.b)).1 = 11 ∧ ∃ y', (restartD (saveD D8 2 (l'.map RC.b)).2 ch).fs = fsN none (fileOf (some (1, l.map RC.b))) y')) := CR
    generalize saveD D8 2 (l'.map RC.b) = S9 at *
    clear a8 H15 CR
    go_wp2_with (go_at_call 11; refine H11b.out.mono ?_)
    first | rintro e w9 rfl tg9 a9 | rintro e w9 ⟨rfl, tg9, a9⟩
    have H16 : Hid (Calls Try.prog 16 #[.pointer (some ⟨pb, 0, none⟩), .slice a n d] w9 fun e w' => e = .returned (.tuple #[]) ∧ At wr w' tg9 pb (restartD S9.2 ch)) := by
      have hoff : LiesOff w9 tg9 a ch := a9.off (hL.out.keep B0.out (Nat.le_refl _))
      refine (restart_any a9.d ch a n d hb.out hnd.out hoff).mono ?_
      rintro e w' ⟨rfl, dd, st⟩
      exact ⟨rfl, a9.step dd st⟩
    have RD : Hid ((restartD S9.2 ch).down = false ∧ (restartD S9.2 ch).fuse = none) := ⟨rfl, rfl⟩
    generalize restartD S9.2 ch = D10 at *
    clear a9 H11b
    go_wp2_with (go_at_call 16; refine H16.out.mono ?_)
    first | rintro e w10 rfl a10 | rintro e w10 ⟨rfl, a10⟩
    have A10 : Hid (At wr w10 tg9 pb D10) := a10
    have p10 := at_below a10.b (Nat.le_refl _) QA.out
    have q10 := at_below a10.b (Nat.le_refl _) QB.out
    obtain ⟨e0, e1, e2⟩ := k3 p10
    obtain ⟨g0, g1, g2⟩ := k3 q10
    clear a10 p10 q10 H16
    rcases CR'.out with ⟨h0, y', hy⟩ | ⟨h0, y', hy⟩
    · have HY : Hid (D10.fs = fsN none (fileOf (some (2, l'.map RC.b))) y') := hy
      have H17 : Hid (Calls Try.prog 17 #[.pointer (some ⟨pb, 0, none⟩), .agg #[.bool true, .int .i64 2, .slice q' m' c']] w10 fun e w' => e = .returned (.bool true) ∧ Below w10.heap.size w10 w') := by
        have := IS.out w10 tg9 pb D10 (2, l'.map RC.b) (2, []) q' m' c' l' y' A10.out RD.out.1 hy E2.out hl'.out hP'.out
        rw [decide_eq_true ⟨rfl, rfl⟩] at this
        exact this
      rw [h0]
      clear hy
      go_wp2_with (go_at_call 17; refine H17.out.mono ?_)
      first | rintro e w11 rfl b11 | rintro e w11 ⟨rfl, b11⟩
      have A11 : Hid (At wr w11 tg9 pb D10) := A10.out.keep b11
      have CL : Hid (Calls Try.prog 14 #[.pointer (some ⟨pb, 0, none⟩)] w11 fun e w' => e = .returned (.int .i64 0) ∧ ∃ D', At wr w' tg9 pb D' ∧ D'.down = false ∧ D'.fs = fsN none (fileOf (some (2, l'.map RC.b))) none) := by
        refine (clean_law A11.out HY.out).mono ?_
        rintro e w' ⟨rfl, x0, st⟩
        rcases clean_N RD.out.1 HY.out with ⟨x1, x2, x3, x4⟩ | ⟨x1, x2, x3, x4⟩
        · exact ⟨by rw [x1], _, x0, x3, x2⟩
        · exact absurd RD.out.2 x3
      clear b11 H17 e0 e1 e2 g0 g1 g2
      go_wp2_with (go_at_call 14; refine CL.out.mono ?_)
      first | rintro e w12 rfl D12 a12 d12 n12 | rintro e w12 ⟨rfl, D12, a12, d12, n12⟩
      obtain ⟨e0, e1, e2⟩ := k3 (at_below a12.b (Nat.le_refl _) QA.out)
      have H17a : Hid (Calls Try.prog 17 #[.pointer (some ⟨pb, 0, none⟩), .agg #[.bool true, .int .i64 1, .slice q m c]] w12 fun e w' => e = .returned (.bool false) ∧ Below w12.heap.size w12 w') := by
        have := IS.out w12 tg9 pb D12 (2, l'.map RC.b) (1, []) q m c l none a12 d12 n12 E2.out hl.out hP.out
        rw [decide_eq_false (by simp)] at this
        exact this
      have A12 : Hid (At wr w12 tg9 pb D12) := a12
      have D12' : Hid (D12.down = false ∧ D12.fs = fsN none (fileOf (some (2, l'.map RC.b))) none) := ⟨d12, n12⟩
      clear a12 d12 n12 CL
      go_wp2_with (go_at_call 17; refine H17a.out.mono ?_)
      first | rintro e w13 rfl b13 | rintro e w13 ⟨rfl, b13⟩
      have A13 : Hid (At wr w13 tg9 pb D12) := A12.out.keep b13
      obtain ⟨g0, g1, g2⟩ := k3 (at_below A13.out.b (Nat.le_refl _) QB.out)
      have H17b : Hid (Calls Try.prog 17 #[.pointer (some ⟨pb, 0, none⟩), .agg #[.bool true, .int .i64 2, .slice q' m' c']] w13 fun e w' => e = .returned (.bool true) ∧ Below w13.heap.size w13 w') := by
        have := IS.out w13 tg9 pb D12 (2, l'.map RC.b) (2, []) q' m' c' l' none A13.out D12'.out.1 D12'.out.2 E2.out hl'.out hP'.out
        rw [decide_eq_true ⟨rfl, rfl⟩] at this
        exact this
      clear b13 H17a e0 e1 e2
      go_wp2_with (go_at_call 17; refine H17b.out.mono ?_)
      first | rintro e w14 rfl b14 | rintro e w14 ⟨rfl, b14⟩
      have A14 : Hid (At wr w14 tg9 pb D12) := A13.out.keep b14
      clear b14 H17b
      go_wp2_with fail
      refine ⟨⟨k + 1, by omega, by go_num, B0.out.trans (A14.out.b.mono B0.out.size), at_below A14.out.b (Nat.le_refl _) QA.out, at_below A14.out.b (Nat.le_refl _) QB.out⟩, ?_⟩
      simp [intOf]; omega
    · have HY : Hid (D10.fs = fsN none (fileOf (some (1, l.map RC.b))) y') := hy
      have H17 : Hid (Calls Try.prog 17 #[.pointer (some ⟨pb, 0, none⟩), .agg #[.bool true, .int .i64 1, .slice q m c]] w10 fun e w' => e = .returned (.bool true) ∧ Below w10.heap.size w10 w') := by
        have := IS.out w10 tg9 pb D10 (1, l.map RC.b) (1, []) q m c l y' A10.out RD.out.1 hy E1.out hl.out hP.out
        rw [decide_eq_true ⟨rfl, rfl⟩] at this
        exact this
      rw [h0]
      clear hy
      go_wp2_with (go_at_call 17; refine H17.out.mono ?_)
      first | rintro e w11 rfl b11 | rintro e w11 ⟨rfl, b11⟩
      have A11 : Hid (At wr w11 tg9 pb D10) := A10.out.keep b11
      have CL : Hid (Calls Try.prog 14 #[.pointer (some ⟨pb, 0, none⟩)] w11 fun e w' => e = .returned (.int .i64 0) ∧ ∃ D', At wr w' tg9 pb D' ∧ D'.down = false ∧ D'.fs = fsN none (fileOf (some (1, l.map RC.b))) none) := by
        refine (clean_law A11.out HY.out).mono ?_
        rintro e w' ⟨rfl, x0, st⟩
        rcases clean_N RD.out.1 HY.out with ⟨x1, x2, x3, x4⟩ | ⟨x1, x2, x3, x4⟩
        · exact ⟨by rw [x1], _, x0, x3, x2⟩
        · exact absurd RD.out.2 x3
      clear b11 H17 e0 e1 e2 g0 g1 g2
      go_wp2_with (go_at_call 14; refine CL.out.mono ?_)
      first | rintro e w12 rfl D12 a12 d12 n12 | rintro e w12 ⟨rfl, D12, a12, d12, n12⟩
      obtain ⟨e0, e1, e2⟩ := k3 (at_below a12.b (Nat.le_refl _) QA.out)
      have H17a : Hid (Calls Try.prog 17 #[.pointer (some ⟨pb, 0, none⟩), .agg #[.bool true, .int .i64 1, .slice q m c]] w12 fun e w' => e = .returned (.bool true) ∧ Below w12.heap.size w12 w') := by
        have := IS.out w12 tg9 pb D12 (1, l.map RC.b) (1, []) q m c l none a12 d12 n12 E1.out hl.out hP.out
        rw [decide_eq_true ⟨rfl, rfl⟩] at this
        exact this
      have A12 : Hid (At wr w12 tg9 pb D12) := a12
      clear a12 d12 n12 CL
      go_wp2_with (go_at_call 17; refine H17a.out.mono ?_)
      first | rintro e w14 rfl b14 | rintro e w14 ⟨rfl, b14⟩
      have A14 : Hid (At wr w14 tg9 pb D12) := A12.out.keep b14
      clear b14 H17a
      go_wp2_with fail
      refine ⟨⟨k + 1, by omega, by go_num, B0.out.trans (A14.out.b.mono B0.out.size), at_below A14.out.b (Nat.le_refl _) QA.out, at_below A14.out.b (Nat.le_refl _) QB.out⟩, ?_⟩
      simp [intOf]; omega
end Go.Proofs.Ytoiopplhphllhaa
