/-
  The law of other files.
-/
import Derived.Test.YtoiopplhphllhaaSs
import Derived.Test.YtoiopplhphllhaaSr
import Derived.Test.YtoiopplhphllhaaSt
namespace Go.Proofs.Ytoiopplhphllhaa
open Go.RowKit Go.Maps

theorem At.off {w0 w : World} {tg : Nat → Tg} {pb : Nat} {D : DK} (h : At w0 w tg pb D) {a : Option Addr} {l : List UInt8} (hL : Lies w0 a l) : LiesOff w tg a l := by
  by_cases h0 : l = []
  · exact .inl h0
  · rcases hL with h1 | ⟨g, o, rfl, hr⟩
    · exact absurd h1 h0
    · have hpos : 0 < l.length := List.length_pos_iff.2 h0
      have hg : g < w0.heap.size := block_lt_of_cell (hr 0 l[0] (List.getElem?_eq_getElem hpos))
      exact .inr ⟨g, o, rfl, hr.keep h.b (Nat.le_refl _), Nat.lt_of_lt_of_le hg h.b.size, no_of fun e => by have := h.t g e; omega⟩
theorem scr_one {w : World} {q : Option Addr} {m c : Nat} {l : List RC} (hl : l.length = m) (hP : Pcs w q l) (h1 : m ≤ 140737488355328) (h3 : ∀ r ∈ l, r.b.length ≤ 140737488355328) : Scr (w.alloc (.cells #[.int .i64 0, .int .i64 0, .slice q m c, .slice none 0 0] 32)) (some ⟨w.heap.size, 0, none⟩) [⟨0, 0, q, c, l, none, 0, []⟩] := by
  subst hl
  refine ⟨.inr ⟨_, 0, rfl, fun k u hu => ?_⟩, fun o ho => ?_⟩
  · have h : (w.alloc (.cells #[.int .i64 0, .int .i64 0, .slice q l.length c, .slice none 0 0] 32)).heap[w.heap.size]? = some (.cells #[.int .i64 0, .int .i64 0, .slice q l.length c, .slice none 0 0] 32 (0, 0)) := new0
    have hu' : [Value.int .i64 0, .int .i64 0, .slice q l.length c, .slice none 0 0][k]? = some u := hu
    rw [Nat.zero_add]
    match k, hu' with
    | 0, e => cases e; exact Lib.cell_of_heap h 0
    | 1, e => cases e; exact Lib.cell_of_heap h 1
    | 2, e => cases e; exact Lib.cell_of_heap h 2
    | 3, e => cases e; exact Lib.cell_of_heap h 3
    | k + 4, e => simp at e
  · simp only [List.mem_singleton] at ho
    subst ho
    exact ⟨hP.keep ((Below.refl _ w).alloc (Nat.le_refl _) _), .inl rfl, fun _ => rfl, Nat.le_refl _, h1, Nat.zero_le _, h3⟩
theorem apart_append (l : List UInt8) (h : l.length ≤ 10000) : appendD DK.new nmO l = (0, ⟨fsN (some (l, 0)) none none, false, none⟩) := by
  have e1 : okN nmO = true := by decide
  have e2 : fnd Fil.nm nmO DK.new.fs = none := rfl
  unfold appendD
  rw [e1, e2]
  have e3 : ¬ 1048576 < l.length := by omega
  simp [DK.new, e3, burn, ins, fsN, one]
theorem remove_O {D : DK} {x y : OB} {p : List UInt8 × Nat} (hd : D.down = false) (hu : D.fuse = none) (h : D.fs = fsN (some p) x y) : (removeD D nmO).1 = 0 ∧ (removeD D nmO).2.fs = fsN none x y ∧ (removeD D nmO).2.down = false := by
  have hb : burn D = (true, D) := by unfold burn; rw [hu]
  have e : removeD D nmO = (0, ⟨fsN none x y, D.down, D.fuse⟩) := by
    unfold removeD
    rw [hd, h, fnd_O, drp_O, hb]
    simp [hd]
  rw [e]
  exact ⟨rfl, rfl, hd⟩
set_option maxHeartbeats 4000000 in
set_option maxRecDepth 100000 in
theorem apart_law (q : Option Addr) (m c : Nat) (l : List RC) (a : Option Addr) (n d : Nat) (b : List UInt8) (w : World) (hl : Hid (l.length = m)) (hP : Hid (Pcs w q l)) (h1 : m ≤ 140737488355328) (h3 : Hid (∀ r ∈ l, r.b.length ≤ 140737488355328)) (hb : Hid (b.length = n)) (hL : Hid (Lies w a b)) (hz : Hid (a = none → d = 0)) (hn : n ≤ 140737488355328) :
    Calls Try.prog 6 #[.slice q m c, .slice a n d] w fun e w' => e = .returned (.bool true) ∧ Below w.heap.size w w' := by
  have H8 : Hid (∀ w, Calls Try.prog 8 #[] w fun e w' => e = .returned (.bool true) ∧ Below w.heap.size w w') := fun w => awake_any w
  go_enter Try.func6, Try.ntmps6
  go_wp2_with (go_at_call 8; refine (H8.out _).mono ?_)
  rintro e w1 ⟨rfl, b1⟩
  have y2 : Hid (Below w.heap.size w (w1.alloc (.cells #[.int .i64 0, .int .i64 0, .slice q m c, .slice none 0 0] 32))) := b1.alloc b1.size _
  have H9 : Hid (Calls Try.prog 9 #[.slice (some ⟨w1.heap.size, 0, none⟩) 1 1] (w1.alloc (.cells #[.int .i64 0, .int .i64 0, .slice q m c, .slice none 0 0] 32)) fun e w' => FewR (w1.alloc (.cells #[.int .i64 0, .int .i64 0, .slice q m c, .slice none 0 0] 32)) e w') := few_any [⟨0, 0, q, c, l, none, 0, []⟩] _ 1 1 _ rfl (by omega) (scr_one hl.out (hP.out.keep b1) h1 h3.out)
  clear b1
  go_wp2_with (go_at_call 9; refine H9.out.mono ?_)
  rintro e w2 ⟨bb, rfl, rfl⟩
  generalize w1.alloc (.cells #[.int .i64 0, .int .i64 0, .slice q m c, .slice none 0 0] 32) = w2 at *
  cases bb with
  | false =>
    go_wp2_with (go_at_call 8; refine (H8.out _).mono ?_)
    rintro e w3 ⟨rfl, b3⟩
    go_wp2_with fail
    go_ret
    exact ⟨rfl, below_from y2.out b3 y2.out.size⟩
  | true =>
  by_cases hbig : (10000 : Int) < (n : Int)
  · go_wp2_with (go_at_call 8; refine (H8.out _).mono ?_)
    rintro e w3 ⟨rfl, b3⟩
    go_wp2_with fail
    go_ret
    exact ⟨rfl, below_from y2.out b3 y2.out.size⟩
  have hbig' : (n : Int) ≤ 10000 := by omega
  have H12 : Hid (Calls Try.prog 12 #[.int .i64 1, .slice q m c] w2 fun e w' => e = .returned (.int .i64 (fitE 1 (l.map RC.b))) ∧ w' = w2) := fits_any 1 l q c m w2 hl.out h1 (hP.out.keep y2.out)
  by_cases hf : fitE 1 (l.map RC.b) = 0
  · rw [hf] at H12
    have HF : Hid (fitE 1 (l.map RC.b) = 0) := hf
    clear hf
    go_wp2_with (go_at_call 12; refine H12.out.mono ?_)
    rintro e w2' ⟨rfl, rfl⟩
    go_wp2_with (go_at_call 10; refine (new_law w w2' y2.out).mono ?_)
    rintro e w3 ⟨pb, rfl, tg3, a3⟩
    have A3 : Hid (At w w3 tg3 pb DK.new) := a3
    clear a3
    have H18 : Hid (Calls Try.prog 18 #[.pointer (some ⟨pb, 0, none⟩), .string ⟨#[111, 116, 104, 101, 114]⟩, .slice a n d] w3 fun e w' => e = .returned (.int .i64 0) ∧ ∃ tg', At w w' tg' pb ⟨fsN (some (b, 0)) none none, false, none⟩) := by
      have := append_any A3.out.d ⟨⟨nmO⟩⟩ (by decide) a n d b (by omega) hb.out hz.out (A3.out.off hL.out)
      rw [show (⟨⟨nmO⟩⟩ : ByteArray).data.toList = nmO from rfl, apart_append b (by have := hb.out; omega)] at this
      refine this.mono ?_
      rintro e w' ⟨rfl, tg', dd, st⟩
      exact ⟨rfl, tg', A3.out.step dd st⟩
    go_wp2_with (go_at_call 18; refine H18.out.mono ?_)
    first | rintro e w4 rfl tg4 a4 | rintro e w4 ⟨rfl, tg4, a4⟩
    have A4 : Hid (At w w4 tg4 pb ⟨fsN (some (b, 0)) none none, false, none⟩) := a4
    have H11 : Hid (Calls Try.prog 11 #[.pointer (some ⟨pb, 0, none⟩), .int .i64 1, .slice q m c] w4 fun e w' => e = .returned (.int .i64 0) ∧ ∃ tg' D', At w w' tg' pb D' ∧ D'.down = false ∧ D'.fuse = none ∧ D'.fs = fsN (some (b, 0)) (fileOf (some (1, l.map RC.b))) none) := by
      refine (save_done (y := none) a4 1 l q c m hl.out (by omega) (hP.out.keep a4.b) rfl rfl rfl HF.out).mono ?_
      rintro e w' ⟨rfl, tg', D', x1, x2, x3, x4, x5⟩
      exact ⟨rfl, tg', D', x1, x3, x4, x5⟩
    clear a4 H18 H12
    go_wp2_with (go_at_call 11; refine H11.out.mono ?_)
    first | rintro e w5 rfl tg5 D5 a5 d5 f5 n5 | rintro e w5 ⟨rfl, tg5, D5, a5, d5, f5, n5⟩
    have H15 : Hid (Calls Try.prog 15 #[.pointer (some ⟨pb, 0, none⟩), .int .i64 0] w5 fun e w' => e = .returned (.tuple #[]) ∧ At w w' tg5 pb (setF D5 0)) := by
      refine (setfuse_any 0 (by omega) a5.d).mono ?_
      rintro e w' ⟨rfl, dd, st⟩
      exact ⟨rfl, a5.step dd st⟩
    have N5 : Hid (D5.down = false ∧ D5.fuse = none ∧ D5.fs = fsN (some (b, 0)) (fileOf (some (1, l.map RC.b))) none) := ⟨d5, f5, n5⟩
    clear a5 d5 f5 n5 H11 A4 A3
    go_wp2_with (go_at_call 15; refine H15.out.mono ?_)
    first | rintro e w6 rfl a6 | rintro e w6 ⟨rfl, a6⟩
    have b7 : Below w6.heap.size w6 (w6.alloc (.cells #[.bool true, .int .i64 1, .slice q m c] 29)) := (Below.refl _ w6).alloc (Nat.le_refl _) _
    have A7 : Hid (At w (w6.alloc (.cells #[.bool true, .int .i64 1, .slice q m c] 29)) tg5 pb (setF D5 0)) := a6.keep b7
    have T7 : Hid (tg5 w6.heap.size = .no) := no_of fun e => Nat.lt_irrefl _ (a6.d.lt e)
    have p7 : (w6.alloc (.cells #[.bool true, .int .i64 1, .slice q m c] 29)).heap[w6.heap.size]? = some (.cells #[.bool true, .int .i64 1, .slice q m c] 29 (0, 0)) := new0
    have IS : Hid (∀ (W : World) (E : DK), At w W tg5 pb E → ∀ o, E.fs = fsN o (fileOf (some (1, l.map RC.b))) none → Calls Try.prog 17 #[.pointer (some ⟨pb, 0, none⟩), .agg #[.bool true, .int .i64 1, .slice q m c]] W fun e w' => e = .returned (.bool true) ∧ Below W.heap.size W w') := by
      intro W E hA o hE
      have := is_any hA.d (some (1, l.map RC.b)) (holds_N hE HF.out) true 1 q m c l hl.out (hP.out.keep hA.b)
      rw [show isB E (some (1, l.map RC.b)) true 1 (l.map RC.b) = true from isB_yes (D := E) HF.out] at this
      exact this
    have fs0 : (setF D5 0).fs = fsN (some (b, 0)) (fileOf (some (1, l.map RC.b))) none := N5.out.2.2
    have dn0 : (setF D5 0).down = false := N5.out.1
    have H17 : Hid (Calls Try.prog 17 #[.pointer (some ⟨pb, 0, none⟩), .agg #[.bool true, .int .i64 1, .slice q m c]] (w6.alloc (.cells #[.bool true, .int .i64 1, .slice q m c] 29)) fun e w' => e = .returned (.bool true) ∧ Below (w6.alloc (.cells #[.bool true, .int .i64 1, .slice q m c] 29)).heap.size (w6.alloc (.cells #[.bool true, .int .i64 1, .slice q m c] 29)) w') := IS.out _ _ A7.out _ fs0
    have P7 : Hid ((w6.alloc (.cells #[.bool true, .int .i64 1, .slice q m c] 29)).heap[w6.heap.size]? = some (.cells #[.bool true, .int .i64 1, .slice q m c] 29 (0, 0))) := p7
    generalize hD6 : setF D5 0 = D6 at *
    clear a6 b7 H15 p7
    go_wp2_with (go_at_call 17; refine H17.out.mono ?_)
    first | rintro e w8 rfl b8 | rintro e w8 ⟨rfl, b8⟩
    have b8 : Below (w6.alloc (.cells #[.bool true, .int .i64 1, .slice q m c] 29)).heap.size (w6.alloc (.cells #[.bool true, .int .i64 1, .slice q m c] 29)) w8 := by simpa using b8
    have A8 : Hid (At w w8 tg5 pb D6) := A7.out.keep b8
    generalize hpt : w6.heap.size = pt at *
    have P8 : Hid (w8.heap[pt]? = some (.cells #[.bool true, .int .i64 1, .slice q m c] 29 (0, 0))) := at_below b8 (Nat.le_refl _) P7.out
    have H13 : Hid (Calls Try.prog 13 #[.pointer (some ⟨pb, 0, none⟩)] w8 fun e w' => e = .returned (.bool false) ∧ w' = w8) := by
      obtain ⟨_, _, _, dd⟩ := A8.out.d
      have := dd.cell
      rw [dn0] at this
      exact down_at w8 pb _ _ _ _ this
    have H15 : Hid (Calls Try.prog 15 #[.pointer (some ⟨pb, 0, none⟩), .int .i64 (-1)] w8 fun e w' => e = .returned (.tuple #[]) ∧ At w w' tg5 pb (setF D6 (-1)) ∧ w'.heap[pt]? = some (.cells #[.bool true, .int .i64 1, .slice q m c] 29 (0, 0))) := by
      refine (setfuse_any (-1) (by omega) A8.out.d).mono ?_
      rintro e w' ⟨rfl, dd, st⟩
      exact ⟨rfl, A8.out.step dd st, (step_blk st P8.out T7.out).1⟩
    have N6 : Hid ((setF D6 (-1)).down = false ∧ (setF D6 (-1)).fuse = none ∧ (setF D6 (-1)).fs = fsN (some (b, 0)) (fileOf (some (1, l.map RC.b))) none) := ⟨dn0, rfl, fs0⟩
    generalize setF D6 (-1) = D9 at *
    clear b8 H17 A7 P7 fs0 dn0 hD6 hpt
    go_wp2_with (go_at_call 13; refine H13.out.mono ?_)
    first | rintro e w8' rfl rfl | rintro e w8' ⟨rfl, rfl⟩
    go_wp2_with (go_at_call 15; refine H15.out.mono ?_)
    first | rintro e w9 rfl a9 p9 | rintro e w9 ⟨rfl, a9, p9⟩
    have H19 : Hid (Calls Try.prog 19 #[.pointer (some ⟨pb, 0, none⟩), .string ⟨#[111, 116, 104, 101, 114]⟩] w9 fun e w' => ∃ q' c', e = .returned (.tuple #[.slice q' n c', .int .i64 0]) ∧ Below w9.heap.size w9 w') := by
      have := read_any a9.d ⟨⟨nmO⟩⟩ (by decide)
      rw [show readD D9 (⟨⟨nmO⟩⟩ : ByteArray).data.toList = (0, b) by
        show readD D9 nmO = (0, b)
        unfold readD
        rw [if_neg (by simp [N6.out.1]), N6.out.2.2, fnd_O]
        rfl] at this
      refine this.mono ?_
      rintro e w' ⟨v, rfl, o, bw⟩
      obtain ⟨q', c', rfl, -⟩ := o.shape
      rw [hb.out]
      exact ⟨q', c', rfl, bw⟩
    have A9 : Hid (At w w9 tg5 pb D9) := a9
    have P9 : Hid (w9.heap[pt]? = some (.cells #[.bool true, .int .i64 1, .slice q m c] 29 (0, 0))) := p9
    clear a9 p9 H13 H15 A8 P8
    go_wp2_with (go_at_call 19; refine H19.out.mono ?_)
    first | rintro e w10 q10 c10 rfl b10 | rintro e w10 ⟨q10, c10, rfl, b10⟩
    have A10 : Hid (At w w10 tg5 pb D9) := A9.out.keep b10
    have P10 : Hid (w10.heap[pt]? = some (.cells #[.bool true, .int .i64 1, .slice q m c] 29 (0, 0))) := at_below b10 (Nat.le_refl _) P9.out
    have H14 : Hid (Calls Try.prog 14 #[.pointer (some ⟨pb, 0, none⟩)] w10 fun e w' => e = .returned (.int .i64 0) ∧ ∃ D', At w w' tg5 pb D' ∧ w'.heap[pt]? = some (.cells #[.bool true, .int .i64 1, .slice q m c] 29 (0, 0)) ∧ D'.down = false ∧ D'.fuse = none ∧ D'.fs = fsN (some (b, 0)) (fileOf (some (1, l.map RC.b))) none) := by
      refine (clean_law A10.out N6.out.2.2).mono ?_
      rintro e w' ⟨rfl, h1, st⟩
      rcases clean_N N6.out.1 N6.out.2.2 with ⟨x1, x2, x3, x4⟩ | ⟨x1, x2, x3, x4⟩
      · exact ⟨by rw [x1], _, h1, (step_blk st P10.out T7.out).1, x3, x4 N6.out.2.1, x2⟩
      · exact absurd N6.out.2.1 x3
    clear b10 H19 A9 P9
    go_wp2_with (go_at_call 14; refine H14.out.mono ?_)
    first | rintro e w11 rfl D11 a11 p11 d11 f11 n11 | rintro e w11 ⟨rfl, D11, a11, p11, d11, f11, n11⟩
    have H20 : Hid (Calls Try.prog 20 #[.pointer (some ⟨pb, 0, none⟩), .string ⟨#[111, 116, 104, 101, 114]⟩] w11 fun e w' => e = .returned (.int .i64 0) ∧ ∃ D', At w w' tg5 pb D' ∧ w'.heap[pt]? = some (.cells #[.bool true, .int .i64 1, .slice q m c] 29 (0, 0)) ∧ D'.fs = fsN none (fileOf (some (1, l.map RC.b))) none) := by
      obtain ⟨x1, x2, x3⟩ := remove_O d11 f11 n11
      refine (remove_any a11.d ⟨⟨nmO⟩⟩ (by decide)).mono ?_
      rintro e w' ⟨rfl, dd, st⟩
      exact ⟨by show Ending.returned (.int .i64 (removeD D11 nmO).1) = _; rw [x1], _, a11.step dd st, (step_blk st p11 T7.out).1, x2⟩
    clear a11 p11 d11 f11 n11 H14
    go_wp2_with (go_at_call 20; refine H20.out.mono ?_)
    first | rintro e w12 rfl D12 a12 p12 n12 | rintro e w12 ⟨rfl, D12, a12, p12, n12⟩
    obtain ⟨e0, e1, e2⟩ := k3 p12
    have H17b : Hid (Calls Try.prog 17 #[.pointer (some ⟨pb, 0, none⟩), .agg #[.bool true, .int .i64 1, .slice q m c]] w12 fun e w' => e = .returned (.bool true) ∧ Below w12.heap.size w12 w') := IS.out w12 D12 a12 none n12
    have B12 : Hid (Below w.heap.size w w12) := a12.b
    clear a12 p12 n12 H20
    go_wp2_with (go_at_call 17; refine H17b.out.mono ?_)
    first | rintro e w13 rfl b13 | rintro e w13 ⟨rfl, b13⟩
    go_wp2_with fail
    go_ret
    exact ⟨rfl, below_from B12.out b13 B12.out.size⟩
  · have hf' : (fitE 1 (l.map RC.b) != 0) = true := by simpa using hf
    generalize fitE 1 (l.map RC.b) = fe at *
    go_wp2_with (go_at_call 12; refine H12.out.mono ?_)
    rintro e w2' ⟨rfl, rfl⟩
    go_wp2_with (go_at_call 8; refine (H8.out _).mono ?_)
    rintro e w3 ⟨rfl, b3⟩
    go_wp2_with fail
    go_ret
    exact ⟨rfl, below_from y2.out b3 y2.out.size⟩
end Go.Proofs.Ytoiopplhphllhaa
