/-
  The law of checkpoints that are too great.
-/
import Derived.Test.YtoiopplhphllhaaSq
namespace Go.Proofs.Ytoiopplhphllhaa
open Go.RowKit Go.Maps

theorem own_made {w : World} {B k : Nat} (hB : B ≤ w.heap.size) (hk : k ≤ 65536) : Own (w.alloc (.cells (madeCells #[.int .u8 0] k) 5)) B (.slice (some ⟨w.heap.size, 0, none⟩) k k) (List.replicate k 0) := by
  obtain ⟨cs, hb, hsz, hc⟩ := World.rowIs_made w (.int .u8 0) k 5
  refine ⟨by rw [bv_length, Nat.mul_one], .inr ⟨w.heap.size, k, cs, by rw [List.length_replicate], hB, hb, by rw [List.length_replicate]; exact Nat.le_refl _, by unfold maxLen; omega, by rw [hsz, Nat.mul_one], ?_⟩⟩
  rw [List.length_replicate, Nat.mul_one]
  refine List.ext_getElem? fun i => ?_
  rw [List.getElem?_take]
  unfold bv
  rw [List.map_replicate, List.getElem?_replicate]
  by_cases hi : i < k
  · rw [if_pos hi, if_pos hi, Array.getElem?_toList]
    exact hc i hi
  · rw [if_neg hi, if_neg hi]
def Row16 (w : World) (g o : Nat) (zs : List UInt16) : Prop := ∀ (k : Nat) (x : UInt16), zs[k]? = some x → w.cell? ⟨g, o + k, none⟩ = some (.int .u16 x.toNat)
theorem u16_bd (x : UInt16) : (x.toNat : Int) ≤ 65535 := by have := x.toNat_lt; omega
theorem saved {D : DK} {o x y : OB} (hd : D.down = false) (hu : D.fuse = none) (h : D.fs = fsN o x y) (n : Int) (ps : List (List UInt8)) :
    (saveD D n ps).1 = fitE n ps ∧ (saveD D n ps).2.down = false ∧ (saveD D n ps).2.fuse = none ∧ (fitE n ps = 0 → (saveD D n ps).2.fs = fsN o (fileOf (some (n.toNat, ps))) none) ∧ (fitE n ps ≠ 0 → (saveD D n ps).2 = D) := by
  by_cases hf : fitE n ps = 0
  · rcases save_N hd h n ps hf with ⟨h1, h2, h3, h4⟩ | ⟨h1, h2, h3, h4⟩
    · exact ⟨by rw [h1, hf], h3, h4 hu, fun _ => h2, fun e => absurd hf e⟩
    · exact absurd hu h3
  · rw [save_no hd n ps hf]
    exact ⟨rfl, hd, hu, fun e => absurd e hf, fun _ => rfl⟩
theorem fit_nat {n : Int} {ps : List (List UInt8)} (h : fitE n ps = 0) : ((n.toNat : Nat) : Int) = n := by
  obtain ⟨h1, -, -⟩ := fitE_parts h
  unfold okNum at h1
  simp only [Bool.and_eq_true, decide_eq_true_eq] at h1
  omega
theorem isB_yes {D : DK} {n : Int} {ps : List (List UInt8)} (hf : fitE n ps = 0) : isB D (some (n.toNat, ps)) true n ps = true := by
  unfold isB
  split
  · rfl
  · rw [if_pos rfl]
    simp [fit_nat hf]
theorem step_blk {tg tg' : Nat → Tg} {w w' : World} {g : Nat} {o : Obj} (st : Step tg tg' w w') (h : w.heap[g]? = some o) (hno : tg g = .no) : w'.heap[g]? = some o ∧ tg' g = .no := by
  have hlt := (Array.getElem?_eq_some_iff.1 h).1
  refine ⟨(st.1.block g hlt fun e => e hno).trans h, no_of fun e => ?_⟩
  rcases st.2 g e with h1 | h1
  · exact h1 hno
  · omega
theorem pcs_nil (w : World) : Pcs w none [] := ⟨.inl rfl, nofun⟩
set_option maxHeartbeats 4000000 in
set_option maxRecDepth 100000 in
theorem fits_law (n : Int) (a : Option Addr) (m c : Nat) (zs : List UInt16) (w : World) (hl : Hid (zs.length = m)) (hlies : Hid (zs = [] ∨ ∃ g o, a = some ⟨g, o, none⟩ ∧ Row16 w g o zs)) (hlen : m < 1152921504606846976) :
    Calls Try.prog 5 #[.int .i64 n, .slice a m c] w fun e w' => e = .returned (.bool true) ∧ Below w.heap.size w w' := by
  have H8 : Hid (∀ w, Calls Try.prog 8 #[] w fun e w' => e = .returned (.bool true) ∧ Below w.heap.size w w') := fun w => awake_any w
  go_enter Try.func5, Try.ntmps5
  go_wp2_with (go_at_call 8; refine (H8.out _).mono ?_)
  rintro e w1 ⟨rfl, b1⟩
  have y1 : Hid (Below w.heap.size w w1) := b1
  clear b1
  by_cases hbig : (300 : Int) < (m : Int)
  · go_wp2_with (go_at_call 8; refine (H8.out _).mono ?_)
    rintro e w2 ⟨rfl, b2⟩
    go_wp2_with fail
    go_ret
    exact ⟨rfl, below_from y1.out b2 y1.out.size⟩
  go_wp2_with fail
  go_loopw [5, 6, 7] (fun v s i wr => ∃ (k t : Nat) (q : Option Addr) (j d : Nat) (l : List RC), k ≤ m ∧ i = .int .i64 k ∧ s = .int .i64 t ∧ t ≤ 4200 * k ∧ v = .slice q j d ∧ j = k ∧ PsOwn wr w.heap.size (.slice q j d) l ∧ Below w.heap.size w wr) (fun _ _ i _ => m - (intOf i).toNat)
  case atStart => exact ⟨0, 0, none, 0, 0, [], Nat.zero_le _, rfl, rfl, Nat.zero_le _, rfl, rfl, PsOwn.nil _ _, y1.out⟩
  case round =>
    obtain ⟨k, t, q, j, d, l, hk, rfl, rfl, ht, rfl, rfl, hP, hb⟩ := hrel
    have HP : Hid (PsOwn wr w.heap.size (.slice q j d) l) := hP
    have HB : Hid (Below w.heap.size w wr) := hb
    clear hP hb
    by_cases hlt : j < m
    · have hi : (j : Int) < (m : Int) := by omega
      obtain ⟨x, hx⟩ : ∃ x, zs[j]? = some x := ⟨zs[j]'(by have := hl.out; omega), List.getElem?_eq_getElem _⟩
      have hne : zs ≠ [] := by rintro rfl; have := hl.out; simp at this; omega
      obtain ⟨g, o, rfl, hrow⟩ := hlies.out.resolve_left hne
      have h0 := (HB.out.cell (block_lt_of_cell (hrow j x hx))).trans (hrow j x hx)
      have hbd := u16_bd x
      obtain ⟨k0, hk0, hke⟩ : ∃ k0 : Nat, k0 ≤ 4199 ∧ ((x.toNat : Int) % 4200) = k0 := ⟨x.toNat % 4200, by omega, by omega⟩
      have HK : Hid (((x.toNat : Int) % 4200) = k0) := hke
      have hmk : (Instr.makeSlice 30 (.int .i64 ((x.toNat : Int) % 4200)) (.int .i64 ((x.toNat : Int) % 4200))).run Try.prog wr = .ok (.slice (some ⟨wr.heap.size, 0, none⟩) k0 k0) (wr.alloc (.cells (madeCells #[.int .u8 0] k0) 5)) := by
        rw [hke]
        exact run_make_row' (P := Try.prog) 30 5 (.int .u8 0) 1 Try.underlying30 info5 rfl .i64 .i64 k0 (by omega) (by omega) wr
      have b2 : Below wr.heap.size wr (wr.alloc (.cells (madeCells #[.int .u8 0] k0) 5)) := (Below.refl _ wr).alloc (Nat.le_refl _) _
      have P2 : Hid (PsOwn (wr.alloc (.cells (madeCells #[.int .u8 0] k0) 5)) w.heap.size (.slice q j d) l) := HP.out.keep b2
      have O2 : Hid (Own (wr.alloc (.cells (madeCells #[.int .u8 0] k0) 5)) w.heap.size (.slice (some ⟨wr.heap.size, 0, none⟩) k0 k0) (List.replicate k0 0)) := own_made HB.out.size (by omega)
      have B2 : Hid (Below w.heap.size w (wr.alloc (.cells (madeCells #[.int .u8 0] k0) 5))) := below_from HB.out b2 HB.out.size
      have hsz2 : (wr.alloc (.cells (madeCells #[.int .u8 0] k0) 5)).heap.size = wr.heap.size + 1 := by simp
      have hjl : Hid (l.length = j) := HP.out.pcs.2
      have A2 : Hid (((wr.alloc (.cells (madeCells #[.int .u8 0] k0) 5)).alloc (.cells #[.slice (some ⟨wr.heap.size, 0, none⟩) k0 k0] 30)).ownsRow w.heap.size 30 1 (.slice q j d) l.length (l.map RC.v)) := ownsKeep P2.out.row fun g hg => ((Below.refl _ _).alloc (Nat.le_refl _) _).block g (World.ownsRow.lt P2.out.row g hg).2
      have hrv := row_one (w := wr.alloc (.cells (madeCells #[.int .u8 0] k0) 5)) (u := .slice (some ⟨wr.heap.size, 0, none⟩) k0 k0) (t := 30)
      rw [hsz2] at hrv
      have HV : Hid (RowV ((wr.alloc (.cells (madeCells #[.int .u8 0] k0) 5)).alloc (.cells #[.slice (some ⟨wr.heap.size, 0, none⟩) k0 k0] 30)) (wr.heap.size + 1) 0 [.slice (some ⟨wr.heap.size, 0, none⟩) k0 k0]) := hrv
      clear hrow hx hke b2 hrv hsz2
      go_wp2_with (at_builtin; refine append_vals (w := (wr.alloc (.cells (madeCells #[.int .u8 0] k0) 5)).alloc (.cells #[.slice (some ⟨wr.heap.size, 0, none⟩) k0 k0] 30)) Try.underlying27 info30 rfl (by decide) rfl _ _ rfl w.heap.size (.slice q j d) l.length (l.map RC.v) rfl A2.out (wr.heap.size + 1) 0 1 1 [.slice (some ⟨wr.heap.size, 0, none⟩) k0 k0] rfl rfl HV.out (fun u hu => by simp at hu; subst hu; rfl) (by have := hjl.out; unfold maxLen; omega) (by have := hjl.out; omega) (by have := B2.out.size; simp at this; simp; omega) ?_; intro v' w4 h1 h2)
      obtain ⟨q5, c5, rfl⟩ := sl_own h1
      have hb4 : Below w.heap.size w w4 := (B2.out.alloc B2.out.size _).grown h2 (by have := B2.out.size; simp at this; simp; omega) fun k hk => (World.ownsRow.lt A2.out k hk).1
      have hP4 := PsOwn.snoc (r := ⟨List.replicate k0 0, some ⟨wr.heap.size, 0, none⟩, k0⟩) P2.out (by unfold RC.v; rw [List.length_replicate]; exact O2.out) ((Below.refl _ _).alloc (Nat.le_refl _) _) (by unfold RC.v; rw [List.length_replicate]; exact h1) h2
      rw [hjl.out] at hP4
      refine ⟨⟨j + 1, t + k0, q5, _, c5, _, by omega, by go_num, by rw [HK.out, Int.natCast_add], by omega, rfl, by rw [hjl.out], by rw [hjl.out]; exact hP4, hb4⟩, ?_⟩
      simp [intOf]; omega
    · have hi : ¬ (j : Int) < (m : Int) := by omega
      have hjm : j ≤ 300 := by omega
      by_cases h7 : (700000 : Int) < (t : Int)
      · go_wp2_with fail
        go_ret
        exact ⟨rfl, HB.out⟩
      have h7' : (t : Int) ≤ 700000 := by omega
      have hjl : Hid (l.length = j) := HP.out.pcs.2
      go_wp2_with (go_at_call 10; refine (new_law wr wr (Below.refl _ _)).mono ?_)
      first | rintro e w3 pb rfl tg3 a3 | rintro e w3 ⟨pb, rfl, tg3, a3⟩
      have n3 : tg3 w3.heap.size = .no := no_of fun e => Nat.lt_irrefl _ (a3.d.lt e)
      have b4 : Below w3.heap.size w3 (w3.alloc (.cells #[.bool true, .int .i64 3, .slice none 0 0] 29)) := (Below.refl _ w3).alloc (Nat.le_refl _) _
      have H11 : Hid (Calls Try.prog 11 #[.pointer (some ⟨pb, 0, none⟩), .int .i64 3, .slice none 0 0] (w3.alloc (.cells #[.bool true, .int .i64 3, .slice none 0 0] 29)) fun e w' => e = .returned (.int .i64 0) ∧ ∃ tg' D', At wr w' tg' pb D' ∧ (w'.heap[w3.heap.size]? = some (.cells #[.bool true, .int .i64 3, .slice none 0 0] 29 (0, 0)) ∧ tg' w3.heap.size = .no) ∧ D'.down = false ∧ D'.fuse = none ∧ D'.fs = fsN none (fileOf (some (3, []))) none) := by
        refine (save_done (o := none) (x := none) (y := none) (a3.keep b4) 3 [] none 0 0 rfl (by omega) (pcs_nil _) rfl rfl rfl (by decide)).mono ?_
        rintro e w' ⟨rfl, tg', D', h1, st, h2, h3, h4⟩
        exact ⟨rfl, tg', D', h1, step_blk st new0 n3, h2, h3, h4⟩
      have B6 : Hid (wr.heap.size ≤ w3.heap.size) := a3.b.size
      clear a3 n3 b4
      go_wp2_with (go_at_call 11; refine H11.out.mono ?_)
      first | rintro e w4 rfl tg4 D4 a4 p4 q4 d4 f4 n4 | rintro e w4 ⟨rfl, tg4, D4, a4, ⟨p4, q4⟩, d4, f4, n4⟩
      obtain ⟨e0, e1, e2⟩ := k3 p4
      have H17 : Hid (Calls Try.prog 17 #[.pointer (some ⟨pb, 0, none⟩), .agg #[.bool true, .int .i64 3, .slice none 0 0]] w4 fun e w' => e = .returned (.bool true) ∧ Below w4.heap.size w4 w') := by
        have := is_any a4.d (some (3, [])) (holds_N n4 (by show fitE 3 [] = 0; decide)) true 3 none 0 0 [] rfl (pcs_nil _)
        rw [show isB D4 (some (3, [])) true 3 ([].map RC.b) = true from isB_yes (D := D4) (n := 3) (ps := []) (by decide)] at this
        exact this
      have A4 : Hid (At wr w4 tg4 pb D4) := a4
      have P4 : Hid (w4.heap[w3.heap.size]? = some (.cells #[.bool true, .int .i64 3, .slice none 0 0] 29 (0, 0)) ∧ tg4 w3.heap.size = .no) := ⟨p4, q4⟩
      have N4 : Hid (D4.down = false ∧ D4.fuse = none ∧ D4.fs = fsN none (fileOf (some (3, []))) none) := ⟨d4, f4, n4⟩
      clear a4 p4 q4 d4 f4 n4 H11
      go_wp2_with (go_at_call 17; refine H17.out.mono ?_)
      first | rintro e w5 rfl b5 | rintro e w5 ⟨rfl, b5⟩
      have A5 : Hid (At wr w5 tg4 pb D4) := A4.out.keep b5
      have P5 : Hid (w5.heap[w3.heap.size]? = some (.cells #[.bool true, .int .i64 3, .slice none 0 0] 29 (0, 0))) := at_below b5 (Nat.le_refl _) P4.out.1
      have PS : Hid (Pcs wr q l) := HP.out.pcs.1
      have SV := saved N4.out.1 N4.out.2.1 N4.out.2.2 n (l.map RC.b)
      have H11b : Hid (Calls Try.prog 11 #[.pointer (some ⟨pb, 0, none⟩), .int .i64 n, .slice q j d] w5 fun e w' => e = .returned (.int .i64 (fitE n (l.map RC.b))) ∧ ∃ tg', At wr w' tg' pb (saveD D4 n (l.map RC.b)).2 ∧ (w'.heap[w3.heap.size]? = some (.cells #[.bool true, .int .i64 3, .slice none 0 0] 29 (0, 0)) ∧ tg' w3.heap.size = .no)) := by
        refine (save_law A5.out n l q d j hjl.out (by omega) (PS.out.keep A5.out.b)).mono ?_
        rintro e w' ⟨rfl, tg', h1, st⟩
        exact ⟨by rw [SV.1], tg', h1, step_blk st P5.out P4.out.2⟩
      have SV' : Hid ((saveD D4 n (l.map RC.b)).2.down = false ∧ (fitE n (l.map RC.b) = 0 → (saveD D4 n (l.map RC.b)).2.fs = fsN none (fileOf (some (n.toNat, l.map RC.b))) none) ∧ (fitE n (l.map RC.b) ≠ 0 → (saveD D4 n (l.map RC.b)).2 = D4)) := ⟨SV.2.1, SV.2.2.2.1, SV.2.2.2.2⟩
      have HF : Hid (∀ W, Below wr.heap.size wr W → Calls Try.prog 12 #[.int .i64 n, .slice q j d] W fun e w' => e = .returned (.int .i64 (fitE n (l.map RC.b))) ∧ w' = W) := fun W hW => fits_any n l q d j W hjl.out (by omega) (PS.out.keep hW)
      generalize (saveD D4 n (l.map RC.b)).2 = D6 at *
      generalize hfe : fitE n (l.map RC.b) = fe at *
      have HFE : Hid (fitE n (l.map RC.b) = fe) := hfe
      clear b5 A4 H17 SV hfe e0 e1 e2
      go_wp2_with (go_at_call 11; refine H11b.out.mono ?_)
      first | rintro e w6 rfl tg6 a6 p6 q6 | rintro e w6 ⟨rfl, tg6, a6, p6, q6⟩
      have A6 : Hid (At wr w6 tg6 pb D6) := a6
      have F6 : Hid (Calls Try.prog 12 #[.int .i64 n, .slice q j d] w6 fun e w' => e = .returned (.int .i64 fe) ∧ w' = w6) := HF.out w6 a6.b
      have Q6 : Hid (tg6 w3.heap.size = .no) := q6
      obtain ⟨e0, e1, e2⟩ := k3 p6
      have f0 := fz p6 0
      have f1 := fz p6 1
      have f2 := fz p6 2
      clear a6 q6
      go_wp2_with (go_at_call 12; refine F6.out.mono ?_)
      first | rintro e w7 rfl rfl | rintro e w7 ⟨rfl, rfl⟩
      by_cases h0 : fe = 0
      · subst h0
        have A8 : At wr (((w7.setCell ⟨w3.heap.size, 0, none⟩ (.bool true)).setCell ⟨w3.heap.size, 1, none⟩ (.int .i64 n)).setCell ⟨w3.heap.size, 2, none⟩ (.slice q j d)) tg6 pb D6 := ((A6.out.set _ _ Q6.out B6.out).set _ _ Q6.out B6.out).set _ _ Q6.out B6.out
        have H17b : Hid (Calls Try.prog 17 #[.pointer (some ⟨pb, 0, none⟩), .agg #[.bool true, .int .i64 n, .slice q j d]] (((w7.setCell ⟨w3.heap.size, 0, none⟩ (.bool true)).setCell ⟨w3.heap.size, 1, none⟩ (.int .i64 n)).setCell ⟨w3.heap.size, 2, none⟩ (.slice q j d)) fun e w' => e = .returned (.bool true) ∧ Below (((w7.setCell ⟨w3.heap.size, 0, none⟩ (.bool true)).setCell ⟨w3.heap.size, 1, none⟩ (.int .i64 n)).setCell ⟨w3.heap.size, 2, none⟩ (.slice q j d)).heap.size (((w7.setCell ⟨w3.heap.size, 0, none⟩ (.bool true)).setCell ⟨w3.heap.size, 1, none⟩ (.int .i64 n)).setCell ⟨w3.heap.size, 2, none⟩ (.slice q j d)) w') := by
          have := is_any A8.d (some (n.toNat, l.map RC.b)) (holds_N (SV'.out.2.1 rfl) (by show fitE (n.toNat : Nat) (l.map RC.b) = 0; rw [fit_nat HFE.out]; exact HFE.out)) true n q j d l hjl.out (PS.out.keep A8.b)
          rw [isB_yes HFE.out] at this
          exact this
        have B8 : Hid (Below w.heap.size w (((w7.setCell ⟨w3.heap.size, 0, none⟩ (.bool true)).setCell ⟨w3.heap.size, 1, none⟩ (.int .i64 n)).setCell ⟨w3.heap.size, 2, none⟩ (.slice q j d))) := HB.out.trans (A8.b.mono HB.out.size)
        have hw8 : (((w7.setCell ⟨w3.heap.size, 0, none⟩ (.bool true)).setCell ⟨w3.heap.size, 1, none⟩ (.int .i64 n)).setCell ⟨w3.heap.size, 2, none⟩ (.slice q j d)).heap[w3.heap.size]? = some (.cells #[.bool true, .int .i64 n, .slice q j d] 29 (0, 0)) := setB (setB (setB p6 _) _) _
        obtain ⟨z0, z1, z2⟩ := k3 hw8
        clear A8 p6 hw8
        go_wp2_with (go_at_call 17; refine H17b.out.mono ?_)
        first | rintro e w9 rfl b9 | rintro e w9 ⟨rfl, b9⟩
        go_wp2_with fail
        go_ret
        exact ⟨rfl, B8.out.trans (b9.mono (by have := B8.out.size; simpa [World.setCell] using this))⟩
      · have h0' : (fe == 0) = false := by simpa using h0
        have H17b : Hid (Calls Try.prog 17 #[.pointer (some ⟨pb, 0, none⟩), .agg #[.bool true, .int .i64 3, .slice none 0 0]] w7 fun e w' => e = .returned (.bool true) ∧ Below w7.heap.size w7 w') := by
          have h6 := SV'.out.2.2 h0
          subst h6
          have := is_any A6.out.d (some (3, [])) (holds_N N4.out.2.2 (by show fitE 3 [] = 0; decide)) true 3 none 0 0 [] rfl (pcs_nil _)
          rw [show isB D6 (some (3, [])) true 3 ([].map RC.b) = true from isB_yes (D := D6) (n := 3) (ps := []) (by decide)] at this
          exact this
        have B8 : Hid (Below w.heap.size w w7) := HB.out.trans (A6.out.b.mono HB.out.size)
        go_wp2_with (go_at_call 17; refine H17b.out.mono ?_)
        first | rintro e w9 rfl b9 | rintro e w9 ⟨rfl, b9⟩
        go_wp2_with fail
        go_ret
        exact ⟨rfl, below_from B8.out b9 B8.out.size⟩
end Go.Proofs.Ytoiopplhphllhaa
