/-
  The program's reader: record, the kinds without lists.
-/
import Derived.Test.YtnkkiepoljbhlaaDg
import Derived.Test.YtnkkiepoljbhlaaPn
namespace Go.Proofs.Ytnkkiepoljbhlaa
open Go.RowKit

set_option maxHeartbeats 4000000 in
set_option maxRecDepth 100000 in
theorem record1 (w : World) (rb : Nat) (st : Option (List UInt8)) (h : Rd w rb st) (hk : (pKnd st).1 = 1) : Calls Try.prog 33 #[.pointer (some ⟨rb, 0, none⟩)] w fun e w' => e = .returned (PL.rcd { PL.zero with kind := 1, tn := ⟨⟨(pTxt (pKnd st).2).1⟩⟩, tw := ((pNum (pTxt (pKnd st).2).2).1 : Nat), q0 := (pVec (pNum (pTxt (pKnd st).2).2).2).1.a, q1 := (pVec (pNum (pTxt (pKnd st).2).2).2).1.b, q2 := (pVec (pNum (pTxt (pKnd st).2).2).2).1.c, q3 := (pVec (pNum (pTxt (pKnd st).2).2).2).1.d } 1) ∧ Hid (Rd w' rb (pVec (pNum (pTxt (pKnd st).2).2).2).2 ∧ RdK rb w w') := by
  have A : Hid (Calls Try.prog 54 #[.pointer (some ⟨rb, 0, none⟩)] w fun e w' => e = .returned (.int .i64 1) ∧ Hid (Rd w' rb (pKnd st).2 ∧ RdK rb w w')) := by
    have := kind_any w rb st h
    rw [hk] at this
    exact this
  have HM : Hid (∀ W, Calls Try.prog 8 #[.agg (PL.cells { PL.zero with kind := 1 })] W fun e w' => e = .returned (.iface 61 (.agg #[.string ⟨#[]⟩, .int .i64 0, .int .i64 0, .int .i64 0, .int .i64 0, .int .i64 0])) ∧ Below W.heap.size W w') := fun W => make1 { PL.zero with kind := 1 } rfl W
  have A0 : Hid (∀ W, Rd W rb (pKnd st).2 → Calls Try.prog 55 #[.pointer (some ⟨rb, 0, none⟩)] W fun e w' => e = .returned (.string ⟨⟨(pTxt (pKnd st).2).1⟩⟩) ∧ Hid (Rd w' rb (pTxt (pKnd st).2).2 ∧ RdK rb W w')) := fun W hv => by have s := (pKnd st).2; exact text_any W rb _ hv
  have A1 : Hid (∀ W, Rd W rb (pTxt (pKnd st).2).2 → Calls Try.prog 56 #[.pointer (some ⟨rb, 0, none⟩)] W fun e w' => e = .returned (.int .i64 ((pNum (pTxt (pKnd st).2).2).1 : Nat)) ∧ Hid (Rd w' rb (pNum (pTxt (pKnd st).2).2).2 ∧ RdK rb W w')) := fun W hv => by have s := (pTxt (pKnd st).2).2; exact number_any W rb _ hv
  have A2 : Hid (∀ W, Rd W rb (pNum (pTxt (pKnd st).2).2).2 → Calls Try.prog 57 #[.pointer (some ⟨rb, 0, none⟩)] W fun e w' => e = .returned (.agg #[.int .i64 (pVec (pNum (pTxt (pKnd st).2).2).2).1.a, .int .i64 (pVec (pNum (pTxt (pKnd st).2).2).2).1.b, .int .i64 (pVec (pNum (pTxt (pKnd st).2).2).2).1.c, .int .i64 (pVec (pNum (pTxt (pKnd st).2).2).2).1.d]) ∧ Hid (Rd w' rb (pVec (pNum (pTxt (pKnd st).2).2).2).2 ∧ RdK rb W w')) := fun W hv => by have s := (pNum (pTxt (pKnd st).2).2).2; exact vector_any W rb _ hv
  clear h
  have a61 := assert_yes (x := 35) (v := (.agg #[.string ⟨#[]⟩, .int .i64 0, .int .i64 0, .int .i64 0, .int .i64 0, .int .i64 0])) Try.underlying61
  go_enter Try.func33, Try.ntmps33
  go_wp2_with (first
    | (go_at_call 54; refine A.out.mono ?_; rintro e w0 ⟨rfl, k0⟩)
    | (go_at_call 8; refine (HM.out _).mono ?_; rintro e w1 ⟨rfl, b1⟩)
    | (go_at_call 55; refine (A0.out _ (k0.out.1.below b1)).mono ?_; rintro e x0 ⟨rfl, y0⟩)
    | (go_at_call 56; refine (A1.out _ y0.out.1).mono ?_; rintro e x1 ⟨rfl, y1⟩)
    | (go_at_call 57; refine (A2.out _ y1.out.1).mono ?_; rintro e x2 ⟨rfl, y2⟩))
  go_ret
  exact ⟨rfl, y2.out.1, (((k0.out.2.trans (RdK.of_below b1)).trans y0.out.2).trans y1.out.2).trans y2.out.2⟩
set_option maxHeartbeats 4000000 in
set_option maxRecDepth 100000 in
theorem record2 (w : World) (rb : Nat) (st : Option (List UInt8)) (h : Rd w rb st) (hk : (pKnd st).1 = 2) : Calls Try.prog 33 #[.pointer (some ⟨rb, 0, none⟩)] w fun e w' => e = .returned (PL.rcd { PL.zero with kind := 2, nd := ⟨⟨(pTxt (pKnd st).2).1⟩⟩, ep := ((pNum (pTxt (pKnd st).2).2).1 : Nat), v0 := (pVec (pNum (pTxt (pKnd st).2).2).2).1.a, v1 := (pVec (pNum (pTxt (pKnd st).2).2).2).1.b, v2 := (pVec (pNum (pTxt (pKnd st).2).2).2).1.c, v3 := (pVec (pNum (pTxt (pKnd st).2).2).2).1.d } 2) ∧ Hid (Rd w' rb (pVec (pNum (pTxt (pKnd st).2).2).2).2 ∧ RdK rb w w') := by
  have A : Hid (Calls Try.prog 54 #[.pointer (some ⟨rb, 0, none⟩)] w fun e w' => e = .returned (.int .i64 2) ∧ Hid (Rd w' rb (pKnd st).2 ∧ RdK rb w w')) := by
    have := kind_any w rb st h
    rw [hk] at this
    exact this
  have HM : Hid (∀ W, Calls Try.prog 8 #[.agg (PL.cells { PL.zero with kind := 2 })] W fun e w' => e = .returned (.iface 63 (.agg #[.string ⟨#[]⟩, .int .i64 0, .int .i64 0, .int .i64 0, .int .i64 0, .int .i64 0])) ∧ Below W.heap.size W w') := fun W => make2 { PL.zero with kind := 2 } rfl W
  have A0 : Hid (∀ W, Rd W rb (pKnd st).2 → Calls Try.prog 55 #[.pointer (some ⟨rb, 0, none⟩)] W fun e w' => e = .returned (.string ⟨⟨(pTxt (pKnd st).2).1⟩⟩) ∧ Hid (Rd w' rb (pTxt (pKnd st).2).2 ∧ RdK rb W w')) := fun W hv => by have s := (pKnd st).2; exact text_any W rb _ hv
  have A1 : Hid (∀ W, Rd W rb (pTxt (pKnd st).2).2 → Calls Try.prog 56 #[.pointer (some ⟨rb, 0, none⟩)] W fun e w' => e = .returned (.int .i64 ((pNum (pTxt (pKnd st).2).2).1 : Nat)) ∧ Hid (Rd w' rb (pNum (pTxt (pKnd st).2).2).2 ∧ RdK rb W w')) := fun W hv => by have s := (pTxt (pKnd st).2).2; exact number_any W rb _ hv
  have A2 : Hid (∀ W, Rd W rb (pNum (pTxt (pKnd st).2).2).2 → Calls Try.prog 57 #[.pointer (some ⟨rb, 0, none⟩)] W fun e w' => e = .returned (.agg #[.int .i64 (pVec (pNum (pTxt (pKnd st).2).2).2).1.a, .int .i64 (pVec (pNum (pTxt (pKnd st).2).2).2).1.b, .int .i64 (pVec (pNum (pTxt (pKnd st).2).2).2).1.c, .int .i64 (pVec (pNum (pTxt (pKnd st).2).2).2).1.d]) ∧ Hid (Rd w' rb (pVec (pNum (pTxt (pKnd st).2).2).2).2 ∧ RdK rb W w')) := fun W hv => by have s := (pNum (pTxt (pKnd st).2).2).2; exact vector_any W rb _ hv
  clear h
  have a61 := assert_no (t := 63) (x := 35) (v := (.agg #[.string ⟨#[]⟩, .int .i64 0, .int .i64 0, .int .i64 0, .int .i64 0, .int .i64 0])) (by simp) Try.underlying61 Try.zeroValue61
  have a63 := assert_yes (x := 35) (v := (.agg #[.string ⟨#[]⟩, .int .i64 0, .int .i64 0, .int .i64 0, .int .i64 0, .int .i64 0])) Try.underlying63
  go_enter Try.func33, Try.ntmps33
  go_wp2_with (first
    | (go_at_call 54; refine A.out.mono ?_; rintro e w0 ⟨rfl, k0⟩)
    | (go_at_call 8; refine (HM.out _).mono ?_; rintro e w1 ⟨rfl, b1⟩)
    | (go_at_call 55; refine (A0.out _ (k0.out.1.below b1)).mono ?_; rintro e x0 ⟨rfl, y0⟩)
    | (go_at_call 56; refine (A1.out _ y0.out.1).mono ?_; rintro e x1 ⟨rfl, y1⟩)
    | (go_at_call 57; refine (A2.out _ y1.out.1).mono ?_; rintro e x2 ⟨rfl, y2⟩))
  go_ret
  exact ⟨rfl, y2.out.1, (((k0.out.2.trans (RdK.of_below b1)).trans y0.out.2).trans y1.out.2).trans y2.out.2⟩
set_option maxHeartbeats 4000000 in
set_option maxRecDepth 100000 in
theorem record3 (w : World) (rb : Nat) (st : Option (List UInt8)) (h : Rd w rb st) (hk : (pKnd st).1 = 3) : Calls Try.prog 33 #[.pointer (some ⟨rb, 0, none⟩)] w fun e w' => e = .returned (PL.rcd { PL.zero with kind := 3, nd := ⟨⟨(pTxt (pKnd st).2).1⟩⟩ } 3) ∧ Hid (Rd w' rb (pTxt (pKnd st).2).2 ∧ RdK rb w w') := by
  have A : Hid (Calls Try.prog 54 #[.pointer (some ⟨rb, 0, none⟩)] w fun e w' => e = .returned (.int .i64 3) ∧ Hid (Rd w' rb (pKnd st).2 ∧ RdK rb w w')) := by
    have := kind_any w rb st h
    rw [hk] at this
    exact this
  have HM : Hid (∀ W, Calls Try.prog 8 #[.agg (PL.cells { PL.zero with kind := 3 })] W fun e w' => e = .returned (.iface 57 (.agg #[.string ⟨#[]⟩])) ∧ Below W.heap.size W w') := fun W => make3 { PL.zero with kind := 3 } rfl W
  have A0 : Hid (∀ W, Rd W rb (pKnd st).2 → Calls Try.prog 55 #[.pointer (some ⟨rb, 0, none⟩)] W fun e w' => e = .returned (.string ⟨⟨(pTxt (pKnd st).2).1⟩⟩) ∧ Hid (Rd w' rb (pTxt (pKnd st).2).2 ∧ RdK rb W w')) := fun W hv => by have s := (pKnd st).2; exact text_any W rb _ hv
  clear h
  have a61 := assert_no (t := 57) (x := 35) (v := (.agg #[.string ⟨#[]⟩])) (by simp) Try.underlying61 Try.zeroValue61
  have a63 := assert_no (t := 57) (x := 35) (v := (.agg #[.string ⟨#[]⟩])) (by simp) Try.underlying63 Try.zeroValue63
  have a57 := assert_yes (x := 35) (v := (.agg #[.string ⟨#[]⟩])) Try.underlying57
  go_enter Try.func33, Try.ntmps33
  go_wp2_with (first
    | (go_at_call 54; refine A.out.mono ?_; rintro e w0 ⟨rfl, k0⟩)
    | (go_at_call 8; refine (HM.out _).mono ?_; rintro e w1 ⟨rfl, b1⟩)
    | (go_at_call 55; refine (A0.out _ (k0.out.1.below b1)).mono ?_; rintro e x0 ⟨rfl, y0⟩))
  go_ret
  exact ⟨rfl, y0.out.1, (k0.out.2.trans (RdK.of_below b1)).trans y0.out.2⟩
set_option maxHeartbeats 4000000 in
set_option maxRecDepth 100000 in
theorem record4 (w : World) (rb : Nat) (st : Option (List UInt8)) (h : Rd w rb st) (hk : (pKnd st).1 = 4) : Calls Try.prog 33 #[.pointer (some ⟨rb, 0, none⟩)] w fun e w' => e = .returned (PL.rcd { PL.zero with kind := 4, nd := ⟨⟨(pTxt (pKnd st).2).1⟩⟩ } 4) ∧ Hid (Rd w' rb (pTxt (pKnd st).2).2 ∧ RdK rb w w') := by
  have A : Hid (Calls Try.prog 54 #[.pointer (some ⟨rb, 0, none⟩)] w fun e w' => e = .returned (.int .i64 4) ∧ Hid (Rd w' rb (pKnd st).2 ∧ RdK rb w w')) := by
    have := kind_any w rb st h
    rw [hk] at this
    exact this
  have HM : Hid (∀ W, Calls Try.prog 8 #[.agg (PL.cells { PL.zero with kind := 4 })] W fun e w' => e = .returned (.iface 64 (.agg #[.string ⟨#[]⟩])) ∧ Below W.heap.size W w') := fun W => make4 { PL.zero with kind := 4 } rfl W
  have A0 : Hid (∀ W, Rd W rb (pKnd st).2 → Calls Try.prog 55 #[.pointer (some ⟨rb, 0, none⟩)] W fun e w' => e = .returned (.string ⟨⟨(pTxt (pKnd st).2).1⟩⟩) ∧ Hid (Rd w' rb (pTxt (pKnd st).2).2 ∧ RdK rb W w')) := fun W hv => by have s := (pKnd st).2; exact text_any W rb _ hv
  clear h
  have a61 := assert_no (t := 64) (x := 35) (v := (.agg #[.string ⟨#[]⟩])) (by simp) Try.underlying61 Try.zeroValue61
  have a63 := assert_no (t := 64) (x := 35) (v := (.agg #[.string ⟨#[]⟩])) (by simp) Try.underlying63 Try.zeroValue63
  have a57 := assert_no (t := 64) (x := 35) (v := (.agg #[.string ⟨#[]⟩])) (by simp) Try.underlying57 Try.zeroValue57
  have a64 := assert_yes (x := 35) (v := (.agg #[.string ⟨#[]⟩])) Try.underlying64
  go_enter Try.func33, Try.ntmps33
  go_wp2_with (first
    | (go_at_call 54; refine A.out.mono ?_; rintro e w0 ⟨rfl, k0⟩)
    | (go_at_call 8; refine (HM.out _).mono ?_; rintro e w1 ⟨rfl, b1⟩)
    | (go_at_call 55; refine (A0.out _ (k0.out.1.below b1)).mono ?_; rintro e x0 ⟨rfl, y0⟩))
  go_ret
  exact ⟨rfl, y0.out.1, (k0.out.2.trans (RdK.of_below b1)).trans y0.out.2⟩
set_option maxHeartbeats 4000000 in
set_option maxRecDepth 100000 in
theorem record6 (w : World) (rb : Nat) (st : Option (List UInt8)) (h : Rd w rb st) (hk : (pKnd st).1 = 6) : Calls Try.prog 33 #[.pointer (some ⟨rb, 0, none⟩)] w fun e w' => e = .returned (PL.rcd { PL.zero with kind := 6, id := ((pNum (pKnd st).2).1 : Nat) } 6) ∧ Hid (Rd w' rb (pNum (pKnd st).2).2 ∧ RdK rb w w') := by
  have A : Hid (Calls Try.prog 54 #[.pointer (some ⟨rb, 0, none⟩)] w fun e w' => e = .returned (.int .i64 6) ∧ Hid (Rd w' rb (pKnd st).2 ∧ RdK rb w w')) := by
    have := kind_any w rb st h
    rw [hk] at this
    exact this
  have HM : Hid (∀ W, Calls Try.prog 8 #[.agg (PL.cells { PL.zero with kind := 6 })] W fun e w' => e = .returned (.iface 68 (.agg #[.int .i64 0])) ∧ Below W.heap.size W w') := fun W => make6 { PL.zero with kind := 6 } rfl W
  have A0 : Hid (∀ W, Rd W rb (pKnd st).2 → Calls Try.prog 56 #[.pointer (some ⟨rb, 0, none⟩)] W fun e w' => e = .returned (.int .i64 ((pNum (pKnd st).2).1 : Nat)) ∧ Hid (Rd w' rb (pNum (pKnd st).2).2 ∧ RdK rb W w')) := fun W hv => by have s := (pKnd st).2; exact number_any W rb _ hv
  clear h
  have a61 := assert_no (t := 68) (x := 35) (v := (.agg #[.int .i64 0])) (by simp) Try.underlying61 Try.zeroValue61
  have a63 := assert_no (t := 68) (x := 35) (v := (.agg #[.int .i64 0])) (by simp) Try.underlying63 Try.zeroValue63
  have a57 := assert_no (t := 68) (x := 35) (v := (.agg #[.int .i64 0])) (by simp) Try.underlying57 Try.zeroValue57
  have a64 := assert_no (t := 68) (x := 35) (v := (.agg #[.int .i64 0])) (by simp) Try.underlying64 Try.zeroValue64
  have a66 := assert_no (t := 68) (x := 35) (v := (.agg #[.int .i64 0])) (by simp) Try.underlying66 Try.zeroValue66
  have a68 := assert_yes (x := 35) (v := (.agg #[.int .i64 0])) Try.underlying68
  go_enter Try.func33, Try.ntmps33
  go_wp2_with (first
    | (go_at_call 54; refine A.out.mono ?_; rintro e w0 ⟨rfl, k0⟩)
    | (go_at_call 8; refine (HM.out _).mono ?_; rintro e w1 ⟨rfl, b1⟩)
    | (go_at_call 56; refine (A0.out _ (k0.out.1.below b1)).mono ?_; rintro e x0 ⟨rfl, y0⟩))
  go_ret
  exact ⟨rfl, y0.out.1, (k0.out.2.trans (RdK.of_below b1)).trans y0.out.2⟩
set_option maxHeartbeats 4000000 in
set_option maxRecDepth 100000 in
theorem record8 (w : World) (rb : Nat) (st : Option (List UInt8)) (h : Rd w rb st) (hk : (pKnd st).1 = 8) : Calls Try.prog 33 #[.pointer (some ⟨rb, 0, none⟩)] w fun e w' => e = .returned (PL.rcd { PL.zero with kind := 8, id := ((pNum (pKnd st).2).1 : Nat) } 8) ∧ Hid (Rd w' rb (pNum (pKnd st).2).2 ∧ RdK rb w w') := by
  have A : Hid (Calls Try.prog 54 #[.pointer (some ⟨rb, 0, none⟩)] w fun e w' => e = .returned (.int .i64 8) ∧ Hid (Rd w' rb (pKnd st).2 ∧ RdK rb w w')) := by
    have := kind_any w rb st h
    rw [hk] at this
    exact this
  have HM : Hid (∀ W, Calls Try.prog 8 #[.agg (PL.cells { PL.zero with kind := 8 })] W fun e w' => e = .returned (.iface 71 (.agg #[.int .i64 0])) ∧ Below W.heap.size W w') := fun W => make8 { PL.zero with kind := 8 } rfl W
  have A0 : Hid (∀ W, Rd W rb (pKnd st).2 → Calls Try.prog 56 #[.pointer (some ⟨rb, 0, none⟩)] W fun e w' => e = .returned (.int .i64 ((pNum (pKnd st).2).1 : Nat)) ∧ Hid (Rd w' rb (pNum (pKnd st).2).2 ∧ RdK rb W w')) := fun W hv => by have s := (pKnd st).2; exact number_any W rb _ hv
  clear h
  have a61 := assert_no (t := 71) (x := 35) (v := (.agg #[.int .i64 0])) (by simp) Try.underlying61 Try.zeroValue61
  have a63 := assert_no (t := 71) (x := 35) (v := (.agg #[.int .i64 0])) (by simp) Try.underlying63 Try.zeroValue63
  have a57 := assert_no (t := 71) (x := 35) (v := (.agg #[.int .i64 0])) (by simp) Try.underlying57 Try.zeroValue57
  have a64 := assert_no (t := 71) (x := 35) (v := (.agg #[.int .i64 0])) (by simp) Try.underlying64 Try.zeroValue64
  have a66 := assert_no (t := 71) (x := 35) (v := (.agg #[.int .i64 0])) (by simp) Try.underlying66 Try.zeroValue66
  have a68 := assert_no (t := 71) (x := 35) (v := (.agg #[.int .i64 0])) (by simp) Try.underlying68 Try.zeroValue68
  have a70 := assert_no (t := 71) (x := 35) (v := (.agg #[.int .i64 0])) (by simp) Try.underlying70 Try.zeroValue70
  have a71 := assert_yes (x := 35) (v := (.agg #[.int .i64 0])) Try.underlying71
  go_enter Try.func33, Try.ntmps33
  go_wp2_with (first
    | (go_at_call 54; refine A.out.mono ?_; rintro e w0 ⟨rfl, k0⟩)
    | (go_at_call 8; refine (HM.out _).mono ?_; rintro e w1 ⟨rfl, b1⟩)
    | (go_at_call 56; refine (A0.out _ (k0.out.1.below b1)).mono ?_; rintro e x0 ⟨rfl, y0⟩))
  go_ret
  exact ⟨rfl, y0.out.1, (k0.out.2.trans (RdK.of_below b1)).trans y0.out.2⟩
set_option maxHeartbeats 4000000 in
set_option maxRecDepth 100000 in
theorem record9 (w : World) (rb : Nat) (st : Option (List UInt8)) (h : Rd w rb st) (hk : (pKnd st).1 = 9) : Calls Try.prog 33 #[.pointer (some ⟨rb, 0, none⟩)] w fun e w' => e = .returned (PL.rcd { PL.zero with kind := 9, id := ((pNum (pKnd st).2).1 : Nat), nd := ⟨⟨(pTxt (pNum (pKnd st).2).2).1⟩⟩ } 9) ∧ Hid (Rd w' rb (pTxt (pNum (pKnd st).2).2).2 ∧ RdK rb w w') := by
  have A : Hid (Calls Try.prog 54 #[.pointer (some ⟨rb, 0, none⟩)] w fun e w' => e = .returned (.int .i64 9) ∧ Hid (Rd w' rb (pKnd st).2 ∧ RdK rb w w')) := by
    have := kind_any w rb st h
    rw [hk] at this
    exact this
  have HM : Hid (∀ W, Calls Try.prog 8 #[.agg (PL.cells { PL.zero with kind := 9 })] W fun e w' => e = .returned (.iface 73 (.agg #[.int .i64 0, .string ⟨#[]⟩])) ∧ Below W.heap.size W w') := fun W => make9 { PL.zero with kind := 9 } rfl W
  have A0 : Hid (∀ W, Rd W rb (pKnd st).2 → Calls Try.prog 56 #[.pointer (some ⟨rb, 0, none⟩)] W fun e w' => e = .returned (.int .i64 ((pNum (pKnd st).2).1 : Nat)) ∧ Hid (Rd w' rb (pNum (pKnd st).2).2 ∧ RdK rb W w')) := fun W hv => by have s := (pKnd st).2; exact number_any W rb _ hv
  have A1 : Hid (∀ W, Rd W rb (pNum (pKnd st).2).2 → Calls Try.prog 55 #[.pointer (some ⟨rb, 0, none⟩)] W fun e w' => e = .returned (.string ⟨⟨(pTxt (pNum (pKnd st).2).2).1⟩⟩) ∧ Hid (Rd w' rb (pTxt (pNum (pKnd st).2).2).2 ∧ RdK rb W w')) := fun W hv => by have s := (pNum (pKnd st).2).2; exact text_any W rb _ hv
  clear h
  have a61 := assert_no (t := 73) (x := 35) (v := (.agg #[.int .i64 0, .string ⟨#[]⟩])) (by simp) Try.underlying61 Try.zeroValue61
  have a63 := assert_no (t := 73) (x := 35) (v := (.agg #[.int .i64 0, .string ⟨#[]⟩])) (by simp) Try.underlying63 Try.zeroValue63
  have a57 := assert_no (t := 73) (x := 35) (v := (.agg #[.int .i64 0, .string ⟨#[]⟩])) (by simp) Try.underlying57 Try.zeroValue57
  have a64 := assert_no (t := 73) (x := 35) (v := (.agg #[.int .i64 0, .string ⟨#[]⟩])) (by simp) Try.underlying64 Try.zeroValue64
  have a66 := assert_no (t := 73) (x := 35) (v := (.agg #[.int .i64 0, .string ⟨#[]⟩])) (by simp) Try.underlying66 Try.zeroValue66
  have a68 := assert_no (t := 73) (x := 35) (v := (.agg #[.int .i64 0, .string ⟨#[]⟩])) (by simp) Try.underlying68 Try.zeroValue68
  have a70 := assert_no (t := 73) (x := 35) (v := (.agg #[.int .i64 0, .string ⟨#[]⟩])) (by simp) Try.underlying70 Try.zeroValue70
  have a71 := assert_no (t := 73) (x := 35) (v := (.agg #[.int .i64 0, .string ⟨#[]⟩])) (by simp) Try.underlying71 Try.zeroValue71
  have a73 := assert_yes (x := 35) (v := (.agg #[.int .i64 0, .string ⟨#[]⟩])) Try.underlying73
  go_enter Try.func33, Try.ntmps33
  go_wp2_with (first
    | (go_at_call 54; refine A.out.mono ?_; rintro e w0 ⟨rfl, k0⟩)
    | (go_at_call 8; refine (HM.out _).mono ?_; rintro e w1 ⟨rfl, b1⟩)
    | (go_at_call 56; refine (A0.out _ (k0.out.1.below b1)).mono ?_; rintro e x0 ⟨rfl, y0⟩)
    | (go_at_call 55; refine (A1.out _ y0.out.1).mono ?_; rintro e x1 ⟨rfl, y1⟩))
  go_ret
  exact ⟨rfl, y1.out.1, ((k0.out.2.trans (RdK.of_below b1)).trans y0.out.2).trans y1.out.2⟩
set_option maxHeartbeats 4000000 in
set_option maxRecDepth 100000 in
theorem record10 (w : World) (rb : Nat) (st : Option (List UInt8)) (h : Rd w rb st) (hk : (pKnd st).1 = 10) : Calls Try.prog 33 #[.pointer (some ⟨rb, 0, none⟩)] w fun e w' => e = .returned (PL.rcd { PL.zero with kind := 10, id := ((pNum (pKnd st).2).1 : Nat), st := ((pUp 6 (pNum (pKnd st).2).2).1 : Nat) } 10) ∧ Hid (Rd w' rb (pUp 6 (pNum (pKnd st).2).2).2 ∧ RdK rb w w') := by
  have A : Hid (Calls Try.prog 54 #[.pointer (some ⟨rb, 0, none⟩)] w fun e w' => e = .returned (.int .i64 10) ∧ Hid (Rd w' rb (pKnd st).2 ∧ RdK rb w w')) := by
    have := kind_any w rb st h
    rw [hk] at this
    exact this
  have HM : Hid (∀ W, Calls Try.prog 8 #[.agg (PL.cells { PL.zero with kind := 10 })] W fun e w' => e = .returned (.iface 75 (.agg #[.int .i64 0, .int .i64 0])) ∧ Below W.heap.size W w') := fun W => make10 { PL.zero with kind := 10 } rfl W
  have A0 : Hid (∀ W, Rd W rb (pKnd st).2 → Calls Try.prog 56 #[.pointer (some ⟨rb, 0, none⟩)] W fun e w' => e = .returned (.int .i64 ((pNum (pKnd st).2).1 : Nat)) ∧ Hid (Rd w' rb (pNum (pKnd st).2).2 ∧ RdK rb W w')) := fun W hv => by have s := (pKnd st).2; exact number_any W rb _ hv
  have A1 : Hid (∀ W, Rd W rb (pNum (pKnd st).2).2 → Calls Try.prog 60 #[.pointer (some ⟨rb, 0, none⟩), .int .i64 6] W fun e w' => e = .returned (.int .i64 ((pUp 6 (pNum (pKnd st).2).2).1 : Nat)) ∧ Hid (Rd w' rb (pUp 6 (pNum (pKnd st).2).2).2 ∧ RdK rb W w')) := fun W hv => by have s := (pNum (pKnd st).2).2; exact upTo_any W rb 6 _ hv
  clear h
  have a61 := assert_no (t := 75) (x := 35) (v := (.agg #[.int .i64 0, .int .i64 0])) (by simp) Try.underlying61 Try.zeroValue61
  have a63 := assert_no (t := 75) (x := 35) (v := (.agg #[.int .i64 0, .int .i64 0])) (by simp) Try.underlying63 Try.zeroValue63
  have a57 := assert_no (t := 75) (x := 35) (v := (.agg #[.int .i64 0, .int .i64 0])) (by simp) Try.underlying57 Try.zeroValue57
  have a64 := assert_no (t := 75) (x := 35) (v := (.agg #[.int .i64 0, .int .i64 0])) (by simp) Try.underlying64 Try.zeroValue64
  have a66 := assert_no (t := 75) (x := 35) (v := (.agg #[.int .i64 0, .int .i64 0])) (by simp) Try.underlying66 Try.zeroValue66
  have a68 := assert_no (t := 75) (x := 35) (v := (.agg #[.int .i64 0, .int .i64 0])) (by simp) Try.underlying68 Try.zeroValue68
  have a70 := assert_no (t := 75) (x := 35) (v := (.agg #[.int .i64 0, .int .i64 0])) (by simp) Try.underlying70 Try.zeroValue70
  have a71 := assert_no (t := 75) (x := 35) (v := (.agg #[.int .i64 0, .int .i64 0])) (by simp) Try.underlying71 Try.zeroValue71
  have a73 := assert_no (t := 75) (x := 35) (v := (.agg #[.int .i64 0, .int .i64 0])) (by simp) Try.underlying73 Try.zeroValue73
  have a75 := assert_yes (x := 35) (v := (.agg #[.int .i64 0, .int .i64 0])) Try.underlying75
  go_enter Try.func33, Try.ntmps33
  go_wp2_with (first
    | (go_at_call 54; refine A.out.mono ?_; rintro e w0 ⟨rfl, k0⟩)
    | (go_at_call 8; refine (HM.out _).mono ?_; rintro e w1 ⟨rfl, b1⟩)
    | (go_at_call 56; refine (A0.out _ (k0.out.1.below b1)).mono ?_; rintro e x0 ⟨rfl, y0⟩)
    | (go_at_call 60; refine (A1.out _ y0.out.1).mono ?_; rintro e x1 ⟨rfl, y1⟩))
  go_ret
  exact ⟨rfl, y1.out.1, ((k0.out.2.trans (RdK.of_below b1)).trans y0.out.2).trans y1.out.2⟩
set_option maxHeartbeats 4000000 in
set_option maxRecDepth 100000 in
theorem record11 (w : World) (rb : Nat) (st : Option (List UInt8)) (h : Rd w rb st) (hk : (pKnd st).1 = 11) : Calls Try.prog 33 #[.pointer (some ⟨rb, 0, none⟩)] w fun e w' => e = .returned (PL.rcd { PL.zero with kind := 11 } 11) ∧ Hid (Rd w' rb (pKnd st).2 ∧ RdK rb w w') := by
  have A : Hid (Calls Try.prog 54 #[.pointer (some ⟨rb, 0, none⟩)] w fun e w' => e = .returned (.int .i64 11) ∧ Hid (Rd w' rb (pKnd st).2 ∧ RdK rb w w')) := by
    have := kind_any w rb st h
    rw [hk] at this
    exact this
  have HM : Hid (∀ W, Calls Try.prog 8 #[.agg (PL.cells { PL.zero with kind := 11 })] W fun e w' => e = .returned (.iface 59 (.agg #[])) ∧ Below W.heap.size W w') := fun W => make11 { PL.zero with kind := 11 } rfl W
  clear h
  have a61 := assert_no (t := 59) (x := 35) (v := (.agg #[])) (by simp) Try.underlying61 Try.zeroValue61
  have a63 := assert_no (t := 59) (x := 35) (v := (.agg #[])) (by simp) Try.underlying63 Try.zeroValue63
  have a57 := assert_no (t := 59) (x := 35) (v := (.agg #[])) (by simp) Try.underlying57 Try.zeroValue57
  have a64 := assert_no (t := 59) (x := 35) (v := (.agg #[])) (by simp) Try.underlying64 Try.zeroValue64
  have a66 := assert_no (t := 59) (x := 35) (v := (.agg #[])) (by simp) Try.underlying66 Try.zeroValue66
  have a68 := assert_no (t := 59) (x := 35) (v := (.agg #[])) (by simp) Try.underlying68 Try.zeroValue68
  have a70 := assert_no (t := 59) (x := 35) (v := (.agg #[])) (by simp) Try.underlying70 Try.zeroValue70
  have a71 := assert_no (t := 59) (x := 35) (v := (.agg #[])) (by simp) Try.underlying71 Try.zeroValue71
  have a73 := assert_no (t := 59) (x := 35) (v := (.agg #[])) (by simp) Try.underlying73 Try.zeroValue73
  have a75 := assert_no (t := 59) (x := 35) (v := (.agg #[])) (by simp) Try.underlying75 Try.zeroValue75
  have a59 := assert_yes (x := 35) (v := (.agg #[])) Try.underlying59
  go_enter Try.func33, Try.ntmps33
  go_wp2_with (first
    | (go_at_call 54; refine A.out.mono ?_; rintro e w0 ⟨rfl, k0⟩)
    | (go_at_call 8; refine (HM.out _).mono ?_; rintro e w1 ⟨rfl, b1⟩))
  go_ret
  exact ⟨rfl, (k0.out.1.below b1), (k0.out.2.trans (RdK.of_below b1))⟩
end Go.Proofs.Ytnkkiepoljbhlaa
