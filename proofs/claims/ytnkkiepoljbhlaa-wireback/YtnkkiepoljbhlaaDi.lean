/-
  The program's reader: record, the other kinds.
-/
import Derived.Test.YtnkkiepoljbhlaaDg
import Derived.Test.YtnkkiepoljbhlaaPn
namespace Go.Proofs.Ytnkkiepoljbhlaa
open Go.RowKit

set_option maxHeartbeats 4000000 in
set_option maxRecDepth 100000 in
theorem record0 (w : World) (rb : Nat) (st : Option (List UInt8)) (h : Rd w rb st) (hk : ¬ (1 ≤ (pKnd st).1 ∧ (pKnd st).1 ≤ 11)) : Calls Try.prog 33 #[.pointer (some ⟨rb, 0, none⟩)] w fun e w' => e = .returned .nilIface ∧ Hid (Rd w' rb (pKnd st).2 ∧ RdK rb w w') := by
  have A : Hid (Calls Try.prog 54 #[.pointer (some ⟨rb, 0, none⟩)] w fun e w' => e = .returned (.int .i64 ((pKnd st).1 : Nat)) ∧ Hid (Rd w' rb (pKnd st).2 ∧ RdK rb w w')) := kind_any w rb st h
  generalize (pKnd st).1 = k at *
  have HM : Hid (∀ W, Calls Try.prog 8 #[.agg (PL.cells { PL.zero with kind := (k : Nat) })] W fun e w' => e = .returned .nilIface ∧ Below W.heap.size W w') := fun W => make0 { PL.zero with kind := (k : Nat) } (by simp only; omega) W
  clear h hk
  have a61 := assert_nil (x := 35) Try.underlying61 Try.zeroValue61
  have a63 := assert_nil (x := 35) Try.underlying63 Try.zeroValue63
  have a57 := assert_nil (x := 35) Try.underlying57 Try.zeroValue57
  have a64 := assert_nil (x := 35) Try.underlying64 Try.zeroValue64
  have a66 := assert_nil (x := 35) Try.underlying66 Try.zeroValue66
  have a68 := assert_nil (x := 35) Try.underlying68 Try.zeroValue68
  have a70 := assert_nil (x := 35) Try.underlying70 Try.zeroValue70
  have a71 := assert_nil (x := 35) Try.underlying71 Try.zeroValue71
  have a73 := assert_nil (x := 35) Try.underlying73 Try.zeroValue73
  have a75 := assert_nil (x := 35) Try.underlying75 Try.zeroValue75
  have a59 := assert_nil (x := 35) Try.underlying59 Try.zeroValue59
  go_enter Try.func33, Try.ntmps33
  go_wp2_with (first
    | (go_at_call 54; refine A.out.mono ?_; rintro e w0 ⟨rfl, k0⟩)
    | (go_at_call 8; refine (HM.out _).mono ?_; rintro e w1 ⟨rfl, b1⟩))
  go_ret
  exact ⟨rfl, k0.out.1.below b1, k0.out.2.trans (RdK.of_below b1)⟩
set_option maxHeartbeats 4000000 in
set_option maxRecDepth 100000 in
theorem record5 (w : World) (rb : Nat) (st : Option (List UInt8)) (h : Rd w rb st) (hk : (pKnd st).1 = 5) : Calls Try.prog 33 #[.pointer (some ⟨rb, 0, none⟩)] w fun e w' => ∃ pa tk : SL, e = .returned (PL.rcd { PL.zero with kind := 5, jb := (pJob (pKnd st).2).1.jb pa tk } 5) ∧ Hid (Rd w' rb (pJob (pKnd st).2).2 ∧ RdK rb w w' ∧ w'.ownsRow w.heap.size 2 1 pa.v (pJob (pKnd st).2).1.pa.length (intsV (pJob (pKnd st).2).1.pa) ∧ w'.ownsRow w.heap.size 23 4 tk.v (pJob (pKnd st).2).1.tk.length (flat (pJob (pKnd st).2).1.tk)) := by
  have A : Hid (Calls Try.prog 54 #[.pointer (some ⟨rb, 0, none⟩)] w fun e w' => e = .returned (.int .i64 5) ∧ Hid (Rd w' rb (pKnd st).2 ∧ RdK rb w w')) := by
    have := kind_any w rb st h
    rw [hk] at this
    exact this
  have HM : Hid (∀ W, Calls Try.prog 8 #[.agg (PL.cells { PL.zero with kind := 5 })] W fun e w' => e = .returned (.iface 66 (.agg #[.int .i64 0, .string ⟨#[]⟩, .int .i64 0, .int .i64 0, .slice none 0 0, .slice none 0 0, .int .i64 0, .int .i64 0, .slice none 0 0, .int .i64 0, .slice none 0 0])) ∧ Below W.heap.size W w') := fun W => make5 { PL.zero with kind := 5 } rfl W
  generalize (pKnd st).2 = s0 at *
  have A1 : Hid (∀ W, Rd W rb s0 → Calls Try.prog 58 #[.pointer (some ⟨rb, 0, none⟩)] W fun e w' => ∃ pa tk : SL, e = .returned (.agg #[.int .i64 ((pJob s0).1.id : Nat), .string ⟨⟨(pJob s0).1.tn⟩⟩, .int .i64 ((pJob s0).1.pr : Nat), .int .i64 ((pJob s0).1.rt : Nat), .slice pa.a pa.n pa.c, .slice tk.a tk.n tk.c, .int .i64 0, .int .i64 0, .slice none 0 0, .int .i64 0, .slice none 0 0]) ∧ Hid (Rd w' rb (pJob s0).2 ∧ RdK rb W w' ∧ w'.ownsRow W.heap.size 2 1 pa.v (pJob s0).1.pa.length (intsV (pJob s0).1.pa) ∧ w'.ownsRow W.heap.size 23 4 tk.v (pJob s0).1.tk.length (flat (pJob s0).1.tk))) := fun W hv => job_any W rb s0 hv
  clear h hk
  have a61 := assert_no (t := 66) (x := 35) (v := (.agg #[.int .i64 0, .string ⟨#[]⟩, .int .i64 0, .int .i64 0, .slice none 0 0, .slice none 0 0, .int .i64 0, .int .i64 0, .slice none 0 0, .int .i64 0, .slice none 0 0])) (by simp) Try.underlying61 Try.zeroValue61
  have a63 := assert_no (t := 66) (x := 35) (v := (.agg #[.int .i64 0, .string ⟨#[]⟩, .int .i64 0, .int .i64 0, .slice none 0 0, .slice none 0 0, .int .i64 0, .int .i64 0, .slice none 0 0, .int .i64 0, .slice none 0 0])) (by simp) Try.underlying63 Try.zeroValue63
  have a57 := assert_no (t := 66) (x := 35) (v := (.agg #[.int .i64 0, .string ⟨#[]⟩, .int .i64 0, .int .i64 0, .slice none 0 0, .slice none 0 0, .int .i64 0, .int .i64 0, .slice none 0 0, .int .i64 0, .slice none 0 0])) (by simp) Try.underlying57 Try.zeroValue57
  have a64 := assert_no (t := 66) (x := 35) (v := (.agg #[.int .i64 0, .string ⟨#[]⟩, .int .i64 0, .int .i64 0, .slice none 0 0, .slice none 0 0, .int .i64 0, .int .i64 0, .slice none 0 0, .int .i64 0, .slice none 0 0])) (by simp) Try.underlying64 Try.zeroValue64
  have a66 := assert_yes (x := 35) (v := (.agg #[.int .i64 0, .string ⟨#[]⟩, .int .i64 0, .int .i64 0, .slice none 0 0, .slice none 0 0, .int .i64 0, .int .i64 0, .slice none 0 0, .int .i64 0, .slice none 0 0])) Try.underlying66
  go_enter Try.func33, Try.ntmps33
  go_wp2_with (first
    | (go_at_call 54; refine A.out.mono ?_; rintro e w0 ⟨rfl, k0⟩)
    | (go_at_call 8; refine (HM.out _).mono ?_; rintro e w1 ⟨rfl, b1⟩)
    | (go_at_call 58; refine (A1.out _ (k0.out.1.below b1)).mono ?_; rintro e x1 ⟨pa, tk, rfl, y1⟩))
  go_ret
  have hk := k0.out.2.trans (RdK.of_below b1)
  exact ⟨pa, tk, rfl, y1.out.1, hk.trans y1.out.2.1, Joins.ownsRow_le y1.out.2.2.1 hk.size, Joins.ownsRow_le y1.out.2.2.2 hk.size⟩
/-- the nodes of a placed task -/
def pNds (s : Option (List UInt8)) : List ByteArray × Option (List UInt8) := pRep pStr (pUp 6 s).1 (pUp 6 s).2
set_option maxHeartbeats 4000000 in
set_option maxRecDepth 100000 in
theorem record7 (w : World) (rb : Nat) (st : Option (List UInt8)) (h : Rd w rb st) (hk : (pKnd st).1 = 7) : Calls Try.prog 33 #[.pointer (some ⟨rb, 0, none⟩)] w fun e w' => ∃ l : SL, e = .returned (PL.rcd { PL.zero with kind := 7, id := ((pNum (pKnd st).2).1 : Nat), ns := l } 7) ∧ Hid (Rd w' rb (pNds (pNum (pKnd st).2).2).2 ∧ RdK rb w w' ∧ w'.ownsRow w.heap.size 9 1 l.v (pNds (pNum (pKnd st).2).2).1.length (textsV (pNds (pNum (pKnd st).2).2).1)) := by
  have A : Hid (Calls Try.prog 54 #[.pointer (some ⟨rb, 0, none⟩)] w fun e w' => e = .returned (.int .i64 7) ∧ Hid (Rd w' rb (pKnd st).2 ∧ RdK rb w w')) := by
    have := kind_any w rb st h
    rw [hk] at this
    exact this
  have HM : Hid (∀ W, Calls Try.prog 8 #[.agg (PL.cells { PL.zero with kind := 7 })] W fun e w' => e = .returned (.iface 70 (.agg #[.int .i64 0, .slice none 0 0])) ∧ Below W.heap.size W w') := fun W => make7 { PL.zero with kind := 7 } rfl W
  obtain ⟨s0, hs0⟩ : ∃ s, (pKnd st).2 = s := ⟨_, rfl⟩
  rw [hs0] at A ⊢
  obtain ⟨n1, s1, e1⟩ : ∃ n s, pNum s0 = (n, s) := ⟨_, _, rfl⟩
  obtain ⟨n2, s2, e2⟩ : ∃ n s, pUp 6 s1 = (n, s) := ⟨_, _, rfl⟩
  obtain ⟨l3, s3, e3⟩ : ∃ l s, pRep pStr n2 s2 = (l, s) := ⟨_, _, rfl⟩
  have q2 : n2 ≤ 6 := by have := pUp_le (most := 6) (st := s1); rw [e2] at this; exact this
  have HP : Hid (pNds s1 = (l3, s3) ∧ l3.length = n2) := ⟨by unfold pNds; rw [e2]; exact e3, by have := pRep_length pStr n2 s2; rw [e3] at this; exact this⟩
  have A1 : Hid (∀ W, Rd W rb s0 → Calls Try.prog 56 #[.pointer (some ⟨rb, 0, none⟩)] W fun e w' => e = .returned (.int .i64 (n1 : Nat)) ∧ Hid (Rd w' rb s1 ∧ RdK rb W w')) := fun W hv => by have := number_any W rb s0 hv; rw [e1] at this; exact this
  have A2 : Hid (∀ W, Rd W rb s1 → Calls Try.prog 60 #[.pointer (some ⟨rb, 0, none⟩), .int .i64 6] W fun e w' => e = .returned (.int .i64 (n2 : Nat)) ∧ Hid (Rd w' rb s2 ∧ RdK rb W w')) := fun W hv => by have := upTo_any W rb 6 s1 hv; rw [e2] at this; exact this
  have A3 : Hid (∀ W, Rd W rb s2 → Calls Try.prog 59 #[.int .i64 (n2 : Nat), .func (.func 55) #[.pointer (some ⟨rb, 0, none⟩)] #[]] W fun e w' => ∃ l : SL, e = .returned (.slice l.a l.n l.c) ∧ Hid (Rd w' rb s3 ∧ RdK rb W w' ∧ w'.ownsRow W.heap.size 9 1 l.v n2 (textsV l3))) := fun W hv => (list_txt W rb n2 s2 hv (by omega)).mono (by
    rintro e w' ⟨v, rfl, h2⟩
    rw [e3] at h2
    obtain ⟨l, rfl, ho⟩ := sl_own h2.out (B := W.heap.size) (Nat.le_refl _)
    exact ⟨l, rfl, h2.out.rd, h2.out.kp, ho⟩)
  rw [e1]
  show Calls _ _ _ _ fun e w' => ∃ l : SL, e = .returned (PL.rcd { PL.zero with kind := 7, id := (n1 : Nat), ns := l } 7) ∧ Hid (Rd w' rb (pNds s1).2 ∧ RdK rb w w' ∧ w'.ownsRow w.heap.size 9 1 l.v (pNds s1).1.length (textsV (pNds s1).1))
  rw [HP.out.1]
  clear h hk hs0 e1 e2 e3 q2
  have a61 := assert_no (t := 70) (x := 35) (v := (.agg #[.int .i64 0, .slice none 0 0])) (by simp) Try.underlying61 Try.zeroValue61
  have a63 := assert_no (t := 70) (x := 35) (v := (.agg #[.int .i64 0, .slice none 0 0])) (by simp) Try.underlying63 Try.zeroValue63
  have a57 := assert_no (t := 70) (x := 35) (v := (.agg #[.int .i64 0, .slice none 0 0])) (by simp) Try.underlying57 Try.zeroValue57
  have a64 := assert_no (t := 70) (x := 35) (v := (.agg #[.int .i64 0, .slice none 0 0])) (by simp) Try.underlying64 Try.zeroValue64
  have a66 := assert_no (t := 70) (x := 35) (v := (.agg #[.int .i64 0, .slice none 0 0])) (by simp) Try.underlying66 Try.zeroValue66
  have a68 := assert_no (t := 70) (x := 35) (v := (.agg #[.int .i64 0, .slice none 0 0])) (by simp) Try.underlying68 Try.zeroValue68
  have a70 := assert_yes (x := 35) (v := (.agg #[.int .i64 0, .slice none 0 0])) Try.underlying70
  go_enter Try.func33, Try.ntmps33
  go_wp2_with (first
    | (go_at_call 54; refine A.out.mono ?_; rintro e w0 ⟨rfl, k0⟩)
    | (go_at_call 8; refine (HM.out _).mono ?_; rintro e w1 ⟨rfl, b1⟩)
    | (go_at_call 56; refine (A1.out _ (k0.out.1.below b1)).mono ?_; rintro e x1 ⟨rfl, y1⟩)
    | (go_at_call 60; refine (A2.out _ y1.out.1).mono ?_; rintro e x2 ⟨rfl, y2⟩))
  refine (A3.out _ y2.out.1).mono ?_
  rintro e x3 ⟨l, rfl, y3⟩
  go_wp2_with fail
  go_ret
  have hk := (((k0.out.2.trans (RdK.of_below b1)).trans y1.out.2).trans y2.out.2)
  refine ⟨l, rfl, y3.out.1, hk.trans y3.out.2.1, ?_⟩
  show x3.ownsRow _ _ _ _ l3.length _
  rw [HP.out.2]
  exact Joins.ownsRow_le y3.out.2.2 hk.size
end Go.Proofs.Ytnkkiepoljbhlaa
