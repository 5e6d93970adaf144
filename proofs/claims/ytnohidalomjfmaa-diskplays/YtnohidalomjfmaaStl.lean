/-
  The law's step, whatever the call.
-/
import Derived.Test.YtnohidalomjfmaaStg
import Derived.Test.YtnohidalomjfmaaSth
import Derived.Test.YtnohidalomjfmaaSti
import Derived.Test.YtnohidalomjfmaaStj
import Derived.Test.YtnohidalomjfmaaStk
namespace Go.Proofs.Ytnohidalomjfmaa
open Go.RowKit Go.Maps

theorem step_any {w0 w : World} {pb rb : Nat} {D : DK} (h : Both w0 w pb rb D) (kd n : Int) (s t : List UInt8) (q : Option Addr) (m c : Nat) (mb : List UInt8) (hn : n < 9223372036854775808) (hs : s.length ≤ 281474976710656) (ht : t.length ≤ 281474976710656) (hm : mb.length = m) (hq : q = none → c = 0) (hL : Lies w q mb) (hmb : m ≤ 140737488355328) :
    Calls Try.prog 13 #[.pointer (some ⟨pb, 0, none⟩), .pointer (some ⟨rb, 0, none⟩), .agg #[.int .i64 kd, .int .i64 n, .string ⟨⟨s⟩⟩, .string ⟨⟨t⟩⟩, .slice q m c]] w fun e w' => e = .returned (.bool true) ∧ ∃ D', Both w0 w' pb rb D' := by
  obtain ⟨tg, rt, h⟩ := h
  have fin : ∀ {D' : DK} (e : Ending) (w' : World), (e = .returned (.bool true) ∧ Both w0 w' pb rb D') → (e = .returned (.bool true) ∧ ∃ D', Both w0 w' pb rb D') := fun e w' x => ⟨x.1, _, x.2⟩
  by_cases e1 : kd = 1
  · subst e1; exact (step_append h n s t q m c mb hs hm hq hL hmb).mono fin
  by_cases e2 : kd = 2
  · subst e2; exact (step_sync h n s t q m c mb hs hm hq hL hmb).mono fin
  by_cases e3 : kd = 3
  · subst e3; exact (step_rename h n s t q m c mb hs ht hm hq hL hmb).mono fin
  by_cases e4 : kd = 4
  · subst e4; exact (step_remove h n s t q m c mb hs hm hq hL hmb).mono fin
  by_cases e5 : kd = 5
  · subst e5; exact (step_trunc h n s t q m c mb hs hm hq hL hmb).mono fin
  by_cases e6 : kd = 6
  · subst e6; exact (step_read h n s t q m c mb hs hm hq hL hmb).mono fin
  by_cases e7 : kd = 7
  · subst e7; exact (step_fuse h n s t q m c mb hn hm hq hL hmb).mono fin
  by_cases e8 : kd = 8
  · subst e8; exact (step_restart h n s t q m c mb hm hq hL hmb).mono fin
  by_cases e9 : kd = 9
  · subst e9; exact (step_list h n s t q m c mb hm hq hL hmb).mono fin
  exact (step_other h kd n s t q m c mb (by simpa using e1) (by simpa using e2) (by simpa using e3) (by simpa using e4) (by simpa using e5) (by simpa using e6) (by simpa using e7) (by simpa using e8) (by simpa using e9) hm hq hL hmb).mono fin
end Go.Proofs.Ytnohidalomjfmaa
