/-
  The calls on nil, New, find, Get, Next; Clone.
-/
import Derived.Test.YtihjmigjphljnaaTWk
import Derived.Test.YtihjmigjphljnaaTShelf
namespace Go.Proofs.Ytihjmigjphljnaa.Tk
open Go.RowKit Go.Maps Go.WideMaps

set_option maxHeartbeats 400000 in
theorem clone_any (s : ByteArray) (w : World) (hs : s.size ≤ 281474976710656) : Calls Try.prog 34 #[.string s] w fun e w' => e = .returned (.string s) ∧ Below w.heap.size w w' := by
  have H : Hid (Calls Try.prog 45 #[.string s] w fun e w' => e = .returned (.string s) ∧ Below w.heap.size w w') := Try.stringslite_Clone s w hs
  go_enter Try.func34, Try.ntmps34
  go_wp2_with (go_at_call 45; refine H.out.mono ?_; rintro e w1 ⟨rfl, b⟩)
  go_ret
  exact ⟨rfl, b⟩
theorem find_nil (w : World) (s : ByteArray) : Calls Try.prog 53 #[.pointer none, .string s] w fun e w' => e = .returned (.tuple #[.int .i64 0, .bool false]) ∧ w' = w := by
  go_enter Try.func53, Try.ntmps53
  go_wp2_with fail
  go_ret2
  exact ⟨rfl, rfl⟩
theorem find_raw (w : World) (cb : Nat) (mb : Option Nat) (s : ByteArray) (x : Int) (b : Bool) (c1 : w.cell? ⟨cb, 2, none⟩ = some (.map mb)) (hlk : (Instr.lookup 59 (.map mb) (.string s) true).run Try.prog w = .ok (.tuple #[.int .i64 x, .bool b]) w) :
    Calls Try.prog 53 #[.pointer (some ⟨cb, 1, none⟩), .string s] w fun e w' => e = .returned (.tuple #[.int .i64 x, .bool b]) ∧ w' = w := by
  go_enter Try.func53, Try.ntmps53
  go_wp2_with fail
  go_ret2
  exact ⟨rfl, rfl⟩
theorem find_S {w : World} {cb : Nat} {S : HS} (h : Mem w cb S) (s : ByteArray) (hs : s.size ≤ maxLen) :
    Calls Try.prog 53 #[.pointer (some ⟨cb, 1, none⟩), .string s] w fun e w' => e = .returned (.tuple #[.int .i64 (((plc s.data.toList S.l).getD 0 : Nat) : Int), .bool (plc s.data.toList S.l).isSome]) ∧ w' = w := by
  refine find_raw w cb S.mb s _ _ h.c1 ?_
  have := h.mp
  cases hm : S.mb with
  | none =>
    rw [hm] at this
    simp only at this
    rw [this]
    exact look_none w s hs
  | some m =>
    rw [hm] at this
    obtain ⟨M, hM⟩ := this
    exact look_at hM.o s hs _ (hM.a _ _) (hM.has _)
/-- what a clock's Get answers -/
def getV (o : Option Al) : Value := match o with
  | none => .tuple #[.int .i64 0, .int .i64 3]
  | some a => .tuple #[.int .i64 a.at', .int .i64 0]
theorem plc_fnd {l : List Al} (s : List UInt8) : fnd s l = (plc s l).map (gt l) := by
  unfold fnd plc
  induction l with
  | nil => rfl
  | cons a r ih =>
    rw [List.find?_cons, List.findIdx?_cons]
    by_cases e : (a.k == s) = true
    · simp [e]; rfl
    · simp only [e]
      rw [ih]
      cases List.findIdx? (fun b => b.k == s) r <;> rfl
def nextV (o : Option Al) : Value := match o with
  | none => .tuple #[.agg #[.string ⟨#[]⟩, .int .i64 0], .int .i64 3]
  | some a => .tuple #[.agg #[.string a.nm, .int .i64 a.at'], .int .i64 0]
end Go.Proofs.Ytihjmigjphljnaa.Tk
