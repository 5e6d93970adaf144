/-
  Get.
-/
import Derived.Test.YtihjmigjphljnaaAc
import Derived.Laws.ResultCell
namespace Go.Proofs.Ytihjmigjphljnaa
open Go.RowKit Go.Maps Go.WideMaps
open Tk

def getR (D : List Nd) (s : List UInt8) : Nd × Int := match fnd Nd.k s D with
  | none => (Nd.z, 3)
  | some n => (n, 0)
def ansN (r : Nd × Int) : Ending := .returned (.tuple #[r.1.val, .int .i64 r.2])
set_option maxHeartbeats 1000000 in
theorem get_raw (w : World) (tb : Nat) (mb : Option Nat) (s : ByteArray) (b : Bool) (nm : ByteArray) (ep a0 a1 a2 a3 sn : Int) (lv : Bool) (c0 : Hid (w.cell? ⟨tb, 0, none⟩ = some (.map mb)))
    (hlk : ∀ w', Below w.heap.size w w' → (Instr.lookup 57 (.map mb) (.string s) true).run Try.prog w' = .ok (.tuple #[.agg #[.string nm, .int .i64 ep, .int .i64 a0, .int .i64 a1, .int .i64 a2, .int .i64 a3, .int .i64 sn, .bool lv], .bool b]) w')
    (hb : b = false → nm = ⟨#[]⟩ ∧ ep = 0 ∧ a0 = 0 ∧ a1 = 0 ∧ a2 = 0 ∧ a3 = 0 ∧ sn = 0 ∧ lv = false) :
    Calls Try.prog 21 #[.pointer (some ⟨tb, 0, none⟩), .string s] w fun e w' => e = .returned (.tuple #[.agg #[.string nm, .int .i64 ep, .int .i64 a0, .int .i64 a1, .int .i64 a2, .int .i64 a3, .int .i64 sn, .bool lv], .int .i64 (if b then 0 else 3)]) ∧ Below w.heap.size w w' := by
  have hl1 : ∀ w', (Instr.lookup 57 (.map mb) (.string s) true).run Try.prog (w.alloc w') = .ok (.tuple #[.agg #[.string nm, .int .i64 ep, .int .i64 a0, .int .i64 a1, .int .i64 a2, .int .i64 a3, .int .i64 sn, .bool lv], .bool b]) (w.alloc w') := fun w' => hlk _ ((Below.refl _ w).alloc (Nat.le_refl _) _)
  have d0 : ∀ o, (w.alloc o).cell? ⟨tb, 0, none⟩ = some (.map mb) := fun o => cell_below c0.out ((Below.refl _ w).alloc (Nat.le_refl _) _)
  clear hlk
  cases b with
  | true =>
    clear hb
    go_enter Try.func21, Try.ntmps21
    go_wp2_with fail
    refine bodyPost_ret (v := .tuple #[.agg #[.string nm, .int .i64 ep, .int .i64 a0, .int .i64 a1, .int .i64 a2, .int .i64 a3, .int .i64 sn, .bool lv], .int .i64 0]) (by rw [results_cell_tmp rfl]; go_simp) rfl ⟨rfl, by go_grown⟩
  | false =>
    obtain ⟨rfl, rfl, rfl, rfl, rfl, rfl, rfl, rfl⟩ := hb rfl
    go_enter Try.func21, Try.ntmps21
    go_wp2_with fail
    refine bodyPost_ret (v := .tuple #[.agg #[.string ⟨#[]⟩, .int .i64 0, .int .i64 0, .int .i64 0, .int .i64 0, .int .i64 0, .int .i64 0, .bool false], .int .i64 3]) (by rw [results_cell_tmp rfl]; go_simp) rfl ⟨rfl, by go_grown⟩
theorem get_none (w : World) (s : ByteArray) : Calls Try.prog 21 #[.pointer none, .string s] w fun e w' => e = .returned (.tuple #[Nd.z.val, .int .i64 3]) ∧ Below w.heap.size w w' := by
  go_enter Try.func21, Try.ntmps21
  go_wp2_with fail
  refine bodyPost_ret (v := .tuple #[.agg #[.string ⟨#[]⟩, .int .i64 0, .int .i64 0, .int .i64 0, .int .i64 0, .int .i64 0, .int .i64 0, .bool false], .int .i64 3]) (by rw [results_cell_tmp rfl]; go_simp) rfl ⟨rfl, by go_grown⟩
section
variable {w : World} {tb : Nat} {S : HS} {mb : Option Nat} {D : List Nd} {R : List Al} {X : Nat → Prop}
theorem get_at (h : TbAt w tb S mb D R) (s : ByteArray) (hs : s.size ≤ 281474976710656) :
    Calls Try.prog 21 #[.pointer (some ⟨tb, 0, none⟩), .string s] w fun e w' => e = ansN (getR D s.data.toList) ∧ Below w.heap.size w w' := by
  have hs' : s.size ≤ maxLen := by unfold maxLen; omega
  have hlk := fun w' (b : Below w.heap.size w w') => look_ok (h.mp.keep fun m hm => b.block m (h.lt (.inr hm))) s hs'
  have e : getR D s.data.toList = (getN D s.data.toList, if (fnd Nd.k s.data.toList D).isSome then 0 else 3) := by
    unfold getR getN
    cases fnd Nd.k s.data.toList D <;> rfl
  rw [e]
  refine (get_raw w tb mb s _ _ _ _ _ _ _ _ _ h.c0 hlk fun hb => ?_)
  have : fnd Nd.k s.data.toList D = none := by simpa using hb
  unfold getN
  rw [this]
  exact ⟨rfl, rfl, rfl, rfl, rfl, rfl, rfl, rfl⟩
theorem get_any (h : Tab w X tb D) (s : ByteArray) (hs : s.size ≤ 281474976710656) :
    Calls Try.prog 21 #[.pointer (some ⟨tb, 0, none⟩), .string s] w fun e w' => e = ansN (getR D s.data.toList) ∧ Below w.heap.size w w' := by
  obtain ⟨⟨S, mb, R, h1, -⟩, -⟩ := h
  exact get_at h1 s hs
theorem len_map (h : MpN w mb D) (ty : TypeId) : (Builtin.len_ #[57] ty #[.map mb]).run Try.prog w = .ok (.int .i64 D.length) w := by
  unfold MpN at h
  cases mb with
  | none =>
    subst h
    simp [Builtin.len_, run_underlying Try.underlying57, goInt, Result.andThen]
  | some m =>
    have := World.ownsMap.len h Try.underlying57 ty
    rw [mapOf_size] at this
    exact this
end
end Go.Proofs.Ytihjmigjphljnaa
