/-
  formedJob of any job; formed of a submission (kind 5).
-/
import Derived.Test.YtnkkiepoljbhlaaFml
namespace Go.Proofs.Ytnkkiepoljbhlaa
open Go.RowKit

/-- a job is formed -/
def jfm (j : JB) (L : JL) : Bool :=
  wi j.id 1 100 && Txt.name j.tn && wi j.pr 0 100 && wi j.rt 1 1000 && (decide (L.pa.length ≤ 4) && par j.id 0 L.pa) && (decide (1 ≤ L.tk.length ∧ L.tk.length ≤ 6) && L.tk.all V4.fm) && unt j.st j.at' j.sr L.nd.length L.dn.length

set_option maxHeartbeats 400000 in
theorem vmembers_few (a : Option Addr) (n c : Nat) (v : Value) (w : World) (h : (n : Int) < 1) :
    Calls Try.prog 68 #[.slice a n c, v] w fun e w' => e = .returned (.bool false) ∧ Below w.heap.size w w' := by
  go_enter Try.func68, Try.ntmps68
  go_wp2_with fail
  go_ret
  exact ⟨rfl, Below.refl _ _⟩
set_option maxHeartbeats 400000 in
theorem vmembers_many (a : Option Addr) (n c : Nat) (v : Value) (w : World) (h0 : ¬ (n : Int) < 1) (h : (6 : Int) < n) :
    Calls Try.prog 68 #[.slice a n c, v] w fun e w' => e = .returned (.bool false) ∧ Below w.heap.size w w' := by
  go_enter Try.func68, Try.ntmps68
  go_wp2_with fail
  go_ret
  exact ⟨rfl, Below.refl _ _⟩
theorem vmembers_any (L : List V4) (s : SL) (w : World) (h : SLh w s L.length (flat L)) :
    Calls Try.prog 68 #[.slice s.a s.n s.c, .func (.func 42) #[] #[]] w fun e w' => e = .returned (.bool (decide (1 ≤ L.length ∧ L.length ≤ 6) && L.all V4.fm)) ∧ Below w.heap.size w w' := by
  obtain ⟨h1, h2, h3⟩ := h
  rw [h2]
  by_cases hl : L.length < 1
  · have e : decide (1 ≤ L.length ∧ L.length ≤ 6) = false := by simp; omega
    rw [e]; exact vmembers_few s.a L.length s.c _ w (by omega)
  · by_cases hm : 6 < L.length
    · have e : decide (1 ≤ L.length ∧ L.length ≤ 6) = false := by simp; omega
      rw [e]; exact vmembers_many s.a L.length s.c _ w (by omega) (by omega)
    · have e : decide (1 ≤ L.length ∧ L.length ≤ 6) = true := by simp; omega
      rw [e, Bool.true_and]
      rcases h1 with h1 | ⟨g, o, ha, h1⟩
      · exfalso; have := congrArg List.length h1; rw [flat_length] at this; simp only [List.length_nil] at this; omega
      · rw [ha]; exact vmembers_at L g o s.c L.length w rfl (by omega) (by omega) h1

set_option maxHeartbeats 400000 in
set_option maxRecDepth 100000 in
theorem parents_many (id pr rt st at' sr : Int) (tn : ByteArray) (a : Option Addr) (n c : Nat) (tk nd dn : SL) (w : World) (h : (4 : Int) < n) :
    Calls Try.prog 67 #[.agg #[.int .i64 id, .string tn, .int .i64 pr, .int .i64 rt, .slice a n c, .slice tk.a tk.n tk.c, .int .i64 st, .int .i64 at', .slice nd.a nd.n nd.c, .int .i64 sr, .slice dn.a dn.n dn.c]] w fun e w' => e = .returned (.bool false) ∧ Below w.heap.size w w' := by
  go_enter Try.func67, Try.ntmps67
  go_wp2_with fail
  go_ret
  exact ⟨rfl, by go_grown⟩
set_option maxHeartbeats 400000 in
set_option maxRecDepth 100000 in
theorem parents_none (id pr rt st at' sr : Int) (tn : ByteArray) (a : Option Addr) (c : Nat) (tk nd dn : SL) (w : World) :
    Calls Try.prog 67 #[.agg #[.int .i64 id, .string tn, .int .i64 pr, .int .i64 rt, .slice a 0 c, .slice tk.a tk.n tk.c, .int .i64 st, .int .i64 at', .slice nd.a nd.n nd.c, .int .i64 sr, .slice dn.a dn.n dn.c]] w fun e w' => e = .returned (.bool true) ∧ Below w.heap.size w w' := by
  go_enter Try.func67, Try.ntmps67
  go_wp2_with fail
  go_rounds 1
  go_ret
  exact ⟨rfl, by go_grown⟩

theorem formedJob (j : JB) (L : JL) (w : World) (h : j.has w L) (hs : j.tn.size ≤ 9223372036854775000) :
    Calls Try.prog 43 #[.agg j.cells] w fun e w' => e = .returned (.bool (jfm j L)) ∧ Below w.heap.size w w' := by
  obtain ⟨id, tn, pr, rt, pa, tk, st, at', nd, sr, dn⟩ := j
  obtain ⟨h1, h2, h3, h4⟩ := h
  refine formedJob_at id pr rt st at' sr tn pa tk nd dn _ _ _ _ _ _ _ w (fun W _ => jnumber_any id W) (fun W _ => name_is tn _ W hs rfl) (fun W _ => within_any pr 0 100 W) (fun W _ => within_any rt 1 1000 W) (fun W b => ?_) (fun W b => vmembers_any L.tk tk W (h2.keep b (Nat.le_refl _))) (fun W b => ?_)
  · have h5 : SLh W pa L.pa.length (intsV L.pa) := h1.keep b (Nat.le_refl _)
    obtain ⟨l1, l2, l3⟩ := h5
    rw [l2]
    by_cases hm : 4 < L.pa.length
    · have e : decide (L.pa.length ≤ 4) = false := by simp; omega
      rw [e]; exact parents_many id pr rt st at' sr tn pa.a L.pa.length pa.c tk nd dn W (by omega)
    · have e : decide (L.pa.length ≤ 4) = true := by simp; omega
      rw [e, Bool.true_and]
      rcases l1 with l1 | ⟨g, o, ha, l1⟩
      · have h0 : L.pa = [] := by simpa [intsV] using l1
        rw [h0]; exact parents_none id pr rt st at' sr tn pa.a pa.c tk nd dn W
      · rw [ha]; exact parents_at L.pa id pr rt st at' sr tn tk nd dn g o pa.c L.pa.length W rfl (by omega) l1
  · have := untold_any id pr rt st at' sr tn pa tk nd.a dn.a nd.n nd.c dn.n dn.c W
    rw [h3.2.1, h4.2.1] at this
    rw [h3.2.1, h4.2.1]
    exact this

end Go.Proofs.Ytnkkiepoljbhlaa
