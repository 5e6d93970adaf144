/-
  What is taken is given back.
-/
import Derived.Test.YtehgcaaeifnjeaaLa
namespace Go.Proofs.Ytehgcaaeifnjeaa
open Go.RowKit Go.Maps Go.WideMaps

theorem LL.add {w0 w w1 : World} {X : Nat → Option Obj} {pb g : Nat} {D : List A} {o : Obj} (h : LL w0 w X pb D) (b : Below w.heap.size w w1) (hg : w1.heap[g]? = some o) (hge : w.heap.size ≤ g) : LL w0 w1 (XS X g o) pb D := by
  obtain ⟨S, h1, h2⟩ := h.led
  have h' := h.below b
  refine ⟨h'.bel, ⟨S, h1.keepB b, fun k hk => ⟨(h2 k hk).1, ?_⟩⟩, fun k q hk => ?_⟩
  · unfold XS
    rw [if_neg]
    · exact (h2 k hk).2
    · have := h1.2 k hk
      omega
  · unfold XS at hk
    split at hk
    · rename_i e
      rw [e, ← Option.some.inj hk]
      exact hg
    · exact h'.kept k q hk
theorem check_setU (u : List UInt8 → V) (D : List A) (es : List E) : checkD (setU u D) es = checkD D es := by
  unfold checkD
  have : ∀ e : E, (fnd A.nm e.n (setU u D)).isSome = (fnd A.nm e.n D).isSome := fun e => by rw [fnd_setU]; cases fnd A.nm e.n D <;> rfl
  simp only [this]
theorem take_ok0 {D : List A} {T : List E} (h : (takeD D T).1 = 0) : checkD D T = 0 ∧ Room D (u0 D) T ∧ (takeD D T).2 = setU (fun n => (u0 D n).add (tot T n)) D := by
  unfold takeD at *
  by_cases hc : checkD D T = 0
  · unfold postD at *
    rw [if_pos hc] at *
    cases hs : seqU takeF D (u0 D) T with
    | none => rw [hs] at h; cases h
    | some u =>
      obtain ⟨h1, rfl⟩ := seq_take_some hs
      exact ⟨hc, h1, rfl⟩
  · rw [postD_bad hc] at h
    exact absurd h hc
theorem take_bad {D : List A} {T : List E} (h : (takeD D T).1 ≠ 0) : (takeD D T).2 = D := by
  unfold takeD at *
  by_cases hc : checkD D T = 0
  · unfold postD at *
    rw [if_pos hc] at *
    cases hs : seqU takeF D (u0 D) T with
    | none => rfl
    | some u => rw [hs] at h; exact absurd rfl h
  · rw [postD_bad hc]
theorem take_yes {D : List A} {T : List E} (hc : checkD D T = 0) (hr : Room D (u0 D) T) : takeD D T = (0, setU (fun n => (u0 D n).add (tot T n)) D) := by
  unfold takeD postD
  rw [if_pos hc, seq_take_ok (check0 hc).1 hr]
theorem give_yes {D : List A} {T : List E} (hc : checkD D T = 0) (hr : Has D (u0 D) T) : giveD D T = (0, setU (fun n => (u0 D n).sub (tot T n)) D) := by
  unfold giveD postD
  rw [if_pos hc, seq_give_ok (check0 hc).1 hr]
/-- while what was taken is given back -/
def bkD (D : List A) (T : List E) (i : Nat) : List A := setU (fun n => (u0 D n).add (tot (T.drop i) n)) D
theorem bk_end {D : List A} {T : List E} (hs : Srt A.nm D) : bkD D T T.length = D := by
  unfold bkD
  rw [List.drop_length]
  have : (fun n => (u0 D n).add (tot [] n)) = u0 D := funext fun n => V.add_nil _
  rw [this]
  exact setU_u0 hs
theorem pos_u0 {D : List A} (h : ∀ a ∈ D, a.lim.ok = true ∧ a.us.ok = true) (n : List UInt8) : (u0 D n).pos := by
  unfold u0
  cases hf : fnd A.nm n D with
  | none => exact V.pos_nil
  | some a => exact V.pos_ok (h a (fnd_some hf).1).2
theorem bk_step {D : List A} {T : List E} {i : Nat} {e : E} (hok : ∀ a ∈ D, a.lim.ok = true ∧ a.us.ok = true) (hc : checkD D T = 0) (he : T[i]? = some e) : giveD (bkD D T i) [e] = (0, bkD D T (i + 1)) := by
  obtain ⟨c1, c2⟩ := check0 hc
  have hm := List.mem_of_getElem? he
  have hi := (List.getElem?_eq_some_iff.1 he).1
  have hd : T.drop i = e :: T.drop (i + 1) := by rw [List.drop_eq_getElem_cons hi, (List.getElem?_eq_some_iff.1 he).2]
  obtain ⟨a, ha⟩ := c2 e hm
  have hc1 : checkD (bkD D T i) [e] = 0 := by
    unfold bkD
    rw [check_setU]
    unfold checkD
    simp [c1 e hm, ha]
  have hu : u0 (bkD D T i) e.n = (u0 D e.n).add (tot (T.drop i) e.n) := u0_setU ha
  have hrest : ∀ x ∈ T.drop (i + 1), x.am.ok = true := fun x hx => c1 x (List.mem_of_mem_drop hx)
  have hH : Has (bkD D T i) (u0 (bkD D T i)) [e] := fun x hx => by
    rw [List.mem_singleton.1 hx]
    refine ⟨⟨_, by unfold bkD; rw [fnd_setU, ha]; rfl⟩, ?_⟩
    rw [hu, hd, tot_cons, if_pos rfl, tot_cons, if_pos rfl]
    have p1 := pos_u0 hok e.n
    have p2 := tot_pos hrest e.n
    refine V.le_iff.2 ?_
    unfold tot V.nil V.pos V.add at *
    simp only at *
    omega
  rw [give_yes hc1 hH]
  congr 1
  unfold bkD
  rw [setU_setU]
  refine setU_congr fun b hb => ?_
  have hn : u0 (setU (fun n => (u0 D n).add (tot (T.drop i) n)) D) b.nm = (u0 D b.nm).add (tot (T.drop i) b.nm) := by
    obtain ⟨x, hx⟩ : ∃ x, fnd A.nm b.nm D = some x := by
      cases hf : fnd A.nm b.nm D with
      | none => exact absurd rfl (fnd_none hf b hb)
      | some x => exact ⟨x, rfl⟩
    exact u0_setU hx
  rw [hn, hd, tot_cons, tot_cons]
  split
  · refine V.ext' ?_ ?_ ?_ ?_ <;> (unfold tot V.nil V.sub V.add; simp only; omega)
  · refine V.ext' ?_ ?_ ?_ ?_ <;> (unfold tot V.nil V.sub V.add; simp only; omega)
theorem bk_all {D : List A} {T : List E} (hs : Srt A.nm D) (hok : ∀ a ∈ D, a.lim.ok = true ∧ a.us.ok = true) (hc : checkD D T = 0) : giveD (bkD D T 0) T = (0, D) := by
  obtain ⟨c1, c2⟩ := check0 hc
  have hc1 : checkD (bkD D T 0) T = 0 := by unfold bkD; rw [check_setU]; exact hc
  have hH : Has (bkD D T 0) (u0 (bkD D T 0)) T := fun x hx => by
    obtain ⟨a, ha⟩ := c2 x hx
    have hu : u0 (bkD D T 0) x.n = (u0 D x.n).add (tot (T.drop 0) x.n) := u0_setU ha
    refine ⟨⟨_, by unfold bkD; rw [fnd_setU, ha]; rfl⟩, ?_⟩
    rw [hu, List.drop_zero]
    have p1 := pos_u0 hok x.n
    refine V.le_iff.2 ?_
    unfold V.pos V.add at *
    simp only at *
    omega
  rw [give_yes hc1 hH]
  congr 1
  unfold bkD
  rw [setU_setU]
  refine (setU_congr fun b hb => ?_).trans (setU_u0 hs)
  obtain ⟨x, hx⟩ : ∃ x, fnd A.nm b.nm D = some x := by
    cases hf : fnd A.nm b.nm D with
    | none => exact absurd rfl (fnd_none hf b hb)
    | some x => exact ⟨x, rfl⟩
  rw [show u0 (setU (fun n => (u0 D n).add (tot (T.drop 0) n)) D) b.nm = (u0 D b.nm).add (tot (T.drop 0) b.nm) from u0_setU hx, List.drop_zero, V.add_sub]
end Go.Proofs.Ytehgcaaeifnjeaa
