/-
  The law of other files.
-/
import Derived.Test.YtplcpjngpkghmaaJu
import Derived.Test.YtplcpjngpkghmaaJo
namespace Go.Proofs.Ytplcpjngpkghmaa
open Go.RowKit Go.Maps

/-- pieces, one behind the other: a slice of slices of bytes -/
structure Pcs (w : World) (q : Option Addr) (l : List RC) : Prop where
  row : l = [] ∨ ∃ g o, q = some ⟨g, o, none⟩ ∧ RowV w g o (l.map RC.v)
  each : ∀ r ∈ l, Lies w r.a r.b ∧ (r.a = none → r.c = 0)
theorem Pcs.keep {w w1 : World} {q : Option Addr} {l : List RC} (h : Pcs w q l) (b : Below w.heap.size w w1) : Pcs w1 q l := by
  refine ⟨?_, fun r hr => ⟨(h.each r hr).1.keep b (Nat.le_refl _), (h.each r hr).2⟩⟩
  rcases h.row with h0 | ⟨g, o, e, hr⟩
  · exact .inl h0
  · exact .inr ⟨g, o, e, hr.keep b (Nat.le_refl _)⟩
theorem Pcs.at {w : World} {q : Option Addr} {l : List RC} (h : Pcs w q l) {k : Nat} (hk : k < l.length) : ∃ r g o, l[k]? = some r ∧ q = some ⟨g, o, none⟩ ∧ w.cell? ⟨g, o + k, none⟩ = some (.slice r.a r.b.length r.c) := by
  have hr0 : l[k]? = some l[k] := List.getElem?_eq_getElem _
  have hne : l ≠ [] := by rintro rfl; simp at hk
  obtain ⟨g, o, rfl, hrow⟩ := h.row.resolve_left hne
  exact ⟨l[k], g, o, hr0, rfl, hrow k l[k].v (by rw [List.getElem?_map, hr0]; rfl)⟩
theorem off_of {w0 w : World} {tg : Nat → Tg} (ht : ∀ k, tg k ≠ .no → w0.heap.size ≤ k) (hb : Below w0.heap.size w0 w) {a : Option Addr} {l : List UInt8} (hL : Lies w0 a l) : LiesOff w tg a l := by
  by_cases h0 : l = []
  · exact .inl h0
  · rcases hL with h1 | ⟨g, o, rfl, hr⟩
    · exact absurd h1 h0
    · have hpos : 0 < l.length := List.length_pos_iff.2 h0
      have hg : g < w0.heap.size := block_lt_of_cell (hr 0 l[0] (List.getElem?_eq_getElem hpos))
      exact .inr ⟨g, o, rfl, hr.keep hb (Nat.le_refl _), Nat.lt_of_lt_of_le hg hb.size, no_of fun e => by have := ht g e; omega⟩
theorem encB_len1 (first B : Nat) : ∀ (ls : List (List UInt8)), (∀ r ∈ ls, r.length ≤ B) → (encB first ls).length ≤ 16 + (B + 8) * ls.length
  | [], _ => by unfold encB; simp [Crc.frame_length]; exact Nat.le_refl _
  | r :: l, h => by
    have ih := encB_len1 first B l fun r hr => h r (List.mem_cons_of_mem _ hr)
    have h0 := h r (List.mem_cons_self ..)
    unfold encB at ih ⊢
    simp only [List.flatMap_cons, List.length_append, Crc.frame_length, List.length_cons, Nat.mul_succ] at ih ⊢
    omega
/-- a record of the arguments' is appended -/
theorem app_arg {P : Nat → Obj → Prop} {w0 wr : World} {pb lb first sy : Nat} {D : DK} {l : List RC} {tg lt : Nat → Tg} {o : OB} (h : LJ P w0 wr pb lb D (some ⟨pb, 0, none⟩) first l tg lt) (hU : Up D o (encB first (l.map RC.b)) sy) (r : RC) (hL : Lies w0 r.a r.b) (hz : r.a = none → r.c = 0) (hr : r.b.length ≤ 1000) (hl : l.length ≤ 200) (hf : first ≤ 100000) (h80 : ∀ x ∈ l, x.b.length ≤ 1000) :
    Calls Try.prog 20 #[.pointer (some ⟨lb, 0, none⟩), .slice r.a r.b.length r.c] wr fun e w' => e = .returned (.tuple #[.int .i64 ((first : Int) + l.length), .int .i64 0]) ∧ ∃ (tg' lt' : Nat → Tg) (a : Option Addr) (c' : Nat) (D' : DK), LJ P w0 w' pb lb D' (some ⟨pb, 0, none⟩) first (l ++ [RC.mk r.b a c']) tg' lt' ∧ Up D' o (encB first ((l ++ [RC.mk r.b a c']).map RC.b)) sy := by
  have he := encB_len1 first 1000 (l.map RC.b) (fun x hx => by obtain ⟨y, hy, rfl⟩ := List.mem_map.1 hx; exact h80 y hy)
  rw [List.length_map] at he
  obtain ⟨D', hA, hU'⟩ := hU.append (Crc.frame r.b) (by rw [Crc.frame_length]; omega)
  refine (lap_ok (P := P) h r.b r.a _ r.c (by omega) rfl hz (off_of h.t1 h.b hL) (off_of h.t2 h.b hL) (by omega) (by omega) D' hA).mono ?_
  rintro e w' ⟨rfl, tg', lt', a, c', j⟩
  refine ⟨rfl, tg', lt', a, c', D', j, ?_⟩
  rw [List.map_append, show [RC.mk r.b a c'].map RC.b = [r.b] from rfl, encB_snoc']
  exact hU'
/-- Trim within a log, without a fuse -/
theorem trim_up {P : Nat → Obj → Prop} {w0 wr : World} {pb lb first sy : Nat} {D : DK} {l : List RC} {tg lt : Nat → Tg} {o : OB} (h : LJ P w0 wr pb lb D (some ⟨pb, 0, none⟩) first l tg lt) (hU : Up D o (encB first (l.map RC.b)) sy) (z : Nat) (hz : z ≤ l.length) (hl : l.length ≤ 200) (h80 : ∀ x ∈ l, x.b.length ≤ 1000) :
    Calls Try.prog 25 #[.pointer (some ⟨lb, 0, none⟩), .int .i64 ((first : Int) + z)] wr fun e w' => e = .returned (.int .i64 0) ∧ ∃ (tg' : Nat → Tg) (D' : DK) (sy' : Nat), LJ P w0 w' pb lb D' (some ⟨pb, 0, none⟩) (first + z) (l.drop z) tg' lt ∧ Up D' o (encB (first + z) ((l.drop z).map RC.b)) sy' := by
  by_cases h0 : z = 0
  · subst h0
    obtain ⟨D', hA, hU'⟩ := hU.sync
    have := ltr_first (P := P) h D' hA
    rw [show ((first : Int) + ((0 : Nat) : Int)) = (first : Int) by omega]
    refine this.mono ?_
    rintro e w' ⟨rfl, j⟩
    exact ⟨rfl, tg, D', _, j, hU'⟩
  · have he := encB_len1 (first + z) 1000 ((l.drop z).map RC.b) (fun x hx => by obtain ⟨y, hy, rfl⟩ := List.mem_map.1 hx; exact h80 y (List.mem_of_mem_drop hy))
    rw [List.length_map, List.length_drop] at he
    obtain ⟨D', hA, hU'⟩ := hU.replace (first + z) ((l.drop z).map RC.b) (by
      have : (1000 + 8) * (l.length - z) ≤ 1008 * 200 := Nat.mul_le_mul_left _ (by omega)
      omega)
    refine (ltr_ok (P := P) h z (by omega) hz D' hA).mono ?_
    rintro e w' ⟨rfl, tg', j⟩
    exact ⟨rfl, tg', D', _, j, hU'⟩
end Go.Proofs.Ytplcpjngpkghmaa
