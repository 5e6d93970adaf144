/-
  The law's few.
-/
import Derived.Test.YtoiopplhphllhaaSq
namespace Go.Proofs.Ytoiopplhphllhaa
open Go.RowKit Go.Maps

/-- a script's call as it lies -/
structure OPc where
  kind : Int
  n : Int
  q : Option Addr
  c : Nat
  l : List RC
  a : Option Addr
  d : Nat
  ch : List UInt8
def OPc.cs (o : OPc) : List Value := [.int .i64 o.kind, .int .i64 o.n, .slice o.q o.l.length o.c, .slice o.a o.ch.length o.d]
structure OPok (w : World) (o : OPc) : Prop where
  ps : Pcs w o.q o.l
  chs : Lies w o.a o.ch
  hz : o.a = none → o.d = 0
  hd : o.ch.length ≤ o.d
  b1 : o.l.length ≤ 140737488355328
  b2 : o.ch.length ≤ 140737488355328
  b3 : ∀ r ∈ o.l, r.b.length ≤ 140737488355328
def flat (os : List OPc) : List Value := os.flatMap OPc.cs
structure Scr (w : World) (q : Option Addr) (os : List OPc) : Prop where
  row : os = [] ∨ ∃ g o, q = some ⟨g, o, none⟩ ∧ RowV w g o (flat os)
  each : ∀ o ∈ os, OPok w o
theorem OPok.keep {w w1 : World} {o : OPc} (h : OPok w o) (b : Below w.heap.size w w1) : OPok w1 o := ⟨h.ps.keep b, h.chs.keep b (Nat.le_refl _), h.hz, h.hd, h.b1, h.b2, h.b3⟩
theorem Scr.keep {w w1 : World} {q : Option Addr} {os : List OPc} (h : Scr w q os) (b : Below w.heap.size w w1) : Scr w1 q os := by
  refine ⟨?_, fun o ho => (h.each o ho).keep b⟩
  rcases h.row with h0 | ⟨g, o, e, hr⟩
  · exact .inl h0
  · exact .inr ⟨g, o, e, hr.keep b (Nat.le_refl _)⟩
theorem flat_get : ∀ (os : List OPc) (k : Nat) (o : OPc) (j : Nat) (u : Value), os[k]? = some o → o.cs[j]? = some u → j < 4 → (flat os)[k * 4 + j]? = some u
  | [], k, o, j, u, h, _, _ => by simp at h
  | p :: os, 0, o, j, u, h, hu, hj => by
    have e : p = o := by simpa using h
    subst e
    show (p.cs ++ flat os)[0 * 4 + j]? = some u
    rw [Nat.zero_mul, Nat.zero_add, List.getElem?_append_left (by show j < 4; exact hj)]
    exact hu
  | p :: os, k + 1, o, j, u, h, hu, hj => by
    show (p.cs ++ flat os)[(k + 1) * 4 + j]? = some u
    rw [List.getElem?_append_right (by show 4 ≤ _; omega)]
    rw [show (k + 1) * 4 + j - p.cs.length = k * 4 + j by show (k + 1) * 4 + j - 4 = _; omega]
    exact flat_get os k o j u (by simpa using h) hu hj
theorem Scr.at {w : World} {q : Option Addr} {os : List OPc} (h : Scr w q os) {k : Nat} (hk : k < os.length) : ∃ o g f, os[k]? = some o ∧ q = some ⟨g, f, none⟩ ∧ OPok w o ∧ w.cell? ⟨g, f + k * 4, none⟩ = some (.int .i64 o.kind) ∧ w.cell? ⟨g, f + k * 4 + 1, none⟩ = some (.int .i64 o.n) ∧ w.cell? ⟨g, f + k * 4 + 2, none⟩ = some (.slice o.q o.l.length o.c) ∧ w.cell? ⟨g, f + k * 4 + 3, none⟩ = some (.slice o.a o.ch.length o.d) := by
  have hr0 : os[k]? = some os[k] := List.getElem?_eq_getElem _
  have hne : os ≠ [] := by rintro rfl; simp at hk
  obtain ⟨g, f, rfl, hrow⟩ := h.row.resolve_left hne
  refine ⟨os[k], g, f, hr0, rfl, h.each _ (List.getElem_mem _), ?_, ?_, ?_, ?_⟩
  · exact hrow (k * 4 + 0) _ (flat_get os k _ 0 _ hr0 rfl (by omega))
  · exact hrow (k * 4 + 1) _ (flat_get os k _ 1 _ hr0 rfl (by omega))
  · exact hrow (k * 4 + 2) _ (flat_get os k _ 2 _ hr0 rfl (by omega))
  · exact hrow (k * 4 + 3) _ (flat_get os k _ 3 _ hr0 rfl (by omega))
def FewR (w : World) (e : Ending) (w' : World) : Prop := ∃ b : Bool, e = .returned (.bool b) ∧ w' = w
set_option maxHeartbeats 2000000 in
set_option maxRecDepth 100000 in
theorem few_any (os : List OPc) (q : Option Addr) (m c : Nat) (w : World) (hl : Hid (os.length = m)) (hm : m ≤ 140737488355328) (hS : Hid (Scr w q os)) :
    Calls Try.prog 9 #[.slice q m c] w fun e w' => FewR w e w' := by
  go_enter Try.func9, Try.ntmps9
  go_wp2_with fail
  go_loopw [3, 4] (fun s i wr => ∃ (k t : Nat), k ≤ m ∧ i = .int .i64 k ∧ s = .int .i64 t ∧ t ≤ 1000000000000000000 ∧ wr = w) (fun _ i _ => m - (intOf i).toNat)
  case atStart => exact ⟨0, 0, Nat.zero_le _, rfl, rfl, Nat.zero_le _, rfl⟩
  case round =>
    obtain ⟨k, t, hk, rfl, rfl, ht, rfl⟩ := hrel
    by_cases hgo : k < m ∧ (t : Int) ≤ 100000
    · obtain ⟨hlt, ht1⟩ := hgo
      obtain ⟨o, g, f, ho, rfl, hok, x0, x1, x2, x3⟩ := hS.out.at (k := k) (by have := hl.out; omega)
      have hi : (k : Int) < (m : Int) := by omega
      have hb1 := hok.b1
      have HO : Hid (OPok wr o) := hok
      clear hok ho x0 x1 x3
      go_wp2_with fail
      go_loopw [3, 5] (fun s i w2 => ∃ (j t : Nat), j ≤ o.l.length ∧ i = .int .i64 j ∧ s = .int .i64 t ∧ t ≤ 1000000000000000000 ∧ w2 = wr) (fun _ i _ => o.l.length - (intOf i).toNat)
      case atStart => exact ⟨0, t + (100 + o.l.length), Nat.zero_le _, rfl, by go_num, by omega, rfl⟩
      case round =>
        obtain ⟨j, t2, hj, rfl, rfl, ht2, rfl⟩ := hrel
        by_cases hj1 : j < o.l.length
        · have hji : (j : Int) < (o.l.length : Int) := by omega
          by_cases ht3 : (t2 : Int) ≤ 100000
          · obtain ⟨r, g2, f2, hr0, hq2, y2⟩ := HO.out.ps.at (k := j) hj1
            rw [hq2] at x2
            obtain ⟨z, hz, hz1⟩ : ∃ z : Nat, min (r.b.length : Int) 100000 = z ∧ z ≤ 100000 := ⟨min r.b.length 100000, by omega, by omega⟩
            have HZ : Hid (min (r.b.length : Int) 100000 = z) := hz
            clear hr0
            go_wp2_with fail
            refine ⟨⟨j + 1, t2 + z, by omega, by go_num, by go_num, by omega, trivial⟩, ?_⟩
            simp [intOf]; omega
          · have ht3' : 100000 < (t2 : Int) := by omega
            go_wp2_with fail
            refine ⟨⟨k + 1, t2, by omega, by go_num, rfl, ht2, trivial⟩, ?_⟩
            simp [intOf]; omega
        · have hji : ¬ (j : Int) < (o.l.length : Int) := by omega
          go_wp2_with fail
          refine ⟨⟨k + 1, t2, by omega, by go_num, rfl, ht2, trivial⟩, ?_⟩
          simp [intOf]; omega
    · by_cases hlt : k < m
      · have hi : (k : Int) < (m : Int) := by omega
        have ht1 : 100000 < (t : Int) := by omega
        go_wp2_with fail
        go_ret
        exact ⟨_, rfl, rfl⟩
      · have hi : ¬ (k : Int) < (m : Int) := by omega
        go_wp2_with fail
        go_ret
        exact ⟨_, rfl, rfl⟩
end Go.Proofs.Ytoiopplhphllhaa
