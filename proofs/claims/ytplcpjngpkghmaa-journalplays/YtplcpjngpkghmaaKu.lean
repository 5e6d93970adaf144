/-
  A script as it lies; the law's few.
-/
import Derived.Test.YtplcpjngpkghmaaKt
namespace Go.Proofs.Ytplcpjngpkghmaa
open Go.RowKit Go.Maps

/-- a script's call as it lies -/
structure OPj where
  kind : Int
  n : Int
  r : RC
def OPj.cs (o : OPj) : List Value := [.int .i64 o.kind, .int .i64 o.n, .slice o.r.a o.r.b.length o.r.c]
structure OPok (w : World) (o : OPj) : Prop where
  ls : Lies w o.r.a o.r.b
  hz : o.r.a = none → o.r.c = 0
  hd : o.r.b.length ≤ o.r.c
  b2 : o.r.b.length ≤ 140737488355328
def flat (os : List OPj) : List Value := os.flatMap OPj.cs
structure Scr (w : World) (q : Option Addr) (os : List OPj) : Prop where
  row : os = [] ∨ ∃ g o, q = some ⟨g, o, none⟩ ∧ RowV w g o (flat os)
  each : ∀ o ∈ os, OPok w o
theorem OPok.keep {w w1 : World} {o : OPj} (h : OPok w o) (b : Below w.heap.size w w1) : OPok w1 o := ⟨h.ls.keep b (Nat.le_refl _), h.hz, h.hd, h.b2⟩
theorem Scr.keep {w w1 : World} {q : Option Addr} {os : List OPj} (h : Scr w q os) (b : Below w.heap.size w w1) : Scr w1 q os := by
  refine ⟨?_, fun o ho => (h.each o ho).keep b⟩
  rcases h.row with h0 | ⟨g, o, e, hr⟩
  · exact .inl h0
  · exact .inr ⟨g, o, e, hr.keep b (Nat.le_refl _)⟩
theorem flat_get : ∀ (os : List OPj) (k : Nat) (o : OPj) (j : Nat) (u : Value), os[k]? = some o → o.cs[j]? = some u → j < 3 → (flat os)[k * 3 + j]? = some u
  | [], k, o, j, u, h, _, _ => by simp at h
  | p :: os, 0, o, j, u, h, hu, hj => by
    have e : p = o := by simpa using h
    subst e
    show (p.cs ++ flat os)[0 * 3 + j]? = some u
    rw [Nat.zero_mul, Nat.zero_add, List.getElem?_append_left (by show j < 3; exact hj)]
    exact hu
  | p :: os, k + 1, o, j, u, h, hu, hj => by
    show (p.cs ++ flat os)[(k + 1) * 3 + j]? = some u
    rw [List.getElem?_append_right (by show 3 ≤ _; omega)]
    rw [show (k + 1) * 3 + j - p.cs.length = k * 3 + j by show (k + 1) * 3 + j - 3 = _; omega]
    exact flat_get os k o j u (by simpa using h) hu hj
theorem Scr.at {w : World} {q : Option Addr} {os : List OPj} (h : Scr w q os) {k : Nat} (hk : k < os.length) : ∃ o g f, os[k]? = some o ∧ q = some ⟨g, f, none⟩ ∧ OPok w o ∧ w.cell? ⟨g, f + k * 3, none⟩ = some (.int .i64 o.kind) ∧ w.cell? ⟨g, f + k * 3 + 1, none⟩ = some (.int .i64 o.n) ∧ w.cell? ⟨g, f + k * 3 + 2, none⟩ = some (.slice o.r.a o.r.b.length o.r.c) := by
  have hr0 : os[k]? = some os[k] := List.getElem?_eq_getElem _
  have hne : os ≠ [] := by rintro rfl; simp at hk
  obtain ⟨g, f, rfl, hrow⟩ := h.row.resolve_left hne
  refine ⟨os[k], g, f, hr0, rfl, h.each _ (List.getElem_mem _), ?_, ?_, ?_⟩
  · exact hrow (k * 3 + 0) _ (flat_get os k _ 0 _ hr0 rfl (by omega))
  · exact hrow (k * 3 + 1) _ (flat_get os k _ 1 _ hr0 rfl (by omega))
  · exact hrow (k * 3 + 2) _ (flat_get os k _ 2 _ hr0 rfl (by omega))
def bm (os : List OPj) : Nat := (os.map fun o => 100 + min o.r.b.length 50000).sum
def bud (os : List OPj) : Nat := (os.map fun o => 100 + o.r.b.length).sum
theorem bm_snoc {os : List OPj} {k : Nat} {o : OPj} (h : os[k]? = some o) : bm (os.take (k + 1)) = bm (os.take k) + (100 + min o.r.b.length 50000) := by
  obtain ⟨hk, rfl⟩ := List.getElem?_eq_some_iff.1 h
  unfold bm
  rw [List.take_succ_eq_append_getElem hk, List.map_append, List.sum_append]
  simp
theorem bud_snoc {os : List OPj} {k : Nat} {o : OPj} (h : os[k]? = some o) : bud (os.take (k + 1)) = bud (os.take k) + 100 + o.r.b.length := by
  obtain ⟨hk, rfl⟩ := List.getElem?_eq_some_iff.1 h
  unfold bud
  rw [List.take_succ_eq_append_getElem hk, List.map_append, List.sum_append]
  simp
  omega
theorem bud_le : ∀ {os : List OPj}, bm os ≤ 50000 → bud os ≤ 50000
  | [], _ => by simp [bud]
  | o :: os, h => by
    have h1 : bm (o :: os) = (100 + min o.r.b.length 50000) + bm os := by simp [bm]
    have h2 : bud (o :: os) = (100 + o.r.b.length) + bud os := by simp [bud]
    have e : ∀ os : List OPj, bm os ≤ 50000 → bud os = bm os := by
      intro os
      induction os with
      | nil => intro _; rfl
      | cons p os ih =>
        intro hp
        have q1 : bm (p :: os) = (100 + min p.r.b.length 50000) + bm os := by simp [bm]
        have q2 : bud (p :: os) = (100 + p.r.b.length) + bud os := by simp [bud]
        have := ih (by omega)
        omega
    have := e (o :: os) h
    omega
theorem bud_take : ∀ (os : List OPj) (k : Nat), bud (os.take k) ≤ bud os
  | [], k => by simp
  | o :: os, 0 => by simp [bud]
  | o :: os, k + 1 => by
    have := bud_take os k
    have h1 : bud ((o :: os).take (k + 1)) = (100 + o.r.b.length) + bud (os.take k) := by simp [bud]
    have h2 : bud (o :: os) = (100 + o.r.b.length) + bud os := by simp [bud]
    omega
def FewR (w : World) (os : List OPj) (e : Ending) (w' : World) : Prop := ∃ b : Bool, e = .returned (.bool b) ∧ w' = w ∧ (b = true → bud os ≤ 50000)
set_option maxHeartbeats 2000000 in
set_option maxRecDepth 100000 in
theorem few_any (os : List OPj) (q : Option Addr) (m c : Nat) (w : World) (hl : Hid (os.length = m)) (hm : m ≤ 140737488355328) (hS : Hid (Scr w q os)) :
    Calls Try.prog 10 #[.slice q m c] w fun e w' => FewR w os e w' := by
  go_enter Try.func10, Try.ntmps10
  go_wp2_with fail
  go_loopw [3, 4] (fun s i wr => ∃ (k t : Nat), k ≤ m ∧ i = .int .i64 k ∧ s = .int .i64 t ∧ t = bm (os.take k) ∧ t ≤ 200000 ∧ wr = w) (fun _ i _ => m - (intOf i).toNat)
  case atStart => exact ⟨0, 0, Nat.zero_le _, rfl, rfl, rfl, Nat.zero_le _, rfl⟩
  case round =>
    obtain ⟨k, t, hk, rfl, rfl, htb, ht, rfl⟩ := hrel
    have HT : Hid (t = bm (os.take k)) := htb
    clear htb
    by_cases hgo : k < m ∧ (t : Int) ≤ 50000
    · obtain ⟨hlt, ht1⟩ := hgo
      obtain ⟨o, g, f, ho, rfl, hok, x0, x1, x2⟩ := hS.out.at (k := k) (by have := hl.out; omega)
      have hi : (k : Int) < (m : Int) := by omega
      have hb1 := hok.b2
      have HN : Hid (bm (os.take (k + 1)) = t + (100 + min o.r.b.length 50000)) := by rw [HT.out]; exact bm_snoc ho
      obtain ⟨z, hz, hz1, hz2⟩ : ∃ z : Nat, min (o.r.b.length : Int) 50000 = z ∧ z ≤ 50000 ∧ min o.r.b.length 50000 = z := ⟨min o.r.b.length 50000, by omega, by omega, rfl⟩
      have HZ : Hid (min o.r.b.length 50000 = z) := hz2
      clear ho x0 x1 hok hz2
      go_wp2_with fail
      refine ⟨⟨k + 1, t + (100 + z), by omega, by go_num, by go_num, by rw [HN.out, HZ.out], by omega, trivial⟩, ?_⟩
      simp [intOf]; omega
    · by_cases hlt : k < m
      · have hi : (k : Int) < (m : Int) := by omega
        have ht1 : 50000 < (t : Int) := by omega
        have ht2 : ¬ (t : Int) ≤ 50000 := by omega
        go_wp2_with fail
        go_ret
        exact ⟨_, rfl, rfl, fun h => by first | cases h | exact absurd (of_decide_eq_true h) ht2⟩
      · have hi : ¬ (k : Int) < (m : Int) := by omega
        have hkm : k = m := by omega
        subst hkm
        have HB : Hid (t = bm os) := by
          have := HT.out
          rw [List.take_of_length_le (by have := hl.out; omega)] at this
          exact this
        go_wp2_with fail
        go_ret
        exact ⟨_, rfl, rfl, fun h => bud_le (by have h1 := of_decide_eq_true h; have h2 := HB.out; omega)⟩
end Go.Proofs.Ytplcpjngpkghmaa
