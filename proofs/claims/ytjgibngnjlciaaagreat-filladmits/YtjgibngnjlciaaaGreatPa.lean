/-
  Slots and tasks as plain data; their rows in memory; whether they are formed.
-/
import Derived.Test.YtjgibngnjlciaaaGreatGr
import Derived.Test.YtjgibngnjlciaaaGreatVa
import Derived.Lib.QuietBelow
namespace Go.Proofs.YtjgibngnjlciaaaGreat
open Go.RowKit Go.Maps Go.WideMaps

/-- a slot -/
structure Sl where
  nm : List UInt8
  v : V
  deriving Inhabited, DecidableEq
def slC (s : Sl) : List Value := [.string ⟨⟨s.nm⟩⟩, .int .i64 s.v.a, .int .i64 s.v.b, .int .i64 s.v.c, .int .i64 s.v.d]
def vC (v : V) : List Value := [.int .i64 v.a, .int .i64 v.b, .int .i64 v.c, .int .i64 v.d]
def sC (s : List UInt8) : List Value := [.string ⟨⟨s⟩⟩]
theorem slC_len (s : Sl) : (slC s).length = 5 := rfl
theorem vC_len (v : V) : (vC v).length = 4 := rfl
theorem sC_len (s : List UInt8) : (sC s).length = 1 := rfl
theorem slC_one (s : Sl) : ∀ u ∈ slC s, u.oneCell' = true := by
  intro u hu
  simp only [slC, List.mem_cons, List.not_mem_nil, or_false] at hu
  rcases hu with rfl | rfl | rfl | rfl | rfl <;> rfl
theorem vC_one (s : V) : ∀ u ∈ vC s, u.oneCell' = true := by
  intro u hu
  simp only [vC, List.mem_cons, List.not_mem_nil, or_false] at hu
  rcases hu with rfl | rfl | rfl | rfl <;> rfl
theorem sC_one (s : List UInt8) : ∀ u ∈ sC s, u.oneCell' = true := by
  intro u hu
  rw [List.mem_singleton.1 hu]
  rfl
/-- things that lie one behind the other -/
def GA {α : Type} (sz : Nat) (f : α → List Value) (w : World) (q : Option Addr) (L : List α) : Prop := ∀ i a, L[i]? = some a → ∃ g o, q = some ⟨g, o, none⟩ ∧ ∀ j u, (f a)[j]? = some u → w.cell? ⟨g, o + i * sz + j, none⟩ = some u
theorem GA.below {α : Type} {sz : Nat} {f : α → List Value} {w w' : World} {q : Option Addr} {L : List α} (h : GA sz f w q L) (b : Below w.heap.size w w') : GA sz f w' q L := fun i a ha => by
  obtain ⟨g, o, e, hc⟩ := h i a ha
  exact ⟨g, o, e, fun j u hu => cell_below (hc j u hu) b⟩
theorem GRow.ga {α : Type} {sz e b : Nat} {f : α → List Value} {w : World} {q : Option Addr} {n c : Nat} {L : List α} (hf : ∀ a, (f a).length = sz) (h : GRow e sz f b w (.slice q n c) L) : GA sz f w q L := fun i a ha => by
  obtain ⟨g, e1, hc⟩ := h.at hf ha
  exact ⟨g, 0, e1, fun j u hu => by rw [Nat.zero_add]; exact hc j u hu⟩
abbrev TA (w : World) (q : Option Addr) (T : List V) : Prop := GA 4 vC w q T
abbrev SA (w : World) (q : Option Addr) (S : List Sl) : Prop := GA 5 slC w q S
abbrev NA (w : World) (q : Option Addr) (N : List (List UInt8)) : Prop := GA 1 sC w q N
theorem TA.at {w : World} {q : Option Addr} {T : List V} (h : TA w q T) {i : Nat} {v : V} (hi : T[i]? = some v) : ∃ g o, q = some ⟨g, o, none⟩ ∧ w.cell? ⟨g, o + i * 4, none⟩ = some (.int .i64 v.a) ∧ w.cell? ⟨g, o + i * 4 + 1, none⟩ = some (.int .i64 v.b) ∧ w.cell? ⟨g, o + i * 4 + 2, none⟩ = some (.int .i64 v.c) ∧ w.cell? ⟨g, o + i * 4 + 3, none⟩ = some (.int .i64 v.d) := by
  obtain ⟨g, o, e, hc⟩ := h i v hi
  exact ⟨g, o, e, hc 0 _ rfl, hc 1 _ rfl, hc 2 _ rfl, hc 3 _ rfl⟩
theorem SA.at {w : World} {q : Option Addr} {S : List Sl} (h : SA w q S) {i : Nat} {s : Sl} (hi : S[i]? = some s) : ∃ g o, q = some ⟨g, o, none⟩ ∧ w.cell? ⟨g, o + i * 5, none⟩ = some (.string ⟨⟨s.nm⟩⟩) ∧ w.cell? ⟨g, o + i * 5 + 1, none⟩ = some (.int .i64 s.v.a) ∧ w.cell? ⟨g, o + i * 5 + 2, none⟩ = some (.int .i64 s.v.b) ∧ w.cell? ⟨g, o + i * 5 + 3, none⟩ = some (.int .i64 s.v.c) ∧ w.cell? ⟨g, o + i * 5 + 4, none⟩ = some (.int .i64 s.v.d) := by
  obtain ⟨g, o, e, hc⟩ := h i s hi
  exact ⟨g, o, e, hc 0 _ rfl, hc 1 _ rfl, hc 2 _ rfl, hc 3 _ rfl, hc 4 _ rfl⟩
theorem NA.at {w : World} {q : Option Addr} {N : List (List UInt8)} (h : NA w q N) {i : Nat} {s : List UInt8} (hi : N[i]? = some s) : ∃ g o, q = some ⟨g, o, none⟩ ∧ w.cell? ⟨g, o + i, none⟩ = some (.string ⟨⟨s⟩⟩) := by
  obtain ⟨g, o, e, hc⟩ := h i s hi
  have := hc 0 _ rfl
  rw [Nat.mul_one, Nat.add_zero] at this
  exact ⟨g, o, e, this⟩
/-- names of a size in reach -/
def Short (S : List Sl) : Prop := ∀ s ∈ S, s.nm.length ≤ 281474976710656
/-- each node once -/
abbrev Nod (S : List Sl) : Prop := S.Pairwise fun a b => a.nm ≠ b.nm
def allS (S : List Sl) : Bool := S.all fun s => s.v.ok
/-- the errors that all calls have -/
def chk (T : List V) (S : List Sl) : Nat := if (allOk T && allS S) = false then 4 else if ¬ Nod S then 5 else if T.length = 0 ∨ 6 < T.length then 2 else 0
/-- the place of a node's slot -/
def plc (s : List UInt8) (l : List Sl) : Option Nat := l.findIdx? fun b => b.nm == s

theorem all_take {α : Type} (p : α → Bool) {l : List α} {k : Nat} {x : α} (hx : l[k]? = some x) (h : (l.take k).all p = true) (hp : p x = true) : (l.take (k + 1)).all p = true := by
  rw [List.take_add_one, hx, List.all_append, h]
  simp [hp]
theorem all_bad {α : Type} (p : α → Bool) {l : List α} {k : Nat} {x : α} (hx : l[k]? = some x) (hp : ¬ p x = true) : l.all p = false := by
  refine Bool.eq_false_iff.2 fun h => hp ?_
  exact List.all_eq_true.1 h _ (List.mem_of_getElem? hx)
set_option maxHeartbeats 2000000 in
set_option maxRecDepth 100000 in
theorem formed_all (T : List V) (S : List Sl) (q r : Option Addr) (n c m d : Nat) (w : World) (hT : Hid (TA w q T)) (hS : Hid (SA w r S)) (hn : Hid (T.length = n)) (hm : Hid (S.length = m)) (n1 : n ≤ 1000000) (m1 : m ≤ 1000000) :
    Calls Tryz.prog 48 #[.slice q n c, .slice r m d] w fun e w' => e = .returned (.bool (allOk T && allS S)) ∧ Hid (Below w.heap.size w w') := by
  have HC : Hid (∀ (a b c d : Int) (w : World), Calls Tryz.prog 61 #[.agg #[.int .i64 a, .int .i64 b, .int .i64 c, .int .i64 d]] w fun e w' => e = .returned (.bool (fm a b c d)) ∧ Below w.heap.size w w') := fun a b c d w => formed_any a b c d w
  go_enter Tryz.func48, Tryz.ntmps48
  go_wp2_with fail
  go_loopw [11] (fun x wr => ∃ k : Nat, x = .int .i64 k ∧ k ≤ n ∧ Hid ((T.take k).all V.ok = true ∧ Below w.heap.size w wr)) (fun x _ => n - (intOf x).toNat)
  case atStart => exact ⟨0, rfl, Nat.zero_le _, rfl, Below.refl _ _⟩
  case round =>
    obtain ⟨k, rfl, hk, HB⟩ := hrel
    by_cases h0 : k = n
    · subst h0
      have HT : Hid (allOk T = true) := by
        have := HB.out.1
        rw [List.take_of_length_le (by rw [hn.out]; exact Nat.le_refl _)] at this
        exact this
      have B0 : Hid (Below w.heap.size w wr) := HB.out.2
      clear HB hk hn hT
      go_wp2_with fail
      go_loopw [21] (fun x wr => ∃ k : Nat, x = .int .i64 k ∧ k ≤ m ∧ Hid ((S.take k).all (fun s => s.v.ok) = true ∧ Below w.heap.size w wr)) (fun x _ => m - (intOf x).toNat)
      case atStart => exact ⟨0, rfl, Nat.zero_le _, rfl, B0.out⟩
      case round =>
        clear B0
        obtain ⟨k, rfl, hk, HB⟩ := hrel
        by_cases h0 : k = m
        · subst h0
          go_wp2_with fail
          go_ret
          have := HB.out.1
          rw [List.take_of_length_le (by rw [hm.out]; exact Nat.le_refl _)] at this
          exact ⟨by rw [HT.out, show allS S = true from this]; rfl, HB.out.2⟩
        · have hlt' : (k : Int) < (m : Int) := by omega
          have hd : decide ((k : Int) < (m : Int)) = true := decide_eq_true hlt'
          obtain ⟨s, hs⟩ : ∃ s, S[k]? = some s := ⟨S[k]'(by have := hm.out; omega), List.getElem?_eq_getElem _⟩
          obtain ⟨g, o, rfl, c0, c1, c2, c3, c4⟩ := SA.at (hS.out.below HB.out.2) hs
          have HV : Hid (S[k]? = some s) := hs
          have hf : Hid (fm s.v.a s.v.b s.v.c s.v.d = s.v.ok) := (rfl : _ = _)
          have H46 := HC.out s.v.a s.v.b s.v.c s.v.d
          rw [hf.out] at H46
          obtain ⟨nm, ⟨a, b, c', d'⟩⟩ := s
          simp only [] at c0 c1 c2 c3 c4 H46
          clear hs HC hf
          by_cases hf : V.ok ⟨a, b, c', d'⟩ = true
          · have HC' : Hid (∀ (w : World), Calls Tryz.prog 61 #[.agg #[.int .i64 a, .int .i64 b, .int .i64 c', .int .i64 d']] w fun e w' => e = .returned (.bool true) ∧ Below w.heap.size w w') := fun w => by have := H46 w; rwa [hf] at this
            have HF : Hid (V.ok ⟨a, b, c', d'⟩ = true) := hf
            clear H46 hf
            go_wp2_with (go_at_call 61; refine (HC'.out _).mono ?_; rintro e w1 ⟨rfl, b1⟩)
            refine ⟨⟨k + 1, by simp, by omega, all_take (fun s : Sl => s.v.ok) HV.out HB.out.1 HF.out, below_from (HB.out.2.alloc HB.out.2.size _) b1 (by have := HB.out.2.size; simp; omega)⟩, by simp only [intOf]; omega⟩
          · have HC' : Hid (∀ (w : World), Calls Tryz.prog 61 #[.agg #[.int .i64 a, .int .i64 b, .int .i64 c', .int .i64 d']] w fun e w' => e = .returned (.bool false) ∧ Below w.heap.size w w') := fun w => by have := H46 w; rwa [Bool.eq_false_iff.2 hf] at this
            have HF : Hid (¬ V.ok ⟨a, b, c', d'⟩ = true) := hf
            clear H46 hf
            go_wp2_with (go_at_call 61; refine (HC'.out _).mono ?_; rintro e w1 ⟨rfl, b1⟩)
            go_ret
            exact ⟨by rw [show allS S = false from all_bad (fun s : Sl => s.v.ok) HV.out HF.out, Bool.and_false]; rfl, below_from (HB.out.2.alloc HB.out.2.size _) b1 (by have := HB.out.2.size; simp; omega)⟩
    · have hlt' : (k : Int) < (n : Int) := by omega
      have hd : decide ((k : Int) < (n : Int)) = true := decide_eq_true hlt'
      obtain ⟨s, hs⟩ : ∃ s, T[k]? = some s := ⟨T[k]'(by have := hn.out; omega), List.getElem?_eq_getElem _⟩
      obtain ⟨g, o, rfl, c1, c2, c3, c4⟩ := TA.at (hT.out.below HB.out.2) hs
      have HV : Hid (T[k]? = some s) := hs
      have hf : Hid (fm s.a s.b s.c s.d = s.ok) := (rfl : _ = _)
      have H46 := HC.out s.a s.b s.c s.d
      rw [hf.out] at H46
      obtain ⟨a, b, c', d'⟩ := s
      simp only [] at c1 c2 c3 c4 H46
      clear hs HC hf
      by_cases hf : V.ok ⟨a, b, c', d'⟩ = true
      · have HC' : Hid (∀ (w : World), Calls Tryz.prog 61 #[.agg #[.int .i64 a, .int .i64 b, .int .i64 c', .int .i64 d']] w fun e w' => e = .returned (.bool true) ∧ Below w.heap.size w w') := fun w => by have := H46 w; rwa [hf] at this
        have HF : Hid (V.ok ⟨a, b, c', d'⟩ = true) := hf
        clear H46 hf
        go_wp2_with (go_at_call 61; refine (HC'.out _).mono ?_; rintro e w1 ⟨rfl, b1⟩)
        refine ⟨⟨k + 1, by simp, by omega, all_take V.ok HV.out HB.out.1 HF.out, below_from (HB.out.2.alloc HB.out.2.size _) b1 (by have := HB.out.2.size; simp; omega)⟩, by simp only [intOf]; omega⟩
      · have HC' : Hid (∀ (w : World), Calls Tryz.prog 61 #[.agg #[.int .i64 a, .int .i64 b, .int .i64 c', .int .i64 d']] w fun e w' => e = .returned (.bool false) ∧ Below w.heap.size w w') := fun w => by have := H46 w; rwa [Bool.eq_false_iff.2 hf] at this
        have HF : Hid (¬ V.ok ⟨a, b, c', d'⟩ = true) := hf
        clear H46 hf
        go_wp2_with (go_at_call 61; refine (HC'.out _).mono ?_; rintro e w1 ⟨rfl, b1⟩)
        go_ret
        exact ⟨by rw [show allOk T = false from all_bad V.ok HV.out HF.out, Bool.false_and]; rfl, below_from (HB.out.2.alloc HB.out.2.size _) b1 (by have := HB.out.2.size; simp; omega)⟩
end Go.Proofs.YtjgibngnjlciaaaGreat
