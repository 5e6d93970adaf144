/-
  The document's disk, a slice of files in order: what it has in its memory; done, named, find, there.
-/
import Derived.Test.YtnohidalomjfmaaTd
namespace Go.Proofs.Ytnohidalomjfmaa
open Go.RowKit Go.Maps

/-- values, one behind the other -/
def RowV (w : World) (g o : Nat) (xs : List Value) : Prop := ∀ (k : Nat) (u : Value), xs[k]? = some u → w.cell? ⟨g, o + k, none⟩ = some u

/-- a file of the document's: its name, bytes, and how many are synced; its bytes' slice -/
structure RF where
  nm : List UInt8
  b : List UInt8
  sy : Nat
  a : Option Addr
  c : Nat
def RF.s (f : RF) : Fil := ⟨f.nm, f.b, f.sy⟩
def RF.n (f : RF) : Value := .string ⟨⟨f.nm⟩⟩
def RF.v (f : RF) : Value := .slice f.a f.b.length f.c
def flat : List RF → List Value
  | [] => []
  | f :: l => f.n :: f.v :: .int .i64 f.sy :: flat l
theorem flat_length (l : List RF) : (flat l).length = l.length * 3 := by
  induction l with
  | nil => rfl
  | cons v l ih => simp only [flat, List.length_cons, ih]; omega
theorem flat_append (l m : List RF) : flat (l ++ m) = flat l ++ flat m := by
  induction l with
  | nil => rfl
  | cons v l ih => simp only [List.cons_append, flat, ih]
theorem flat_get (l : List RF) : ∀ (i : Nat) (f : RF), l[i]? = some f → (flat l)[i * 3]? = some f.n ∧ (flat l)[i * 3 + 1]? = some f.v ∧ (flat l)[i * 3 + 2]? = some (.int .i64 f.sy) := by
  induction l with
  | nil => intro i v h; simp at h
  | cons u l ih =>
    intro i v h
    match i, h with
    | 0, h =>
      obtain rfl : u = v := by simpa using h
      exact ⟨rfl, rfl, rfl⟩
    | i + 1, h =>
      have := ih i v (by simpa using h)
      simp only [flat]
      rw [show (i + 1) * 3 = i * 3 + 3 by omega]
      simpa only [List.getElem?_cons_succ, show i * 3 + 3 + 1 = i * 3 + 1 + 3 by omega, show i * 3 + 3 + 2 = i * 3 + 2 + 3 by omega] using this
theorem flat_one (l : List RF) : ∀ u ∈ flat l, u.oneCell' = true := by
  induction l with
  | nil => intro u h; cases h
  | cons v l ih =>
    intro u h
    simp only [flat, List.mem_cons] at h
    rcases h with rfl | rfl | rfl | h
    · rfl
    · rfl
    · rfl
    · exact ih u h

theorem c3 {w : World} {g : Nat} {a b c : Value} {t : TypeId} (h : w.heap[g]? = some (.cells #[a, b, c] t (0, 0))) : w.cell? ⟨g, 0, none⟩ = some a ∧ w.cell? ⟨g, 1, none⟩ = some b ∧ w.cell? ⟨g, 2, none⟩ = some c :=
  ⟨Lib.cell_of_heap h 0, Lib.cell_of_heap h 1, Lib.cell_of_heap h 2⟩

/-! ### find -/
/-- the place of a name -/
def pos (n : List UInt8) : List RF → Option Nat
  | [] => none
  | f :: l => if f.nm = n then some 0 else (pos n l).map (· + 1)
def posI (o : Option Nat) : Int := match o with | none => -1 | some k => k

theorem pos_drop {n : List UInt8} {l : List RF} {k : Nat} {f : RF} (h : l[k]? = some f) : pos n (l.drop k) = if f.nm = n then some 0 else (pos n (l.drop (k + 1))).map (· + 1) := by
  obtain ⟨hk, rfl⟩ := List.getElem?_eq_some_iff.1 h
  rw [List.drop_eq_getElem_cons hk]
  rfl
theorem pos_here {n : List UInt8} {l : List RF} {k : Nat} {f : RF} (h : l[k]? = some f) (e : f.nm = n) (q : pos n l = (pos n (l.drop k)).map (· + k)) : pos n l = some k := by
  rw [q, pos_drop h, if_pos e]; simp
theorem pos_on {n : List UInt8} {l : List RF} {k : Nat} {f : RF} (h : l[k]? = some f) (e : f.nm ≠ n) (q : pos n l = (pos n (l.drop k)).map (· + k)) : pos n l = (pos n (l.drop (k + 1))).map (· + (k + 1)) := by
  rw [q, pos_drop h, if_neg e, Option.map_map]
  congr 1
  funext x
  simp only [Function.comp]
  omega
theorem ret_p {o : Option Nat} {i : Int} (h : posI o = i) : Ending.returned (.int .i64 i) = .returned (.int .i64 (posI o)) := by rw [h]

set_option maxHeartbeats 1000000 in
theorem find_loop (l : List RF) (n : Nat) (g c : Nat) (x y : Value) (pb : Nat) (s : List UInt8) (w : World) (hl : Hid (l.length = n)) (hn : n ≤ 64) (h : Hid (w.heap[pb]? = some (.cells #[.slice (some ⟨g, 0, none⟩) n c, x, y] 35 (0, 0)))) (hr : Hid (RowV w g 0 (flat l))) :
    Calls Try.prog 47 #[.pointer (some ⟨pb, 0, none⟩), .string ⟨⟨s⟩⟩] w fun e w' => e = .returned (.int .i64 (posI (pos s l))) ∧ w' = w := by
  obtain ⟨e0, e1, e2⟩ := c3 h.out
  go_enter Try.func47, Try.ntmps47
  go_wp2_with fail
  go_loopw [5] (fun i wr => ∃ k : Nat, k ≤ n ∧ i = .int .i64 k ∧ pos s l = (pos s (l.drop k)).map (· + k) ∧ wr = w) (fun i _ => n - (intOf i).toNat)
  case atStart => exact ⟨0, Nat.zero_le _, rfl, by rw [List.drop_zero]; cases pos s l <;> rfl, rfl⟩
  case round =>
    obtain ⟨k, hk, rfl, hq, rfl⟩ := hrel
    have HQ : Hid _ := hq
    clear hq
    by_cases hlt : k < n
    · obtain ⟨f, hf⟩ : ∃ f, l[k]? = some f := ⟨l[k]'(by have := hl.out; omega), List.getElem?_eq_getElem _⟩
      obtain ⟨f0, f1, f2⟩ := flat_get l k f hf
      have h0 := hr.out _ _ f0
      rw [Nat.zero_add] at h0
      clear f0 f1 f2
      have hi : (k : Int) < (n : Int) := by omega
      unfold RF.n at h0
      by_cases hs : f.nm = s
      · have hb : (f.nm == s) = true := by simp [hs]
        have HP : Hid (pos s l = some k) := pos_here hf hs HQ.out
        clear hf hs
        go_wp2_with fail
        go_ret
        exact ⟨by rw [HP.out]; rfl, rfl⟩
      · have hb : (f.nm == s) = false := by simp [hs]
        have HP : Hid _ := pos_on hf hs HQ.out
        clear hf hs
        go_wp2_with fail
        refine ⟨⟨k + 1, by omega, by go_num, HP.out, trivial⟩, ?_⟩
        simp [intOf]; omega
    · have HP : Hid (pos s l = none) := by
        rw [HQ.out, List.drop_of_length_le (by have := hl.out; omega)]
        exact (rfl : Option.map (· + k) none = none)
      go_wp2_with fail
      go_ret
      exact ⟨by rw [HP.out]; rfl, rfl⟩
set_option maxHeartbeats 400000 in
theorem find_zero (x y : Value) (pb : Nat) (s : List UInt8) (w : World) (h : Hid (w.heap[pb]? = some (.cells #[.slice none 0 0, x, y] 35 (0, 0)))) :
    Calls Try.prog 47 #[.pointer (some ⟨pb, 0, none⟩), .string ⟨⟨s⟩⟩] w fun e w' => e = .returned (.int .i64 (-1)) ∧ w' = w := by
  obtain ⟨e0, e1, e2⟩ := c3 h.out
  go_enter Try.func47, Try.ntmps47
  go_wp2_with fail
  go_rounds 1
  go_ret
  exact ⟨rfl, rfl⟩

/-! ### done -/
set_option maxHeartbeats 400000 in
theorem done_none (w : World) (pb : Nat) (a b : Value) (h : Hid (w.heap[pb]? = some (.cells #[a, .int .i64 (-1), b] 35 (0, 0)))) : Calls Try.prog 48 #[.pointer (some ⟨pb, 0, none⟩)] w fun e w' => e = .returned (.bool true) ∧ w' = w := by
  obtain ⟨e0, e1, e2⟩ := c3 h.out
  go_enter Try.func48, Try.ntmps48
  go_wp2_with fail
  go_ret
  exact ⟨rfl, rfl⟩
set_option maxHeartbeats 400000 in
theorem done_zero (w : World) (pb : Nat) (a b : Value) (h : Hid (w.heap[pb]? = some (.cells #[a, .int .i64 0, b] 35 (0, 0)))) : Calls Try.prog 48 #[.pointer (some ⟨pb, 0, none⟩)] w fun e w' => e = .returned (.bool false) ∧ w' = w.setCell ⟨pb, 2, none⟩ (.bool true) := by
  obtain ⟨e0, e1, e2⟩ := c3 h.out
  have f1 := fz h.out 2
  go_enter Try.func48, Try.ntmps48
  go_wp2_with fail
  go_ret
  exact ⟨rfl, rfl⟩
set_option maxHeartbeats 400000 in
theorem done_some (w : World) (pb : Nat) (a b : Value) (n : Nat) (hn : n + 1 < 9223372036854775808) (h : Hid (w.heap[pb]? = some (.cells #[a, .int .i64 (n + 1 : Nat), b] 35 (0, 0)))) : Calls Try.prog 48 #[.pointer (some ⟨pb, 0, none⟩)] w fun e w' => e = .returned (.bool true) ∧ w' = w.setCell ⟨pb, 1, none⟩ (.int .i64 n) := by
  obtain ⟨e0, e1, e2⟩ := c3 h.out
  have f3 := fz h.out 1
  have hz : (((n + 1 : Nat) : Int) == 0) = false := by simp; omega
  have hz2 : 0 < ((n + 1 : Nat) : Int) := by omega
  go_enter Try.func48, Try.ntmps48
  go_wp2_with fail
  go_ret
  exact ⟨rfl, by congr 2⟩

/-! ### named -/
set_option maxHeartbeats 1000000 in
theorem named_in (s : ByteArray) (w : World) (h1 : 1 ≤ (s.size : Int)) (h2 : (s.size : Int) ≤ 32) :
    Calls Try.prog 46 #[.string s] w fun e w' => e = .returned (.bool (okS s)) ∧ w' = w := by
  go_enter Try.func46, Try.ntmps46
  go_wp2_with fail
  go_loopw [3] (fun i wr => ∃ k : Nat, k ≤ s.size ∧ i = .int .i64 k ∧ (s.data.toList.take k).all okB = true ∧ wr = w) (fun i _ => s.size - (intOf i).toNat)
  case atStart => exact ⟨0, Nat.zero_le _, rfl, rfl, rfl⟩
  case round =>
    obtain ⟨k, hk, rfl, hq, rfl⟩ := hrel
    have HQ : Hid _ := hq
    clear hq
    by_cases hlt : k < s.size
    · have hx : s.data.toList[k]? = some s[k] := by
        rw [Array.getElem?_toList]
        exact Array.getElem?_eq_getElem _
      have HX : Hid _ := hx
      clear hx
      have HO := okB_eq s[k]
      rcases (by omega : (97 ≤ s[k].toNat ∧ s[k].toNat ≤ 122) ∨ (48 ≤ s[k].toNat ∧ s[k].toNat ≤ 57) ∨ (s[k].toNat = 46) ∨ (s[k].toNat < 48 ∧ s[k].toNat ≠ 46) ∨ (57 < s[k].toNat ∧ s[k].toNat < 97) ∨ (122 < s[k].toNat)) with g | g | g | g | g | g
      · have e0 : 97 ≤ (s[k].toNat : Int) := by omega
        have e1 : (s[k].toNat : Int) ≤ 122 := by omega
        have HN : Hid _ := all_take HX.out HQ.out (by rw [HO]; simp; omega)
        clear g HO
        go_wp2_with fail
        (try refine ⟨_, ?_⟩)
        refine ⟨⟨k + 1, by omega, by go_num, HN.out, trivial⟩, ?_⟩
        simp [intOf]; omega
      · have e0 : ¬ 97 ≤ (s[k].toNat : Int) := by omega
        have e1 : ¬ (s[k].toNat : Int) < 48 := by omega
        have e2 : ¬ 57 < (s[k].toNat : Int) := by omega
        have HN : Hid _ := all_take HX.out HQ.out (by rw [HO]; simp; omega)
        clear g HO
        go_wp2_with fail
        refine ⟨⟨k + 1, by omega, by go_num, HN.out, trivial⟩, ?_⟩
        simp [intOf]; omega
      · have e0 : ¬ 97 ≤ (s[k].toNat : Int) := by omega
        have e1 : (s[k].toNat : Int) < 48 := by omega
        have e2 : ((s[k].toNat : Int) != 46) = false := by simp; omega
        have HN : Hid _ := all_take HX.out HQ.out (by rw [HO]; simp; omega)
        clear g HO
        go_wp2_with fail
        refine ⟨⟨k + 1, by omega, by go_num, HN.out, trivial⟩, ?_⟩
        simp [intOf]; omega
      · have e0 : ¬ 97 ≤ (s[k].toNat : Int) := by omega
        have e1 : (s[k].toNat : Int) < 48 := by omega
        have e2 : ((s[k].toNat : Int) != 46) = true := by simp; omega
        have HF : Hid (okS s = false) := all_no HX.out (by rw [HO]; simp; omega)
        clear g HO
        go_wp2_with fail
        go_ret
        exact ⟨ret_b HF.out.symm, rfl⟩
      · have e0 : ¬ 97 ≤ (s[k].toNat : Int) := by omega
        have e1 : ¬ (s[k].toNat : Int) < 48 := by omega
        have e2 : 57 < (s[k].toNat : Int) := by omega
        have e3 : ((s[k].toNat : Int) != 46) = true := by simp; omega
        have HF : Hid (okS s = false) := all_no HX.out (by rw [HO]; simp; omega)
        clear g HO
        go_wp2_with fail
        go_ret
        exact ⟨ret_b HF.out.symm, rfl⟩
      · have e0 : 97 ≤ (s[k].toNat : Int) := by omega
        have e1 : ¬ (s[k].toNat : Int) ≤ 122 := by omega
        have e2 : ¬ (s[k].toNat : Int) < 48 := by omega
        have e3 : 57 < (s[k].toNat : Int) := by omega
        have e4 : ((s[k].toNat : Int) != 46) = true := by simp; omega
        have HF : Hid (okS s = false) := all_no HX.out (by rw [HO]; simp; omega)
        clear g HO
        go_wp2_with fail
        go_ret
        exact ⟨ret_b HF.out.symm, rfl⟩
    · have HT : Hid (okS s = true) := by
        have := HQ.out
        rwa [List.take_of_length_le (by rw [← Lib.size_eq]; omega)] at this
      go_wp2_with fail
      go_ret
      exact ⟨ret_b HT.out.symm, rfl⟩
set_option maxHeartbeats 400000 in
theorem named_0 (s : ByteArray) (w : World) (h : (s.size : Int) < 1) : Calls Try.prog 46 #[.string s] w fun e w' => e = .returned (.bool false) ∧ w' = w := by
  go_enter Try.func46, Try.ntmps46
  go_wp2_with fail
  go_ret
  exact ⟨rfl, rfl⟩
set_option maxHeartbeats 400000 in
theorem named_33 (s : ByteArray) (w : World) (h : 32 < (s.size : Int)) : Calls Try.prog 46 #[.string s] w fun e w' => e = .returned (.bool false) ∧ w' = w := by
  have h1 : ¬ (s.size : Int) < 1 := by omega
  go_enter Try.func46, Try.ntmps46
  go_wp2_with fail
  go_ret
  exact ⟨rfl, rfl⟩
theorem named_any (s : ByteArray) (w : World) : Calls Try.prog 46 #[.string s] w fun e w' => e = .returned (.bool (okN s.data.toList)) ∧ w' = w := by
  have hl : s.data.toList.length = s.size := (Lib.size_eq s).symm
  by_cases h1 : s.size < 1
  · refine (named_0 s w (by omega)).mono ?_
    rintro e w' ⟨rfl, rfl⟩
    exact ⟨ret_b (by unfold okN; rw [hl]; simp; omega), rfl⟩
  by_cases h2 : 32 < s.size
  · refine (named_33 s w (by omega)).mono ?_
    rintro e w' ⟨rfl, rfl⟩
    exact ⟨ret_b (by unfold okN; rw [hl, decide_eq_false (by omega : ¬ s.size ≤ 32)]; simp), rfl⟩
  refine (named_in s w (by omega) (by omega)).mono ?_
  rintro e w' ⟨rfl, rfl⟩
  exact ⟨ret_b (by unfold okN okS; rw [hl, decide_eq_true (by omega : 1 ≤ s.size), decide_eq_true (by omega : s.size ≤ 32)]; simp), rfl⟩
end Go.Proofs.Ytnohidalomjfmaa
