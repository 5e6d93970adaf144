/-
  Lists of numbers, texts and vectors: the contracts of SameInts, of the reference's Same and of SameVectors where both are one.
-/
import Derived.Test.YtnkkiepoljbhlaaBase
import Derived.DeepKeys
namespace Go.Proofs.Ytnkkiepoljbhlaa
open Go.RowKit

/-- values, one behind the other -/
def RowV (w : World) (g o : Nat) (xs : List Value) : Prop := ∀ (k : Nat) (u : Value), xs[k]? = some u → w.cell? ⟨g, o + k, none⟩ = some u
def LiesV (w : World) (a : Option Addr) (xs : List Value) : Prop := xs = [] ∨ ∃ g o, a = some ⟨g, o, none⟩ ∧ RowV w g o xs
theorem RowV.keep {w w1 : World} {g o B : Nat} {xs : List Value} (b : Below B w w1) (hB : w.heap.size ≤ B) (h : RowV w g o xs) : RowV w1 g o xs := fun k u hu => by
  have h0 := h k u hu
  exact (b.cell (Nat.lt_of_lt_of_le (block_lt_of_cell h0) hB)).trans h0
theorem LiesV.keep {w w1 : World} {a : Option Addr} {B : Nat} {xs : List Value} (h : LiesV w a xs) (b : Below B w w1) (hB : w.heap.size ≤ B) : LiesV w1 a xs := by
  rcases h with h | ⟨g, o, e, h⟩
  · exact .inl h
  · exact .inr ⟨g, o, e, h.keep b hB⟩
theorem lies_own {w : World} {B e size n : Nat} {q : Option Addr} {k c : Nat} {xs : List Value} (h : w.ownsRow B e size (.slice q k c) n xs) (hs : n = 0 → xs = []) : LiesV w q xs ∧ k = n := by
  rcases h.2 with ⟨e', h0⟩ | ⟨g, cap, cur, e', _⟩
  · cases e'
    exact ⟨.inl (hs h0), h0.symm⟩
  · cases e'
    refine ⟨.inr ⟨g, 0, rfl, fun j u hu => ?_⟩, rfl⟩
    have hc := World.ownsRow.cells h (g := g) rfl j u hu
    rw [Addr.add_lit, Nat.zero_add] at hc
    rwa [Nat.zero_add]

def intsV (L : List Int) : List Value := L.map fun n => .int .i64 n
def textsV (L : List ByteArray) : List Value := L.map fun s => .string s
theorem ints_get {L : List Int} {k : Nat} {x : Int} (h : L[k]? = some x) : (intsV L)[k]? = some (.int .i64 x) := by unfold intsV; rw [List.getElem?_map, h]; rfl
theorem texts_get {L : List ByteArray} {k : Nat} {x : ByteArray} (h : L[k]? = some x) : (textsV L)[k]? = some (.string x) := by unfold textsV; rw [List.getElem?_map, h]; rfl

set_option maxHeartbeats 1000000 in
theorem sameInts_some (L : List Int) (g o g' o' c d n : Nat) (w : World) (hL : Hid (L.length = n)) (hn : n < 1152921504606846976) (hr : Hid (RowV w g o (intsV L))) (hr' : Hid (RowV w g' o' (intsV L))) :
    Calls Try.prog 37 #[.slice (some ⟨g, o, none⟩) n c, .slice (some ⟨g', o', none⟩) n d] w fun e w' => e = .returned (.bool true) ∧ Below w.heap.size w w' := by
  go_enter Try.func37, Try.ntmps37
  go_wp2_with fail
  go_loopw [5] (fun i wr => ∃ k : Nat, k ≤ n ∧ i = .int .i64 k ∧ Below w.heap.size w wr) (fun i _ => n - (intOf i).toNat)
  case atStart => exact ⟨0, Nat.zero_le _, rfl, Below.refl _ _⟩
  case round =>
    obtain ⟨k, hk, rfl, hb⟩ := hrel
    have HB : Hid (Below w.heap.size w wr) := hb
    clear hb
    by_cases hlt : k < n
    · obtain ⟨x, hx⟩ : ∃ x, L[k]? = some x := ⟨L[k]'(by have := hL.out; omega), List.getElem?_eq_getElem _⟩
      have h0 := hr.out.keep HB.out (Nat.le_refl _) k _ (ints_get hx)
      have h1 := hr'.out.keep HB.out (Nat.le_refl _) k _ (ints_get hx)
      have hi : (k : Int) < (n : Int) := by omega
      clear hx
      go_wp2_with fail
      go_quiet (fail)
      go_wp2_with fail
      refine ⟨⟨k + 1, by omega, by go_num, below_drewN HB.out _⟩, ?_⟩
      simp [intOf]; omega
    · go_wp2_with fail
      go_ret
      exact ⟨rfl, HB.out⟩

set_option maxHeartbeats 1000000 in
theorem sameTexts_some (L : List ByteArray) (g o g' o' c d n : Nat) (w : World) (hL : Hid (L.length = n)) (hn : n < 1152921504606846976) (hr : Hid (RowV w g o (textsV L))) (hr' : Hid (RowV w g' o' (textsV L))) :
    Calls Try.prog 35 #[.slice (some ⟨g, o, none⟩) n c, .slice (some ⟨g', o', none⟩) n d] w fun e w' => e = .returned (.bool true) ∧ Below w.heap.size w w' := by
  go_enter Try.func35, Try.ntmps35
  go_wp2_with fail
  go_loopw [5] (fun i wr => ∃ k : Nat, k ≤ n ∧ i = .int .i64 k ∧ Below w.heap.size w wr) (fun i _ => n - (intOf i).toNat)
  case atStart => exact ⟨0, Nat.zero_le _, rfl, Below.refl _ _⟩
  case round =>
    obtain ⟨k, hk, rfl, hb⟩ := hrel
    have HB : Hid (Below w.heap.size w wr) := hb
    clear hb
    by_cases hlt : k < n
    · obtain ⟨x, hx⟩ : ∃ x, L[k]? = some x := ⟨L[k]'(by have := hL.out; omega), List.getElem?_eq_getElem _⟩
      have h0 := hr.out.keep HB.out (Nat.le_refl _) k _ (texts_get hx)
      have h1 := hr'.out.keep HB.out (Nat.le_refl _) k _ (texts_get hx)
      have hi : (k : Int) < (n : Int) := by omega
      clear hx
      go_wp2_with fail
      go_quiet (fail)
      go_wp2_with fail
      refine ⟨⟨k + 1, by omega, by go_num, below_drewN HB.out _⟩, ?_⟩
      simp [intOf]; omega
    · go_wp2_with fail
      go_ret
      exact ⟨rfl, HB.out⟩

/-- four numbers -/
structure V4 where
  a : Int
  b : Int
  c : Int
  d : Int
def V4.v (v : V4) : Value := .agg #[.int .i64 v.a, .int .i64 v.b, .int .i64 v.c, .int .i64 v.d]
def flat : List V4 → List Value
  | [] => []
  | v :: l => .int .i64 v.a :: .int .i64 v.b :: .int .i64 v.c :: .int .i64 v.d :: flat l
theorem flat_length (l : List V4) : (flat l).length = l.length * 4 := by
  induction l with
  | nil => rfl
  | cons v l ih => simp only [flat, List.length_cons, ih]; omega
theorem flat_get (l : List V4) : ∀ (i : Nat) (v : V4), l[i]? = some v → (flat l)[i * 4]? = some (.int .i64 v.a) ∧ (flat l)[i * 4 + 1]? = some (.int .i64 v.b) ∧ (flat l)[i * 4 + 2]? = some (.int .i64 v.c) ∧ (flat l)[i * 4 + 3]? = some (.int .i64 v.d) := by
  induction l with
  | nil => intro i v h; simp at h
  | cons u l ih =>
    intro i v h
    match i, h with
    | 0, h =>
      obtain rfl : u = v := by simpa using h
      exact ⟨rfl, rfl, rfl, rfl⟩
    | i + 1, h =>
      have := ih i v (by simpa using h)
      simp only [flat]
      rw [show (i + 1) * 4 = i * 4 + 4 by omega]
      simpa only [List.getElem?_cons_succ, show i * 4 + 4 + 1 = i * 4 + 1 + 4 by omega, show i * 4 + 4 + 2 = i * 4 + 2 + 4 by omega, show i * 4 + 4 + 3 = i * 4 + 3 + 4 by omega] using this
theorem flat_one (l : List V4) : ∀ u ∈ flat l, u.oneCell' = true := by
  induction l with
  | nil => intro u h; cases h
  | cons v l ih =>
    intro u h
    simp only [flat, List.mem_cons] at h
    rcases h with rfl | rfl | rfl | rfl | h
    · rfl
    · rfl
    · rfl
    · rfl
    · exact ih u h
theorem row_vec {w : World} {g o : Nat} {l : List V4} (h : RowV w g o (flat l)) {k : Nat} {v : V4} (hv : l[k]? = some v) : w.cell? ⟨g, o + k * 4, none⟩ = some (.int .i64 v.a) ∧ w.cell? ⟨g, o + k * 4 + 1, none⟩ = some (.int .i64 v.b) ∧ w.cell? ⟨g, o + k * 4 + 2, none⟩ = some (.int .i64 v.c) ∧ w.cell? ⟨g, o + k * 4 + 3, none⟩ = some (.int .i64 v.d) := by
  obtain ⟨f0, f1, f2, f3⟩ := flat_get l k v hv
  exact ⟨h _ _ f0, h _ _ f1, h _ _ f2, h _ _ f3⟩

theorem cells2 : Try.prog.cellsOf 2 = 1 := by kernel_rfl
theorem part0 (x y z u : Value) (w : World) : (part 2 #[x, y, z, u] 0).run Try.prog w = .ok x w := by kernel_rfl
theorem part1 (x y z u : Value) (w : World) : (part 2 #[x, y, z, u] 1).run Try.prog w = .ok y w := by kernel_rfl
theorem part2 (x y z u : Value) (w : World) : (part 2 #[x, y, z, u] 2).run Try.prog w = .ok z w := by kernel_rfl
theorem part3 (x y z u : Value) (w : World) : (part 2 #[x, y, z, u] 3).run Try.prog w = .ok u w := by kernel_rfl
theorem eqi (a e : Int) (w : World) : (Op.equalIn 9999 2 (.int .i64 a) (.int .i64 e)).run Try.prog w = .ok (a == e) w := run_equalIn_int w 9998 2 .i64 .i64 a e Try.underlying2
theorem eq4 (a b c d : Int) (w : World) :
    (Op.equalIn 10000 23 (.agg #[.int .i64 a, .int .i64 b, .int .i64 c, .int .i64 d]) (.agg #[.int .i64 a, .int .i64 b, .int .i64 c, .int .i64 d])).run Try.prog w = .ok true w := by
  rw [run_equalIn_array w 9999 _ _ Try.underlying23 (info_of_underlying Try.underlying2).choose_spec, cells2]
  rw [show List.range 4 = [0, 1, 2, 3] from rfl]
  simp [Op.eqItems, part0, part1, part2, part3, eqi]

set_option maxHeartbeats 1000000 in
theorem sameVecs_some (L : List V4) (g o g' o' c d n : Nat) (w : World) (hL : Hid (L.length = n)) (hn : n < 1152921504606846976) (hr : Hid (RowV w g o (flat L))) (hr' : Hid (RowV w g' o' (flat L))) :
    Calls Try.prog 38 #[.slice (some ⟨g, o, none⟩) n c, .slice (some ⟨g', o', none⟩) n d] w fun e w' => e = .returned (.bool true) ∧ Below w.heap.size w w' := by
  go_enter Try.func38, Try.ntmps38
  go_wp2_with fail
  go_loopw [5] (fun i wr => ∃ k : Nat, k ≤ n ∧ i = .int .i64 k ∧ Below w.heap.size w wr) (fun i _ => n - (intOf i).toNat)
  case atStart => exact ⟨0, Nat.zero_le _, rfl, Below.refl _ _⟩
  case round =>
    obtain ⟨k, hk, rfl, hb⟩ := hrel
    have HB : Hid (Below w.heap.size w wr) := hb
    clear hb
    by_cases hlt : k < n
    · obtain ⟨x, hx⟩ : ∃ x, L[k]? = some x := ⟨L[k]'(by have := hL.out; omega), List.getElem?_eq_getElem _⟩
      obtain ⟨h0, h1, h2, h3⟩ := row_vec (hr.out.keep HB.out (Nat.le_refl _)) hx
      obtain ⟨k0, k1, k2, k3⟩ := row_vec (hr'.out.keep HB.out (Nat.le_refl _)) hx
      have hi : (k : Int) < (n : Int) := by omega
      have hq := eq4 x.a x.b x.c x.d
      clear hx
      go_wp2_with fail
      go_quiet (fail)
      go_wp2_with fail
      refine ⟨⟨k + 1, by omega, by go_num, below_drewN HB.out _⟩, ?_⟩
      simp [intOf]; omega
    · go_wp2_with fail
      go_ret
      exact ⟨rfl, HB.out⟩

set_option maxHeartbeats 400000 in
theorem same_empty37 (a b : Option Addr) (c d : Nat) (w : World) :
    Calls Try.prog 37 #[.slice a 0 c, .slice b 0 d] w fun e w' => e = .returned (.bool true) ∧ w' = w := by
  go_enter Try.func37, Try.ntmps37
  go_wp2_with fail
  go_rounds 1
  go_ret
  exact ⟨rfl, rfl⟩
set_option maxHeartbeats 400000 in
theorem same_empty35 (a b : Option Addr) (c d : Nat) (w : World) :
    Calls Try.prog 35 #[.slice a 0 c, .slice b 0 d] w fun e w' => e = .returned (.bool true) ∧ w' = w := by
  go_enter Try.func35, Try.ntmps35
  go_wp2_with fail
  go_rounds 1
  go_ret
  exact ⟨rfl, rfl⟩
set_option maxHeartbeats 400000 in
theorem same_empty38 (a b : Option Addr) (c d : Nat) (w : World) :
    Calls Try.prog 38 #[.slice a 0 c, .slice b 0 d] w fun e w' => e = .returned (.bool true) ∧ w' = w := by
  go_enter Try.func38, Try.ntmps38
  go_wp2_with fail
  go_rounds 1
  go_ret
  exact ⟨rfl, rfl⟩

theorem sameInts (L : List Int) (a b : Option Addr) (c d : Nat) (w : World) (hn : L.length < 1152921504606846976) (ha : LiesV w a (intsV L)) (hb : LiesV w b (intsV L)) :
    Calls Try.prog 37 #[.slice a L.length c, .slice b L.length d] w fun e w' => e = .returned (.bool true) ∧ Below w.heap.size w w' := by
  by_cases h0 : L.length = 0
  · rw [h0]; exact (same_empty37 a b c d w).mono fun e w' ⟨h1, h2⟩ => ⟨h1, h2 ▸ Below.refl _ _⟩
  · have hx : intsV L ≠ [] := by intro e; apply h0; have := congrArg List.length e; simpa [intsV] using this
    rcases ha with h | ⟨g, o, rfl, ha⟩
    · exact absurd h hx
    rcases hb with h | ⟨g', o', rfl, hb⟩
    · exact absurd h hx
    exact sameInts_some L g o g' o' c d _ w rfl hn ha hb
theorem sameTexts (L : List ByteArray) (a b : Option Addr) (c d : Nat) (w : World) (hn : L.length < 1152921504606846976) (ha : LiesV w a (textsV L)) (hb : LiesV w b (textsV L)) :
    Calls Try.prog 35 #[.slice a L.length c, .slice b L.length d] w fun e w' => e = .returned (.bool true) ∧ Below w.heap.size w w' := by
  by_cases h0 : L.length = 0
  · rw [h0]; exact (same_empty35 a b c d w).mono fun e w' ⟨h1, h2⟩ => ⟨h1, h2 ▸ Below.refl _ _⟩
  · have hx : textsV L ≠ [] := by intro e; apply h0; have := congrArg List.length e; simpa [textsV] using this
    rcases ha with h | ⟨g, o, rfl, ha⟩
    · exact absurd h hx
    rcases hb with h | ⟨g', o', rfl, hb⟩
    · exact absurd h hx
    exact sameTexts_some L g o g' o' c d _ w rfl hn ha hb
theorem sameVecs (L : List V4) (a b : Option Addr) (c d : Nat) (w : World) (hn : L.length < 1152921504606846976) (ha : LiesV w a (flat L)) (hb : LiesV w b (flat L)) :
    Calls Try.prog 38 #[.slice a L.length c, .slice b L.length d] w fun e w' => e = .returned (.bool true) ∧ Below w.heap.size w w' := by
  by_cases h0 : L.length = 0
  · rw [h0]; exact (same_empty38 a b c d w).mono fun e w' ⟨h1, h2⟩ => ⟨h1, h2 ▸ Below.refl _ _⟩
  · have hx : flat L ≠ [] := by intro e; apply h0; have := congrArg List.length e; rw [flat_length] at this; simp at this; omega
    rcases ha with h | ⟨g, o, rfl, ha⟩
    · exact absurd h hx
    rcases hb with h | ⟨g', o', rfl, hb⟩
    · exact absurd h hx
    exact sameVecs_some L g o g' o' c d _ w rfl hn ha hb

end Go.Proofs.Ytnkkiepoljbhlaa
