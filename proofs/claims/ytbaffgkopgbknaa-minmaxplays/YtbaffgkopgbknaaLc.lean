/-
  Keys that came in; the reference's Compare.
-/
import Derived.Test.YtbaffgkopgbknaaLa
namespace Go.Proofs.Ytbaffgkopgbknaa
open Go.RowKit Go.Maps

/-! ### keys that came in -/
def K.cs (k : K) : List Value := [.int .i64 k.a, .int .i64 k.b, .int .i64 k.c]
def kflat (ks : List K) : List Value := ks.flatMap K.cs
structure Kys (w : World) (q : Option Addr) (ks : List K) : Prop where
  row : ks = [] ∨ ∃ g o, q = some ⟨g, o, none⟩ ∧ RowV w g o (kflat ks)
  each : ∀ k ∈ ks, k.ok
theorem RowV.keep {w w1 : World} {g o B : Nat} {xs : List Value} (b : Below B w w1) (hB : w.heap.size ≤ B) (h : RowV w g o xs) : RowV w1 g o xs := fun k u hu => by
  have h0 := h k u hu
  exact (b.cell (Nat.lt_of_lt_of_le (block_lt_of_cell h0) hB)).trans h0
theorem Kys.keep {w w1 : World} {q : Option Addr} {ks : List K} (h : Kys w q ks) (b : Below w.heap.size w w1) : Kys w1 q ks := by
  refine ⟨?_, h.each⟩
  rcases h.row with h0 | ⟨g, o, e, hr⟩
  · exact .inl h0
  · exact .inr ⟨g, o, e, hr.keep b (Nat.le_refl _)⟩
theorem kflat_get : ∀ (os : List K) (k : Nat) (o : K) (j : Nat) (u : Value), os[k]? = some o → o.cs[j]? = some u → j < 3 → (kflat os)[k * 3 + j]? = some u
  | [], k, o, j, u, h, _, _ => by simp at h
  | p :: os, 0, o, j, u, h, hu, hj => by
    have e : p = o := by simpa using h
    subst e
    show (p.cs ++ kflat os)[0 * 3 + j]? = some u
    rw [Nat.zero_mul, Nat.zero_add, List.getElem?_append_left (by show j < 3; exact hj)]
    exact hu
  | p :: os, k + 1, o, j, u, h, hu, hj => by
    show (p.cs ++ kflat os)[(k + 1) * 3 + j]? = some u
    rw [List.getElem?_append_right (by show 3 ≤ _; omega)]
    rw [show (k + 1) * 3 + j - p.cs.length = k * 3 + j by show (k + 1) * 3 + j - 3 = _; omega]
    exact kflat_get os k o j u (by simpa using h) hu hj
theorem Kys.at {w : World} {q : Option Addr} {os : List K} (h : Kys w q os) {k : Nat} (hk : k < os.length) : ∃ g f, q = some ⟨g, f, none⟩ ∧ os[k].ok ∧ w.cell? ⟨g, f + k * 3, none⟩ = some (.int .i64 os[k].a) ∧ w.cell? ⟨g, f + k * 3 + 1, none⟩ = some (.int .i64 os[k].b) ∧ w.cell? ⟨g, f + k * 3 + 2, none⟩ = some (.int .i64 os[k].c) := by
  have hr0 : os[k]? = some os[k] := List.getElem?_eq_getElem _
  have hne : os ≠ [] := by rintro rfl; simp at hk
  obtain ⟨g, f, rfl, hrow⟩ := h.row.resolve_left hne
  refine ⟨g, f, rfl, h.each _ (List.getElem_mem _), ?_, ?_, ?_⟩
  · exact hrow (k * 3 + 0) _ (kflat_get os k _ 0 _ hr0 rfl (by omega))
  · exact hrow (k * 3 + 1) _ (kflat_get os k _ 1 _ hr0 rfl (by omega))
  · exact hrow (k * 3 + 2) _ (kflat_get os k _ 2 _ hr0 rfl (by omega))

/-! ### the reference's order of keys -/
def rc (k k' : K) : Int := if enc k 0 < enc k' 0 then -1 else if enc k' 0 < enc k 0 then 1 else 0
theorem rc_a {k k' : K} (o : k.ok) (o' : k'.ok) : (k.a < k'.a → rc k k' = -1) ∧ (k'.a < k.a → rc k k' = 1) := by
  have h1 := o.b
  have h2 := o.c
  have h3 := o'.b
  have h4 := o'.c
  unfold rc enc
  exact ⟨fun q => if_pos (by omega), fun q => by rw [if_neg (by omega), if_pos (by omega)]⟩
theorem rc_b {k k' : K} (o : k.ok) (o' : k'.ok) (e : k.a = k'.a) : (k.b < k'.b → rc k k' = -1) ∧ (k'.b < k.b → rc k k' = 1) := by
  have h2 := o.c
  have h4 := o'.c
  unfold rc enc
  exact ⟨fun q => if_pos (by omega), fun q => by rw [if_neg (by omega), if_pos (by omega)]⟩
theorem rc_c {k k' : K} (e : k.a = k'.a) (e2 : k.b = k'.b) : (k.c < k'.c → rc k k' = -1) ∧ (k'.c < k.c → rc k k' = 1) ∧ (k.c = k'.c → rc k k' = 0) := by
  unfold rc enc
  exact ⟨fun q => if_pos (by omega), fun q => by rw [if_neg (by omega), if_pos (by omega)], fun q => by rw [if_neg (by omega), if_neg (by omega)]⟩
/-- two boxed keys -/
structure Bx (w : World) (x y : Nat) (k k' : K) : Prop where
  a : w.cell? ⟨x, 0, none⟩ = some (.int .i64 k.a)
  b : w.cell? ⟨x, 1, none⟩ = some (.int .i64 k.b)
  c : w.cell? ⟨x, 2, none⟩ = some (.int .i64 k.c)
  d : w.cell? ⟨y, 0, none⟩ = some (.int .i64 k'.a)
  e : w.cell? ⟨y, 1, none⟩ = some (.int .i64 k'.b)
  f : w.cell? ⟨y, 2, none⟩ = some (.int .i64 k'.c)
set_option maxHeartbeats 2000000 in
theorem rcompare_any (k k' : K) (w : World) (o : k.ok) (o' : k'.ok) : Calls Try.prog 15 #[.agg #[.int .i64 k.a, .int .i64 k.b, .int .i64 k.c], .agg #[.int .i64 k'.a, .int .i64 k'.b, .int .i64 k'.c]] w fun e w' => e = .returned (.int .i64 (rc k k')) ∧ Below w.heap.size w w' := by
  have La : Hid ((k.a < k'.a → rc k k' = -1) ∧ (k'.a < k.a → rc k k' = 1)) := rc_a o o'
  have Lb : Hid (k.a = k'.a → (k.b < k'.b → rc k k' = -1) ∧ (k'.b < k.b → rc k k' = 1)) := rc_b o o'
  have Lc : Hid (k.a = k'.a → k.b = k'.b → (k.c < k'.c → rc k k' = -1) ∧ (k'.c < k.c → rc k k' = 1) ∧ (k.c = k'.c → rc k k' = 0)) := rc_c
  clear o o'
  generalize rc k k' = B at *
  go_enter Try.func15, Try.ntmps15
  go_upto_region 1 with fail
  have X0 : Hid (Bx ((w.alloc (.cells #[.int .i64 k.a, .int .i64 k.b, .int .i64 k.c] 45)).alloc (.cells #[.int .i64 k'.a, .int .i64 k'.b, .int .i64 k'.c] 45)) w.heap.size (w.heap.size + 1) k k') := by
    obtain ⟨a0, a1, a2⟩ := c3 (w := ((w.alloc (.cells #[.int .i64 k.a, .int .i64 k.b, .int .i64 k.c] 45)).alloc (.cells #[.int .i64 k'.a, .int .i64 k'.b, .int .i64 k'.c] 45))) (g := w.heap.size) (at_alloc new0)
    have e1 : (w.alloc (.cells #[.int .i64 k.a, .int .i64 k.b, .int .i64 k.c] 45)).heap.size = w.heap.size + 1 := by simp
    obtain ⟨b0, b1, b2⟩ := c3 (w := ((w.alloc (.cells #[.int .i64 k.a, .int .i64 k.b, .int .i64 k.c] 45)).alloc (.cells #[.int .i64 k'.a, .int .i64 k'.b, .int .i64 k'.c] 45))) (g := w.heap.size + 1) (by rw [← e1]; exact new0)
    exact ⟨a0, a1, a2, b0, b1, b2⟩
  have B0 : Hid (Below w.heap.size w ((w.alloc (.cells #[.int .i64 k.a, .int .i64 k.b, .int .i64 k.c] 45)).alloc (.cells #[.int .i64 k'.a, .int .i64 k'.b, .int .i64 k'.c] 45))) := by unfold Hid; go_grown
  generalize ((w.alloc (.cells #[.int .i64 k.a, .int .i64 k.b, .int .i64 k.c] 45)).alloc (.cells #[.int .i64 k'.a, .int .i64 k'.b, .int .i64 k'.c] 45)) = W at *
  go_wp2_with fail
  go_loopw [5] (fun t wr => ∃ i : Int, 0 ≤ i ∧ i ≤ 3 ∧ t = .int .i64 i ∧ Hid (Pre k k' i) ∧ ∃ m, wr = W.drewN m) (fun t _ => (3 - intOf t).toNat)
  case atStart => exact ⟨0, by omega, by omega, rfl, ⟨fun q => by omega, fun q => by omega, fun q => by omega⟩, 0, rfl⟩
  case round =>
    obtain ⟨i, hi0, hi, rfl, HP, m, rfl⟩ := hrel
    have HB : Hid (∀ n, Below w.heap.size w ((W.drewN m).drewN n)) := fun n => below_drewN (below_drewN B0.out m) n
    have HW : Hid (∀ n, ∃ k, (W.drewN m).drewN n = W.drewN k) := drew2 m
    have HZ : Hid (Below w.heap.size w (W.drewN m)) := below_drewN B0.out m
    have X1 : Bx (W.drewN m) w.heap.size (w.heap.size + 1) k k' := ⟨X0.out.a, X0.out.b, X0.out.c, X0.out.d, X0.out.e, X0.out.f⟩
    obtain ⟨x0, x1, x2, y0, y1, y2⟩ := X1
    generalize W.drewN m = V at *
    clear B0 X0
    rcases (by omega : i = 0 ∨ i = 1 ∨ i = 2 ∨ i = 3) with rfl | rfl | rfl | rfl
    · by_cases h1 : k.a < k'.a
      · have e0 : Hid (B = -1) := La.out.1 h1
        go_upto_region 4 with fail
        go_quiet (fail)
        go_wp2_with fail
        go_ret
        exact ⟨ret_int e0.out.symm, HB.out _⟩
      · by_cases h2 : k'.a < k.a
        · have e0 : Hid (B = 1) := La.out.2 h2
          go_upto_region 4 with fail
          go_quiet (fail)
          go_upto_region 6 with fail
          go_quiet (fail)
          go_wp2_with fail
          go_ret
          exact ⟨ret_int e0.out.symm, HB.out _⟩
        · have e0 : Hid (k.a = k'.a) := by unfold Hid; omega
          go_upto_region 4 with fail
          go_quiet (fail)
          go_upto_region 6 with fail
          go_quiet (fail)
          go_wp2_with fail
          exact ⟨⟨1, by omega, by omega, rfl, ⟨fun _ => e0.out, fun q => by omega, fun q => by omega⟩, HW.out _⟩, by simp [intOf]⟩
    · have HA : Hid (k.a = k'.a) := HP.out.1 (by omega)
      by_cases h1 : k.b < k'.b
      · have e0 : Hid (B = -1) := (Lb.out HA.out).1 h1
        go_upto_region 4 with fail
        go_quiet (fail)
        go_wp2_with fail
        go_ret
        exact ⟨ret_int e0.out.symm, HB.out _⟩
      · by_cases h2 : k'.b < k.b
        · have e0 : Hid (B = 1) := (Lb.out HA.out).2 h2
          go_upto_region 4 with fail
          go_quiet (fail)
          go_upto_region 6 with fail
          go_quiet (fail)
          go_wp2_with fail
          go_ret
          exact ⟨ret_int e0.out.symm, HB.out _⟩
        · have e0 : Hid (k.b = k'.b) := by unfold Hid; omega
          go_upto_region 4 with fail
          go_quiet (fail)
          go_upto_region 6 with fail
          go_quiet (fail)
          go_wp2_with fail
          exact ⟨⟨2, by omega, by omega, rfl, ⟨fun _ => HA.out, fun _ => e0.out, fun q => by omega⟩, HW.out _⟩, by simp [intOf]⟩
    · have HA : Hid (k.a = k'.a ∧ k.b = k'.b) := ⟨HP.out.1 (by omega), HP.out.2.1 (by omega)⟩
      by_cases h1 : k.c < k'.c
      · have e0 : Hid (B = -1) := (Lc.out HA.out.1 HA.out.2).1 h1
        go_upto_region 4 with fail
        go_quiet (fail)
        go_wp2_with fail
        go_ret
        exact ⟨ret_int e0.out.symm, HB.out _⟩
      · by_cases h2 : k'.c < k.c
        · have e0 : Hid (B = 1) := (Lc.out HA.out.1 HA.out.2).2.1 h2
          go_upto_region 4 with fail
          go_quiet (fail)
          go_upto_region 6 with fail
          go_quiet (fail)
          go_wp2_with fail
          go_ret
          exact ⟨ret_int e0.out.symm, HB.out _⟩
        · have e0 : Hid (k.c = k'.c) := by unfold Hid; omega
          go_upto_region 4 with fail
          go_quiet (fail)
          go_upto_region 6 with fail
          go_quiet (fail)
          go_wp2_with fail
          exact ⟨⟨3, by omega, by omega, rfl, ⟨fun _ => HA.out.1, fun _ => HA.out.2, fun _ => e0.out⟩, HW.out _⟩, by simp [intOf]⟩
    · have e0 : Hid (B = 0) := (Lc.out (HP.out.1 (by omega)) (HP.out.2.1 (by omega))).2.2 (HP.out.2.2 (by omega))
      go_wp2_with fail
      go_ret
      exact ⟨ret_int e0.out.symm, HZ.out⟩
end Go.Proofs.Ytbaffgkopgbknaa
