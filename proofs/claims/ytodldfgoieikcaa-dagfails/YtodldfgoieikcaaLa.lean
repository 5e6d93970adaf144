/-
  A graph in a law; rings of jobs.
-/
import Derived.Test.YtodldfgoieikcaaMl
namespace Go.Proofs.Ytodldfgoieikcaa
open Go.RowKit Go.Maps

/-- a graph in a law that began in w0 -/
structure PG (w0 w : World) (gb : Nat) (g : GS) : Prop where
  gr : Gr w gb g
  bl : Below w0.heap.size w0 w
  nb : w0.heap.size ≤ gb
theorem PG.kp {w0 w w' : World} {gb : Nat} {g g' : GS} (h : PG w0 w gb g) (k : Kp (fun k => k = gb) w w') (hg : Gr w' gb g') : PG w0 w' gb g' := by
  have hn := h.nb
  exact ⟨hg, ⟨k.os.trans h.bl.os, k.tape.trans h.bl.tape, k.output.trans h.bl.output, Nat.le_trans h.bl.size k.size, fun j hj => (k.block j (Nat.lt_of_lt_of_le hj h.bl.size) (by show ¬ j = gb; omega)).trans (h.bl.block j hj)⟩, h.nb⟩
theorem PG.grow {w0 w w' : World} {gb : Nat} {g : GS} (h : PG w0 w gb g) (k : Below w.heap.size w w') : PG w0 w' gb g := h.kp (Kp.of_below k) (h.gr.grow k)
theorem pg_new (w0 w : World) (hb : Below w0.heap.size w0 w) : Calls Try.prog 11 #[] w fun e w' => e = .returned (.pointer (some ⟨w.heap.size, 0, none⟩)) ∧ Hid (PG w0 w' w.heap.size g0 ∧ w'.heap.size = w.heap.size + 1) := by
  refine (new_any w).mono ?_
  rintro e w1 ⟨rfl, rfl⟩
  exact ⟨rfl, ⟨gr_new w, hb.alloc hb.size _, hb.size⟩, by simp⟩

/-! ### rings -/
def ringG (k : Nat) (T : Nat → Bool) : GS := ⟨fun n => if 1 ≤ n ∧ n ≤ k ∧ T (n - 1) = true then 1 else 0, fun n j => decide (1 ≤ n ∧ n ≤ k ∧ T (n - 1) = true ∧ j = 1 + n % k)⟩
theorem ring_zero (k : Nat) : ringG k s0 = g0 := by
  unfold ringG g0 s0
  congr 1
  · funext n; simp
  · funext n j; simp
theorem stI_one (y j : Nat) : stI [(y : Int)] j = decide (j = y) := by
  unfold stI
  by_cases e : j = y
  · subst e; rw [decide_eq_true rfl, inB_iff]; simp
  · rw [decide_eq_false e, inB_no]; simp; omega
theorem ring_add (k a : Nat) (T : Nat → Bool) (ha : a < k) : (ringG k T).add (1 + a) (stI [((1 + (a + 1) % k : Nat) : Int)]) = ringG k (sset T a true) := by
  unfold ringG GS.add
  congr 1
  · funext n
    simp only []
    by_cases e : n = 1 + a
    · subst e
      rw [if_pos rfl, if_pos ⟨by omega, by omega, by simp [sset]⟩]
    · rw [if_neg e]
      by_cases h : 1 ≤ n ∧ n ≤ k
      · have hn : n - 1 ≠ a := by omega
        simp [sset, hn]
      · rw [if_neg (fun q => h ⟨q.1, q.2.1⟩), if_neg (fun q => h ⟨q.1, q.2.1⟩)]
  · funext n j
    simp only []
    by_cases e : n = 1 + a
    · subst e
      rw [if_pos rfl, stI_one]
      apply decide_eq_decide.2
      have h1 : sset T a true (1 + a - 1) = true := by simp [sset]
      have h2 : (1 + a) % k = (a + 1) % k := by rw [Nat.add_comm]
      constructor
      · intro h; exact ⟨by omega, by omega, h1, by rw [h2]; exact h⟩
      · rintro ⟨_, _, _, h⟩; rw [h2] at h; exact h
    · rw [if_neg e]
      apply decide_eq_decide.2
      by_cases h : 1 ≤ n ∧ n ≤ k
      · have hn : n - 1 ≠ a := by omega
        simp [sset, hn]
      · exact ⟨fun q => absurd ⟨q.1, q.2.1⟩ h, fun q => absurd ⟨q.1, q.2.1⟩ h⟩
theorem ring_af (k : Nat) (T s : Nat → Bool) : afB (ringG k T) s = false := by
  cases e : afB (ringG k T) s
  · rfl
  · obtain ⟨j, _, _, h⟩ := afB_iff.1 e
    unfold ringG at h
    simp only [] at h
    split at h <;> cases h
theorem mod_next (k x : Nat) : (x % k + 1) % k = (x + 1) % k := by rw [Nat.add_mod, Nat.mod_mod, ← Nat.add_mod]
theorem mod_ne {k a e : Nat} (ha : a < k) (h1 : 1 ≤ e) (h2 : e < k) : (a + e) % k ≠ a := by
  by_cases h : a + e < k
  · rw [Nat.mod_eq_of_lt h]; omega
  · rw [Nat.mod_eq_sub_mod (by omega), Nat.mod_eq_of_lt (by omega)]; omega
/-- where one more is missing, the ring isn't closed -/
theorem ring_open {k a m : Nat} {T : Nat → Bool} (ha : a < k) (hm : m < k) (hne : m ≠ a) (hT : T m = false) : ¬ Rch (ringG k T).ps (stI [((1 + (a + 1) % k : Nat) : Int)]) (1 + a) := by
  obtain ⟨d, hd1, hd2, hd3⟩ : ∃ d, 1 ≤ d ∧ d < k ∧ (a + d) % k = m := by
    by_cases h : a < m
    · exact ⟨m - a, by omega, by omega, by rw [Nat.mod_eq_of_lt (by omega)]; omega⟩
    · exact ⟨m + k - a, by omega, by omega, by rw [Nat.mod_eq_sub_mod (by omega), Nat.mod_eq_of_lt (by omega)]; omega⟩
  have key : ∀ y, Rch (ringG k T).ps (stI [((1 + (a + 1) % k : Nat) : Int)]) y → ∃ e, 1 ≤ e ∧ e ≤ d ∧ y = 1 + (a + e) % k := by
    intro y h
    induction h with
    | base h1 h2 =>
      rw [stI_one, decide_eq_true_iff] at h2
      exact ⟨1, by omega, by omega, h2⟩
    | step h1 h2 h3 ih =>
      obtain ⟨e, e1, e2, e3⟩ := ih
      subst e3
      have h4 := of_decide_eq_true h3
      have h5 : T ((a + e) % k) = true := by have := h4.2.2.1; rwa [Nat.add_sub_cancel_left] at this
      have hed : e ≠ d := fun q => by rw [q, hd3, hT] at h5; cases h5
      refine ⟨e + 1, by omega, by omega, ?_⟩
      rw [h4.2.2.2, Nat.add_comm 1 ((a + e) % k), mod_next k _]
      rfl
  intro h
  obtain ⟨e, e1, e2, e3⟩ := key _ h
  exact mod_ne ha e1 (by omega : e < k) (by omega)
theorem ring_shut {k a : Nat} {T : Nat → Bool} (hk : k ≤ 60) (ha : a < k) (hT : ∀ m, m < k → m ≠ a → T m = true) : Rch (ringG k T).ps (stI [((1 + (a + 1) % k : Nat) : Int)]) (1 + a) := by
  have key : ∀ e, 1 ≤ e → e ≤ k → Rch (ringG k T).ps (stI [((1 + (a + 1) % k : Nat) : Int)]) (1 + (a + e) % k) := by
    intro e
    induction e with
    | zero => intro h; omega
    | succ e ih =>
      intro _ h2
      have hlt : (a + (e + 1)) % k < k := Nat.mod_lt _ (by omega)
      by_cases h0 : e = 0
      · subst h0
        exact .base (by omega) (by rw [stI_one]; simp)
      · have hlt2 : (a + e) % k < k := Nat.mod_lt _ (by omega)
        refine .step (ih (by omega) (by omega)) (by omega) ?_
        apply decide_eq_true
        refine ⟨by omega, by omega, ?_, ?_⟩
        · rw [Nat.add_sub_cancel_left]
          exact hT _ hlt2 (mod_ne ha (by omega) (by omega))
        · rw [Nat.add_comm 1 ((a + e) % k), mod_next k _]
          rfl
  have := key k (by omega) (Nat.le_refl _)
  rwa [Nat.add_mod_right, Nat.mod_eq_of_lt ha] at this
/-- the order in which they come -/
def pm (k t i : Nat) : Nat := if k % 7 = 0 then (i + t) % k else (i * 7 + t) % k
theorem pm_lt {k t i : Nat} (hk : 0 < k) : pm k t i < k := by unfold pm; split <;> exact Nat.mod_lt _ hk
theorem mod_eq_dvd {k x y : Nat} (h : x % k = y % k) (hxy : x ≤ y) : ∃ q, y = x + k * q := by
  refine ⟨y / k - x / k, ?_⟩
  have h1 := Nat.div_add_mod x k
  have h2 := Nat.div_add_mod y k
  have h3 : x / k ≤ y / k := Nat.div_le_div_right hxy
  rw [Nat.mul_sub]
  have h4 : k * (x / k) ≤ k * (y / k) := Nat.mul_le_mul_left _ h3
  omega
theorem pm_ne {k t i j : Nat} (hj : j < i) (hi : i < k) : pm k t j ≠ pm k t i := by
  unfold pm
  intro h
  by_cases h7 : k % 7 = 0
  · rw [if_pos h7, if_pos h7] at h
    obtain ⟨q, hq⟩ := mod_eq_dvd h (by omega)
    rcases q with _ | q
    · omega
    · rw [Nat.mul_succ] at hq
      have : 0 ≤ k * q := Nat.zero_le _
      omega
  · rw [if_neg h7, if_neg h7] at h
    obtain ⟨q, hq⟩ := mod_eq_dvd h (by omega)
    have hd : 7 * (i - j) = k * q := by omega
    have hk : k = 7 * (k / 7) + k % 7 := (Nat.div_add_mod k 7).symm
    have hr : k % 7 < 7 := Nat.mod_lt _ (by omega)
    have hz : k * q = 7 * (k / 7 * q) + k % 7 * q := by
      conv => lhs; rw [hk]
      rw [Nat.add_mul, Nat.mul_assoc]
    obtain ⟨p, hp⟩ : ∃ p, q = 7 * p := by
      refine ⟨q / 7, ?_⟩
      generalize k / 7 * q = z at hz
      generalize hr' : k % 7 = r at *
      have : r = 1 ∨ r = 2 ∨ r = 3 ∨ r = 4 ∨ r = 5 ∨ r = 6 := by omega
      rcases this with rfl | rfl | rfl | rfl | rfl | rfl <;> omega
    rw [hp, ← Nat.mul_assoc, Nat.mul_comm k 7, Nat.mul_assoc] at hd
    have hd2 : i - j = k * p := by omega
    rcases p with _ | p
    · omega
    · rw [Nat.mul_succ] at hd2
      have : 0 ≤ k * p := Nat.zero_le _
      omega
/-- behind i jobs -/
structure Rng (k t i : Nat) (T : Nat → Bool) : Prop where
  t : ∀ x, T x = true ↔ ∃ j, j < i ∧ x = pm k t j
  n : ((List.range k).filter fun x => !T x).length + i = k
theorem Rng.start (k t : Nat) : Rng k t 0 s0 := by
  refine ⟨fun x => ?_, ?_⟩
  · constructor
    · intro h; cases h
    · rintro ⟨j, h, _⟩; omega
  · have : (List.range k).filter (fun x => !s0 x) = List.range k := List.filter_eq_self.2 fun x _ => rfl
    rw [this]; simp
theorem Rng.fresh {k t i : Nat} {T : Nat → Bool} (h : Rng k t i T) (hi : i < k) : T (pm k t i) = false := by
  cases e : T (pm k t i)
  · rfl
  · obtain ⟨j, h1, h2⟩ := (h.t _).1 e
    exact absurd h2.symm (pm_ne h1 hi)
theorem Rng.next {k t i : Nat} {T : Nat → Bool} (h : Rng k t i T) (hi : i < k) : Rng k t (i + 1) (sset T (pm k t i) true) := by
  refine ⟨fun x => ?_, ?_⟩
  · unfold sset
    by_cases e : x = pm k t i
    · rw [if_pos e]; exact ⟨fun _ => ⟨i, by omega, e⟩, fun _ => rfl⟩
    · rw [if_neg e, h.t]
      constructor
      · rintro ⟨j, h1, h2⟩; exact ⟨j, by omega, h2⟩
      · rintro ⟨j, h1, h2⟩
        by_cases e2 : j = i
        · subst e2; exact absurd h2 e
        · exact ⟨j, by omega, h2⟩
  · have h1 := h.n
    have h2 := filt_less (h.fresh hi) (List.nodup_range (n := k)) (by simpa using pm_lt (t := t) (i := i) (by omega : 0 < k))
    omega
theorem Rng.last {k t i : Nat} {T : Nat → Bool} (h : Rng k t i T) (hi : i + 1 = k) : ∀ m, m < k → m ≠ pm k t i → T m = true := by
  intro m hm hne
  have h2 := (h.next (by omega)).n
  have h3 : ((List.range k).filter fun x => !sset T (pm k t i) true x).length = 0 := by omega
  have h4 := List.eq_nil_of_length_eq_zero h3
  cases e : T m
  · have : m ∈ (List.range k).filter fun x => !sset T (pm k t i) true x := by
      rw [List.mem_filter]
      exact ⟨by simpa using hm, by simp [sset, hne, e]⟩
    rw [h4] at this
    cases this
  · rfl
theorem Rng.add {k t i : Nat} {T : Nat → Bool} (h : Rng k t i T) (hi : i < k) (hk : k ≤ 60) {a : Bool} {er : Int} {g' : GS} (hr : AddR (ringG k T) ((1 + pm k t i : Nat) : Int) [((1 + (pm k t i + 1) % k : Nat) : Int)] a er g') : (i + 1 < k ∧ er = 0 ∧ g' = ringG k (sset T (pm k t i) true)) ∨ (i + 1 = k ∧ er = 8) := by
  have hp := pm_lt (t := t) (i := i) (by omega : 0 < k)
  have hall : allN [((1 + (pm k t i + 1) % k : Nat) : Int)] = true := by
    have : (pm k t i + 1) % k < k := Nat.mod_lt _ (by omega)
    unfold allN
    simp only [List.all_cons, List.all_nil, Bool.and_true]
    exact isN_of (by omega) (by omega)
  have hst : (ringG k T).st (1 + pm k t i) = 0 := by
    unfold ringG
    simp only []
    rw [if_neg]
    rintro ⟨_, _, q⟩
    rw [Nat.add_sub_cancel_left, h.fresh hi] at q
    cases q
  by_cases hl : i + 1 < k
  · have hp2 := pm_lt (t := t) (i := i + 1) (by omega : 0 < k)
    have hm : T (pm k t (i + 1)) = false := by
      cases e : T (pm k t (i + 1))
      · rfl
      · obtain ⟨j, h1, h2⟩ := (h.t _).1 e
        exact absurd h2.symm (pm_ne (by omega) hl)
    obtain ⟨_, h2, h3⟩ := hr.uniq (.ok (1 + pm k t i) hall rfl (by omega) (by omega) hst (ring_open hp hp2 (pm_ne (by omega) hl).symm hm) (ring_af k T _))
    refine .inl ⟨hl, h2, ?_⟩
    rw [h3, ring_add k _ T hp]
  · have hl' : i + 1 = k := by omega
    obtain ⟨_, h2, _⟩ := hr.uniq (.cycle (1 + pm k t i) hall rfl (by omega) (by omega) hst (ring_shut hk hp (h.last hl')))
    exact .inr ⟨hl', h2⟩
end Go.Proofs.Ytodldfgoieikcaa
