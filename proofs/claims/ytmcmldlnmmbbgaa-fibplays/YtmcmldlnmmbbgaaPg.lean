/-
  No entry of a heap of two thousand has 28 children; the least of the roots is the least of all.
-/
import Derived.Test.YtmcmldlnmmbbgaaPf
namespace Go.Proofs.Ytmcmldlnmmbbgaa

theorem nodup_len : ∀ {l m : List Nat}, l.Nodup → (∀ a ∈ l, a ∈ m) → l.length ≤ m.length
  | [], m, _, _ => Nat.zero_le _
  | a :: l, m, h, hs => by
    obtain ⟨h1, h2⟩ := List.nodup_cons.1 h
    have := nodup_len (l := l) (m := m.erase a) h2 fun x hx => (List.mem_erase_of_ne (fun e => h1 (by rw [← e]; exact hx))).2 (hs x (List.mem_cons_of_mem _ hx))
    have h3 := List.length_erase_of_mem (hs a (List.mem_cons_self ..))
    have h4 := List.length_pos_of_mem (hs a (List.mem_cons_self ..))
    rw [List.length_cons]
    omega
section
variable {S : HS} {Z : List Nat}
theorem kids_nodup {wk : Option Nat} (h : Inv S wk Z) {p : Nat} (hp : p ∈ S.X) : (S.fl (.kd p)).Nodup := by
  refine List.pairwise_iff_getElem.2 fun i j hi hj hij e => ?_
  have hx : (S.fl (.kd p))[j]? = some (S.fl (.kd p))[j] := List.getElem?_eq_getElem hj
  have hy : (S.fl (.kd p))[i]? = some (S.fl (.kd p))[j] := by rw [List.getElem?_eq_getElem hi, e]
  have h1 := (h.lc.fam (.kd p) hp j _ hx).2.2
  have h2 := (h.lc.fam (.kd p) hp i _ hy).2.2
  omega
def big (S : HS) (d p : Nat) : List Nat := ((S.fl (.kd p)).filter fun c => !decide (S.dv none c < d - 3)).take 3
theorem big_len (h : Inv S none Z) {p d : Nat} (hp : p ∈ S.X) (hd : d ≤ S.deg p) (h4 : 4 ≤ d) : (big S d p).length = 3 := by
  unfold big
  rw [List.length_take]
  have h1 := h.dg p hp (d - 3)
  have h2 := List.length_eq_countP_add_countP (fun c => decide (S.dv none c < d - 3)) (l := S.fl (.kd p))
  have h3 : ((S.fl (.kd p)).filter fun c => !decide (S.dv none c < d - 3)).length = (S.fl (.kd p)).countP fun c => !decide (S.dv none c < d - 3) := (List.countP_eq_length_filter ..).symm
  have h5 : S.deg p = (S.fl (.kd p)).length := rfl
  have h6 : ((S.fl (.kd p)).countP fun c => decide ¬ (decide (S.dv none c < d - 3)) = true) = (S.fl (.kd p)).countP fun c => !decide (S.dv none c < d - 3) := by
    congr 1
    funext c
    by_cases e : S.dv none c < d - 3 <;> simp [e]
  rw [h6] at h2
  omega
theorem big_mem (h : Inv S none Z) {p d c : Nat} (hp : p ∈ S.X) (hc : c ∈ big S d p) : c ∈ S.X ∧ S.pl c = some (.kd p) ∧ d - 4 ≤ S.deg c := by
  have h1 := List.mem_of_mem_take hc
  obtain ⟨h2, h3⟩ := List.mem_filter.1 h1
  obtain ⟨j, hj⟩ := List.getElem?_of_mem h2
  obtain ⟨k1, k2, _⟩ := h.lc.fam (.kd p) hp j c hj
  refine ⟨k1, k2, ?_⟩
  have h4 : ¬ S.dv none c < d - 3 := by simpa using h3
  unfold HS.dv at h4
  simp only [reduceCtorEq, if_false] at h4
  split at h4 <;> omega
theorem level (h : Inv S none Z) {d : Nat} (h4 : 4 ≤ d) {L : List Nat} (hn : L.Nodup) (hL : ∀ p ∈ L, p ∈ S.X ∧ d ≤ S.deg p) : ∃ L' : List Nat, L'.Nodup ∧ L'.length = 3 * L.length ∧ ∀ p ∈ L', p ∈ S.X ∧ d - 4 ≤ S.deg p := by
  refine ⟨L.flatMap (big S d), ?_, ?_, fun c hc => ?_⟩
  · refine List.pairwise_flatMap.2 ⟨fun p hp => ?_, ?_⟩
    · exact ((kids_nodup h (hL p hp).1).filter _).sublist (List.take_sublist _ _)
    · refine List.Pairwise.imp_of_mem (fun {a b} ha hb hab x hx y hy e => ?_) hn
      obtain ⟨_, k1, _⟩ := big_mem h (hL a ha).1 hx
      obtain ⟨_, k2, _⟩ := big_mem h (hL b hb).1 hy
      rw [e, k2] at k1
      simp only [Option.some.injEq, Fa.kd.injEq] at k1
      exact hab k1.symm
  · clear hn
    induction L with
    | nil => rfl
    | cons a L ih =>
      rw [List.flatMap_cons, List.length_append, big_len h (hL a (List.mem_cons_self ..)).1 (hL a (List.mem_cons_self ..)).2 h4, ih fun p hp => hL p (List.mem_cons_of_mem _ hp), List.length_cons]
      omega
  · obtain ⟨p, hp, hc'⟩ := List.mem_flatMap.1 hc
    obtain ⟨k1, _, k3⟩ := big_mem h (hL p hp).1 hc'
    exact ⟨k1, k3⟩
theorem deg_bound (h : Inv S none Z) (hs : S.X.length ≤ 2000) {b : Nat} (hb : b ∈ S.X) : S.deg b ≤ 27 := by
  refine Decidable.byContradiction fun hd => ?_
  obtain ⟨L1, n1, l1, e1⟩ := level h (d := 28) (by omega) (L := [b]) (by simp) (fun p hp => by simp only [List.mem_singleton] at hp; subst hp; exact ⟨hb, by omega⟩)
  obtain ⟨L2, n2, l2, e2⟩ := level h (d := 24) (by omega) n1 e1
  obtain ⟨L3, n3, l3, e3⟩ := level h (d := 20) (by omega) n2 e2
  obtain ⟨L4, n4, l4, e4⟩ := level h (d := 16) (by omega) n3 e3
  obtain ⟨L5, n5, l5, e5⟩ := level h (d := 12) (by omega) n4 e4
  obtain ⟨L6, n6, l6, e6⟩ := level h (d := 8) (by omega) n5 e5
  obtain ⟨L7, n7, l7, e7⟩ := level h (d := 4) (by omega) n6 e6
  have := nodup_len n7 fun a ha => (e7 a ha).1
  simp at l1
  omega

/-! ### the least -/
def HS.isMin (S : HS) (m : Nat) (Y : Nat → Prop) : Prop := ∀ b, Y b → b = m ∨ S.lt m b
theorem lt_trans' {wk : Option Nat} (h : Inv S wk Z) {a b c : Nat} (ha : a ∈ S.X) (hb : b ∈ S.X) (hc : c ∈ S.X) (h1 : S.lt a b) (h2 : S.lt b c) : S.lt a c := el.trans (h.ok a ha).z (h.ok b hb).z (h.ok c hc).z h1 h2
theorem lt_tri {wk : Option Nat} (h : Inv S wk Z) {a b : Nat} (ha : a ∈ S.X) (hb : b ∈ S.X) (hne : a ≠ b) : S.lt a b ∨ S.lt b a := el_tri _ _ _ _ fun e => hne (h.hu a ha b hb e)
theorem min_exists {wk : Option Nat} (h : Inv S wk Z) : ∀ (L : List Nat), (∀ a ∈ L, a ∈ S.X) → L ≠ [] → ∃ m ∈ L, S.isMin m (· ∈ L)
  | [], _, hn => absurd rfl hn
  | [a], _, _ => ⟨a, by simp, fun b hb => .inl (by simpa using hb)⟩
  | a :: b :: L, hL, _ => by
    obtain ⟨m, hm, hmin⟩ := min_exists h (b :: L) (fun x hx => hL x (List.mem_cons_of_mem _ hx)) (by simp)
    have ha := hL a (List.mem_cons_self ..)
    have hmX := hL m (List.mem_cons_of_mem _ hm)
    by_cases e : a = m
    · refine ⟨m, List.mem_cons_of_mem _ hm, fun x hx => ?_⟩
      rcases List.mem_cons.1 hx with rfl | hx
      · exact .inl e
      · exact hmin x hx
    · rcases lt_tri h ha hmX e with h1 | h1
      · refine ⟨a, List.mem_cons_self .., fun x hx => ?_⟩
        rcases List.mem_cons.1 hx with rfl | hx
        · exact .inl rfl
        · rcases hmin x hx with rfl | h2
          · exact .inr h1
          · exact .inr (lt_trans' h ha hmX (hL x (List.mem_cons_of_mem _ hx)) h1 h2)
      · refine ⟨m, List.mem_cons_of_mem _ hm, fun x hx => ?_⟩
        rcases List.mem_cons.1 hx with rfl | hx
        · exact .inr h1
        · exact hmin x hx
/-- the least of the roots is the least of all -/
theorem root_min {wk : Option Nat} (h : Inv S wk []) {m : Nat} (hm : m ∈ S.X) (hmin : S.isMin m fun b => b ∈ S.X ∧ ∃ i, S.pl b = some (.rt i)) : S.isMin m (· ∈ S.X) := by
  obtain ⟨m0, h0, hmin0⟩ := min_exists h S.X (fun _ h => h) (by rintro e; rw [e] at hm; simp at hm)
  have hroot : ∃ i, S.pl m0 = some (.rt i) := by
    cases hp : S.pl m0 with
    | none => exact absurd hp (h.all m0 h0 (by simp))
    | some F =>
      cases F with
      | rt i => exact ⟨i, rfl⟩
      | kd p =>
        have h1 := h.ord m0 h0 p hp
        have h2 : p ∈ S.X := (h.lc.plc m0 h0 _ hp).1
        rcases hmin0 p h2 with h3 | h3
        · rw [h3] at h1; exact absurd h1 (el_irr _ _)
        · exact absurd h3 (el_asymm h1)
  have e : m0 = m := by
    rcases hmin m0 ⟨h0, hroot⟩ with h1 | h1
    · exact h1
    · rcases hmin0 m hm with h2 | h2
      · exact h2.symm
      · exact absurd h2 (el_asymm h1)
  rw [← e]; exact hmin0
end
end Go.Proofs.Ytmcmldlnmmbbgaa
