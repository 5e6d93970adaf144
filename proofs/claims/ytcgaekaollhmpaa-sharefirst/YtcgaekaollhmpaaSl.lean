/-
  The laws' place; what is to be known of two orders for ShareMoves.
-/
import Derived.Test.YtcgaekaollhmpaaSk
namespace Go.Proofs.Ytcgaekaollhmpaa
open Go.RowKit Go.Maps

set_option maxHeartbeats 1000000 in
theorem place_at (w : World) (b n c : Nat) (q : Option Addr) (l : List (List UInt8)) (nm : List UInt8) (i : Nat) (h : SR b w (.slice q n c) l) (hi : l[i]? = some nm) (hf : ∀ j s, j < i → l[j]? = some s → s ≠ nm) (hn : n ≤ 1000) :
    Calls Try.prog 12 #[.slice q n c, .string ⟨⟨nm⟩⟩] w fun e w' => e = .returned (.int .i64 (i : Int)) ∧ w' = w := by
  have hl := h.len
  have hin : i < n := by have := (List.getElem?_eq_some_iff.1 hi).1; omega
  have HL : Hid (n = l.length ∧ l[i]? = some nm ∧ (∀ j s, j < i → l[j]? = some s → s ≠ nm) ∧ SR b w (.slice q n c) l) := ⟨hl, hi, hf, h⟩
  clear h hi hf hl
  go_enter Try.func12, Try.ntmps12
  go_wp2_with fail
  go_loopw [5] (fun x wr => ∃ k : Nat, x = .int .i64 k ∧ k ≤ i ∧ wr = w) (fun x _ => n - (intOf x).toNat)
  case atStart => exact ⟨0, rfl, Nat.zero_le _, rfl⟩
  case round =>
    obtain ⟨k, rfl, hk, rfl⟩ := hrel
    have k1 : (k : Int) < (n : Int) := by omega
    have k2 : decide ((k : Int) < (n : Int)) = true := decide_eq_true k1
    obtain ⟨s, hs⟩ : ∃ s, l[k]? = some s := ⟨_, List.getElem?_eq_getElem (by have := HL.out.1; omega)⟩
    obtain ⟨g, rfl, hc⟩ := SR.get HL.out.2.2.2 hs
    by_cases hki : k = i
    · subst hki
      obtain rfl : s = nm := by have := HL.out.2.1; rw [hs] at this; exact Option.some.inj this
      clear HL hs
      go_wp2_with fail
      go_ret
      exact ⟨rfl, rfl⟩
    · have e1 : (s == nm) = false := beq_eq_false_iff_ne.2 (HL.out.2.2.1 k s (by omega) hs)
      clear HL hs
      go_wp2_with fail
      exact ⟨⟨k + 1, by simp, by omega, trivial⟩, by simp [intOf]; omega⟩
/-- the place of a tenant's name -/
theorem name_at {all : Vs.V} {L : List U} {R : List Tn} {u : U} (h : OrdR all L 0 R) (hu : u ∈ L) : ∃ i : Nat, R[i]? = some (ten all u) ∧ (R.map Tn.nm)[i]? = some u.nm ∧ ∀ (j : Nat) s, j < i → (R.map Tn.nm)[j]? = some s → s ≠ u.nm := by
  obtain ⟨h1, h2, -, h4, h5⟩ : fstE all L = 0 ∧ Nd L ∧ (0 : Nat) = 0 ∧ R.Perm (L.map (ten all)) ∧ R.Pairwise tb := by
    rcases h with ⟨_, e, _⟩ | ⟨_, _, e, _⟩ | e
    · exact absurd rfl e
    · cases e
    · exact e
  have hm : ten all u ∈ R := h4.mem_iff.2 (List.mem_map.2 ⟨u, hu, rfl⟩)
  obtain ⟨i, hi, e⟩ := List.getElem_of_mem hm
  have hR : R[i]? = some (ten all u) := by rw [List.getElem?_eq_getElem hi, e]
  refine ⟨i, hR, by rw [List.getElem?_map, hR]; rfl, fun j s hj hs => ?_⟩
  rw [List.getElem?_map] at hs
  obtain ⟨t, ht, rfl⟩ := Option.map_eq_some_iff.1 hs
  have hn : R.Pairwise fun a b => a.nm ≠ b.nm := by
    have : (L.map (ten all)).Pairwise fun a b => a.nm ≠ b.nm := List.pairwise_map.2 h2
    exact (h4.pairwise_iff (R := fun a b : Tn => a.nm ≠ b.nm) (fun q => Ne.symm q)).2 this
  obtain ⟨l1, e1⟩ := List.getElem?_eq_some_iff.1 ht
  have := List.pairwise_iff_getElem.1 hn j i l1 hi hj
  rw [e1, e] at this
  exact this
/-- the order where the first tenant has changed -/
theorem moved {all : Vs.V} {u u' : U} {r : List U} {R : List Tn} {e' : Nat} {R' : List Tn} (h : OrdR all (u :: r) 0 R) (hn : u'.nm = u.nm) (he : er all u' = 0) (h' : OrdR all (u' :: r) e' R') : e' = 0 ∧ R'.length = R.length ∧ OrdR all (u' :: r) 0 R' ∧ ∀ i j : Nat, R[i]? = some (ten all u) → R'[j]? = some (ten all u') → (¬ rl (kT (ten all u')) (kT (ten all u)) → i ≤ j) ∧ (¬ rl (kT (ten all u)) (kT (ten all u')) → j ≤ i) := by
  obtain ⟨h1, h2, -, h4, h5⟩ : fstE all (u :: r) = 0 ∧ Nd (u :: r) ∧ (0 : Nat) = 0 ∧ R.Perm ((u :: r).map (ten all)) ∧ R.Pairwise tb := by
    rcases h with ⟨_, e, _⟩ | ⟨_, _, e, _⟩ | e
    · exact absurd rfl e
    · cases e
    · exact e
  have hz := fstE_zero.1 h1
  have hz' : ∀ x ∈ u' :: r, er all x = 0 := fun x hx => by
    rcases List.mem_cons.1 hx with rfl | hx
    · exact he
    · exact hz x (List.mem_cons_of_mem _ hx)
  have hd : Nd (u' :: r) := by
    have := List.pairwise_cons.1 h2
    exact List.pairwise_cons.2 ⟨fun x hx => by rw [hn]; exact this.1 x hx, this.2⟩
  obtain ⟨k1, k2, k3, k4, k5⟩ : fstE all (u' :: r) = 0 ∧ Nd (u' :: r) ∧ e' = 0 ∧ R'.Perm ((u' :: r).map (ten all)) ∧ R'.Pairwise tb := by
    rcases h' with ⟨q1, q2, _⟩ | ⟨_, q, _, _⟩ | q
    · rw [fstE_zero.2 hz'] at q1; exact absurd q1 q2
    · exact absurd hd q
    · exact q
  subst k3
  have hX : ∀ x ∈ r.map (ten all), x.d ≠ 0 := fun x hx => by
    obtain ⟨y, hy, rfl⟩ := List.mem_map.1 hx
    exact (ten_ok (hz y (List.mem_cons_of_mem _ hy))).z
  have ha := (ten_ok (hz u (List.mem_cons_self ..))).z
  have hb := (ten_ok he).z
  refine ⟨rfl, by rw [k4.length_eq, h4.length_eq]; simp, .inr (.inr ⟨k1, k2, rfl, k4, k5⟩), fun i j hi hj => ⟨fun q => ?_, fun q => ?_⟩⟩
  · exact place_le h4 k4 h5 k5 hi hj hX ha hb hn.symm q
  · exact place_le k4 h4 k5 h5 hj hi hX hb ha hn q
end Go.Proofs.Ytcgaekaollhmpaa
