/-
  slices.Delete of the first records of a log.
-/
import Derived.Test.YtplcpjngpkghmaaJi
import Derived.Lib.SliceRun
namespace Go.Proofs.Ytplcpjngpkghmaa
open Go.RowKit Go.Maps

/-- a block behind a row of cells that is set -/
theorem setCells_at {t : TypeId} {g : Nat} : ∀ (vs : List Value) (o : Nat) (w : World) (cur : Array Value), w.heap[g]? = some (.cells cur t (0, 0)) → o + vs.length ≤ cur.size →
    ∃ cur' : Array Value, (w.setCells g o vs).heap[g]? = some (.cells cur' t (0, 0)) ∧ cur'.size = cur.size ∧ ∀ j, cur'[j]? = if o ≤ j ∧ j < o + vs.length then vs[j - o]? else cur[j]?
  | [], o, w, cur, h, _ => ⟨cur, h, rfl, fun j => by rw [if_neg (by simp)]⟩
  | v :: r, o, w, cur, h, hl => by
    simp only [List.length_cons] at hl
    have h1 := setB (i := o) h v
    obtain ⟨cur', e1, e2, e3⟩ := setCells_at r (o + 1) _ _ h1 (by simp; omega)
    refine ⟨cur', e1, by rw [e2]; simp, fun j => ?_⟩
    rw [e3 j]
    by_cases h2 : o + 1 ≤ j ∧ j < o + 1 + r.length
    · rw [if_pos h2, if_pos (by simp; omega), show j - o = (j - (o + 1)) + 1 by omega, List.getElem?_cons_succ]
    · rw [if_neg h2]
      by_cases h3 : j = o
      · subst h3
        rw [if_pos (by simp), Nat.sub_self]
        simp only [List.getElem?_cons_zero]
        rw [Array.getElem?_setIfInBounds_self_of_lt (by omega)]
      · rw [if_neg (by simp; omega)]
        rw [Array.getElem?_setIfInBounds_ne (Ne.symm h3)]
theorem setCells_ne (g : Nat) {k : Nat} (hk : k ≠ g) : ∀ (vs : List Value) (o : Nat) (w : World), (w.setCells g o vs).heap[k]? = w.heap[k]?
  | [], _, _ => rfl
  | _ :: r, o, _ => (setCells_ne g hk r (o + 1) _).trans (Below.heap_setCell _ _ _ _ hk)
theorem cells_at {w : World} {g : Nat} {cur : Array Value} {t : TypeId} (h : w.heap[g]? = some (.cells cur t (0, 0))) (j : Nat) : w.cell? ⟨g, j, none⟩ = cur[j]? ∧ w.frozen? ⟨g, j, none⟩ = false := by
  constructor
  · simp [World.cell?, h]
  · simp [World.frozen?, h]
set_option maxHeartbeats 4000000 in
set_option maxRecDepth 100000 in
theorem del_at (w : World) (g cap n k : Nat) (cur : Array Value) (xs : List Value) (hg : w.heap[g]? = some (.cells cur 31 (0, 0))) (hnc : n ≤ cap) (hm : cap ≤ 9223372036854775807) (hs : cur.size = cap) (hx : cur.toList.take n = xs) (hone : ∀ u ∈ xs, u.oneCell' = true) (h0 : 0 < k) (hk : k ≤ n) :
    Calls Try.prog 47 #[.slice (some ⟨g, 0, none⟩) n cap, .int .i64 0, .int .i64 k] w fun e w' => e = .returned (.slice (some ⟨g, 0, none⟩) (n - k) cap) ∧ w' = (w.drew.setCells g 0 (xs.drop k)).setCells g (n - k) (List.replicate k (.slice none 0 0)) := by
  obtain ⟨i0, hi0, hz0, hz1, hz2⟩ := info_parts info31
  have hxl : xs.length = n := by rw [← hx]; simp; omega
  obtain ⟨news, hnews⟩ : ∃ news, news = xs.drop k := ⟨_, rfl⟩
  have hlen : news.length = n - k := by rw [hnews]; simp [hxl]
  have hcell : ∀ j, j < n → w.cell? ⟨g, j, none⟩ = xs[j]? := fun j hj => by
    rw [(cells_at hg j).1, ← hx, List.getElem?_take, if_pos hj, Array.getElem?_toList]
  obtain ⟨A, hA, hsrc⟩ : ∃ A : Addr, (if cap = k then some (⟨g, 0, none⟩ : Addr) else some ⟨g, k, none⟩) = some A ∧ Hid (∀ t u, news[t]? = some u → w.drew.cell? (A.add t) = some u) := by
    by_cases h : cap = k
    · refine ⟨⟨g, 0, none⟩, by simp [h], fun t u hu => ?_⟩
      rw [List.length_eq_zero_iff.1 (by rw [hlen]; omega : news.length = 0)] at hu
      simp at hu
    · refine ⟨⟨g, k, none⟩, by simp [h], fun t u hu => ?_⟩
      have ht : t < n - k := by
        have := (List.getElem?_eq_some_iff.1 hu).1
        rwa [hlen] at this
      rw [hnews, List.getElem?_drop] at hu
      rw [Addr.add_lit]
      exact (hcell (k + t) (by omega)).trans hu
  have s1 : Hid (news.length = (n - k) * 1) := by rw [Nat.mul_one]; exact hlen
  have s2 : Hid (∀ u ∈ news, u.oneCell' = true) := fun u hu => hone u (List.mem_of_mem_drop (by rw [← hnews]; exact hu))
  have s3 : Hid (∀ t, t < news.length → (w.drew.cell? ⟨g, 0 + 0 * 1 + t, none⟩).isSome = true ∧ w.drew.frozen? ⟨g, 0 + 0 * 1 + t, none⟩ = false) := by
    intro t ht
    rw [hlen] at ht
    rw [show 0 + 0 * 1 + t = t by omega]
    refine ⟨?_, (cells_at hg t).2⟩
    show (w.cell? _).isSome = true
    rw [hcell t (by omega), List.getElem?_eq_getElem (by omega)]
    rfl
  obtain ⟨W1, hW1⟩ : ∃ W1, W1 = w.drew.setCells g (0 + 0 * 1) news := ⟨_, rfl⟩
  obtain ⟨cur1, q1, q2, q3⟩ := setCells_at news (0 + 0 * 1) w.drew cur hg (by rw [hlen]; omega)
  rw [← hW1] at q1
  have hcl : ∀ ty, (Builtin.clear_ #[38] ty #[.slice (some ⟨g, n - k, none⟩) (n - (n - k)) (cap - (n - k))]).run Try.prog W1 = .ok (.tuple #[]) (W1.setCells g (n - k) (List.replicate (n - (n - k)) (.slice none 0 0))) :=
    fun ty => Lib.run_clear_slice W1 _ _ ty _ Try.underlying38 Try.zeroValue31 rfl rfl g (n - k) _ _ (by omega) (fun t ht => by rw [(cells_at q1 _).1, Array.getElem?_eq_getElem (by omega)]; rfl) (fun t ht => (cells_at q1 _).2)
  have hW : Hid (W1 = w.drew.setCells g (0 + 0 * 1) news) := hW1
  have X : Aside (W1 = w.drew.setCells g 0 (xs.drop k)) := (show W1 = w.drew.setCells g 0 (xs.drop k) from by rw [hW1, hnews])
  have hkc : k ≤ cap := by omega
  have hki : (k : Int) ≤ (n : Int) := by omega
  have hki0 : (0 : Int) ≤ (k : Int) := by omega
  have hne : ((0 : Int) == (k : Int)) = false := by simp; omega
  clear hW1 hnews hlen hcell q1 q2 q3 hx hone hg hs hxl
  go_enter Try.func47, Try.ntmps47
  go_wp2_with fail
  go_region_law (refine step_append_room rfl (.tmp 22) (.tmp 25) 38 rfl 31 i0 1 Try.underlying38 hi0 hz1 g 0 0 cap (by simp [Act.eval, Act.put]) A (n - k) (cap - k) news (by simp [Act.eval, Act.put]) s1.out hsrc.out s2.out (by omega) s3.out ?_; rw [← hW.out])
  go_wp2
  go_ret
  refine ⟨by simp, ?_⟩
  rw [X.out, show n - (n - k) = k by omega]
end Go.Proofs.Ytplcpjngpkghmaa
