/-
  The heap in memory: its line, its entries; end, outward, put, swap.
-/
import Derived.Test.YthlbeofonbbbdaaNb
namespace Go.Proofs.Ythlbeofonbbbdaa
open Go.RowKit Go.Maps

theorem info67 : (Try.prog.info? 95).map (fun i => (i.zero, i.size, i.bytes)) = some (some (.pointer none), 1, 8) := by kernel_rfl
theorem blk_keep {w w1 : World} {b t n : Nat} {f : Nat → Value} (h : Blk w b t n f) {S : Nat → Prop} (k : Kp S w w1) (hS : ¬ S b) : Blk w1 b t n f := h.at (k.block b h.lt hS)
/-- the entries of a line, as its row has them -/
def Fam (w : World) (v : Value) (l : List Nat) : Prop := w.ownsRow 0 95 1 v l.length (l.map ptr)
theorem Fam.nil (w : World) : Fam w (.slice none 0 0) [] := World.ownsRow_nil w 0 95 1
theorem Fam.shape {w : World} {v : Value} {l : List Nat} (h : Fam w v l) : ∃ a c, v = .slice a l.length c := by
  rcases h.2 with ⟨rfl, h0⟩ | ⟨g, cap, cur, rfl, _⟩
  · exact ⟨none, 0, by rw [h0]⟩
  · exact ⟨_, _, rfl⟩
theorem Fam.lt {w : World} {v : Value} {l : List Nat} (h : Fam w v l) {g : Nat} (e : v.ownBlock = some g) : g < w.heap.size := (World.ownsRow.lt h g e).2
theorem Fam.ne {w : World} {v : Value} {l : List Nat} (h : Fam w v l) {b t n : Nat} {f : Nat → Value} (hb : Blk w b t n f) (ht : t ≠ 95) : v.ownBlock ≠ some b := fun e => by
  rcases h.2 with ⟨rfl, _⟩ | ⟨g1, cap, cur, rfl, hb', hgg, rest⟩
  · cases e
  · have e1 : g1 = b := by simpa [Value.ownBlock] using e
    subst e1
    unfold Blk at hb
    rw [hgg] at hb
    cases hb
    exact ht rfl
theorem Fam.keep {w w1 : World} {v : Value} {l : List Nat} (h : Fam w v l) (b : ∀ g, v.ownBlock = some g → w1.heap[g]? = w.heap[g]?) : Fam w1 v l := ownsKeep h b
theorem Fam.row {w : World} {v : Value} {l : List Nat} (h : Fam w v l) (hl : l ≠ []) : ∃ g c, v = .slice (some ⟨g, 0, none⟩) l.length c := by
  rcases h.2 with ⟨rfl, h0⟩ | ⟨g, cap, cur, rfl, _⟩
  · exact absurd (List.eq_nil_of_length_eq_zero h0) hl
  · exact ⟨g, cap, rfl⟩
theorem Fam.cell {w : World} {g n c : Nat} {l : List Nat} (h : Fam w (.slice (some ⟨g, 0, none⟩) n c) l) {k b : Nat} (hk : l[k]? = some b) : w.cell? ⟨g, k, none⟩ = some (ptr b) ∧ w.frozen? ⟨g, k, none⟩ = false := by
  refine ⟨?_, ?_⟩
  · have := World.ownsRow.cells h (g := g) rfl k (ptr b) (by rw [List.getElem?_map, hk]; rfl)
    rw [Addr.add_lit, Nat.zero_add] at this
    exact this
  · rcases h.2 with ⟨e, _⟩ | ⟨g', cap, cur, e, hb, hgg, _⟩
    · cases e
    · cases e
      exact fz hgg k
theorem Fam.set {w : World} {g n c : Nat} {l : List Nat} (h : Fam w (.slice (some ⟨g, 0, none⟩) n c) l) (k b : Nat) : Fam (w.setCell ⟨g, k, none⟩ (ptr b)) (.slice (some ⟨g, 0, none⟩) n c) (l.set k b) := by
  refine ⟨by rw [List.length_map, Nat.mul_one], ?_⟩
  rcases h.2 with ⟨e, _⟩ | ⟨g', cap, cur, e, hb, hgg, h1, h2, h3, h4⟩
  · cases e
  · cases e
    refine .inr ⟨g, c, cur.setIfInBounds k (ptr b), by rw [List.length_set], hb, setB hgg _, by rw [List.length_set]; exact h1, h2, by rw [Array.size_setIfInBounds]; exact h3, ?_⟩
    rw [List.length_set, Array.toList_setIfInBounds, List.take_set, h4, List.map_set]
theorem Fam.drop {w : World} {g n c : Nat} {l : List Nat} (h : Fam w (.slice (some ⟨g, 0, none⟩) n c) l) (m : Nat) (hm : l.length = m + 1) : Fam (w.setCell ⟨g, m, none⟩ (.pointer none)) (.slice (some ⟨g, 0, none⟩) m c) l.dropLast := by
  have hl : l.dropLast.length = m := by rw [List.length_dropLast]; omega
  refine ⟨by rw [List.length_map, Nat.mul_one], ?_⟩
  rcases h.2 with ⟨e, _⟩ | ⟨g', cap, cur, e, hb, hgg, h1, h2, h3, h4⟩
  · cases e
  · cases e
    refine .inr ⟨g, c, cur.setIfInBounds m (.pointer none), by rw [hl], hb, setB hgg _, by omega, h2, by rw [Array.size_setIfInBounds]; exact h3, ?_⟩
    rw [Nat.mul_one] at h4 ⊢
    rw [hl, Array.toList_setIfInBounds, List.take_set_of_le (Nat.le_refl _), List.dropLast_eq_take, List.map_take, ← h4, List.take_take]
    congr 1
    omega
theorem Fam.cap {w : World} {g n c : Nat} {l : List Nat} (h : Fam w (.slice (some ⟨g, 0, none⟩) n c) l) : l.length ≤ c ∧ n = l.length := by
  rcases h.2 with ⟨e, _⟩ | ⟨g', cap, cur, e, hb, hgg, h1, _⟩
  · cases e
  · cases e
    exact ⟨h1, rfl⟩
theorem elem56 : Try.prog.underlying 100 = some (.slice (Try.prog.elem 100)) := by kernel_rfl
theorem size56 : ∀ w, (sizeOf (Try.prog.elem 100)).run Try.prog w = .ok 1 w := fun w => by kernel_rfl
theorem slice_h (g n c m : Nat) (h : m ≤ c) (hc : 0 < c) : ∀ w, (Instr.sliceAt 100 (.slice (some ⟨g, 0, none⟩) n c) none (some (.int .i64 m)) none).run Try.prog w = .ok (.slice (some ⟨g, 0, none⟩) m c) w := fun w => by
  rw [run_sliceAt_slice (h := elem56), run_slice_h (ht := elem56) (h0 := by omega) (h2 := by omega), size56]
  simp only [Result.andThen, Int.toNat_natCast]
  unfold sliced
  rw [if_neg (by omega)]
  rfl

/-- a heap as plain data -/
structure HS where
  gv : Nat
  mb : Option Nat
  lv : Value
  l : List Nat
  hd : Nat → Nat
  ky : Nat → K
def HS.hpC (S : HS) : Nat → Value := fun i => if i = 0 then .int .i64 S.gv else if i = 1 then .map S.mb else S.lv
def HS.ndC (S : HS) (b i : Nat) : Nat → Value := fun j => if j = 0 then .int .i64 (S.hd b) else if j = 1 then .int .i64 (S.ky b).a else if j = 2 then .int .i64 (S.ky b).b else if j = 3 then .int .i64 (S.ky b).c else .int .i64 i
def HS.en (S : HS) (b : Nat) : Int := enc (S.ky b) (S.hd b)
/-- the line's numbers, by place -/
def HS.v (S : HS) : Nat → Int := fun i => S.en (S.l.getD i 0)
def HS.wl (S : HS) (l : List Nat) : HS := { S with l := l }
structure Mem (w : World) (hb : Nat) (S : HS) : Prop where
  hp : Blk w hb 102 3 S.hpC
  nd : ∀ (i b : Nat), S.l[i]? = some b → Blk w b 104 5 (S.ndC b i)
  fm : Fam w S.lv S.l
  no : S.l.Nodup
  ok : ∀ b ∈ S.l, (S.ky b).ok ∧ S.hd b < 1048576
  sm : S.l.length ≤ 1048576
/-- the heap's blocks -/
def Fp (hb : Nat) (S : HS) (k : Nat) : Prop := k = hb ∨ k ∈ S.l ∨ S.lv.ownBlock = some k ∨ S.mb = some k
/-- a change of the heap's blocks alone -/
structure Chg (hb : Nat) (S S' : HS) (w w' : World) : Prop where
  kp : Kp (Fp hb S) w w'
  fp : ∀ k, Fp hb S' k → Fp hb S k ∨ w.heap.size ≤ k
section
variable {w w' w1 w2 : World} {hb : Nat} {S S' S1 S2 : HS}
theorem Chg.refl (hb : Nat) (S : HS) (w : World) : Chg hb S S w w := ⟨Kp.refl _ w, fun _ h => .inl h⟩
theorem Chg.trans (h : Chg hb S S1 w w1) (k : Chg hb S1 S2 w1 w2) : Chg hb S S2 w w2 :=
  ⟨h.kp.trans k.kp fun i hi q => (h.fp i q).elim id fun q => absurd hi (by omega), fun i q => (k.fp i q).elim (fun q => h.fp i q) fun q => .inr (Nat.le_trans h.kp.size q)⟩
theorem Mem.keep (h : Mem w hb S) (b : ∀ k, Fp hb S k → w'.heap[k]? = w.heap[k]?) : Mem w' hb S :=
  ⟨h.hp.at (b hb (.inl rfl)), fun i x hx => (h.nd i x hx).at (b x (.inr (.inl (List.mem_of_getElem? hx)))), h.fm.keep fun g hg => b g (.inr (.inr (.inl hg))), h.no, h.ok, h.sm⟩
theorem Mem.lt (h : Mem w hb S) (k : Nat) (hk : k = hb ∨ k ∈ S.l ∨ S.lv.ownBlock = some k) : k < w.heap.size := by
  rcases hk with rfl | hk | hk
  · exact h.hp.lt
  · obtain ⟨i, hi⟩ := List.getElem?_of_mem hk
    exact (h.nd i k hi).lt
  · exact h.fm.lt hk
theorem Mem.below (h : Mem w hb S) (b : Below w.heap.size w w') : Mem w' hb S := by
  refine ⟨h.hp.at (b.block _ h.hp.lt), fun i x hx => (h.nd i x hx).at (b.block _ (h.nd i x hx).lt), h.fm.keep fun g hg => b.block g (h.fm.lt hg), h.no, h.ok, h.sm⟩
theorem Mem.drew (h : Mem w hb S) (m : Nat) : Mem (w.drewN m) hb S := ⟨h.hp, h.nd, h.fm, h.no, h.ok, h.sm⟩
theorem Mem.en (h : Mem w hb S) {i b : Nat} (hb' : S.l[i]? = some b) : En w b (S.ky b) (S.hd b) := by
  have := h.nd i b hb'
  exact ⟨this.cell 0 (by decide), this.cell 1 (by decide), this.cell 2 (by decide), this.cell 3 (by decide)⟩
theorem getD_of {l : List Nat} {i b : Nat} (h : l[i]? = some b) : l.getD i 0 = b := by rw [List.getD_eq_getElem?_getD, h]; rfl
theorem some_of {l : List Nat} {i : Nat} (h : i < l.length) : l[i]? = some (l.getD i 0) := by rw [List.getD_eq_getElem?_getD, List.getElem?_eq_getElem h]; rfl
end

set_option maxHeartbeats 400000 in
theorem end_raw (w : World) (hb n p s : Nat) (a : Option Addr) (c : Nat) (c2 : w.cell? ⟨hb, 2, none⟩ = some (.slice a n c)) (hn : n ≤ 1048576) (hp : p ≤ 1048576) (hs : s ≤ 1) (hn1 : 1 ≤ n) :
    Calls Try.prog 60 #[.pointer (some ⟨hb, 0, none⟩), .int .i64 p, .int .i64 s] w fun e w' => e = .returned (.int .i64 (P n s p)) ∧ w' = w := by
  go_enter Try.func60, Try.ntmps60
  by_cases h : 2 * (p : Int) + (s : Int) ≤ (n : Int) - 1
  all_goals go_wp2_with fail
  all_goals go_ret
  all_goals exact ⟨ret_int (by unfold P; omega), rfl⟩
section
variable {w w' w1 w2 : World} {hb : Nat} {S S' S1 S2 : HS}
theorem Mem.c2 (h : Mem w hb S) : w.cell? ⟨hb, 2, none⟩ = some S.lv := h.hp.cell 2 (by decide)
theorem end_S (h : Mem w hb S) {p s : Nat} (hp : 2 * p < S.l.length) (hs : s ≤ 1) :
    Calls Try.prog 60 #[.pointer (some ⟨hb, 0, none⟩), .int .i64 p, .int .i64 s] w fun e w' => e = .returned (.int .i64 (P S.l.length s p)) ∧ w' = w := by
  obtain ⟨a, c, e⟩ := h.fm.shape
  have := h.sm
  exact end_raw w hb _ p s a c (by rw [h.c2, e]) (by omega) (by omega) hs (by omega)
end

set_option maxHeartbeats 1000000 in
theorem out_raw (w : World) (hb g n c i j x y : Nat) (s : Nat) (B : Bool) (c2 : w.cell? ⟨hb, 2, none⟩ = some (.slice (some ⟨g, 0, none⟩) n c)) (hi : i < n) (hj : j < n) (ci : w.cell? ⟨g, i, none⟩ = some (.pointer (some ⟨x, 0, none⟩))) (cj : w.cell? ⟨g, j, none⟩ = some (.pointer (some ⟨y, 0, none⟩))) (hs : s ≤ 1)
    (H0 : Hid (s = 0 → ∀ m, Calls Try.prog 103 #[.pointer (some ⟨x, 0, none⟩), .pointer (some ⟨y, 0, none⟩)] (w.drewN m) fun e w' => e = .returned (.bool B) ∧ ∃ m', w' = (w.drewN m).drewN m'))
    (H1 : Hid (s = 1 → ∀ m, Calls Try.prog 103 #[.pointer (some ⟨y, 0, none⟩), .pointer (some ⟨x, 0, none⟩)] (w.drewN m) fun e w' => e = .returned (.bool B) ∧ ∃ m', w' = (w.drewN m).drewN m')) :
    Calls Try.prog 99 #[.pointer (some ⟨hb, 0, none⟩), .int .i64 i, .int .i64 j, .int .i64 s] w fun e w' => e = .returned (.bool B) ∧ ∃ m, w' = w.drewN m := by
  have hi' : (i : Int) < (n : Int) := by omega
  have hj' : (j : Int) < (n : Int) := by omega
  rcases (by omega : s = 0 ∨ s = 1) with e | e
  · have HH : Hid (∀ m, Calls Try.prog 103 #[.pointer (some ⟨x, 0, none⟩), .pointer (some ⟨y, 0, none⟩)] (w.drewN m) fun e w' => e = .returned (.bool B) ∧ ∃ m', w' = (w.drewN m).drewN m') := H0.out e
    subst e
    clear H0 H1 hs
    go_enter Try.func99, Try.ntmps99
    go_upto_region 3 with fail
    go_quiet ((go_at_call 103; exact Calls.quiet_of (HH.out _)))
    go_wp2_with fail
    go_ret
    exact ⟨rfl, _, rfl⟩
  · have HH : Hid (∀ m, Calls Try.prog 103 #[.pointer (some ⟨y, 0, none⟩), .pointer (some ⟨x, 0, none⟩)] (w.drewN m) fun e w' => e = .returned (.bool B) ∧ ∃ m', w' = (w.drewN m).drewN m') := H1.out e
    subst e
    clear H0 H1 hs
    go_enter Try.func99, Try.ntmps99
    go_upto_region 3 with fail
    go_quiet ((go_at_call 103; exact Calls.quiet_of (HH.out _)))
    go_wp2_with fail
    go_ret
    exact ⟨rfl, _, rfl⟩
section
variable {w w' w1 w2 : World} {hb : Nat} {S S' S1 S2 : HS}
/-- does the entry at i come out ahead of the one at j? -/
def outB (S : HS) (s i j : Nat) : Bool := decide (sg s (S.v i) < sg s (S.v j))
theorem out_S (h : Mem w hb S) {i j s : Nat} (hi : i < S.l.length) (hj : j < S.l.length) (hs : s ≤ 1) :
    Calls Try.prog 99 #[.pointer (some ⟨hb, 0, none⟩), .int .i64 i, .int .i64 j, .int .i64 s] w fun e w' => e = .returned (.bool (outB S s i j)) ∧ ∃ m, w' = w.drewN m := by
  obtain ⟨g, c, e⟩ := h.fm.row (by rintro q; rw [q] at hi; simp at hi)
  have hF := h.fm
  rw [e] at hF
  have si := some_of hi
  have sj := some_of hj
  have oi := h.ok _ (List.mem_of_getElem? si)
  have oj := h.ok _ (List.mem_of_getElem? sj)
  refine out_raw w hb g S.l.length c i j (S.l.getD i 0) (S.l.getD j 0) s _ (by rw [h.c2, e]) hi hj (hF.cell si).1 (hF.cell sj).1 hs (fun q m => ?_) (fun q m => ?_)
  · subst q
    exact before_any (w.drewN m) _ _ _ _ _ _ (h.en si).drew (h.en sj).drew oi.1 oj.1 oi.2 oj.2
  · subst q
    have := before_any (w.drewN m) _ _ _ _ _ _ (h.en sj).drew (h.en si).drew oj.1 oi.1 oj.2 oi.2
    have e1 : ltB (S.ky (S.l.getD j 0)) (S.hd (S.l.getD j 0)) (S.ky (S.l.getD i 0)) (S.hd (S.l.getD i 0)) = outB S 1 i j := by
      unfold ltB outB sg HS.v HS.en
      rw [if_neg (by decide), if_neg (by decide)]
      congr 1
      exact propext (by omega)
    rw [e1] at this
    exact this
end
end Go.Proofs.Ythlbeofonbbbdaa
