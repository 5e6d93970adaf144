/-
  Ticks sorted, each once. The ticks of a course: ticks. Start.
-/
import Derived.Test.YtjgibngnjlciaaaGreatFh
import Derived.Test.YtjgibngnjlciaaaGreatShelfJ
import Derived.Sort.OwnSortedInts
import Derived.Lib.OwnBridge
import Derived.Test.YtjgibngnjlciaaaGreatPLf
import Derived.Maps.RangeWalk
import Derived.Laws.IdiomRangeMap
import Derived.Test.YtjgibngnjlciaaaGreatFf
namespace Go.Proofs.YtjgibngnjlciaaaGreat
open Go.RowKit Go.Maps Go.WideMaps Go.Sort Go.Lib

/-- an owned row of ticks -/
abbrev TR (B : Nat) (w : World) (v : Value) (L : List Int) : Prop := w.ownsRow B 2 1 v L.length (L.map (Value.int .i64))
/-! ### compact -/
theorem comp_all (L : List Int) (hs : ∀ i j, i ≤ j → j < L.length → L.toArray[i]! ≤ L.toArray[j]!) : ∀ m, m ≤ L.length → (∀ x, x ∈ compactUpTo L.toArray m ↔ ∃ j, j < m ∧ L.toArray[j]! = x) ∧ (compactUpTo L.toArray m).Pairwise (· < ·)
  | 0, _ => ⟨fun x => ⟨fun h => by simp [compactUpTo] at h, fun ⟨j, hj, _⟩ => absurd hj (by omega)⟩, by simp [compactUpTo]⟩
  | m + 1, hm => by
    obtain ⟨h1, h2⟩ := comp_all L hs m (by omega)
    rw [compactUpTo_succ]
    by_cases hk : keeps L.toArray m = true
    · rw [if_pos hk]
      refine ⟨fun x => ?_, List.pairwise_append.2 ⟨h2, List.pairwise_singleton _ _, fun a ha b hb => ?_⟩⟩
      · rw [List.mem_append, h1, List.mem_singleton]
        constructor
        · rintro (⟨j, hj, e⟩ | rfl)
          · exact ⟨j, by omega, e⟩
          · exact ⟨m, by omega, rfl⟩
        · rintro ⟨j, hj, e⟩
          by_cases q : j = m
          · subst q; exact .inr e.symm
          · exact .inl ⟨j, by omega, e⟩
      · rw [List.mem_singleton.1 hb]
        obtain ⟨j, hj, rfl⟩ := (h1 a).1 ha
        unfold keeps at hk
        have hk' := of_decide_eq_true hk
        have h3 := hs j (m - 1) (by omega) (by omega)
        have h4 := hs (m - 1) m (by omega) (by omega)
        rcases hk' with q | q
        · omega
        · have q' : L.toArray[m - 1]! ≠ L.toArray[m]! := fun e => q e.symm
          omega
    · rw [if_neg hk, List.append_nil]
      refine ⟨fun x => ?_, h2⟩
      rw [h1]
      constructor
      · rintro ⟨j, hj, e⟩; exact ⟨j, by omega, e⟩
      · rintro ⟨j, hj, e⟩
        by_cases q : j = m
        · subst q
          unfold keeps at hk
          have hk' : ¬ (j = 0 ∨ L.toArray[j]! ≠ L.toArray[j - 1]!) := fun q => hk (decide_eq_true q)
          have h5 : j ≠ 0 := fun e => hk' (.inl e)
          have h6 : L.toArray[j]! = L.toArray[j - 1]! := Decidable.byContradiction fun e => hk' (.inr e)
          exact ⟨j - 1, by omega, by rw [← h6]; exact e⟩
        · exact ⟨j, by omega, e⟩
theorem getB (L : List Int) {i : Nat} (h : i < L.length) : L.toArray[i]! = L[i] := by simp [h]
theorem comp_any {L : List Int} (h : L.Pairwise (· ≤ ·)) : (∀ x, x ∈ compact L ↔ x ∈ L) ∧ (compact L).Pairwise (· < ·) := by
  obtain ⟨h1, h2⟩ := comp_all L (fun i j hij hj => by
    rw [getB L (by omega), getB L hj]
    by_cases e : i = j
    · subst e; exact Int.le_refl _
    · exact List.pairwise_iff_getElem.1 h i j (by omega) hj (by omega)) L.length (Nat.le_refl _)
  refine ⟨fun x => ?_, h2⟩
  show x ∈ compactUpTo L.toArray L.length ↔ _
  rw [h1]
  constructor
  · rintro ⟨j, hj, rfl⟩
    rw [getB L hj]
    exact List.getElem_mem hj
  · intro hx
    obtain ⟨j, hj, e⟩ := List.mem_iff_getElem.1 hx
    exact ⟨j, hj, by rw [getB L hj]; exact e⟩
/-! ### the calls -/
theorem tr_blk {B : Nat} {w : World} {p : Option Addr} {n c : Nat} {L : List Int} (h : TR B w (.slice p n c) L) (hL : L ≠ []) : ∃ g cur, p = some ⟨g, 0, none⟩ ∧ n = L.length ∧ B ≤ g ∧ w.heap[g]? = some (.cells cur 2 (0, 0)) ∧ L.length ≤ c ∧ c ≤ maxLen ∧ cur.size = c * 1 ∧ cur.toList.take L.length = L.map (Value.int .i64) := by
  rcases h.2 with ⟨_, h0⟩ | ⟨g, cap, cur, e, h1, h2, h3, h4, h5, h6⟩
  · exact absurd (List.eq_nil_of_length_eq_zero h0) hL
  · cases e
    rw [Nat.mul_one] at h6
    exact ⟨g, cur, rfl, rfl, h1, h2, h3, h4, h5, h6⟩
theorem sortT_any {B : Nat} {w : World} {p : Option Addr} {n c : Nat} {L : List Int} (h : TR B w (.slice p n c) L) (hL : L ≠ []) (hn : L.length ≤ 100000000) :
    Calls Tryz.prog 45 #[.slice p n c] w fun e w' => e = .returned (.tuple #[]) ∧ Hid (∃ M : List Int, M.Perm L ∧ M.Pairwise (· ≤ ·) ∧ TR B w' (.slice p n c) M ∧ w.grownBy w' (Value.slice p n c).ownBlock) := by
  obtain ⟨g, cur, rfl, rfl, h1, h2, h3, h4, h5, h6⟩ := tr_blk h hL
  have hH := holds_of_blockI h2 h6
  refine (AnyM.slices_Sort_int Tryz.sort40 g 0 c L w hH (Array.getElem?_eq_some_iff.1 h2).1 (by omega)).mono ?_
  rintro e w' ⟨rfl, nn, os, rfl⟩
  have hp := List.mergeSort_perm L fun x y => decide (x ≤ y)
  refine ⟨rfl, L.mergeSort fun x y => decide (x ≤ y), hp, ?_, ?_, grownBy_sortedI _⟩
  · refine List.Pairwise.imp (fun {a b} hab => of_decide_eq_true hab) (List.pairwise_mergeSort (fun a b c h1 h2 => ?_) (fun a b => ?_) L)
    · simp only [decide_eq_true_eq] at *; omega
    · simp only [Bool.or_eq_true, decide_eq_true_eq]; omega
  · have h7 := ownsRow_sortedI (n := nn) (os := os) (ss := L) (ts := L.mergeSort fun x y => decide (x ≤ y)) (by simp) h1 h2 h3 h4 h5
    show World.ownsRow _ _ _ _ _ _ _
    rw [List.length_mergeSort]
    exact h7
theorem compactT_any {B : Nat} {w : World} {p : Option Addr} {n c : Nat} {L : List Int} (h : TR B w (.slice p n c) L) (hL : L ≠ []) (hs : L.Pairwise (· ≤ ·)) (hn : L.length ≤ 100000000) :
    Calls Tryz.prog 46 #[.slice p n c] w fun e w' => ∃ k, e = .returned (.slice p k c) ∧ Hid (∃ T : List Int, T.length = k ∧ T.Pairwise (· < ·) ∧ (∀ x, x ∈ T ↔ x ∈ L) ∧ TR B w' (.slice p k c) T ∧ Below B w w') := by
  obtain ⟨g, cur, rfl, rfl, h1, h2, h3, h4, h5, h6⟩ := tr_blk h hL
  have hH := holds_of_blockI h2 h6
  obtain ⟨c1, c2⟩ := comp_any hs
  have hle := Lib.compact_length_le L
  refine (AnyG.slices_Compact_int Tryz.compact41 g 0 c L w hH (by omega) h3).mono ?_
  rintro e w' ⟨rfl, q, rfl⟩
  refine ⟨_, rfl, compact L, rfl, c2, c1, ?_, below_putRow (Below.refl _ _) h1⟩
  have := ownsRow_putRow (q := q) (k := (compact L).length) (ys := compact L ++ List.replicate (L.length - (compact L).length) 0) h (by simp; omega) hle
  rw [List.take_left'] at this
  · exact this
  · rfl
end Go.Proofs.YtjgibngnjlciaaaGreat

namespace Go.Proofs.YtjgibngnjlciaaaGreat
open Go.RowKit Go.Maps Go.WideMaps Go.Sort

theorem size_le {H : Type} {w : World} {P : Program} {k : TypeId} {R : Value → Option (DataW H × List MemPlace)} {b n : Nat} {D : DataW H} (h : w.ownsMap P k R b n D) : Maps.size D ≤ n := by
  obtain ⟨es, clock, hb, F, hn, hD⟩ := h
  rw [hD, Maps.size_eq, length_sorted]
  simpa using hn
theorem tightM {H : Type} {w : World} {P : Program} {k : TypeId} {R : Value → Option (DataW H × List MemPlace)} {b n : Nat} {D : DataW H} (h : w.ownsMap P k R b n D) : w.ownsMap P k R b (Maps.size D) D := by
  obtain ⟨es, clock, hb, F, _, hD⟩ := h
  refine ⟨es, clock, hb, F, ?_, hD⟩
  rw [hD, Maps.size_eq, length_sorted]
  simp
theorem invP (v : Value) (y : DataW Nat × List MemPlace) (h : pE v = some y) : ∃ c : Option Nat, v = .pointer (c.map fun b => ⟨b, 0, none⟩) := by
  unfold pE at h
  split at h
  · rename_i b; exact ⟨some b, rfl⟩
  · exact ⟨none, rfl⟩
  · cases h
theorem invS (key : Value) (kl : Lit) (h : keyOf Tryz.prog 9 key = some kl) : ∃ x : ByteArray, key = .string x := by
  obtain ⟨s, e, _⟩ := string_of_keyOf Tryz.underlying9 h
  exact ⟨s, e⟩
abbrev Rg (w : World) (b r n : Nat) (D : DataW Nat) (left : Lit → Bool) (cnt : Nat) : Prop := w.ranges Tryz.prog 9 pE b r n D left cnt
theorem rg_keep {w w1 : World} {b r n : Nat} {D : DataW Nat} {left : Lit → Bool} {cnt : Nat} (h : Rg w b r n D left cnt) (e1 : w1.heap[b]? = w.heap[b]?) (e2 : w1.heap[r]? = w.heap[r]?) : Rg w1 b r n D left cnt := by
  obtain ⟨es, clock, since, seen, c0, hb, F, hs, hD, hr, rest⟩ := h
  exact ⟨es, clock, since, seen, c0, e1.trans hb, F, hs, hD, e2.trans hr, rest⟩
theorem rg_ne {w : World} {b r n : Nat} {D : DataW Nat} {left : Lit → Bool} {cnt : Nat} (h : Rg w b r n D left cnt) {g : Nat} {cs : Array Value} {ty : TypeId} {f : Nat × Nat} (hg : w.heap[g]? = some (.cells cs ty f)) : b ≠ g ∧ r ≠ g := by
  obtain ⟨es, clock, since, seen, c0, hb, F, hs, hD, hr, rest⟩ := h
  constructor
  · rintro rfl; rw [hb] at hg; cases hg
  · rintro rfl; rw [hr] at hg; cases hg
theorem rg_lt {w : World} {b r n : Nat} {D : DataW Nat} {left : Lit → Bool} {cnt : Nat} (h : Rg w b r n D left cnt) : r < w.heap.size ∧ b < w.heap.size := by
  obtain ⟨es, clock, since, seen, c0, hb, F, hs, hD, hr, rest⟩ := h
  exact ⟨(Array.getElem?_eq_some_iff.1 hr).1, (Array.getElem?_eq_some_iff.1 hb).1⟩
/-- while the map is gone through -/
structure Tq (w wr : World) (now : Int) (W : List Sl) (Q : Nat → PS) (mb r : Nat) (M : DataW Nat) (left : Lit → Bool) (cnt : Nat) (v : Value) (L : List Int) : Prop where
  rg : Rg wr mb r (Maps.size M) M left cnt
  row : TR w.heap.size wr v L
  b : Below w.heap.size w wr
  sn : ∀ i s, W[i]? = some s → left (.string s.nm) = false → ∀ st ∈ (Q i).l, st.at' ∈ L
  fr : ∀ x ∈ L, x = now ∨ ∃ i s, W[i]? = some s ∧ ∃ st ∈ (Q i).l, st.at' = x
  nw : now ∈ L
  len : L.length + 8192 * cnt ≤ 1 + 8192 * W.length
  r : w.heap.size ≤ r
  m : mb < w.heap.size
/-- the one that has come -/
theorem tq_entry {W : List Sl} {pb : Nat → Nat} {M : DataW Nat} {left : Lit → Bool} (hM : ∀ s z, M.atKey (.string s) z = entP (plc s W) pb z) {x : ByteArray} {c : Option Nat} {kl : Lit} {y : DataW Nat × List MemPlace} (hkey : keyOf Tryz.prog 9 (.string x) = some kl) (_ : left kl = true) (hy : pE (.pointer (c.map fun b => ⟨b, 0, none⟩)) = some y) (hat : ∀ zd, M.atKey kl zd = y.1) :
    ∃ i s, W[i]? = some s ∧ c = some (pb i) ∧ kl = .string s.nm := by
  obtain ⟨s', e, rfl, _⟩ := string_of_keyOf Tryz.underlying9 hkey
  cases e
  have q1 := (hM x.data.toList .nil).symm.trans (hat .nil)
  have q2 := (hM x.data.toList (.held 0)).symm.trans (hat (.held 0))
  cases hp : plc x.data.toList W with
  | none =>
    rw [hp] at q1 q2
    have : (DataW.nil : DataW Nat) = .held 0 := q1.trans q2.symm
    cases this
  | some i =>
    rw [hp] at q1
    obtain ⟨s, hs, hsn⟩ := plc_some hp
    refine ⟨i, s, hs, ?_, by rw [hsn]⟩
    cases c with
    | none =>
      have hy' : (some (DataW.nil, []) : Option (DataW Nat × List MemPlace)) = some y := hy
      rw [← Option.some.inj hy'] at q1
      cases q1
    | some c =>
      have hy' : (some (DataW.held c, []) : Option (DataW Nat × List MemPlace)) = some y := hy
      rw [← Option.some.inj hy'] at q1
      have q1' : (DataW.held (pb i) : DataW Nat) = .held c := q1
      exact congrArg some (DataW.held.inj q1').symm
/-- while a profile's steps are gone through -/
structure Ti (w wr : World) (mb r : Nat) (M : DataW Nat) (left : Lit → Bool) (cnt : Nat) (v : Value) (L : List Int) (u : Value) (S : List Stp) : Prop where
  rg : Rg wr mb r (Maps.size M) M left cnt
  row : TR w.heap.size wr v L
  st : Row wr u S
  b : Below w.heap.size w wr
theorem Ti.below {w wr w1 : World} {mb r : Nat} {M : DataW Nat} {left : Lit → Bool} {cnt : Nat} {v : Value} {L : List Int} {u : Value} {S : List Stp} (h : Ti w wr mb r M left cnt v L u S) (k : Below wr.heap.size wr w1) : Ti w w1 mb r M left cnt v L u S := by
  obtain ⟨l1, l2⟩ := rg_lt h.rg
  exact ⟨rg_keep h.rg (k.block mb l2) (k.block r l1), ownsKeep h.row fun g hg => k.block g (World.ownsRow.lt h.row g hg).2, h.st.keep fun g hg => k.block g (h.st.lt hg), below_from h.b k h.b.size⟩
theorem Ti.app {w wr w1 : World} {mb r : Nat} {M : DataW Nat} {left : Lit → Bool} {cnt : Nat} {v v' : Value} {L L' : List Int} {u : Value} {S : List Stp} (h : Ti w wr mb r M left cnt v L u S) (ho : TR w.heap.size w1 v' L') (hg : wr.grownBy w1 v.ownBlock) : Ti w w1 mb r M left cnt v' L' u S := by
  obtain ⟨l1, l2⟩ := rg_lt h.rg
  have hne : ∀ g, v.ownBlock = some g → mb ≠ g ∧ r ≠ g ∧ u.ownBlock ≠ some g := fun g e => by
    rcases h.row.2 with ⟨q, _⟩ | ⟨g', cap, cur, q, hbb, hgg, _⟩
    · rw [q] at e; cases e
    · rw [q] at e
      cases e
      obtain ⟨a1, a2⟩ := rg_ne h.rg hgg
      refine ⟨a1, a2, fun e => ?_⟩
      rcases h.st.2 with ⟨q, _⟩ | ⟨g2, cap2, cur2, q, _, hg2, _⟩
      · rw [q] at e; cases e
      · rw [q] at e
        cases e
        rw [hgg] at hg2
        cases hg2
  refine ⟨rg_keep h.rg (hg.block mb l2 fun e => (hne mb e.symm).1 rfl) (hg.block r l1 fun e => (hne r e.symm).2.1 rfl), ho, h.st.keep fun g q => hg.block g (h.st.lt q) fun e => (hne g e.symm).2.2 q, h.b.trans (below_grown hg h.b.size fun g e => (World.ownsRow.lt h.row g e).1)⟩
theorem info2 : (Tryz.prog.info? 2).map (fun i => (i.zero, i.size, i.bytes)) = some (some (.int .i64 0), 1, 8) := by kernel_rfl
/-- a tick put behind an owned row -/
theorem append_tick {ops : Array Oper} {rest : List Oper} {o : Oper} {a : Act} {Q : Exit → Act → World → Prop} {w : World} (hgd : o.guard = none) (s x : Operand)
    (ho : o.op = .call { callee := .builtin .append, args := #[s, x], argTypes := #[63, 63] }) (B : Nat) (v : Value) (L : List Int) (hs : a.eval s = v) (hown : TR B w v L)
    (g c : Nat) (y : Int) (hx : a.eval x = .slice (some ⟨g, 0, none⟩) 1 c) (hm : w.cell? ⟨g, 0, none⟩ = some (.int .i64 y)) (hn : L.length ≤ 100000000) (hB : B ≤ w.heap.size)
    (h : ∀ v' w', TR B w' v' (L ++ [y]) → w.grownBy w' v.ownBlock → wpList Tryz.prog ops Q rest (a.put o.dst v') w') :
    wpList Tryz.prog ops Q (o :: rest) a w := by
  refine append_vals Tryz.underlying63 info2 rfl (by decide) hgd s x ho B v L.length (L.map (Value.int .i64)) hs hown g 0 c 1 [.int .i64 y] hx rfl ?_ ?_ (by unfold maxLen; omega) (by omega) hB fun v' w' h1 h2 => h v' w' ?_ h2
  · intro i x hi
    cases i with
    | zero => simp at hi; subst hi; exact hm
    | succ i => simp at hi
  · intro u hu
    rw [List.mem_singleton.1 hu]
    rfl
  · show World.ownsRow _ _ _ _ _ _ _
    rw [List.length_append, List.map_append]
    exact h1
/-- what ticks answers -/
def TkP (w : World) (now : Int) (W : List Sl) (Q : Nat → PS) (e : Ending) (w' : World) : Prop := ∃ p k c, e = .returned (.slice p k c) ∧ Hid (∃ T : List Int, T.length = k ∧ T.Pairwise (· < ·) ∧ (∀ x, x ∈ T ↔ x = now ∨ ∃ i s, W[i]? = some s ∧ ∃ st ∈ (Q i).l, st.at' = x) ∧ TR w.heap.size w' (.slice p k c) T ∧ Below w.heap.size w w')
set_option maxHeartbeats 4000000 in
set_option maxRecDepth 100000 in
theorem ticks_any (now : Int) (B mb : Nat) (W : List Sl) (F : List UInt8 → List Opr) (pb : Nat → Nat) (Q : Nat → PS) (r : Option Addr) (m d : Nat) (w : World) (h : Hid (Crs w B mb W F pb Q)) (hN : Hid (Nod W)) (hm : Hid (W.length ≤ 1000)) :
    Calls Tryz.prog 20 #[.agg #[.int .i64 now, .slice r m d, .map (some mb)]] w (TkP w now W Q) := by
  obtain ⟨M, o1, o2⟩ := h.out.mp
  have HM : Hid (∀ s z, M.atKey (.string s) z = entP (plc s W) pb z) := o2
  have HZ : Hid (Maps.size M ≤ W.length) := size_le o1
  have hlt := o1.lt
  have O1 := keepMap (tightM o1) (w1 := (w.alloc (.cells #[.int .i64 now, .slice r m d, .map (some mb)] 61)).alloc (.cells #[.int .i64 now] 2)) (by rw [Below.heap_alloc _ _ mb (by simp; omega), Below.heap_alloc _ _ mb hlt])
  clear o1 o2
  go_enter Tryz.func20, Tryz.ntmps20
  go_upto_region 2 with fail
  have R0 : Hid (TR w.heap.size ((w.alloc (.cells #[.int .i64 now, .slice r m d, .map (some mb)] 61)).alloc (.cells #[.int .i64 now] 2)) (.slice (some ⟨w.heap.size + 1, 0, none⟩) 1 1) [now] ∧ Below w.heap.size w ((w.alloc (.cells #[.int .i64 now, .slice r m d, .map (some mb)] 61)).alloc (.cells #[.int .i64 now] 2))) :=
    ⟨⟨rfl, .inr ⟨w.heap.size + 1, 1, #[.int .i64 now], rfl, by omega, new1, Nat.le_refl _, by unfold maxLen; omega, rfl, rfl⟩⟩, ((Below.refl _ _).alloc (Nat.le_refl _) _).alloc (by simp) _⟩
  have hsz : ((w.alloc (.cells #[.int .i64 now, .slice r m d, .map (some mb)] 61)).alloc (.cells #[.int .i64 now] 2)).heap.size = w.heap.size + 1 + 1 := by simp
  have b2 : ((w.alloc (.cells #[.int .i64 now, .slice r m d, .map (some mb)] 61)).alloc (.cells #[.int .i64 now] 2)).cell? ⟨w.heap.size, 2, none⟩ = some (.map (some mb)) := Lib.cell_of_heap (at_alloc new0) 2
  obtain ⟨g0, hg0⟩ : ∃ g0, w.heap.size + 1 = g0 := ⟨_, rfl⟩
  rw [hg0] at R0 ⊢
  generalize (w.alloc (.cells #[.int .i64 now, .slice r m d, .map (some mb)] 61)).alloc (.cells #[.int .i64 now] 2) = W1 at *
  clear hg0
  go_wp2_with (first
    | (at_range; refine wpList_range_own _ rfl _ 59 rfl 9 89 law9 Tryz.underlying59 _ mb _ M rfl O1 ?_; intro w2 hrg0 hg0 hs0)
    | go_in)
  go_frame
  have T0 : Hid (Tq w w2 now W Q mb W1.heap.size M (Maps.has M) (Maps.size M) (.slice (some ⟨g0, 0, none⟩) 1 1) [now]) := by
    refine ⟨hrg0, ownsKeep R0.out.1 fun g hg => hg0.block g (World.ownsRow.lt R0.out.1 g hg).2 (fun e => by cases e), R0.out.2.trans (below_grown hg0 R0.out.2.size fun g e => by cases e), fun i s hs hl => ?_, fun x hx => .inl (List.mem_singleton.1 hx), List.mem_singleton.2 rfl, ?_, R0.out.2.size, hlt⟩
    · have : Maps.has M (.string s.nm) = true := has_true_of_atKey (y := .held (pb i)) fun z => by rw [HM.out, plc_nod hN.out hs]; rfl
      rw [this] at hl
      cases hl
    · have := HZ.out
      show 1 + 8192 * Maps.size M ≤ _
      omega
  clear hrg0 hg0 hs0 O1 R0 HZ hsz b2
  generalize W1.heap.size = rr at *
  go_loopw [3] (fun v wr => ∃ p k c left cnt L, v = .slice p k c ∧ Hid (Tq w wr now W Q mb rr M left cnt (.slice p k c) L)) (fun _ wr => wr.rangeLeft mb rr)
  case atStart => exact ⟨_, _, _, _, _, _, rfl, T0.out⟩
  case round =>
    clear T0
    obtain ⟨p, k, c, left, cnt, L, rfl, HT⟩ := hrel
    go_wp2_with (first
      | (at_next; refine wpList_next_ranges _ rfl _ rfl 9 law9 pE Value.string (fun c : Option Nat => .pointer (c.map fun b => ⟨b, 0, none⟩)) invS invP mb rr (Maps.size M) M left cnt rfl HT.out.rg ?_ ?_)
      | go_in)
    · intro hc0 hl0
      have HL : Hid (L ≠ [] ∧ L.length ≤ 100000000) := by
        have h1 := HT.out.nw
        have h2 := HT.out.len
        have h3 := hm.out
        exact ⟨fun e => (by rw [e] at h1; cases h1), by omega⟩
      have HS : Hid (∀ x, x ∈ L ↔ x = now ∨ ∃ i s, W[i]? = some s ∧ ∃ st ∈ (Q i).l, st.at' = x) := fun x => ⟨HT.out.fr x, fun q => by
        rcases q with rfl | ⟨i, s, hi, st, hst, rfl⟩
        · exact HT.out.nw
        · exact HT.out.sn i s hi (hl0 _) st hst⟩
      have H40 : Hid (Calls Tryz.prog 45 #[.slice p k c] wr fun e w' => e = .returned (.tuple #[]) ∧ Hid (∃ M : List Int, M.Perm L ∧ M.Pairwise (· ≤ ·) ∧ TR w.heap.size w' (.slice p k c) M ∧ wr.grownBy w' (Value.slice p k c).ownBlock)) := sortT_any HT.out.row HL.out.1 HL.out.2
      clear hc0 hl0
      go_upto_region 11 with (go_at_call 45; refine H40.out.mono ?_; rintro e w4 ⟨rfl, h4⟩)
      clear H40
      obtain ⟨M2, m1, m2, m3, m4⟩ := h4.out
      have H41 : Hid (Calls Tryz.prog 46 #[.slice p k c] w4 fun e w' => ∃ k, e = .returned (.slice p k c) ∧ Hid (∃ T : List Int, T.length = k ∧ T.Pairwise (· < ·) ∧ (∀ x, x ∈ T ↔ x ∈ M2) ∧ TR w.heap.size w' (.slice p k c) T ∧ Below w.heap.size w4 w')) :=
        compactT_any m3 (fun e => HL.out.1 (by rw [e] at m1; exact m1.symm.eq_nil)) m2 (by rw [m1.length_eq]; exact HL.out.2)
      have HB : Hid (Below w.heap.size w w4 ∧ ∀ x, x ∈ M2 ↔ x ∈ L) := ⟨HT.out.b.trans (below_grown m4 HT.out.b.size fun g e => (World.ownsRow.lt HT.out.row g e).1), fun x => m1.mem_iff⟩
      clear m1 m2 m3 m4 h4 HT
      go_wp2_with (go_at_call 46; refine H41.out.mono ?_; rintro e w5 ⟨k5, rfl, h5⟩)
      go_ret
      obtain ⟨T, t1, t2, t3, t4, t5⟩ := h5.out
      exact ⟨p, k5, c, rfl, T, t1, t2, fun x => by rw [t3, HB.out.2, HS.out], t4, HB.out.1.trans t5⟩
    · intro x c' kl ya yb w3 cnt2 hkey hlk hy' hat hrg2 hlt2 hg2 hs2 hen
      obtain ⟨i, s, hi, rfl, rfl⟩ := tq_entry HM.out hkey hlk hy' hat
      have hb3 : Below w.heap.size w w3 := HT.out.b.trans (below_grown hg2 HT.out.b.size fun g e => by cases e; exact HT.out.r)
      have HC : Hid (cnt2 < cnt ∧ wr.rangeLeft mb rr = cnt) := ⟨hlt2, HT.out.rg.left_eq⟩
      have hp := (h.out.keep hb3).m i s hi
      have h39 := steps_any hp.m (by have h1 := hp.o.n; have h2 := hp.o.l; omega)
      have HQ : Hid (W[i]? = some s ∧ (Q i).l.length ≤ 8192) := ⟨hi, by have h1 := hp.o.n; have h2 := hp.o.l; omega⟩
      have H39 : Hid (Calls Tryz.prog 44 #[.pointer (some ⟨pb i, 0, none⟩)] w3 fun e w' => ∃ v, e = .returned v ∧ Row w' v (Q i).l ∧ Below w3.heap.size w3 w' ∧ (∀ j, v.ownBlock = some j → w3.heap.size ≤ j)) := h39
      have hrow3 : TR w.heap.size w3 (.slice p k c) L := ownsKeep HT.out.row fun g hg => hg2.block g (World.ownsRow.lt HT.out.row g hg).2 fun e => by
        obtain ⟨g', cur, q1, q2, q3, q4, q5⟩ := tr_blk HT.out.row (fun e => by have := HT.out.nw; rw [e] at this; cases this)
        have e' : g = rr := Option.some.inj e
        have e2 : g' = g := by rw [q1] at hg; exact Option.some.inj hg
        rw [e2, e'] at q4
        exact (rg_ne HT.out.rg q4).2 rfl
      have HX : Hid (Rg w3 mb rr (Maps.size M) M (fun z => left z && !z.sameKey (.string s.nm)) cnt2 ∧ TR w.heap.size w3 (.slice p k c) L ∧ Below w.heap.size w w3) := ⟨hrg2, hrow3, hb3⟩
      have HO : Hid (∀ wr p k c, Ti w wr mb rr M (fun z => left z && !z.sameKey (.string s.nm)) cnt2 (.slice p k c) (L ++ (Q i).l.map Stp.at') (.slice none 0 0) [] → Tq w wr now W Q mb rr M (fun z => left z && !z.sameKey (.string s.nm)) cnt2 (.slice p k c) (L ++ (Q i).l.map Stp.at')) := fun wr p k c ht => by
        have HT' := HT.out
        refine ⟨ht.rg, ht.row, ht.b, fun a u hu hl st hst => ?_, fun x hx => ?_, List.mem_append_left _ HT'.nw, ?_, HT'.r, HT'.m⟩
        · rw [List.mem_append]
          by_cases q : left (.string u.nm) = false
          · exact .inl (HT'.sn a u hu q st hst)
          · have q' : left (.string u.nm) = true := by simpa using q
            rw [q', Bool.true_and] at hl
            have hk : (Lit.string u.nm).sameKey (.string s.nm) = true := by simpa using hl
            have e : u.nm = s.nm := by
              have := WideAt.sameKey_eq hk
              injection this
            by_cases hai : a = i
            · subst hai
              exact .inr (List.mem_map.2 ⟨st, hst, rfl⟩)
            · exact absurd e (nod_ne hN.out hu HQ.out.1 hai)
        · rcases List.mem_append.1 hx with q | q
          · exact HT'.fr x q
          · obtain ⟨st, hst, rfl⟩ := List.mem_map.1 q
            exact .inr ⟨i, s, HQ.out.1, st, hst, rfl⟩
        · have h1 := HT'.len
          have h2 := HQ.out.2
          have h3 := HC.out.1
          rw [List.length_append, List.length_map]
          omega
      have HLL : Hid (L.length ≤ 50000000) := by
        have h2 := HT.out.len
        have h3 := hm.out
        show L.length ≤ _
        omega
      simp only [Option.map_some] at hen
      clear hkey hlk hy' hat hrg2 hlt2 hg2 hs2 hp h39 hrow3 hb3 HT hi
      go_upto_region 6 with (go_at_call 44; refine H39.out.mono ?_; rintro e w4 ⟨u, rfl, u1, u2, u3⟩; obtain ⟨p2, c2, rfl⟩ := u1.shape)
      obtain ⟨n2, hn2⟩ : ∃ n2, (Q i).l.length = n2 := ⟨_, rfl⟩
      have HI : Hid (Ti w w4 mb rr M (fun z => left z && !z.sameKey (.string s.nm)) cnt2 (.slice p k c) L (.slice p2 (Q i).l.length c2) (Q i).l) := by
        have h0 : Ti w w3 mb rr M (fun z => left z && !z.sameKey (.string s.nm)) cnt2 (.slice p k c) L (.slice none 0 0) [] := ⟨HX.out.1, HX.out.2.1, Row.nil _, HX.out.2.2⟩
        have h1 := h0.below u2
        exact ⟨h1.rg, h1.row, u1, h1.b⟩
      rw [hn2] at HI ⊢
      have HN : Hid ((Q i).l.length = n2 ∧ n2 ≤ 8192) := ⟨hn2, by rw [← hn2]; exact HQ.out.2⟩
      have hn8 : n2 ≤ 8192 := HN.out.2
      clear H39 HX u1 u2 u3 hen hn2
      go_wp2_with fail
      go_loopw [3, 21] (fun v y wr => ∃ p k c j, v = .slice p k c ∧ y = .int .i64 (j : Nat) ∧ j ≤ n2 ∧ Hid (Ti w wr mb rr M (fun z => left z && !z.sameKey (.string s.nm)) cnt2 (.slice p k c) (L ++ ((Q i).l.take j).map Stp.at') (.slice p2 n2 c2) (Q i).l)) (fun _ y _ => n2 - (intOf y).toNat)
      case atStart =>
        refine ⟨p, k, c, 0, rfl, rfl, Nat.zero_le _, ?_⟩
        rw [List.take_zero, List.map_nil, List.append_nil]
        exact HI
      case round =>
        clear HI
        obtain ⟨p, k, c, j, rfl, rfl, hj, HI⟩ := hrel
        by_cases hjn : j = n2
        · subst hjn
          have HF : Hid (Tq w wr now W Q mb rr M (fun z => left z && !z.sameKey (.string s.nm)) cnt2 (.slice p k c) (L ++ (Q i).l.map Stp.at')) := by
            have h1 := HI.out
            rw [List.take_of_length_le (Nat.le_of_eq HN.out.1)] at h1
            exact HO.out wr p k c ⟨h1.rg, h1.row, Row.nil _, h1.b⟩
          clear HI hj HO
          go_wp2_with fail
          exact ⟨⟨p, k, c, _, _, _, rfl, HF.out⟩, by rw [HF.out.rg.left_eq, HC.out.2]; exact HC.out.1⟩
        · have hlt3 : (j : Int) < (n2 : Int) := by omega
          have hd3 : decide ((j : Int) < (n2 : Int)) = true := decide_eq_true hlt3
          obtain ⟨st, hst⟩ : ∃ st, (Q i).l[j]? = some st := ⟨(Q i).l[j]'(by have := HN.out.1; omega), List.getElem?_eq_getElem _⟩
          obtain ⟨g2, cc, e2⟩ := HI.out.st.row (by have := HN.out.1; omega)
          obtain ⟨rfl, -, -⟩ : p2 = some ⟨g2, 0, none⟩ ∧ n2 = (Q i).l.length ∧ c2 = cc := by
            injection e2 with a b c
            exact ⟨a, b, c⟩
          obtain ⟨c0, c1, c2', c3, c4⟩ := HI.out.st.cells hst
          have HT1 : Hid ((Q i).l[j]? = some st) := hst
          clear e2 hst
          have I1 : Hid (Ti w ((wr.alloc (.cells #[.int .i64 st.at', .int .i64 st.fr.a, .int .i64 st.fr.b, .int .i64 st.fr.c, .int .i64 st.fr.d] 96)).alloc (.cells #[.int .i64 st.at'] 2)) mb rr M (fun z => left z && !z.sameKey (.string s.nm)) cnt2 (.slice p k c) (L ++ ((Q i).l.take j).map Stp.at') (.slice (some ⟨g2, 0, none⟩) n2 c2) (Q i).l) := HI.out.below (((Below.refl _ _).alloc (Nat.le_refl _) _).alloc (by simp) _)
          have hln : Hid ((L ++ ((Q i).l.take j).map Stp.at').length ≤ 100000000) := by
            have h1 := HLL.out
            show _ ≤ _
            rw [List.length_append, List.length_map, List.length_take]
            omega
          have A1 := new1 (w := wr) (o := .cells #[.int .i64 st.at', .int .i64 st.fr.a, .int .i64 st.fr.b, .int .i64 st.fr.c, .int .i64 st.fr.d] 96) (o' := .cells #[.int .i64 st.at'] 2)
          have hszw : Hid (w.heap.size ≤ ((wr.alloc (.cells #[.int .i64 st.at', .int .i64 st.fr.a, .int .i64 st.fr.b, .int .i64 st.fr.c, .int .i64 st.fr.d] 96)).alloc (.cells #[.int .i64 st.at'] 2)).heap.size) := I1.out.b.size
          clear HI
          go_wp2_with (first
            | (at_builtin; refine append_tick (w := (wr.alloc (.cells #[.int .i64 st.at', .int .i64 st.fr.a, .int .i64 st.fr.b, .int .i64 st.fr.c, .int .i64 st.fr.d] 96)).alloc (.cells #[.int .i64 st.at'] 2)) rfl _ _ rfl w.heap.size (.slice p k c) (L ++ ((Q i).l.take j).map Stp.at') rfl I1.out.row (wr.heap.size + 1) 1 st.at' rfl (Lib.cell_of_heap A1 0) hln.out hszw.out ?_; intro v' w5 ho hg)
            | go_in)
          · skip
            obtain ⟨p', k', c', rfl⟩ : ∃ p' k' c', v' = .slice p' k' c' := by
              rcases ho.2 with ⟨e, hx⟩ | ⟨g, cap, cur, rfl, _⟩
              · exact ⟨_, _, _, e⟩
              · exact ⟨_, _, _, rfl⟩
            have HF : Hid (Ti w w5 mb rr M (fun z => left z && !z.sameKey (.string s.nm)) cnt2 (.slice p' k' c') (L ++ ((Q i).l.take (j + 1)).map Stp.at') (.slice (some ⟨g2, 0, none⟩) n2 c2) (Q i).l) := by
              have h1 := I1.out.app ho hg
              rw [take_next HT1.out, List.map_append, ← List.append_assoc]
              exact h1
            clear I1 ho hg A1 hszw hln c0 c1 c2' c3 c4
            go_wp2_with fail
            exact ⟨⟨p', k', c', j + 1, rfl, by simp, by omega, HF.out⟩, by simp only [intOf]; omega⟩
end Go.Proofs.YtjgibngnjlciaaaGreat

namespace Go.Proofs.YtjgibngnjlciaaaGreat
open Go.RowKit Go.Maps Go.WideMaps Go.Sort

/-- what Start is handed -/
structure StG (w : World) (qT : Option Addr) (nT cT : Nat) (q : Option Addr) (n : Nat) (r : Option Addr) (m d : Nat) (T : List V) (R : List Vi) (S : List Sl) : Prop where
  t : TA w qT T
  lt : T.length = nT
  s : SlS w r m d S
  v : VA w q R
  o : VOk w R
  lr : R.length = n
  n1 : nT ≤ 1000000
  n2 : n ≤ 1000000
  n3 : m ≤ 1000
  ct : qT = none → cT = 0
theorem StG.below {w w1 : World} {qT : Option Addr} {nT cT : Nat} {q : Option Addr} {n : Nat} {r : Option Addr} {m d : Nat} {T : List V} {R : List Vi} {S : List Sl} (h : StG w qT nT cT q n r m d T R S) (b : Below w.heap.size w w1) : StG w1 qT nT cT q n r m d T R S := ⟨h.t.below b, h.lt, h.s.below b, h.v.below b, h.o.below b, h.lr, h.n1, h.n2, h.n3, h.ct⟩
/-- what Start answers -/
def StP (w : World) (now : Int) (T : List V) (R : List Vi) (S : List Sl) (e : Ending) (w' : World) : Prop :=
  ∃ p k c, e = .returned (.tuple #[.int .i64 (startR now T R S).1, .slice p k c, .int .i64 ((startR now T R S).2.2 : Nat)]) ∧ (startR now T R S).2.1.length = k ∧ (p = none → c = 0) ∧ Hid (NA w' p (startR now T R S).2.1 ∧ Below w.heap.size w w')
section
variable {w : World} {qT : Option Addr} {nT cT : Nat} {q : Option Addr} {n : Nat} {r : Option Addr} {m d : Nat} {T : List V} {R : List Vi} {S : List Sl}
theorem StG.fit (h : StG w qT nT cT q n r m d T R S) : Calls Tryz.prog 12 #[.slice qT nT cT, .slice r m d] w (FitP w T S) :=
  fit_any T S qT r nT cT m d w h.t h.s.s h.s.h h.s.d h.lt h.s.m h.n1 (by have := h.n3; omega)
end
theorem st_no {w w' : World} {now : Int} {T : List V} {R : List Vi} {S : List Sl} {f : Nat} (h : startR now T R S = (0, [], f)) (b : Below w.heap.size w w') : StP w now T R S (.returned (.tuple #[.int .i64 0, .slice none 0 0, .int .i64 (f : Nat)])) w' := by
  refine ⟨none, 0, 0, by rw [h], by rw [h]; rfl, fun _ => rfl, ?_, b⟩
  rw [h]
  exact fun i a hi => by simp at hi
set_option maxHeartbeats 1000000 in
theorem start_range (now : Int) (qT q r : Option Addr) (nT cT n c m d : Nat) (T : List V) (R : List Vi) (S : List Sl) (w : World) (h : Hid (StG w qT nT cT q n r m d T R S)) (hw : Hid (wthn now R = false)) : Calls Tryz.prog 11 #[.int .i64 now, .slice qT nT cT, .slice q n c, .slice r m d] w (StP w now T R S) := by
  have H18 : Hid (Calls Tryz.prog 17 #[.int .i64 now, .slice q n c] w fun e w' => e = .returned (.bool false) ∧ Hid (Below w.heap.size w w')) := by
    have := within_any now R q n c w h.out.v h.out.lr h.out.n2
    rwa [hw.out] at this
  go_enter Tryz.func11, Tryz.ntmps11
  go_wp2_with (go_at_call 17; refine H18.out.mono ?_; rintro e w1 ⟨rfl, b1⟩)
  go_ret3
  exact st_no (startR_range hw.out) b1.out
theorem i64_ne {f : Nat} {k : Int} (h : (f : Int) ≠ k) : ((f : Int) != k) = true := by simpa using h
set_option maxHeartbeats 1000000 in
theorem start_fit (now : Int) (qT q r : Option Addr) (nT cT n c m d : Nat) (T : List V) (R : List Vi) (S : List Sl) (w : World) (h : Hid (StG w qT nT cT q n r m d T R S)) (hw : Hid (wthn now R = true)) (hf : Hid (¬ ((fitR T S).1 = 0 ∨ (fitR T S).1 = 6))) : Calls Tryz.prog 11 #[.int .i64 now, .slice qT nT cT, .slice q n c, .slice r m d] w (StP w now T R S) := by
  have H18 : Hid (Calls Tryz.prog 17 #[.int .i64 now, .slice q n c] w fun e w' => e = .returned (.bool true) ∧ Hid (Below w.heap.size w w')) := by
    have := within_any now R q n c w h.out.v h.out.lr h.out.n2
    rwa [hw.out] at this
  have HS := startR_fit hw.out hf.out
  obtain ⟨f, hfe⟩ : ∃ f, (fitR T S).1 = f := ⟨_, rfl⟩
  have H16 : Hid (∀ w1, Below w.heap.size w w1 → Calls Tryz.prog 12 #[.slice qT nT cT, .slice r m d] w1 fun e w' => ∃ p k c, e = .returned (.tuple #[.slice p k c, .int .i64 (f : Nat)]) ∧ Hid (Below w1.heap.size w1 w')) := fun w1 b => (h.out.below b).fit.mono fun e w' ⟨p, k, c, e1, _, _, h4⟩ => ⟨p, k, c, by rw [e1, hfe], h4.out.2⟩
  rw [hfe] at HS
  have f0 : ¬ (f : Int) = 0 := by have := hf.out; rw [hfe] at this; omega
  have f6 : ¬ (f : Int) = 6 := by have := hf.out; rw [hfe] at this; omega
  have f0' : ((f : Int) == 0) = false := by simpa using f0
  have f6' : ((f : Int) == 6) = false := by simpa using f6
  have f0n : ((f : Int) != 0) = true := i64_ne f0
  have f6n : ((f : Int) != 6) = true := i64_ne f6
  have HS' : Hid (startR now T R S = (0, [], f)) := HS
  clear hf HS hfe
  go_enter Tryz.func11, Tryz.ntmps11
  go_wp2_with (first
    | (go_at_call 17; refine H18.out.mono ?_; rintro e w1 ⟨rfl, b1⟩; clear H18)
    | (go_at_call 12; refine (H16.out _ b1.out).mono ?_; rintro e w2 ⟨p, k, c, rfl, b2⟩; clear H16))
  go_ret3
  exact st_no HS'.out (below_from b1.out b2.out b1.out.size)
set_option maxHeartbeats 1000000 in
theorem start_give (now : Int) (qT q r : Option Addr) (nT cT n c m d : Nat) (T : List V) (R : List Vi) (S : List Sl) (w : World) (h : Hid (StG w qT nT cT q n r m d T R S)) (hw : Hid (wthn now R = true)) (hf : Hid ((fitR T S).1 = 0 ∨ (fitR T S).1 = 6)) (hg : Hid (¬ (gvG R S).1 = 0)) : Calls Tryz.prog 11 #[.int .i64 now, .slice qT nT cT, .slice q n c, .slice r m d] w (StP w now T R S) := by
  have H18 : Hid (Calls Tryz.prog 17 #[.int .i64 now, .slice q n c] w fun e w' => e = .returned (.bool true) ∧ Hid (Below w.heap.size w w')) := by
    have := within_any now R q n c w h.out.v h.out.lr h.out.n2
    rwa [hw.out] at this
  have HS := startR_give hw.out hf.out hg.out
  obtain ⟨f, hfe⟩ : ∃ f, (fitR T S).1 = f := ⟨_, rfl⟩
  have H16 : Hid (∀ w1, Below w.heap.size w w1 → Calls Tryz.prog 12 #[.slice qT nT cT, .slice r m d] w1 fun e w' => ∃ p k c, e = .returned (.tuple #[.slice p k c, .int .i64 (f : Nat)]) ∧ Hid (Below w1.heap.size w1 w')) := fun w1 b => (h.out.below b).fit.mono fun e w' ⟨p, k, c, e1, _, _, h4⟩ => ⟨p, k, c, by rw [e1, hfe], h4.out.2⟩
  have hf' : f = 0 ∨ f = 6 := by have := hf.out; rw [hfe] at this; exact this
  obtain ⟨x, hx⟩ : ∃ x, (gvG R S).1 = x := ⟨_, rfl⟩
  have H19 : Hid (∀ w1, Below w.heap.size w w1 → Calls Tryz.prog 18 #[.slice q n c, .slice r m d] w1 fun e w' => ∃ p k c, e = .returned (.tuple #[.slice p k c, .int .i64 (x : Nat)]) ∧ Hid (Below w1.heap.size w1 w')) := fun w1 b => (given_any R S q r n c m d w1 (h.out.v.below b) (h.out.o.below b) (h.out.s.below b) h.out.lr h.out.n2 (by have := h.out.n3; show m ≤ _; omega)).mono fun e w' ⟨p, k, c, e1, h4⟩ => ⟨p, k, c, by rw [e1, hx], h4.out.1⟩
  rw [hx] at HS
  have x0 : ¬ (x : Int) = 0 := by have := hg.out; rw [hx] at this; omega
  have x0' : ((x : Int) == 0) = false := by simpa using x0
  have HS' : Hid (startR now T R S = (0, [], x)) := HS
  clear hf HS hfe hx hg
  rcases hf' with rfl | rfl
  all_goals
    go_enter Tryz.func11, Tryz.ntmps11
    go_wp2_with (first
      | (go_at_call 17; refine H18.out.mono ?_; rintro e w1 ⟨rfl, b1⟩; clear H18)
      | (go_at_call 12; refine (H16.out _ b1.out).mono ?_; rintro e w2 ⟨p, k, c, rfl, b2⟩; clear H16; have b3 : Hid (Below w.heap.size w w2) := below_from b1.out b2.out b1.out.size)
      | (go_at_call 18; refine (H19.out _ b3.out).mono ?_; rintro e w4 ⟨p4, k4, c4, rfl, b4⟩; clear H19))
    go_ret3
    exact st_no HS'.out (below_from b3.out b4.out b3.out.size)
theorem atS_st {now : Int} {R : List Vi} {S : List Sl} {t : Int} (h : now ≤ t) : atS (slA R S) (fun nm => oprs now R nm) t = stA now R S t := by
  rw [stA_fr h, slA_cap]
  unfold atS
  rw [List.map_map]
  refine List.map_congr_left fun s _ => ?_
  show (⟨s.nm, plF (fun _ => capS R s) (oprs now R s.nm) t⟩ : Sl) = ⟨s.nm, frT now R s t⟩
  rw [plF_sum]
  rfl
/-- what is known behind foreseen -/
structure StK (now : Int) (T : List V) (R : List Vi) (S : List Sl) (Ts : List Int) : Prop where
  a : ∀ t ∈ Ts, t ∈ cand now R
  b : ∀ u ∈ cand now R, ∃ t ∈ Ts, t ≤ u ∧ stA now R S t = stA now R S u
  c : ∀ t ∈ Ts, now ≤ t
  d : Ts.Pairwise (· < ·)
  e : wthn now R = true
  f : (fitR T S).1 = 0 ∨ (fitR T S).1 = 6
  g : (gvG R S).1 = 0
theorem StK.found {now : Int} {T : List V} {R : List Vi} {S : List Sl} {Ts : List Int} (h : StK now T R S Ts) {j : Nat} {t : Int} (ht : Ts[j]? = some t) (hf : (fitR T (stA now R S t)).1 = 0) (hn : ∀ u ∈ Ts.take j, ¬ fitT now T R S u) : startR now T R S = (t, (fitR T (stA now R S t)).2, 0) := by
  refine startR_some h.e h.f h.g ((sta_of h.a h.b).1 t (List.mem_of_getElem? ht) hf fun u hu hfu => ?_)
  obtain ⟨i, hi⟩ := List.mem_iff_getElem?.1 hu
  by_cases hij : i < j
  · exact absurd hfu (hn u (List.mem_of_getElem? (i := i) (by rw [List.getElem?_take, if_pos hij]; exact hi)))
  · by_cases e : i = j
    · subst e
      rw [ht] at hi
      cases hi
      exact Int.le_refl _
    · obtain ⟨h1, rfl⟩ := List.getElem?_eq_some_iff.1 hi
      obtain ⟨h2, rfl⟩ := List.getElem?_eq_some_iff.1 ht
      exact Int.le_of_lt (List.pairwise_iff_getElem.1 h.d j i h2 h1 (by omega))
theorem StK.no {now : Int} {T : List V} {R : List Vi} {S : List Sl} {Ts : List Int} (h : StK now T R S Ts) (hn : ∀ u ∈ Ts, ¬ fitT now T R S u) : startR now T R S = (0, [], 6) := startR_none h.e h.f h.g ((sta_of h.a h.b).2 hn)
/-- the ticks of a course -/
theorem st_ticks {w : World} {now : Int} {R : List Vi} {S : List Sl} {T : List V} {B mb : Nat} {pb : Nat → Nat} {Q : Nat → PS} {Ts : List Int} (hw : wthn now R = true) (hf : (fitR T S).1 = 0 ∨ (fitR T S).1 = 6) (hg : (gvG R S).1 = 0) (hc : Crs w B mb (slA R S) (fun nm => oprs now R nm) pb Q) (hd : Ts.Pairwise (· < ·)) (hT : ∀ x, x ∈ Ts ↔ x = now ∨ ∃ i s, (slA R S)[i]? = some s ∧ ∃ st ∈ (Q i).l, st.at' = x) : StK now T R S Ts := by
  have hi : ∀ i s, S[i]? = some s → (slA R S)[i]? = some (⟨s.nm, capS R s⟩ : Sl) := fun i s h => by rw [slA_cap, List.getElem?_map, h]; rfl
  obtain ⟨h1, h2, h3⟩ := tick_cover (now := now) (R := R) (S := S) (Q := fun i => (Q i).l) (Ts := Ts) (fun i s hs => by
    have hp := hc.m i _ (hi i s hs)
    have ho := hp.o.p
    have hcc : (Q i).C = capS R s := hp.c
    rw [hcc] at ho
    refine ⟨ho, fun u => ?_⟩
    have := hp.f u
    rw [hcc] at this
    rw [this]
    show plF (fun _ => capS R s) (oprs now R s.nm) u = _
    rw [plF_sum]
    rfl) fun x => by
      rw [hT]
      constructor
      · rintro (q | ⟨i, s, hs, q⟩)
        · exact .inl q
        · rw [slA_cap, List.getElem?_map] at hs
          obtain ⟨a, ha, _⟩ := Option.map_eq_some_iff.1 hs
          exact .inr ⟨i, a, ha, q⟩
      · rintro (q | ⟨i, s, hs, q⟩)
        · exact .inl q
        · exact .inr ⟨i, _, hi i s hs, q⟩
  exact ⟨h1, h2, h3, hd, hw, hf, hg⟩
set_option maxHeartbeats 4000000 in
set_option maxRecDepth 100000 in
theorem start_go (now : Int) (qT q r : Option Addr) (nT cT n c m d : Nat) (T : List V) (R : List Vi) (S : List Sl) (w : World) (h : Hid (StG w qT nT cT q n r m d T R S)) (hw : Hid (wthn now R = true)) (hf : Hid ((fitR T S).1 = 0 ∨ (fitR T S).1 = 6)) (hg : Hid ((gvG R S).1 = 0)) : Calls Tryz.prog 11 #[.int .i64 now, .slice qT nT cT, .slice q n c, .slice r m d] w (StP w now T R S) := by
  have H18 : Hid (Calls Tryz.prog 17 #[.int .i64 now, .slice q n c] w fun e w' => e = .returned (.bool true) ∧ Hid (Below w.heap.size w w')) := by
    have := within_any now R q n c w h.out.v h.out.lr h.out.n2
    rwa [hw.out] at this
  obtain ⟨f, hfe⟩ : ∃ f, (fitR T S).1 = f := ⟨_, rfl⟩
  have H16 : Hid (∀ w1, Below w.heap.size w w1 → Calls Tryz.prog 12 #[.slice qT nT cT, .slice r m d] w1 fun e w' => ∃ p k c, e = .returned (.tuple #[.slice p k c, .int .i64 (f : Nat)]) ∧ Hid (Below w1.heap.size w1 w')) := fun w1 b => (h.out.below b).fit.mono fun e w' ⟨p, k, c, e1, _, _, h4⟩ => ⟨p, k, c, by rw [e1, hfe], h4.out.2⟩
  have hf' : f = 0 ∨ f = 6 := by have := hf.out; rw [hfe] at this; exact this
  have hS := fit_chk hf.out
  have hGv := all_give R S hS.2.1 hg.out
  have hgv := give_all R S hS.2.1 hGv
  have HW : Hid ((slA R S).length = m ∧ Nod (slA R S) ∧ allS (slA R S) = true ∧ (∀ s ∈ slA R S, AllT (fun _ => s.v) (oprs now R s.nm)) ∧ ∀ v ∈ R, v.N.length = v.T.length ∧ v.T.length ≤ 6 ∧ knB v.N (slA R S) = true) := by
    refine ⟨(slA_length _ _).trans h.out.s.m, nod_nm (slA_nm _ _) hS.2.2.1, slA_ok hGv.2, fun s hs => ?_, fun v hv => ?_⟩
    · rw [slA_cap] at hs
      obtain ⟨u, hu, rfl⟩ := List.mem_map.1 hs
      exact opr_all hw.out hS.2.1 hGv hu
    · obtain ⟨g1, g2, g3⟩ := hGv.1 v hv
      obtain ⟨k1, k2, k3, k4, k5⟩ := chk_ok g1
      exact ⟨g2, by omega, by rw [knB_nm (slA_nm _ _)]; exact g3⟩
  have H19 : Hid (∀ w1, Below w.heap.size w w1 → Calls Tryz.prog 18 #[.slice q n c, .slice r m d] w1 fun e w' => ∃ p c, e = .returned (.tuple #[.slice p m c, .int .i64 0]) ∧ Hid (Below w1.heap.size w1 w' ∧ SlS w' p m c (slA R S))) := fun w1 b => (given_any R S q r n c m d w1 (h.out.v.below b) (h.out.o.below b) (h.out.s.below b) h.out.lr h.out.n2 (by have := h.out.n3; show m ≤ _; omega)).mono fun e w' ⟨p, k, c, e1, h4⟩ => by
    have h5 := h4.out.2 hg.out
    rw [hgv] at h5 e1
    have : k = m := h5.m.symm.trans HW.out.1
    subst this
    exact ⟨p, c, e1, h4.out.1, h5⟩
  obtain ⟨wa, wb, wc, wd⟩ := wthn_true hw.out
  have hn100 : n ≤ 100 := by have := h.out.lr; omega
  have hm1 : m ≤ 1000 := h.out.n3
  have H20 : Hid (∀ w1 p c', Below w.heap.size w w1 → SlS w1 p m c' (slA R S) → Calls Tryz.prog 19 #[.int .i64 now, .slice q n c, .slice p m c'] w1 (ForP w1 now R (slA R S) p m c')) := fun w1 p c' b hs => foreseen_any now R (slA R S) q p n c m c' w1 (h.out.v.below b) (h.out.o.below b) h.out.lr ⟨hs.s, hs.h, HW.out.1, HW.out.2.1, HW.out.2.2.1⟩ hn100 (by omega) HW.out.2.2.2.1 HW.out.2.2.2.2 wa wb
  have H21 : Hid (∀ w1 B mb p c' pb Q, Crs w1 B mb (slA R S) (fun nm => oprs now R nm) pb Q → Calls Tryz.prog 20 #[.agg #[.int .i64 now, .slice p m c', .map (some mb)]] w1 (TkP w1 now (slA R S) Q)) := fun w1 B mb p c' pb Q hc => ticks_any now B mb (slA R S) _ pb Q p m c' w1 hc HW.out.2.1 (by show _ ≤ _; rw [HW.out.1]; exact hm1)
  have H22 : Hid (∀ w1 B mb p c' pb Q t, Crs w1 B mb (slA R S) (fun nm => oprs now R nm) pb Q → SlS w1 p m c' (slA R S) → now ≤ t → Calls Tryz.prog 21 #[.agg #[.int .i64 now, .slice p m c', .map (some mb)], .int .i64 t] w1 (AtP w1 m (stA now R S t))) := fun w1 B mb p c' pb Q t hc hs ht => by
    have := at_any now t B mb (slA R S) _ pb Q p m c' w1 hc ⟨hs.s, hs.h, HW.out.1, HW.out.2.1, hs.d⟩ (by omega)
    rwa [atS_st ht] at this
  clear hS hGv hgv hfe wa wb wc wd HW hn100 hm1
  rcases hf' with rfl | rfl
  all_goals
    go_enter Tryz.func11, Tryz.ntmps11
    go_upto_region 10 with (first
      | (go_at_call 17; refine H18.out.mono ?_; rintro e w1 ⟨rfl, b1⟩; clear H18)
      | (go_at_call 12; refine (H16.out _ b1.out).mono ?_; rintro e w2 ⟨p, k, c0, rfl, b2⟩; clear H16; have b3 : Hid (Below w.heap.size w w2) := below_from b1.out b2.out b1.out.size)
      | (go_at_call 18; refine (H19.out _ b3.out).mono ?_; rintro e w4 ⟨p4, c4, rfl, b4⟩; clear H19; have b5 : Hid (Below w.heap.size w w4) := below_from b3.out b4.out.1 b3.out.size)
      | (go_at_call 19; refine (H20.out _ _ _ b5.out b4.out.2).mono ?_; rintro e w6 ⟨mb, rfl, b6⟩; clear H20))
    obtain ⟨B, pb, Q, hc, hb⟩ := b6.out
    have HB7 : Hid (Below w.heap.size w (w6.alloc (.cells #[.int .i64 now, .slice p4 m c4, .map (some mb)] 61)) ∧ Crs (w6.alloc (.cells #[.int .i64 now, .slice p4 m c4, .map (some mb)] 61)) B mb (slA R S) (fun nm => oprs now R nm) pb Q ∧ SlS (w6.alloc (.cells #[.int .i64 now, .slice p4 m c4, .map (some mb)] 61)) p4 m c4 (slA R S) ∧ (w6.alloc (.cells #[.int .i64 now, .slice p4 m c4, .map (some mb)] 61)).heap[w6.heap.size]? = some (.cells #[.int .i64 now, .slice p4 m c4, .map (some mb)] 61)) := by
      have b7 := below_from b5.out hb b5.out.size
      have b8 : Below w6.heap.size w6 (w6.alloc (.cells #[.int .i64 now, .slice p4 m c4, .map (some mb)] 61)) := (Below.refl _ _).alloc (Nat.le_refl _) _
      exact ⟨below_from b7 b8 b7.size, hc.keep b8, (b4.out.2.below hb).below b8, new0⟩
    clear hc hb b6 b5 b4 b3 b2 b1
    generalize w6.alloc (.cells #[.int .i64 now, .slice p4 m c4, .map (some mb)] 61) = W7 at *
    generalize w6.heap.size = cb at *
    have e0 := Lib.cell_of_heap HB7.out.2.2.2 0
    have e1 := Lib.cell_of_heap HB7.out.2.2.2 1
    have e2 := Lib.cell_of_heap HB7.out.2.2.2 2
    go_upto_region 11 with (go_at_call 20; refine (H21.out _ B mb p4 c4 pb Q HB7.out.2.1).mono ?_; rintro e w8 ⟨p8, k8, c8, rfl, h8⟩)
    obtain ⟨Ts, t1, t2, t3, t4, t5⟩ := h8.out
    have HK : Hid (StK now T R S Ts) := st_ticks hw.out hf.out hg.out HB7.out.2.1 t2 t3
    have HT : Hid (Ts.length = k8 ∧ TR W7.heap.size w8 (.slice p8 k8 c8) Ts) := ⟨t1, t4⟩
    have hk8 : k8 ≤ 9223372036854775807 := by
      rcases t4.2 with ⟨_, h0⟩ | ⟨g, cap, cur, e, h1, h2, h3, h4, _⟩
      · omega
      · unfold maxLen at h4; omega
    have HB8 : Hid (Below w.heap.size w w8 ∧ Crs w8 B mb (slA R S) (fun nm => oprs now R nm) pb Q ∧ SlS w8 p4 m c4 (slA R S) ∧ w8.heap[cb]? = some (.cells #[.int .i64 now, .slice p4 m c4, .map (some mb)] 61)) := ⟨below_from HB7.out.1 t5 HB7.out.1.size, HB7.out.2.1.keep t5, HB7.out.2.2.1.below t5, at_below t5 (Nat.le_refl _) HB7.out.2.2.2⟩
    clear t1 t2 t3 t4 t5 h8 e0 e1 e2 HB7 H21
    go_wp2_with fail
    go_loopw [53] (fun x wr => ∃ j : Nat, x = .int .i64 j ∧ j ≤ k8 ∧ Hid (Below w8.heap.size w8 wr ∧ ∀ u ∈ Ts.take j, ¬ fitT now T R S u)) (fun x _ => k8 - (intOf x).toNat)
    case atStart => exact ⟨0, rfl, Nat.zero_le _, Below.refl _ _, fun u hu => by simp at hu⟩
    case round =>
      obtain ⟨j, rfl, hj, HJ⟩ := hrel
      by_cases hjk : j = k8
      · subst hjk
        have HE : Hid (startR now T R S = (0, [], 6) ∧ Below w.heap.size w wr) := by
          have h1 := HJ.out.2
          rw [List.take_of_length_le (Nat.le_of_eq HT.out.1)] at h1
          exact ⟨HK.out.no h1, below_from HB8.out.1 HJ.out.1 HB8.out.1.size⟩
        clear HJ hj
        go_wp2_with fail
        go_ret3
        exact st_no HE.out.1 HE.out.2
      · have hlt' : (j : Int) < (k8 : Int) := by omega
        have hd : decide ((j : Int) < (k8 : Int)) = true := decide_eq_true hlt'
        obtain ⟨x, hx⟩ : ∃ x, Ts[j]? = some x := ⟨Ts[j]'(by have := HT.out.1; omega), List.getElem?_eq_getElem _⟩
        have hne : Ts ≠ [] := fun e => by rw [e] at hx; simp at hx
        obtain ⟨g8, cur8, rfl, -, -, -⟩ := tr_blk HT.out.2 hne
        have y0 : wr.cell? ⟨g8, j, none⟩ = some (.int .i64 x) := by
          have := World.ownsRow.cells HT.out.2 (g := g8) rfl j (.int .i64 x) (by rw [List.getElem?_map, hx]; rfl)
          rw [Addr.add_lit, Nat.zero_add] at this
          exact cell_below this HJ.out.1
        have HX : Hid (Ts[j]? = some x ∧ now ≤ x) := ⟨hx, HK.out.c x (List.mem_of_getElem? hx)⟩
        have H22' : Hid (Calls Tryz.prog 21 #[.agg #[.int .i64 now, .slice p4 m c4, .map (some mb)], .int .i64 x] wr (AtP wr m (stA now R S x))) := H22.out wr B mb p4 c4 pb Q x (HB8.out.2.1.keep HJ.out.1) (HB8.out.2.2.1.below HJ.out.1) HX.out.2
        have hcb := at_below HJ.out.1 (Nat.le_refl _) HB8.out.2.2.2
        have e0 := Lib.cell_of_heap hcb 0
        have e1 := Lib.cell_of_heap hcb 1
        have e2 := Lib.cell_of_heap hcb 2
        clear hx hne hcb
        obtain ⟨y, hy⟩ : ∃ y, (fitR T (stA now R S x)).1 = y := ⟨_, rfl⟩
        have H16 : Hid (∀ w1 p c', Below w.heap.size w w1 → SR wr.heap.size w1 (.slice p m c') (stA now R S x) → Calls Tryz.prog 12 #[.slice qT nT cT, .slice p m c'] w1 fun e w' => ∃ q k c, e = .returned (.tuple #[.slice q k c, .int .i64 (y : Nat)]) ∧ (fitR T (stA now R S x)).2.length = k ∧ (q = none → c = 0) ∧ Hid (NA w' q (fitR T (stA now R S x)).2 ∧ Below w1.heap.size w1 w')) := fun w1 p c' b hs => by
          have hl : (stA now R S x).length = m := (slA_length _ _).trans h.out.s.m
          have := fit_any T (stA now R S x) qT p nT cT m c' w1 (h.out.t.below b) (hs.ga slC_len) (short_nm h.out.s.h (slA_nm _ _)) (fun e => by subst e; exact hs.nilc) h.out.lt hl h.out.n1 (by have := h.out.n3; omega)
          refine this.mono ?_
          rintro e w' ⟨q, k, c, e1, h4⟩
          exact ⟨q, k, c, by rw [e1, hy], h4⟩
        have HY : Hid ((fitR T (stA now R S x)).1 = y) := hy
        clear hy H22
        by_cases hy0 : y = 0
        · subst hy0
          have HF : Hid (startR now T R S = (x, (fitR T (stA now R S x)).2, 0)) := HK.out.found HX.out.1 HY.out HJ.out.2
          go_wp2_with (first
            | (go_at_call 21; refine H22'.out.mono ?_; rintro e w9 ⟨p9, c9, rfl, h9⟩; clear H22'; have b9 : Hid (Below w.heap.size w w9) := below_from (below_from HB8.out.1 HJ.out.1 HB8.out.1.size) h9.out.2 (Nat.le_trans HB8.out.1.size HJ.out.1.size))
            | (go_at_call 12; refine (H16.out _ _ _ b9.out h9.out.1).mono ?_; rintro e w10 ⟨p10, k10, c10, rfl, h10, h11, h12⟩; clear H16))
          go_ret3
          refine ⟨p10, k10, c10, by rw [HF.out]; rfl, by rw [HF.out]; exact h10, h11, ?_, below_from b9.out h12.out.2 b9.out.size⟩
          rw [HF.out]
          exact h12.out.1
        · have y1 : ¬ (y : Int) = 0 := by omega
          have y2 : ((y : Int) == 0) = false := by simpa using y1
          have HN : Hid (∀ u ∈ Ts.take (j + 1), ¬ fitT now T R S u) := fun u hu => by
            rw [take_next HX.out.1] at hu
            rcases List.mem_append.1 hu with q | q
            · exact HJ.out.2 u q
            · rw [List.mem_singleton.1 q]
              intro e
              have e' : (fitR T (stA now R S x)).1 = 0 := e
              exact hy0 (HY.out.symm.trans e')
          go_wp2_with (first
            | (go_at_call 21; refine H22'.out.mono ?_; rintro e w9 ⟨p9, c9, rfl, h9⟩; clear H22'; have b9 : Hid (Below w8.heap.size w8 w9 ∧ Below w.heap.size w w9) := ⟨below_from HJ.out.1 h9.out.2 HJ.out.1.size, below_from (below_from HB8.out.1 HJ.out.1 HB8.out.1.size) h9.out.2 (Nat.le_trans HB8.out.1.size HJ.out.1.size)⟩)
            | (go_at_call 12; refine (H16.out _ _ _ b9.out.2 h9.out.1).mono ?_; rintro e w10 ⟨p10, k10, c10, rfl, h10, h11, h12⟩; clear H16))
          exact ⟨⟨j + 1, by simp, by omega, below_from b9.out.1 h12.out.2 b9.out.1.size, HN.out⟩, by simp only [intOf]; omega⟩
theorem start_any (now : Int) (qT q r : Option Addr) (nT cT n c m d : Nat) (T : List V) (R : List Vi) (S : List Sl) (w : World) (h : StG w qT nT cT q n r m d T R S) : Calls Tryz.prog 11 #[.int .i64 now, .slice qT nT cT, .slice q n c, .slice r m d] w (StP w now T R S) := by
  by_cases hw : wthn now R = true
  · by_cases hf : (fitR T S).1 = 0 ∨ (fitR T S).1 = 6
    · by_cases hg : (gvG R S).1 = 0
      · exact start_go now qT q r nT cT n c m d T R S w h hw hf hg
      · exact start_give now qT q r nT cT n c m d T R S w h hw hf hg
    · exact start_fit now qT q r nT cT n c m d T R S w h hw hf
  · exact start_range now qT q r nT cT n c m d T R S w h (Bool.eq_false_iff.2 hw)
end Go.Proofs.YtjgibngnjlciaaaGreat
