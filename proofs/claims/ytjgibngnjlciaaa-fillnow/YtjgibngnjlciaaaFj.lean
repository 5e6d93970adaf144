/-
  The ticks of a course: ticks.
-/
import Derived.Test.YtjgibngnjlciaaaFi
import Derived.Test.YtjgibngnjlciaaaPLf
import Derived.Maps.RangeWalk
import Derived.Laws.IdiomRangeMap
namespace Go.Proofs.Ytjgibngnjlciaaa
open Go.RowKit Go.Maps Go.WideMaps Go.Sort

theorem size_le {H : Type} {w : World} {P : Program} {k : TypeId} {R : Value → Option (DataW H × List MemPlace)} {b n : Nat} {D : DataW H} (h : w.ownsMap P k R b n D) : Maps.size D ≤ n := by
  obtain ⟨es, clock, hb, F, hn, hD⟩ := h
  rw [hD, Maps.size_eq, length_sorted]
  simpa using hn
theorem tightM {H : Type} {w : World} {P : Program} {k : TypeId} {R : Value → Option (DataW H × List MemPlace)} {b n : Nat} {D : DataW H} (h : w.ownsMap P k R b n D) : w.ownsMap P k R b (Maps.size D) D := by
  obtain ⟨es, clock, hb, F, _, hD⟩ := h
  refine ⟨es, clock, hb, F, ?_, hD⟩
  rw [hD, Maps.size_eq, length_sorted]
  simp
theorem invP (v : Value) (y : DataW Nat × List MemPlace) (h : pE v = some y) : ∃ c : Option Nat, v = .pointer (c.map fun b => ⟨b, 0, none⟩) := by
  unfold pE at h
  split at h
  · rename_i b; exact ⟨some b, rfl⟩
  · exact ⟨none, rfl⟩
  · cases h
theorem invS (key : Value) (kl : Lit) (h : keyOf Try.prog 9 key = some kl) : ∃ x : ByteArray, key = .string x := by
  obtain ⟨s, e, _⟩ := string_of_keyOf Try.underlying9 h
  exact ⟨s, e⟩
abbrev Rg (w : World) (b r n : Nat) (D : DataW Nat) (left : Lit → Bool) (cnt : Nat) : Prop := w.ranges Try.prog 9 pE b r n D left cnt
theorem rg_keep {w w1 : World} {b r n : Nat} {D : DataW Nat} {left : Lit → Bool} {cnt : Nat} (h : Rg w b r n D left cnt) (e1 : w1.heap[b]? = w.heap[b]?) (e2 : w1.heap[r]? = w.heap[r]?) : Rg w1 b r n D left cnt := by
  obtain ⟨es, clock, since, seen, c0, hb, F, hs, hD, hr, rest⟩ := h
  exact ⟨es, clock, since, seen, c0, e1.trans hb, F, hs, hD, e2.trans hr, rest⟩
theorem rg_ne {w : World} {b r n : Nat} {D : DataW Nat} {left : Lit → Bool} {cnt : Nat} (h : Rg w b r n D left cnt) {g : Nat} {cs : Array Value} {ty : TypeId} {f : Nat × Nat} (hg : w.heap[g]? = some (.cells cs ty f)) : b ≠ g ∧ r ≠ g := by
  obtain ⟨es, clock, since, seen, c0, hb, F, hs, hD, hr, rest⟩ := h
  constructor
  · rintro rfl; rw [hb] at hg; cases hg
  · rintro rfl; rw [hr] at hg; cases hg
theorem rg_lt {w : World} {b r n : Nat} {D : DataW Nat} {left : Lit → Bool} {cnt : Nat} (h : Rg w b r n D left cnt) : r < w.heap.size ∧ b < w.heap.size := by
  obtain ⟨es, clock, since, seen, c0, hb, F, hs, hD, hr, rest⟩ := h
  exact ⟨(Array.getElem?_eq_some_iff.1 hr).1, (Array.getElem?_eq_some_iff.1 hb).1⟩
/-- while the map is gone through -/
structure Tq (w wr : World) (now : Int) (W : List Sl) (Q : Nat → PS) (mb r : Nat) (M : DataW Nat) (left : Lit → Bool) (cnt : Nat) (v : Value) (L : List Int) : Prop where
  rg : Rg wr mb r (Maps.size M) M left cnt
  row : TR w.heap.size wr v L
  b : Below w.heap.size w wr
  sn : ∀ i s, W[i]? = some s → left (.string s.nm) = false → ∀ st ∈ (Q i).l, st.at' ∈ L
  fr : ∀ x ∈ L, x = now ∨ ∃ i s, W[i]? = some s ∧ ∃ st ∈ (Q i).l, st.at' = x
  nw : now ∈ L
  len : L.length + 8192 * cnt ≤ 1 + 8192 * W.length
  r : w.heap.size ≤ r
  m : mb < w.heap.size
/-- the one that has come -/
theorem tq_entry {W : List Sl} {pb : Nat → Nat} {M : DataW Nat} {left : Lit → Bool} (hM : ∀ s z, M.atKey (.string s) z = entP (plc s W) pb z) {x : ByteArray} {c : Option Nat} {kl : Lit} {y : DataW Nat × List MemPlace} (hkey : keyOf Try.prog 9 (.string x) = some kl) (_ : left kl = true) (hy : pE (.pointer (c.map fun b => ⟨b, 0, none⟩)) = some y) (hat : ∀ zd, M.atKey kl zd = y.1) :
    ∃ i s, W[i]? = some s ∧ c = some (pb i) ∧ kl = .string s.nm := by
  obtain ⟨s', e, rfl, _⟩ := string_of_keyOf Try.underlying9 hkey
  cases e
  have q1 := (hM x.data.toList .nil).symm.trans (hat .nil)
  have q2 := (hM x.data.toList (.held 0)).symm.trans (hat (.held 0))
  cases hp : plc x.data.toList W with
  | none =>
    rw [hp] at q1 q2
    have : (DataW.nil : DataW Nat) = .held 0 := q1.trans q2.symm
    cases this
  | some i =>
    rw [hp] at q1
    obtain ⟨s, hs, hsn⟩ := plc_some hp
    refine ⟨i, s, hs, ?_, by rw [hsn]⟩
    cases c with
    | none =>
      have hy' : (some (DataW.nil, []) : Option (DataW Nat × List MemPlace)) = some y := hy
      rw [← Option.some.inj hy'] at q1
      cases q1
    | some c =>
      have hy' : (some (DataW.held c, []) : Option (DataW Nat × List MemPlace)) = some y := hy
      rw [← Option.some.inj hy'] at q1
      have q1' : (DataW.held (pb i) : DataW Nat) = .held c := q1
      exact congrArg some (DataW.held.inj q1').symm
/-- while a profile's steps are gone through -/
structure Ti (w wr : World) (mb r : Nat) (M : DataW Nat) (left : Lit → Bool) (cnt : Nat) (v : Value) (L : List Int) (u : Value) (S : List Stp) : Prop where
  rg : Rg wr mb r (Maps.size M) M left cnt
  row : TR w.heap.size wr v L
  st : Row wr u S
  b : Below w.heap.size w wr
theorem Ti.below {w wr w1 : World} {mb r : Nat} {M : DataW Nat} {left : Lit → Bool} {cnt : Nat} {v : Value} {L : List Int} {u : Value} {S : List Stp} (h : Ti w wr mb r M left cnt v L u S) (k : Below wr.heap.size wr w1) : Ti w w1 mb r M left cnt v L u S := by
  obtain ⟨l1, l2⟩ := rg_lt h.rg
  exact ⟨rg_keep h.rg (k.block mb l2) (k.block r l1), ownsKeep h.row fun g hg => k.block g (World.ownsRow.lt h.row g hg).2, h.st.keep fun g hg => k.block g (h.st.lt hg), below_from h.b k h.b.size⟩
theorem Ti.app {w wr w1 : World} {mb r : Nat} {M : DataW Nat} {left : Lit → Bool} {cnt : Nat} {v v' : Value} {L L' : List Int} {u : Value} {S : List Stp} (h : Ti w wr mb r M left cnt v L u S) (ho : TR w.heap.size w1 v' L') (hg : wr.grownBy w1 v.ownBlock) : Ti w w1 mb r M left cnt v' L' u S := by
  obtain ⟨l1, l2⟩ := rg_lt h.rg
  have hne : ∀ g, v.ownBlock = some g → mb ≠ g ∧ r ≠ g ∧ u.ownBlock ≠ some g := fun g e => by
    rcases h.row.2 with ⟨q, _⟩ | ⟨g', cap, cur, q, hbb, hgg, _⟩
    · rw [q] at e; cases e
    · rw [q] at e
      cases e
      obtain ⟨a1, a2⟩ := rg_ne h.rg hgg
      refine ⟨a1, a2, fun e => ?_⟩
      rcases h.st.2 with ⟨q, _⟩ | ⟨g2, cap2, cur2, q, _, hg2, _⟩
      · rw [q] at e; cases e
      · rw [q] at e
        cases e
        rw [hgg] at hg2
        cases hg2
  refine ⟨rg_keep h.rg (hg.block mb l2 fun e => (hne mb e.symm).1 rfl) (hg.block r l1 fun e => (hne r e.symm).2.1 rfl), ho, h.st.keep fun g q => hg.block g (h.st.lt q) fun e => (hne g e.symm).2.2 q, h.b.trans (below_grown hg h.b.size fun g e => (World.ownsRow.lt h.row g e).1)⟩
theorem info2 : (Try.prog.info? 2).map (fun i => (i.zero, i.size, i.bytes)) = some (some (.int .i64 0), 1, 8) := by kernel_rfl
/-- a tick put behind an owned row -/
theorem append_tick {ops : Array Oper} {rest : List Oper} {o : Oper} {a : Act} {Q : Exit → Act → World → Prop} {w : World} (hgd : o.guard = none) (s x : Operand)
    (ho : o.op = .call { callee := .builtin .append, args := #[s, x], argTypes := #[57, 57] }) (B : Nat) (v : Value) (L : List Int) (hs : a.eval s = v) (hown : TR B w v L)
    (g c : Nat) (y : Int) (hx : a.eval x = .slice (some ⟨g, 0, none⟩) 1 c) (hm : w.cell? ⟨g, 0, none⟩ = some (.int .i64 y)) (hn : L.length ≤ 100000000) (hB : B ≤ w.heap.size)
    (h : ∀ v' w', TR B w' v' (L ++ [y]) → w.grownBy w' v.ownBlock → wpList Try.prog ops Q rest (a.put o.dst v') w') :
    wpList Try.prog ops Q (o :: rest) a w := by
  refine append_vals Try.underlying57 info2 rfl (by decide) hgd s x ho B v L.length (L.map (Value.int .i64)) hs hown g 0 c 1 [.int .i64 y] hx rfl ?_ ?_ (by unfold maxLen; omega) (by omega) hB fun v' w' h1 h2 => h v' w' ?_ h2
  · intro i x hi
    cases i with
    | zero => simp at hi; subst hi; exact hm
    | succ i => simp at hi
  · intro u hu
    rw [List.mem_singleton.1 hu]
    rfl
  · show World.ownsRow _ _ _ _ _ _ _
    rw [List.length_append, List.map_append]
    exact h1
/-- what ticks answers -/
def TkP (w : World) (now : Int) (W : List Sl) (Q : Nat → PS) (e : Ending) (w' : World) : Prop := ∃ p k c, e = .returned (.slice p k c) ∧ Hid (∃ T : List Int, T.length = k ∧ T.Pairwise (· < ·) ∧ (∀ x, x ∈ T ↔ x = now ∨ ∃ i s, W[i]? = some s ∧ ∃ st ∈ (Q i).l, st.at' = x) ∧ TR w.heap.size w' (.slice p k c) T ∧ Below w.heap.size w w')
set_option maxHeartbeats 4000000 in
set_option maxRecDepth 100000 in
theorem ticks_any (now : Int) (B mb : Nat) (W : List Sl) (F : List UInt8 → List Opr) (pb : Nat → Nat) (Q : Nat → PS) (r : Option Addr) (m d : Nat) (w : World) (h : Hid (Crs w B mb W F pb Q)) (hN : Hid (Nod W)) (hm : Hid (W.length ≤ 1000)) :
    Calls Try.prog 21 #[.agg #[.int .i64 now, .slice r m d, .map (some mb)]] w (TkP w now W Q) := by
  obtain ⟨M, o1, o2⟩ := h.out.mp
  have HM : Hid (∀ s z, M.atKey (.string s) z = entP (plc s W) pb z) := o2
  have HZ : Hid (Maps.size M ≤ W.length) := size_le o1
  have hlt := o1.lt
  have O1 := keepMap (tightM o1) (w1 := (w.alloc (.cells #[.int .i64 now, .slice r m d, .map (some mb)] 55)).alloc (.cells #[.int .i64 now] 2)) (by rw [Below.heap_alloc _ _ mb (by simp; omega), Below.heap_alloc _ _ mb hlt])
  clear o1 o2
  go_enter Try.func21, Try.ntmps21
  go_upto_region 2 with fail
  have R0 : Hid (TR w.heap.size ((w.alloc (.cells #[.int .i64 now, .slice r m d, .map (some mb)] 55)).alloc (.cells #[.int .i64 now] 2)) (.slice (some ⟨w.heap.size + 1, 0, none⟩) 1 1) [now] ∧ Below w.heap.size w ((w.alloc (.cells #[.int .i64 now, .slice r m d, .map (some mb)] 55)).alloc (.cells #[.int .i64 now] 2))) :=
    ⟨⟨rfl, .inr ⟨w.heap.size + 1, 1, #[.int .i64 now], rfl, by omega, new1, Nat.le_refl _, by unfold maxLen; omega, rfl, rfl⟩⟩, ((Below.refl _ _).alloc (Nat.le_refl _) _).alloc (by simp) _⟩
  have hsz : ((w.alloc (.cells #[.int .i64 now, .slice r m d, .map (some mb)] 55)).alloc (.cells #[.int .i64 now] 2)).heap.size = w.heap.size + 1 + 1 := by simp
  have b2 : ((w.alloc (.cells #[.int .i64 now, .slice r m d, .map (some mb)] 55)).alloc (.cells #[.int .i64 now] 2)).cell? ⟨w.heap.size, 2, none⟩ = some (.map (some mb)) := Lib.cell_of_heap (at_alloc new0) 2
  obtain ⟨g0, hg0⟩ : ∃ g0, w.heap.size + 1 = g0 := ⟨_, rfl⟩
  rw [hg0] at R0 ⊢
  generalize (w.alloc (.cells #[.int .i64 now, .slice r m d, .map (some mb)] 55)).alloc (.cells #[.int .i64 now] 2) = W1 at *
  clear hg0
  go_wp2_with (first
    | (at_range; refine wpList_range_own _ rfl _ 53 rfl 9 80 law9 Try.underlying53 _ mb _ M rfl O1 ?_; intro w2 hrg0 hg0 hs0)
    | go_in)
  go_frame
  have T0 : Hid (Tq w w2 now W Q mb W1.heap.size M (Maps.has M) (Maps.size M) (.slice (some ⟨g0, 0, none⟩) 1 1) [now]) := by
    refine ⟨hrg0, ownsKeep R0.out.1 fun g hg => hg0.block g (World.ownsRow.lt R0.out.1 g hg).2 (fun e => by cases e), R0.out.2.trans (below_grown hg0 R0.out.2.size fun g e => by cases e), fun i s hs hl => ?_, fun x hx => .inl (List.mem_singleton.1 hx), List.mem_singleton.2 rfl, ?_, R0.out.2.size, hlt⟩
    · have : Maps.has M (.string s.nm) = true := has_true_of_atKey (y := .held (pb i)) fun z => by rw [HM.out, plc_nod hN.out hs]; rfl
      rw [this] at hl
      cases hl
    · have := HZ.out
      show 1 + 8192 * Maps.size M ≤ _
      omega
  clear hrg0 hg0 hs0 O1 R0 HZ hsz b2
  generalize W1.heap.size = rr at *
  go_loopw [3] (fun v wr => ∃ p k c left cnt L, v = .slice p k c ∧ Hid (Tq w wr now W Q mb rr M left cnt (.slice p k c) L)) (fun _ wr => wr.rangeLeft mb rr)
  case atStart => exact ⟨_, _, _, _, _, _, rfl, T0.out⟩
  case round =>
    clear T0
    obtain ⟨p, k, c, left, cnt, L, rfl, HT⟩ := hrel
    go_wp2_with (first
      | (at_next; refine wpList_next_ranges _ rfl _ rfl 9 law9 pE Value.string (fun c : Option Nat => .pointer (c.map fun b => ⟨b, 0, none⟩)) invS invP mb rr (Maps.size M) M left cnt rfl HT.out.rg ?_ ?_)
      | go_in)
    · intro hc0 hl0
      have HL : Hid (L ≠ [] ∧ L.length ≤ 100000000) := by
        have h1 := HT.out.nw
        have h2 := HT.out.len
        have h3 := hm.out
        exact ⟨fun e => (by rw [e] at h1; cases h1), by omega⟩
      have HS : Hid (∀ x, x ∈ L ↔ x = now ∨ ∃ i s, W[i]? = some s ∧ ∃ st ∈ (Q i).l, st.at' = x) := fun x => ⟨HT.out.fr x, fun q => by
        rcases q with rfl | ⟨i, s, hi, st, hst, rfl⟩
        · exact HT.out.nw
        · exact HT.out.sn i s hi (hl0 _) st hst⟩
      have H40 : Hid (Calls Try.prog 40 #[.slice p k c] wr fun e w' => e = .returned (.tuple #[]) ∧ Hid (∃ M : List Int, M.Perm L ∧ M.Pairwise (· ≤ ·) ∧ TR w.heap.size w' (.slice p k c) M ∧ wr.grownBy w' (Value.slice p k c).ownBlock)) := sortT_any HT.out.row HL.out.1 HL.out.2
      clear hc0 hl0
      go_upto_region 11 with (go_at_call 40; refine H40.out.mono ?_; rintro e w4 ⟨rfl, h4⟩)
      clear H40
      obtain ⟨M2, m1, m2, m3, m4⟩ := h4.out
      have H41 : Hid (Calls Try.prog 41 #[.slice p k c] w4 fun e w' => ∃ k, e = .returned (.slice p k c) ∧ Hid (∃ T : List Int, T.length = k ∧ T.Pairwise (· < ·) ∧ (∀ x, x ∈ T ↔ x ∈ M2) ∧ TR w.heap.size w' (.slice p k c) T ∧ Below w.heap.size w4 w')) :=
        compactT_any m3 (fun e => HL.out.1 (by rw [e] at m1; exact m1.symm.eq_nil)) m2 (by rw [m1.length_eq]; exact HL.out.2)
      have HB : Hid (Below w.heap.size w w4 ∧ ∀ x, x ∈ M2 ↔ x ∈ L) := ⟨HT.out.b.trans (below_grown m4 HT.out.b.size fun g e => (World.ownsRow.lt HT.out.row g e).1), fun x => m1.mem_iff⟩
      clear m1 m2 m3 m4 h4 HT
      go_wp2_with (go_at_call 41; refine H41.out.mono ?_; rintro e w5 ⟨k5, rfl, h5⟩)
      go_ret
      obtain ⟨T, t1, t2, t3, t4, t5⟩ := h5.out
      exact ⟨p, k5, c, rfl, T, t1, t2, fun x => by rw [t3, HB.out.2, HS.out], t4, HB.out.1.trans t5⟩
    · intro x c' kl ya yb w3 cnt2 hkey hlk hy' hat hrg2 hlt2 hg2 hs2 hen
      obtain ⟨i, s, hi, rfl, rfl⟩ := tq_entry HM.out hkey hlk hy' hat
      have hb3 : Below w.heap.size w w3 := HT.out.b.trans (below_grown hg2 HT.out.b.size fun g e => by cases e; exact HT.out.r)
      have HC : Hid (cnt2 < cnt ∧ wr.rangeLeft mb rr = cnt) := ⟨hlt2, HT.out.rg.left_eq⟩
      have hp := (h.out.keep hb3).m i s hi
      have h39 := steps_any hp.m (by have h1 := hp.o.n; have h2 := hp.o.l; omega)
      have HQ : Hid (W[i]? = some s ∧ (Q i).l.length ≤ 8192) := ⟨hi, by have h1 := hp.o.n; have h2 := hp.o.l; omega⟩
      have H39 : Hid (Calls Try.prog 39 #[.pointer (some ⟨pb i, 0, none⟩)] w3 fun e w' => ∃ v, e = .returned v ∧ Row w' v (Q i).l ∧ Below w3.heap.size w3 w' ∧ (∀ j, v.ownBlock = some j → w3.heap.size ≤ j)) := h39
      have hrow3 : TR w.heap.size w3 (.slice p k c) L := ownsKeep HT.out.row fun g hg => hg2.block g (World.ownsRow.lt HT.out.row g hg).2 fun e => by
        obtain ⟨g', cur, q1, q2, q3, q4, q5⟩ := tr_blk HT.out.row (fun e => by have := HT.out.nw; rw [e] at this; cases this)
        have e' : g = rr := Option.some.inj e
        have e2 : g' = g := by rw [q1] at hg; exact Option.some.inj hg
        rw [e2, e'] at q4
        exact (rg_ne HT.out.rg q4).2 rfl
      have HX : Hid (Rg w3 mb rr (Maps.size M) M (fun z => left z && !z.sameKey (.string s.nm)) cnt2 ∧ TR w.heap.size w3 (.slice p k c) L ∧ Below w.heap.size w w3) := ⟨hrg2, hrow3, hb3⟩
      have HO : Hid (∀ wr p k c, Ti w wr mb rr M (fun z => left z && !z.sameKey (.string s.nm)) cnt2 (.slice p k c) (L ++ (Q i).l.map Stp.at') (.slice none 0 0) [] → Tq w wr now W Q mb rr M (fun z => left z && !z.sameKey (.string s.nm)) cnt2 (.slice p k c) (L ++ (Q i).l.map Stp.at')) := fun wr p k c ht => by
        have HT' := HT.out
        refine ⟨ht.rg, ht.row, ht.b, fun a u hu hl st hst => ?_, fun x hx => ?_, List.mem_append_left _ HT'.nw, ?_, HT'.r, HT'.m⟩
        · rw [List.mem_append]
          by_cases q : left (.string u.nm) = false
          · exact .inl (HT'.sn a u hu q st hst)
          · have q' : left (.string u.nm) = true := by simpa using q
            rw [q', Bool.true_and] at hl
            have hk : (Lit.string u.nm).sameKey (.string s.nm) = true := by simpa using hl
            have e : u.nm = s.nm := by
              have := WideAt.sameKey_eq hk
              injection this
            by_cases hai : a = i
            · subst hai
              exact .inr (List.mem_map.2 ⟨st, hst, rfl⟩)
            · exact absurd e (nod_ne hN.out hu HQ.out.1 hai)
        · rcases List.mem_append.1 hx with q | q
          · exact HT'.fr x q
          · obtain ⟨st, hst, rfl⟩ := List.mem_map.1 q
            exact .inr ⟨i, s, HQ.out.1, st, hst, rfl⟩
        · have h1 := HT'.len
          have h2 := HQ.out.2
          have h3 := HC.out.1
          rw [List.length_append, List.length_map]
          omega
      have HLL : Hid (L.length ≤ 50000000) := by
        have h2 := HT.out.len
        have h3 := hm.out
        show L.length ≤ _
        omega
      simp only [Option.map_some] at hen
      clear hkey hlk hy' hat hrg2 hlt2 hg2 hs2 hp h39 hrow3 hb3 HT hi
      go_upto_region 6 with (go_at_call 39; refine H39.out.mono ?_; rintro e w4 ⟨u, rfl, u1, u2, u3⟩; obtain ⟨p2, c2, rfl⟩ := u1.shape)
      obtain ⟨n2, hn2⟩ : ∃ n2, (Q i).l.length = n2 := ⟨_, rfl⟩
      have HI : Hid (Ti w w4 mb rr M (fun z => left z && !z.sameKey (.string s.nm)) cnt2 (.slice p k c) L (.slice p2 (Q i).l.length c2) (Q i).l) := by
        have h0 : Ti w w3 mb rr M (fun z => left z && !z.sameKey (.string s.nm)) cnt2 (.slice p k c) L (.slice none 0 0) [] := ⟨HX.out.1, HX.out.2.1, Row.nil _, HX.out.2.2⟩
        have h1 := h0.below u2
        exact ⟨h1.rg, h1.row, u1, h1.b⟩
      rw [hn2] at HI ⊢
      have HN : Hid ((Q i).l.length = n2 ∧ n2 ≤ 8192) := ⟨hn2, by rw [← hn2]; exact HQ.out.2⟩
      have hn8 : n2 ≤ 8192 := HN.out.2
      clear H39 HX u1 u2 u3 hen hn2
      go_wp2_with fail
      go_loopw [3, 21] (fun v y wr => ∃ p k c j, v = .slice p k c ∧ y = .int .i64 (j : Nat) ∧ j ≤ n2 ∧ Hid (Ti w wr mb rr M (fun z => left z && !z.sameKey (.string s.nm)) cnt2 (.slice p k c) (L ++ ((Q i).l.take j).map Stp.at') (.slice p2 n2 c2) (Q i).l)) (fun _ y _ => n2 - (intOf y).toNat)
      case atStart =>
        refine ⟨p, k, c, 0, rfl, rfl, Nat.zero_le _, ?_⟩
        rw [List.take_zero, List.map_nil, List.append_nil]
        exact HI
      case round =>
        clear HI
        obtain ⟨p, k, c, j, rfl, rfl, hj, HI⟩ := hrel
        by_cases hjn : j = n2
        · subst hjn
          have HF : Hid (Tq w wr now W Q mb rr M (fun z => left z && !z.sameKey (.string s.nm)) cnt2 (.slice p k c) (L ++ (Q i).l.map Stp.at')) := by
            have h1 := HI.out
            rw [List.take_of_length_le (Nat.le_of_eq HN.out.1)] at h1
            exact HO.out wr p k c ⟨h1.rg, h1.row, Row.nil _, h1.b⟩
          clear HI hj HO
          go_wp2_with fail
          exact ⟨⟨p, k, c, _, _, _, rfl, HF.out⟩, by rw [HF.out.rg.left_eq, HC.out.2]; exact HC.out.1⟩
        · have hlt3 : (j : Int) < (n2 : Int) := by omega
          have hd3 : decide ((j : Int) < (n2 : Int)) = true := decide_eq_true hlt3
          obtain ⟨st, hst⟩ : ∃ st, (Q i).l[j]? = some st := ⟨(Q i).l[j]'(by have := HN.out.1; omega), List.getElem?_eq_getElem _⟩
          obtain ⟨g2, cc, e2⟩ := HI.out.st.row (by have := HN.out.1; omega)
          obtain ⟨rfl, -, -⟩ : p2 = some ⟨g2, 0, none⟩ ∧ n2 = (Q i).l.length ∧ c2 = cc := by
            injection e2 with a b c
            exact ⟨a, b, c⟩
          obtain ⟨c0, c1, c2', c3, c4⟩ := HI.out.st.cells hst
          have HT1 : Hid ((Q i).l[j]? = some st) := hst
          clear e2 hst
          have I1 : Hid (Ti w ((wr.alloc (.cells #[.int .i64 st.at', .int .i64 st.fr.a, .int .i64 st.fr.b, .int .i64 st.fr.c, .int .i64 st.fr.d] 87)).alloc (.cells #[.int .i64 st.at'] 2)) mb rr M (fun z => left z && !z.sameKey (.string s.nm)) cnt2 (.slice p k c) (L ++ ((Q i).l.take j).map Stp.at') (.slice (some ⟨g2, 0, none⟩) n2 c2) (Q i).l) := HI.out.below (((Below.refl _ _).alloc (Nat.le_refl _) _).alloc (by simp) _)
          have hln : Hid ((L ++ ((Q i).l.take j).map Stp.at').length ≤ 100000000) := by
            have h1 := HLL.out
            show _ ≤ _
            rw [List.length_append, List.length_map, List.length_take]
            omega
          have A1 := new1 (w := wr) (o := .cells #[.int .i64 st.at', .int .i64 st.fr.a, .int .i64 st.fr.b, .int .i64 st.fr.c, .int .i64 st.fr.d] 87) (o' := .cells #[.int .i64 st.at'] 2)
          have hszw : Hid (w.heap.size ≤ ((wr.alloc (.cells #[.int .i64 st.at', .int .i64 st.fr.a, .int .i64 st.fr.b, .int .i64 st.fr.c, .int .i64 st.fr.d] 87)).alloc (.cells #[.int .i64 st.at'] 2)).heap.size) := I1.out.b.size
          clear HI
          go_wp2_with (first
            | (at_builtin; refine append_tick (w := (wr.alloc (.cells #[.int .i64 st.at', .int .i64 st.fr.a, .int .i64 st.fr.b, .int .i64 st.fr.c, .int .i64 st.fr.d] 87)).alloc (.cells #[.int .i64 st.at'] 2)) rfl _ _ rfl w.heap.size (.slice p k c) (L ++ ((Q i).l.take j).map Stp.at') rfl I1.out.row (wr.heap.size + 1) 1 st.at' rfl (Lib.cell_of_heap A1 0) hln.out hszw.out ?_; intro v' w5 ho hg)
            | go_in)
          · skip
            obtain ⟨p', k', c', rfl⟩ : ∃ p' k' c', v' = .slice p' k' c' := by
              rcases ho.2 with ⟨e, hx⟩ | ⟨g, cap, cur, rfl, _⟩
              · exact ⟨_, _, _, e⟩
              · exact ⟨_, _, _, rfl⟩
            have HF : Hid (Ti w w5 mb rr M (fun z => left z && !z.sameKey (.string s.nm)) cnt2 (.slice p' k' c') (L ++ ((Q i).l.take (j + 1)).map Stp.at') (.slice (some ⟨g2, 0, none⟩) n2 c2) (Q i).l) := by
              have h1 := I1.out.app ho hg
              rw [take_next HT1.out, List.map_append, ← List.append_assoc]
              exact h1
            clear I1 ho hg A1 hszw hln c0 c1 c2' c3 c4
            go_wp2_with fail
            exact ⟨⟨p', k', c', j + 1, rfl, by simp, by omega, HF.out⟩, by simp only [intOf]; omega⟩
end Go.Proofs.Ytjgibngnjlciaaa
