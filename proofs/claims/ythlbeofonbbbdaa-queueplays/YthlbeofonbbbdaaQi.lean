/-
  add: its walks.
-/
import Derived.Test.YthlbeofonbbbdaaQh
import Derived.Test.YthlbeofonbbbdaaShelf
import Derived.Deep.RegionHeld3
namespace Go.Proofs.Ythlbeofonbbbdaa
open Go.RowKit Go.Maps Go.WideMaps

theorem clone_at (s : ByteArray) (w : World) (h : s.size ≤ 281474976710656) : Calls Try.prog 39 #[.string s] w fun e w' => e = .returned (.string s) ∧ Below w.heap.size w w' := by
  have H : Hid (∀ w, Calls Try.prog 52 #[.string s] w fun e w' => e = .returned (.string s) ∧ Below w.heap.size w w') := fun w => Try.stringslite_Clone s w h
  go_enter Try.func39, Try.ntmps39
  go_wp2_with (go_at_call 52; refine (H.out _).mono ?_; rintro e w1 ⟨rfl, b1⟩)
  go_ret
  exact ⟨rfl, b1⟩
/-- the new waiter is laid, and stands in the map -/
structure A0 (w W : World) (F : Nat → Prop) (o2 : Obj) (pb m m2 b0 eb : Nat) (j p : Int) (s : ByteArray) (M : DataW Nat) : Prop where
  pc : W.heap[pb]? = some (.cells #[.map (some m), .map (some m2)] 54 (0, 0))
  bx : W.heap[b0]? = some (.cells #[.int .i64 j, .string s, .int .i64 p] 32 (0, 0))
  en : W.heap[eb]? = some (.cells #[.int .i64 j, .string s, .int .i64 p, .int .i64 0] 76 (0, 0))
  mp : W.ownsMap Try.prog 2 pE m (Maps.size M + 1) (M.put (.int .i64 j) (.held eb))
  f2 : W.heap[m2]? = some o2
  kp : Kp F w W
  l0 : w.heap.size ≤ b0
  le : w.heap.size ≤ eb
section
variable {w W W' : World} {F : Nat → Prop} {o2 : Obj} {pb m m2 b0 eb : Nat} {j p : Int} {s : ByteArray} {M : DataW Nat}
theorem A0.gw (h : A0 w W F o2 pb m m2 b0 eb j p s M) (b : Gw W W') : A0 w W' F o2 pb m m2 b0 eb j p s M :=
  ⟨at_below b.1 (Nat.le_refl _) h.pc, at_below b.1 (Nat.le_refl _) h.bx, at_below b.1 (Nat.le_refl _) h.en, keepMap h.mp (b.1.block m h.mp.lt), at_below b.1 (Nat.le_refl _) h.f2, h.kp.trans (Kp.of_below b.1 (S := fun _ => False)) (fun _ _ e => e.elim), h.l0, h.le⟩
theorem A0.drew (h : A0 w W F o2 pb m m2 b0 eb j p s M) (n : Nat) : A0 w (W.drewN n) F o2 pb m m2 b0 eb j p s M := h.gw ((Gw.refl W).drewN n)
end
theorem Gw.drew0 {w w' : World} {n : Nat} (h : Gw (w.drewN n) w') (_ : Nat) : Gw w w' := ⟨⟨h.1.os, h.1.tape, h.1.output, h.1.size, h.1.block⟩, Nat.le_trans (Nat.le_add_right _ _) h.2⟩
/-- ahead of the clone -/
structure V0 (w V : World) (F : Nat → Prop) (o2 : Obj) (pb m m2 b0 : Nat) (j p : Int) (s : ByteArray) (M : DataW Nat) : Prop where
  pc : V.heap[pb]? = some (.cells #[.map (some m), .map (some m2)] 54 (0, 0))
  bx : V.heap[b0]? = some (.cells #[.int .i64 j, .string s, .int .i64 p] 32 (0, 0))
  mp : V.ownsMap Try.prog 2 pE m (Maps.size M) M
  f2 : V.heap[m2]? = some o2
  kp : Kp F w V
  l0 : w.heap.size ≤ b0
  ne : m2 ≠ m
  Fm : m < w.heap.size → F m
theorem V0.step {w V w1 : World} {F : Nat → Prop} {o2 : Obj} {pb m m2 b0 : Nat} {j p : Int} {s : ByteArray} {M : DataW Nat} (h : V0 w V F o2 pb m m2 b0 j p s M) (h2 : ∀ cs t f, o2 ≠ .cells cs t f) (b : Below V.heap.size V w1) : V0 w (w1.setCell ⟨b0, 1, none⟩ (.string s)) F o2 pb m m2 b0 j p s M := by
  have hq := at_below b (Nat.le_refl _) h.bx
  have hne : ∀ k o, V.heap[k]? = some o → k ≠ b0 → (w1.setCell ⟨b0, 1, none⟩ (.string s)).heap[k]? = some o := fun k o hk hn => (Below.heap_setCell _ _ _ _ hn).trans (at_below b (Nat.le_refl _) hk)
  have hpb : pb ≠ b0 := fun e => by have := h.pc; rw [e, h.bx] at this; cases this
  have hm : m ≠ b0 := fun e => by
    obtain ⟨es, clock, hb, -⟩ := h.mp
    rw [e, h.bx] at hb
    cases hb
  have hm2 : m2 ≠ b0 := fun e => by have := h.f2; rw [e, h.bx] at this; exact h2 _ _ _ (Option.some.inj this).symm
  refine ⟨hne _ _ h.pc hpb, setB hq _, keepMap h.mp ((Below.heap_setCell _ _ _ _ hm).trans (b.block m h.mp.lt)), hne _ _ h.f2 hm2, ?_, h.l0, h.ne, h.Fm⟩
  exact (h.kp.trans (Kp.of_below b (S := fun _ => False)) (fun _ _ e => e.elim)).trans (Kp.of_set (S := (· = b0)) _ ⟨b0, 1, none⟩ _ rfl) fun k hk e => by have := h.l0; omega
theorem V0.upd {w V W3 : World} {F : Nat → Prop} {o2 : Obj} {pb m m2 b0 : Nat} {j p : Int} {s : ByteArray} {M : DataW Nat} (h : V0 w V F o2 pb m m2 b0 j p s M) (hown3 : W3.ownsMap Try.prog 2 pE m (Maps.size M + 1) (M.put (.int .i64 j) (.held V.heap.size))) (hk : Kp (· = m) (V.alloc (.cells #[.int .i64 j, .string s, .int .i64 p, .int .i64 0] 76)) W3) : A0 w W3 F o2 pb m m2 b0 V.heap.size j p s M := by
  have hml := h.mp.lt
  have at3 : ∀ q o, q ≠ m → (V.alloc (.cells #[.int .i64 j, .string s, .int .i64 p, .int .i64 0] 76)).heap[q]? = some o → W3.heap[q]? = some o := fun q o hq ho => (hk.block q (Array.getElem?_eq_some_iff.1 ho).1 hq).trans ho
  have hmap : ∀ k cs t f, V.heap[k]? = some (.cells cs t f) → k ≠ m := fun k cs t f hc e => by
    obtain ⟨es, clock, hb, -⟩ := h.mp
    rw [← e, hc] at hb
    cases hb
  refine ⟨at3 pb _ (hmap _ _ _ _ h.pc) (at_alloc h.pc), at3 _ _ (hmap _ _ _ _ h.bx) (at_alloc h.bx), at3 _ _ (by omega) new0, hown3, at3 _ _ h.ne (at_alloc h.f2), ?_, h.l0, h.kp.size⟩
  refine (h.kp.trans (Kp.alloc (S := fun _ => False) V _) (fun _ _ e => e.elim)).trans hk fun k hk' e => ?_
  rw [e] at hk' ⊢
  exact h.Fm hk'
set_option maxHeartbeats 2000000 in
set_option maxRecDepth 100000 in
/-- with maps, where the tenant has a heap -/
theorem add_ok (w : World) (pb : Nat) (m m2 : Nat) (j p : Int) (s : ByteArray) (M : DataW Nat) (v : Value) (k : K) (g : Int) (F : Nat → Prop) (o2 : Obj) (P : World → Nat → World → Prop) (hs : Hid (s.size ≤ 281474976710656)) (hj : Hid (wf j)) (hM : Hid (Maps.size M < maxLen)) (ho2 : ∀ cs t f, o2 ≠ .cells cs t f)
    (hc : Hid (w.heap[pb]? = some (.cells #[.map (some m), .map (some m2)] 54 (0, 0)))) (hm : w.ownsMap Try.prog 2 pE m (Maps.size M) M) (h2 : w.heap[m2]? = some o2) (hne : m2 ≠ m) (hF : F m)
    (HLK : Hid (∀ W b0 eb, A0 w W F o2 pb m m2 b0 eb j p s M → (Instr.lookup 52 (.map (some m2)) (.string s) false).run Try.prog W = .ok v W))
    (H41 : Hid (∀ W b0 eb, A0 w W F o2 pb m m2 b0 eb j p s M → Calls Try.prog 41 #[.pointer (some ⟨eb, 0, none⟩)] W fun e w' => e = .returned (.agg #[.int .i64 k.a, .int .i64 k.b, .int .i64 k.c]) ∧ Gw W w'))
    (H40 : Hid (∀ W b0 eb, A0 w W F o2 pb m m2 b0 eb j p s M → Calls Try.prog 40 #[v, .agg #[.int .i64 k.a, .int .i64 k.b, .int .i64 k.c]] W fun e w' => e = .returned (.tuple #[.int .i64 g, .int .i64 0]) ∧ Hid (P W eb w' ∧ ∀ q o, (w.heap.size ≤ q ∨ q = pb) → W.heap[q]? = some o → w'.heap[q]? = some o))) :
    Calls Try.prog 30 #[.pointer (some ⟨pb, 0, none⟩), .agg #[.int .i64 j, .string s, .int .i64 p]] w (fun e w' => e = .returned (.tuple #[]) ∧ ∃ W b0 eb w6, A0 w W F o2 pb m m2 b0 eb j p s M ∧ P W eb w6 ∧ w' = w6.setCell ⟨eb, 3, none⟩ (.int .i64 g)) := by
  have hlt := (Array.getElem?_eq_some_iff.1 hc.out).1
  obtain ⟨q0, q1⟩ := c2 hc.out
  have qT : ∀ (w : World) (r : Option Nat), (binOp .eql 51 (.map r) (.map none)).run Try.prog w = .ok (.bool r.isNone) w := fun w r => run_eql_map_nil w _ _ _ r Try.underlying51
  go_enter Try.func30, Try.ntmps30
  go_upto_region 4 with fail
  have HV : V0 w (w.alloc (.cells #[.int .i64 j, .string s, .int .i64 p] 32)) F o2 pb m m2 w.heap.size j p s M := ⟨at_alloc hc.out, new0, keepMap hm (Below.heap_alloc _ _ _ hm.lt), at_alloc h2, Kp.alloc _ _, Nat.le_refl _, hne, fun _ => hF⟩
  clear q0 q1 qT hlt hc hm h2 hne hF
  obtain ⟨V, hVW⟩ : ∃ V, V = w.alloc (.cells #[.int .i64 j, .string s, .int .i64 p] 32) := ⟨_, rfl⟩
  have XV : Hid (V0 w V F o2 pb m m2 w.heap.size j p s M) := by rw [hVW]; exact HV
  rw [← hVW]
  clear hVW HV
  have hsb : Hid (∀ cs t f, o2 ≠ .cells cs t f) := ho2
  clear ho2
  have HC := clone_at s V hs.out
  obtain ⟨v0, v1, v2⟩ := c3 XV.out.bx
  go_upto_region 5 with (go_at_call 39; refine HC.mono ?_; rintro e w1 ⟨rfl, b1⟩; have hq := at_below b1 (Nat.le_refl _) XV.out.bx; have hlt2 := (Array.getElem?_eq_some_iff.1 hq).1; obtain ⟨z0, z1, z2⟩ := c3 hq; have f1 := fz hq 1)
  have X0 : Hid (V0 w (w1.setCell ⟨w.heap.size, 1, none⟩ (.string s)) F o2 pb m m2 w.heap.size j p s M) := XV.out.step hsb.out b1
  clear b1 hq hlt2 z0 z1 z2 f1 HC XV v0 v1 v2 hsb
  generalize w1.setCell ⟨w.heap.size, 1, none⟩ (.string s) = W1 at *
  obtain ⟨z0, z1, z2⟩ := c3 X0.out.bx
  go_upto_region 6 with fail
  obtain ⟨W3, hr3, H3⟩ : ∃ W3, (Instr.mapUpdate 51 (.map (some m)) (.int .i64 j) (.pointer (some ⟨W1.heap.size, 0, none⟩))).run Try.prog (W1.alloc (.cells #[.int .i64 j, .string s, .int .i64 p, .int .i64 0] 76)).drew = .ok () W3 ∧ Hid (A0 w W3 F o2 pb m m2 w.heap.size W1.heap.size j p s M) := by
    have o1 : (W1.alloc (.cells #[.int .i64 j, .string s, .int .i64 p, .int .i64 0] 76)).drew.ownsMap Try.prog 2 pE m (Maps.size M) M := keepMap X0.out.mp (Below.heap_alloc W1 _ m X0.out.mp.lt)
    obtain ⟨W3, hr3, hown3, hgr3⟩ := o1.update law2 Try.underlying51 hM.out (keyOf_int_mk Try.underlying2 hj.out) (val := .pointer (some ⟨W1.heap.size, 0, none⟩)) (d := .held W1.heap.size) (ps := []) rfl
    have hk : Kp (· = m) (W1.alloc (.cells #[.int .i64 j, .string s, .int .i64 p, .int .i64 0] 76)).drew W3 := Kp.of_grown hgr3 fun k e => (Option.some.inj e).symm
    exact ⟨W3, hr3, X0.out.upd hown3 ⟨hk.os, hk.tape, hk.output, hk.size, hk.block⟩⟩
  have p0 := (c2 (at_alloc (o' := .cells #[.int .i64 j, .string s, .int .i64 p, .int .i64 0] 76) X0.out.pc)).1
  obtain ⟨y0, -⟩ := c3 (at_alloc (o' := .cells #[.int .i64 j, .string s, .int .i64 p, .int .i64 0] 76) X0.out.bx)
  clear z0 z1 z2 X0
  generalize W1.alloc (.cells #[.int .i64 j, .string s, .int .i64 p, .int .i64 0] 76) = W2 at *
  generalize W1.heap.size = eb at *
  go_region
  go_wp2_with fail
  have HK3 := HLK.out W3 _ _ H3.out
  have HK3d : (Instr.lookup 52 (.map (some m2)) (.string s) false).run Try.prog W3.drew = .ok v W3.drew := HLK.out (W3.drewN 1) _ _ (H3.out.drew 1)
  have X41 : Calls Try.prog 41 #[.pointer (some ⟨eb, 0, none⟩)] W3.drew fun e w' => e = .returned (.agg #[.int .i64 k.a, .int .i64 k.b, .int .i64 k.c]) ∧ Gw (W3.drewN 1) w' := H41.out (W3.drewN 1) _ _ (H3.out.drew 1)
  have c1 := (c2 H3.out.pc).2
  obtain ⟨-, x1, -⟩ := c3 H3.out.bx
  clear hr3 p0 y0
  have zz : W3.cell? ⟨pb, 1, none⟩ = some (.map (some m2)) ∧ W3.cell? ⟨w.heap.size, 1, none⟩ = some (.string s) := ⟨c1, x1⟩
  have zd : W3.drew.cell? ⟨pb, 1, none⟩ = some (.map (some m2)) ∧ W3.drew.cell? ⟨w.heap.size, 1, none⟩ = some (.string s) := ⟨c1, x1⟩
  go_region_held3 (fun W : World => W.cell? ⟨pb, 1, none⟩ = some (.map (some m2)) ∧ W.cell? ⟨w.heap.size, 1, none⟩ = some (.string s)) (first | (with_reducible assumption) | (exact zd) | (exact zz) | go_keep) (first
    | (go_at_call 41; refine X41.mono ?_; rintro e w5 ⟨rfl, b5⟩; have A5 := H3.out.gw (b5.drew0 1); have zz := And.intro (c2 A5.pc).2 (c3 A5.bx).2.1; have lk5 := HLK.out w5 _ _ A5)
    | (go_at_call 40; refine (H40.out _ _ _ A5).mono ?_; rintro e w6 ⟨rfl, h6⟩; have h6p := h6.out.2 _ _ (.inr rfl) A5.pc; have h6b := h6.out.2 _ _ (.inl A5.l0) A5.bx; have h6e := h6.out.2 _ _ (.inl A5.le) A5.en; have zz := And.intro (c2 h6p).2 (c3 h6b).2.1))
  all_goals (have hl6 := (Array.getElem?_eq_some_iff.1 h6e).1)
  all_goals (obtain ⟨-, -, -, y3⟩ := c4 h6e)
  all_goals (have g3 := fz h6e 3)
  all_goals go_wp2_with fail
  all_goals go_end0
  all_goals exact ⟨rfl, _, _, _, _, A5, h6.out.1, rfl⟩
set_option maxHeartbeats 2000000 in
set_option maxRecDepth 100000 in
/-- with maps, where the tenant has no heap yet -/
theorem add_no (w : World) (pb : Nat) (m m2 : Nat) (j p : Int) (s : ByteArray) (M : DataW Nat) (v : Value) (k : K) (g : Int) (F : Nat → Prop) (o2 : Obj) (P : World → Nat → World → Prop) (R : World → Prop) (hs : Hid (s.size ≤ 281474976710656)) (hj : Hid (wf j)) (hM : Hid (Maps.size M < maxLen)) (ho2 : ∀ cs t f, o2 ≠ .cells cs t f)
    (hc : Hid (w.heap[pb]? = some (.cells #[.map (some m), .map (some m2)] 54 (0, 0)))) (hm : w.ownsMap Try.prog 2 pE m (Maps.size M) M) (h2 : w.heap[m2]? = some o2) (hne : m2 ≠ m) (hF : F m)
    (HLK : Hid (∀ W b0 eb, A0 w W F o2 pb m m2 b0 eb j p s M → (Instr.lookup 52 (.map (some m2)) (.string s) false).run Try.prog W = .ok v W))
    (H41 : Hid (∀ W b0 eb, A0 w W F o2 pb m m2 b0 eb j p s M → Calls Try.prog 41 #[.pointer (some ⟨eb, 0, none⟩)] W fun e w' => e = .returned (.agg #[.int .i64 k.a, .int .i64 k.b, .int .i64 k.c]) ∧ Gw W w'))
    (H40 : Hid (∀ W b0 eb, A0 w W F o2 pb m m2 b0 eb j p s M → Calls Try.prog 40 #[v, .agg #[.int .i64 k.a, .int .i64 k.b, .int .i64 k.c]] W fun e w' => e = .returned (.tuple #[.int .i64 g, .int .i64 10]) ∧ Hid (P W eb w' ∧ ∀ q o, (w.heap.size ≤ q ∨ q = pb) → W.heap[q]? = some o → w'.heap[q]? = some o)))
    (H42 : Hid (∀ W b0 eb w6, A0 w W F o2 pb m m2 b0 eb j p s M → P W eb w6 → Calls Try.prog 42 #[.pointer (some ⟨pb, 0, none⟩), .string s] w6 fun e w' => e = .returned (.tuple #[]) ∧ Hid (R w'))) :
    Calls Try.prog 30 #[.pointer (some ⟨pb, 0, none⟩), .agg #[.int .i64 j, .string s, .int .i64 p]] w (fun e w' => e = .returned (.tuple #[]) ∧ R w') := by
  have hlt := (Array.getElem?_eq_some_iff.1 hc.out).1
  obtain ⟨q0, q1⟩ := c2 hc.out
  have qT : ∀ (w : World) (r : Option Nat), (binOp .eql 51 (.map r) (.map none)).run Try.prog w = .ok (.bool r.isNone) w := fun w r => run_eql_map_nil w _ _ _ r Try.underlying51
  go_enter Try.func30, Try.ntmps30
  go_upto_region 4 with fail
  have HV : V0 w (w.alloc (.cells #[.int .i64 j, .string s, .int .i64 p] 32)) F o2 pb m m2 w.heap.size j p s M := ⟨at_alloc hc.out, new0, keepMap hm (Below.heap_alloc _ _ _ hm.lt), at_alloc h2, Kp.alloc _ _, Nat.le_refl _, hne, fun _ => hF⟩
  clear q0 q1 qT hlt hc hm h2 hne hF
  obtain ⟨V, hVW⟩ : ∃ V, V = w.alloc (.cells #[.int .i64 j, .string s, .int .i64 p] 32) := ⟨_, rfl⟩
  have XV : Hid (V0 w V F o2 pb m m2 w.heap.size j p s M) := by rw [hVW]; exact HV
  rw [← hVW]
  clear hVW HV
  have hsb : Hid (∀ cs t f, o2 ≠ .cells cs t f) := ho2
  clear ho2
  have HC := clone_at s V hs.out
  obtain ⟨v0, v1, v2⟩ := c3 XV.out.bx
  go_upto_region 5 with (go_at_call 39; refine HC.mono ?_; rintro e w1 ⟨rfl, b1⟩; have hq := at_below b1 (Nat.le_refl _) XV.out.bx; have hlt2 := (Array.getElem?_eq_some_iff.1 hq).1; obtain ⟨z0, z1, z2⟩ := c3 hq; have f1 := fz hq 1)
  have X0 : Hid (V0 w (w1.setCell ⟨w.heap.size, 1, none⟩ (.string s)) F o2 pb m m2 w.heap.size j p s M) := XV.out.step hsb.out b1
  clear b1 hq hlt2 z0 z1 z2 f1 HC XV v0 v1 v2 hsb
  generalize w1.setCell ⟨w.heap.size, 1, none⟩ (.string s) = W1 at *
  obtain ⟨z0, z1, z2⟩ := c3 X0.out.bx
  go_upto_region 6 with fail
  obtain ⟨W3, hr3, H3⟩ : ∃ W3, (Instr.mapUpdate 51 (.map (some m)) (.int .i64 j) (.pointer (some ⟨W1.heap.size, 0, none⟩))).run Try.prog (W1.alloc (.cells #[.int .i64 j, .string s, .int .i64 p, .int .i64 0] 76)).drew = .ok () W3 ∧ Hid (A0 w W3 F o2 pb m m2 w.heap.size W1.heap.size j p s M) := by
    have o1 : (W1.alloc (.cells #[.int .i64 j, .string s, .int .i64 p, .int .i64 0] 76)).drew.ownsMap Try.prog 2 pE m (Maps.size M) M := keepMap X0.out.mp (Below.heap_alloc W1 _ m X0.out.mp.lt)
    obtain ⟨W3, hr3, hown3, hgr3⟩ := o1.update law2 Try.underlying51 hM.out (keyOf_int_mk Try.underlying2 hj.out) (val := .pointer (some ⟨W1.heap.size, 0, none⟩)) (d := .held W1.heap.size) (ps := []) rfl
    have hk : Kp (· = m) (W1.alloc (.cells #[.int .i64 j, .string s, .int .i64 p, .int .i64 0] 76)).drew W3 := Kp.of_grown hgr3 fun k e => (Option.some.inj e).symm
    exact ⟨W3, hr3, X0.out.upd hown3 ⟨hk.os, hk.tape, hk.output, hk.size, hk.block⟩⟩
  have p0 := (c2 (at_alloc (o' := .cells #[.int .i64 j, .string s, .int .i64 p, .int .i64 0] 76) X0.out.pc)).1
  obtain ⟨y0, -⟩ := c3 (at_alloc (o' := .cells #[.int .i64 j, .string s, .int .i64 p, .int .i64 0] 76) X0.out.bx)
  clear z0 z1 z2 X0
  generalize W1.alloc (.cells #[.int .i64 j, .string s, .int .i64 p, .int .i64 0] 76) = W2 at *
  generalize W1.heap.size = eb at *
  go_region
  go_wp2_with fail
  have HK3 := HLK.out W3 _ _ H3.out
  have HK3d : (Instr.lookup 52 (.map (some m2)) (.string s) false).run Try.prog W3.drew = .ok v W3.drew := HLK.out (W3.drewN 1) _ _ (H3.out.drew 1)
  have X41 : Calls Try.prog 41 #[.pointer (some ⟨eb, 0, none⟩)] W3.drew fun e w' => e = .returned (.agg #[.int .i64 k.a, .int .i64 k.b, .int .i64 k.c]) ∧ Gw (W3.drewN 1) w' := H41.out (W3.drewN 1) _ _ (H3.out.drew 1)
  have c1 := (c2 H3.out.pc).2
  obtain ⟨-, x1, -⟩ := c3 H3.out.bx
  clear hr3 p0 y0
  have zz : W3.cell? ⟨pb, 1, none⟩ = some (.map (some m2)) ∧ W3.cell? ⟨w.heap.size, 1, none⟩ = some (.string s) := ⟨c1, x1⟩
  have zd : W3.drew.cell? ⟨pb, 1, none⟩ = some (.map (some m2)) ∧ W3.drew.cell? ⟨w.heap.size, 1, none⟩ = some (.string s) := ⟨c1, x1⟩
  go_region_held3 (fun W : World => W.cell? ⟨pb, 1, none⟩ = some (.map (some m2)) ∧ W.cell? ⟨w.heap.size, 1, none⟩ = some (.string s)) (first | (with_reducible assumption) | (exact zd) | (exact zz) | go_keep) (first
    | (go_at_call 41; refine X41.mono ?_; rintro e w5 ⟨rfl, b5⟩; have A5 := H3.out.gw (b5.drew0 1); have zz := And.intro (c2 A5.pc).2 (c3 A5.bx).2.1; have lk5 := HLK.out w5 _ _ A5)
    | (go_at_call 40; refine (H40.out _ _ _ A5).mono ?_; rintro e w6 ⟨rfl, h6⟩; have h6p := h6.out.2 _ _ (.inr rfl) A5.pc; have h6b := h6.out.2 _ _ (.inl A5.l0) A5.bx; have h6e := h6.out.2 _ _ (.inl A5.le) A5.en; have zz := And.intro (c2 h6p).2 (c3 h6b).2.1))
  all_goals (have hl6 := (Array.getElem?_eq_some_iff.1 h6b).1)
  all_goals (have X42 := H42.out _ _ _ _ A5 h6.out.1)
  all_goals (obtain ⟨-, y1, -⟩ := c3 h6b)
  all_goals go_wp2_with (go_at_call 42; refine X42.mono ?_; first | rintro e w7 rfl h7 | rintro e w7 ⟨rfl, h7⟩)
  all_goals exact bodyPost_ret (v := .tuple #[]) (results_none rfl _ _ _) rfl ⟨rfl, h7.out⟩
set_option maxHeartbeats 2000000 in
set_option maxRecDepth 100000 in
/-- without maps -/
theorem add_nil (w : World) (pb : Nat) (j p : Int) (s : ByteArray) (M : DataW Nat) (v : Value) (k : K) (g : Int) (F : Nat → Prop) (o2 : Obj) (P : World → Nat → World → Prop) (R : World → Prop) (hs : Hid (s.size ≤ 281474976710656)) (hj : Hid (wf j)) (hM : Hid (Maps.size M < maxLen)) (ho2 : ∀ cs t f, o2 ≠ .cells cs t f)
    (hc : Hid (w.heap[pb]? = some (.cells #[.map none, .map none] 54 (0, 0)))) (m m2 : Nat) (em : m = w.heap.size + 1) (em2 : m2 = w.heap.size + 2) (hM0 : M = m0) (hF : F pb) (ho : o2 = .map #[] 0)
    (HLK : Hid (∀ W b0 eb, A0 w W F o2 pb m m2 b0 eb j p s M → (Instr.lookup 52 (.map (some m2)) (.string s) false).run Try.prog W = .ok v W))
    (H41 : Hid (∀ W b0 eb, A0 w W F o2 pb m m2 b0 eb j p s M → Calls Try.prog 41 #[.pointer (some ⟨eb, 0, none⟩)] W fun e w' => e = .returned (.agg #[.int .i64 k.a, .int .i64 k.b, .int .i64 k.c]) ∧ Gw W w'))
    (H40 : Hid (∀ W b0 eb, A0 w W F o2 pb m m2 b0 eb j p s M → Calls Try.prog 40 #[v, .agg #[.int .i64 k.a, .int .i64 k.b, .int .i64 k.c]] W fun e w' => e = .returned (.tuple #[.int .i64 g, .int .i64 10]) ∧ Hid (P W eb w' ∧ ∀ q o, (w.heap.size ≤ q ∨ q = pb) → W.heap[q]? = some o → w'.heap[q]? = some o)))
    (H42 : Hid (∀ W b0 eb w6, A0 w W F o2 pb m m2 b0 eb j p s M → P W eb w6 → Calls Try.prog 42 #[.pointer (some ⟨pb, 0, none⟩), .string s] w6 fun e w' => e = .returned (.tuple #[]) ∧ Hid (R w'))) :
    Calls Try.prog 30 #[.pointer (some ⟨pb, 0, none⟩), .agg #[.int .i64 j, .string s, .int .i64 p]] w (fun e w' => e = .returned (.tuple #[]) ∧ R w') := by
  have hlt := (Array.getElem?_eq_some_iff.1 hc.out).1
  obtain ⟨q0, q1⟩ := c2 hc.out
  have qT : ∀ (w : World) (r : Option Nat), (binOp .eql 51 (.map r) (.map none)).run Try.prog w = .ok (.bool r.isNone) w := fun w r => run_eql_map_nil w _ _ _ r Try.underlying51
  have fz0 := fz hc.out 0
  have fz1 := fz hc.out 1
  have hmm := @run_makeMap Try.prog
  go_enter Try.func30, Try.ntmps30
  go_upto_region 3 with fail
  obtain ⟨V1, hV1⟩ : ∃ V1, V1 = ((w.setCell ⟨pb, 0, none⟩ (.map (some (w.heap.size + 1)))).alloc (.cells #[.int .i64 j, .string s, .int .i64 p] 32)).alloc (.map #[] 0) := ⟨_, rfl⟩
  have hP1 : V1.heap[pb]? = some (.cells #[.map (some (w.heap.size + 1)), .map none] 54 (0, 0)) := by rw [hV1]; exact at_alloc (at_alloc (setB hc.out _))
  have hsz0 : (w.setCell ⟨pb, 0, none⟩ (.map (some (w.heap.size + 1)))).heap.size = w.heap.size := by simp [World.setCell]
  have hS1 : V1.heap.size = w.heap.size + 2 := by rw [hV1, World.size_alloc, World.size_alloc, hsz0]
  have hB1 : V1.heap[w.heap.size]? = some (.cells #[.int .i64 j, .string s, .int .i64 p] 32 (0, 0)) := by
    rw [hV1]
    have := new0 (w := w.setCell ⟨pb, 0, none⟩ (.map (some (w.heap.size + 1)))) (o := .cells #[.int .i64 j, .string s, .int .i64 p] 32)
    rw [hsz0] at this
    exact at_alloc this
  have hM1 : V1.heap[w.heap.size + 1]? = some (.map #[] 0) := by
    rw [hV1]
    have := new0 (w := (w.setCell ⟨pb, 0, none⟩ (.map (some (w.heap.size + 1)))).alloc (.cells #[.int .i64 j, .string s, .int .i64 p] 32)) (o := .map #[] 0)
    rw [World.size_alloc, hsz0] at this
    exact this
  have hK1 : Kp (· = pb) w V1 := by
    rw [hV1]
    exact ((Kp.of_set (S := (· = pb)) w ⟨pb, 0, none⟩ _ rfl).trans (Kp.alloc (S := fun _ => False) _ _) (fun _ _ e => e.elim)).trans (Kp.alloc (S := fun _ => False) _ _) (fun _ _ e => e.elim)
  rw [← hV1]
  clear hV1 hsz0
  have hl1 := (Array.getElem?_eq_some_iff.1 hP1).1
  obtain ⟨-, r1⟩ := c2 hP1
  have fr1 := fz hP1 1
  have HS1 : Hid (V1.heap.size = w.heap.size + 2) := hS1
  clear hS1
  go_upto_region 4 with fail
  have HV : V0 w ((V1.setCell ⟨pb, 1, none⟩ (.map (some V1.heap.size))).alloc (.map #[] 0)) F o2 pb m m2 w.heap.size j p s M := by
    have hne : w.heap.size ≠ pb := by omega
    have hs1 := HS1.out
    have hsz : (V1.setCell ⟨pb, 1, none⟩ (.map (some V1.heap.size))).heap.size = V1.heap.size := by simp [World.setCell]
    have hmm2 : ((V1.setCell ⟨pb, 1, none⟩ (.map (some V1.heap.size))).alloc (.map #[] 0)).heap[w.heap.size + 1]? = some (.map #[] 0) := at_alloc ((Below.heap_setCell V1 ⟨pb, 1, none⟩ _ _ (by show w.heap.size + 1 ≠ pb; omega)).trans hM1)
    refine ⟨?_, at_alloc ((Below.heap_setCell V1 ⟨pb, 1, none⟩ _ _ hne).trans hB1), ?_, ?_, ?_, Nat.le_refl _, by omega, fun h => by omega⟩
    · rw [em, em2, ← hs1]
      exact at_alloc (setB hP1 _)
    · have q := World.ownsMap_made (w.alloc (.map #[] 0)) Try.prog 2 pE
      rw [World.size_alloc] at q
      rw [em, hM0]
      refine keepMap q (hmm2.trans ?_)
      have := new0 (w := w.alloc (.map #[] 0)) (o := .map #[] 0)
      rw [World.size_alloc] at this
      exact this.symm
    · rw [em2, ho, ← hs1]
      have := new0 (w := V1.setCell ⟨pb, 1, none⟩ (.map (some V1.heap.size))) (o := .map #[] 0)
      rw [hsz] at this
      exact this
    · refine ((hK1.mono (S' := F) fun k _ e => by rw [e]; exact hF).trans (Kp.of_set (S := (· = pb)) V1 ⟨pb, 1, none⟩ _ rfl) fun k _ e => by rw [e]; exact hF).trans (Kp.alloc (S := fun _ => False) _ _) (fun _ _ e => e.elim)
  rw [show V1.heap.size = m2 by rw [em2]; exact HS1.out] at HV ⊢
  rw [← em]
  clear q0 q1 qT hlt hc hmm fz0 fz1 hP1 hB1 hM1 hK1 hl1 r1 fr1 HS1 em em2 hM0 hF ho
  obtain ⟨V, hVW⟩ : ∃ V, V = (V1.setCell ⟨pb, 1, none⟩ (.map (some m2))).alloc (.map #[] 0) := ⟨_, rfl⟩
  have XV : Hid (V0 w V F o2 pb m m2 w.heap.size j p s M) := by rw [hVW]; exact HV
  rw [← hVW]
  clear hVW HV
  have hsb : Hid (∀ cs t f, o2 ≠ .cells cs t f) := ho2
  clear ho2
  have HC := clone_at s V hs.out
  obtain ⟨v0, v1, v2⟩ := c3 XV.out.bx
  go_upto_region 5 with (go_at_call 39; refine HC.mono ?_; rintro e w1 ⟨rfl, b1⟩; have hq := at_below b1 (Nat.le_refl _) XV.out.bx; have hlt2 := (Array.getElem?_eq_some_iff.1 hq).1; obtain ⟨z0, z1, z2⟩ := c3 hq; have f1 := fz hq 1)
  have X0 : Hid (V0 w (w1.setCell ⟨w.heap.size, 1, none⟩ (.string s)) F o2 pb m m2 w.heap.size j p s M) := XV.out.step hsb.out b1
  clear b1 hq hlt2 z0 z1 z2 f1 HC XV v0 v1 v2 hsb
  generalize w1.setCell ⟨w.heap.size, 1, none⟩ (.string s) = W1 at *
  obtain ⟨z0, z1, z2⟩ := c3 X0.out.bx
  go_upto_region 6 with fail
  obtain ⟨W3, hr3, H3⟩ : ∃ W3, (Instr.mapUpdate 51 (.map (some m)) (.int .i64 j) (.pointer (some ⟨W1.heap.size, 0, none⟩))).run Try.prog (W1.alloc (.cells #[.int .i64 j, .string s, .int .i64 p, .int .i64 0] 76)).drew = .ok () W3 ∧ Hid (A0 w W3 F o2 pb m m2 w.heap.size W1.heap.size j p s M) := by
    have o1 : (W1.alloc (.cells #[.int .i64 j, .string s, .int .i64 p, .int .i64 0] 76)).drew.ownsMap Try.prog 2 pE m (Maps.size M) M := keepMap X0.out.mp (Below.heap_alloc W1 _ m X0.out.mp.lt)
    obtain ⟨W3, hr3, hown3, hgr3⟩ := o1.update law2 Try.underlying51 hM.out (keyOf_int_mk Try.underlying2 hj.out) (val := .pointer (some ⟨W1.heap.size, 0, none⟩)) (d := .held W1.heap.size) (ps := []) rfl
    have hk : Kp (· = m) (W1.alloc (.cells #[.int .i64 j, .string s, .int .i64 p, .int .i64 0] 76)).drew W3 := Kp.of_grown hgr3 fun k e => (Option.some.inj e).symm
    exact ⟨W3, hr3, X0.out.upd hown3 ⟨hk.os, hk.tape, hk.output, hk.size, hk.block⟩⟩
  have p0 := (c2 (at_alloc (o' := .cells #[.int .i64 j, .string s, .int .i64 p, .int .i64 0] 76) X0.out.pc)).1
  obtain ⟨y0, -⟩ := c3 (at_alloc (o' := .cells #[.int .i64 j, .string s, .int .i64 p, .int .i64 0] 76) X0.out.bx)
  clear z0 z1 z2 X0
  generalize W1.alloc (.cells #[.int .i64 j, .string s, .int .i64 p, .int .i64 0] 76) = W2 at *
  generalize W1.heap.size = eb at *
  go_region
  go_wp2_with fail
  have HK3 := HLK.out W3 _ _ H3.out
  have HK3d : (Instr.lookup 52 (.map (some m2)) (.string s) false).run Try.prog W3.drew = .ok v W3.drew := HLK.out (W3.drewN 1) _ _ (H3.out.drew 1)
  have X41 : Calls Try.prog 41 #[.pointer (some ⟨eb, 0, none⟩)] W3.drew fun e w' => e = .returned (.agg #[.int .i64 k.a, .int .i64 k.b, .int .i64 k.c]) ∧ Gw (W3.drewN 1) w' := H41.out (W3.drewN 1) _ _ (H3.out.drew 1)
  have c1 := (c2 H3.out.pc).2
  obtain ⟨-, x1, -⟩ := c3 H3.out.bx
  clear hr3 p0 y0
  have zz : W3.cell? ⟨pb, 1, none⟩ = some (.map (some m2)) ∧ W3.cell? ⟨w.heap.size, 1, none⟩ = some (.string s) := ⟨c1, x1⟩
  have zd : W3.drew.cell? ⟨pb, 1, none⟩ = some (.map (some m2)) ∧ W3.drew.cell? ⟨w.heap.size, 1, none⟩ = some (.string s) := ⟨c1, x1⟩
  go_region_held3 (fun W : World => W.cell? ⟨pb, 1, none⟩ = some (.map (some m2)) ∧ W.cell? ⟨w.heap.size, 1, none⟩ = some (.string s)) (first | (with_reducible assumption) | (exact zd) | (exact zz) | go_keep) (first
    | (go_at_call 41; refine X41.mono ?_; rintro e w5 ⟨rfl, b5⟩; have A5 := H3.out.gw (b5.drew0 1); have zz := And.intro (c2 A5.pc).2 (c3 A5.bx).2.1; have lk5 := HLK.out w5 _ _ A5)
    | (go_at_call 40; refine (H40.out _ _ _ A5).mono ?_; rintro e w6 ⟨rfl, h6⟩; have h6p := h6.out.2 _ _ (.inr rfl) A5.pc; have h6b := h6.out.2 _ _ (.inl A5.l0) A5.bx; have h6e := h6.out.2 _ _ (.inl A5.le) A5.en; have zz := And.intro (c2 h6p).2 (c3 h6b).2.1))
  all_goals (have hl6 := (Array.getElem?_eq_some_iff.1 h6b).1)
  all_goals (have X42 := H42.out _ _ _ _ A5 h6.out.1)
  all_goals (obtain ⟨-, y1, -⟩ := c3 h6b)
  all_goals go_wp2_with (go_at_call 42; refine X42.mono ?_; first | rintro e w7 rfl h7 | rintro e w7 ⟨rfl, h7⟩)
  all_goals exact bodyPost_ret (v := .tuple #[]) (results_none rfl _ _ _) rfl ⟨rfl, h7.out⟩
end Go.Proofs.Ythlbeofonbbbdaa
