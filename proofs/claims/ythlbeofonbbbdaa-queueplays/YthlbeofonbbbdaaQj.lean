/-
  renew, for a tenant's first waiter.
-/
import Derived.Test.YthlbeofonbbbdaaQi
namespace Go.Proofs.Ythlbeofonbbbdaa
open Go.RowKit Go.Maps Go.WideMaps

/-- behind renew -/
structure Rn (w w' : World) (m2 eb n : Nat) (k : K) (s : List UInt8) (M : DataW Nat) (c : Array Value) (S' : HS) : Prop where
  hc : Hc w' w.heap.size (Ct.nil.put 0 k) 1 1 S'
  fp : ∀ q, Fp w.heap.size S' q → w.heap.size ≤ q
  mp : w'.ownsMap Try.prog 9 pE m2 (n + 1) (M.put (.string s) (.held w.heap.size))
  en : w'.heap[eb]? = some (.cells c 76 (0, 0))
  kp : Kp (· = m2) w w'
theorem fp_z {hb q : Nat} (h : Fp hb zS q) : q = hb := by
  rcases h with h | h | h | h
  · exact h
  · cases h
  · cases h
  · cases h
theorem rn_facts {w w3 w4 : World} {pb m2 eb n : Nat} {a : Value} {j p : Int} {s : ByteArray} {k : K} {M : DataW Nat} (hc : w.heap[pb]? = some (.cells #[a, .map (some m2)] 54 (0, 0))) (hs : s.size ≤ maxLen) (hM : w.ownsMap Try.prog 9 pE m2 n M) (hn : n < maxLen)
    (he : w.heap[eb]? = some (.cells #[.int .i64 j, .string s, .int .i64 p, .int .i64 0] 76 (0, 0))) (b3 : Below w.heap.size w w3) (h4 : ∃ S', Hc w4 w.heap.size (Ct.nil.put 0 k) 1 1 S' ∧ Chg w.heap.size zS S' w3 w4) :
    (w4.cell? ⟨eb, 3, none⟩ = some (.int .i64 0) ∧ w4.frozen? ⟨eb, 3, none⟩ = false ∧ eb < w4.heap.size) ∧ (w4.setCell ⟨eb, 3, none⟩ (.int .i64 0)).cell? ⟨pb, 1, none⟩ = some (.map (some m2)) ∧ ∃ W6, (Instr.mapUpdate 52 (.map (some m2)) (.string s) (.pointer (some ⟨w.heap.size, 0, none⟩))).run Try.prog (w4.setCell ⟨eb, 3, none⟩ (.int .i64 0)) = .ok () W6 ∧ Hid (∃ S', Rn w W6 m2 eb n k s.data.toList M #[.int .i64 j, .string s, .int .i64 p, .int .i64 0] S') := by
  obtain ⟨S', hC, hG⟩ := h4
  have kp4 : Kp (fun _ => False) w w4 := (Kp.of_below b3).trans hG.kp fun q hq e => by have := fp_z e; omega
  have at4 : ∀ q o, w.heap[q]? = some o → w4.heap[q]? = some o := fun q o ho => (kp4.block q (Array.getElem?_eq_some_iff.1 ho).1 (fun h => h)).trans ho
  have e4 := at4 _ _ he
  have hlt := (Array.getElem?_eq_some_iff.1 he).1
  have hse : (w4.setCell ⟨eb, 3, none⟩ (.int .i64 0)).heap[eb]? = some (.cells #[.int .i64 j, .string s, .int .i64 p, .int .i64 0] 76 (0, 0)) := setB e4 _
  have at5 : ∀ q o, q ≠ eb → w4.heap[q]? = some o → (w4.setCell ⟨eb, 3, none⟩ (.int .i64 0)).heap[q]? = some o := fun q o hq ho => (Below.heap_setCell _ _ _ _ hq).trans ho
  have hpe : pb ≠ eb := fun e => by rw [e, he] at hc; cases hc
  have hme : m2 ≠ eb := fun e => by
    obtain ⟨es, clock, hb, -⟩ := hM
    rw [e, he] at hb
    cases hb
  have o5 : (w4.setCell ⟨eb, 3, none⟩ (.int .i64 0)).ownsMap Try.prog 9 pE m2 n M := keepMap hM ((Below.heap_setCell _ _ _ _ hme).trans (kp4.block m2 hM.lt (fun h => h)))
  obtain ⟨W6, hr6, hown6, hgr6⟩ := o5.update law9 Try.underlying52 hn (keyOf_string_mk (P := Try.prog) Try.underlying9 hs) (val := .pointer (some ⟨w.heap.size, 0, none⟩)) (d := .held w.heap.size) (ps := []) rfl
  have hk : Kp (· = m2) (w4.setCell ⟨eb, 3, none⟩ (.int .i64 0)) W6 := Kp.of_grown hgr6 fun k e => (Option.some.inj e).symm
  have hfp : ∀ q, Fp w.heap.size S' q → w.heap.size ≤ q := fun q hq => by
    rcases hG.fp q hq with h | h
    · rw [fp_z h]; exact Nat.le_refl _
    · exact Nat.le_trans b3.size h
  refine ⟨⟨(c4 e4).2.2.2, fz e4 3, (Array.getElem?_eq_some_iff.1 e4).1⟩, (c2 (at5 _ _ hpe (at4 _ _ hc))).2, W6, hr6, S', ?_, hfp, hown6, ?_, ?_⟩
  · have hml := hM.lt
    refine hC.keep fun q hq => ?_
    have h1 := hfp q hq
    have hq4 := hC.h.lt q hq
    exact (hk.block q (by simpa [World.setCell] using hq4) (by omega)).trans (Below.heap_setCell _ _ _ _ (by show q ≠ eb; omega))
  · exact (hk.block eb (Array.getElem?_eq_some_iff.1 hse).1 (fun e => hme e.symm)).trans hse
  · refine ⟨hk.os.trans kp4.os, hk.tape.trans kp4.tape, hk.output.trans kp4.output, ?_, fun q hq hn => ?_⟩
    · have h1 := kp4.size
      have h2 := hk.size
      have h3 : (w4.setCell ⟨eb, 3, none⟩ (.int .i64 0)).heap.size = w4.heap.size := by simp [World.setCell]
      omega
    · by_cases qe : q = eb
      · rw [qe, he]
        exact (hk.block eb (Array.getElem?_eq_some_iff.1 hse).1 (fun e => hme e.symm)).trans hse
      · have h1 := kp4.block q hq (fun h => h)
        have h3 : q < w4.heap.size := Nat.lt_of_lt_of_le hq kp4.size
        exact (hk.block q (by simpa [World.setCell] using h3) hn).trans ((Below.heap_setCell _ _ _ _ qe).trans h1)
set_option maxHeartbeats 2000000 in
set_option maxRecDepth 100000 in
theorem renew_raw (w : World) (pb m2 eb n : Nat) (a : Value) (j p : Int) (s : ByteArray) (k : K) (hk : k.ok) (M : DataW Nat) (hc : Hid (w.heap[pb]? = some (.cells #[a, .map (some m2)] 54 (0, 0)))) (hs : Hid (s.size ≤ maxLen)) (hM : Hid (w.ownsMap Try.prog 9 pE m2 n M ∧ n < maxLen))
    (he : Hid (w.heap[eb]? = some (.cells #[.int .i64 j, .string s, .int .i64 p, .int .i64 0] 76 (0, 0))))
    (HL : Hid (∀ W, Below w.heap.size w W → Calls Try.prog 33 #[.pointer (some ⟨pb, 0, none⟩), .string s] W fun e w' => ∃ g c, e = .returned (.slice (some ⟨g, 0, none⟩) 1 c) ∧ Hid (w'.cell? ⟨g, 0, none⟩ = some (.pointer (some ⟨eb, 0, none⟩)) ∧ Below W.heap.size W w')))
    (H41 : Hid (∀ W, Below w.heap.size w W → Calls Try.prog 41 #[.pointer (some ⟨eb, 0, none⟩)] W fun e w' => e = .returned (.agg #[.int .i64 k.a, .int .i64 k.b, .int .i64 k.c]) ∧ Gw W w')) :
    Calls Try.prog 42 #[.pointer (some ⟨pb, 0, none⟩), .string s] w fun e w' => e = .returned (.tuple #[]) ∧ ∃ S', Rn w w' m2 eb n k s.data.toList M #[.int .i64 j, .string s, .int .i64 p, .int .i64 0] S' := by
  have H54 := new_at w
  have B0 : Below w.heap.size w (w.alloc (.cells zeroH 102)) := (Below.refl _ w).alloc (Nat.le_refl _) _
  have X33 := HL.out _ B0
  unfold ptr at H54
  go_enter Try.func42, Try.ntmps42
  go_wp2_with (first
    | (go_at_call 54; refine H54.mono ?_; rintro e w1 ⟨rfl, h1⟩; obtain rfl := h1.symm)
    | (go_at_call 33; refine X33.mono ?_; rintro e w2 ⟨g, c, rfl, h2⟩))
  have B2 : Hid (Below w.heap.size w w2 ∧ w2.heap[w.heap.size]? = some (.cells zeroH 102)) := ⟨B0.trans (h2.out.2.mono (by simp)), at_below h2.out.2 (Nat.le_refl _) new0⟩
  have X41 := H41.out _ B2.out.1
  have g0 := h2.out.1
  have H40 : Hid (∀ W, Gw w2 W → Calls Try.prog 40 #[.pointer (some ⟨w.heap.size, 0, none⟩), .agg #[.int .i64 k.a, .int .i64 k.b, .int .i64 k.c]] W fun e w' => e = .returned (.tuple #[.int .i64 0, .int .i64 0]) ∧ Hid (∃ S', Hc w' w.heap.size (Ct.nil.put 0 k) 1 1 S' ∧ Chg w.heap.size zS S' W w')) := fun W hW => by
    have hB : Blk W w.heap.size 102 3 zH := at_below hW.1 (Nat.le_refl _) B2.out.2
    exact insert_C (hc_zero hB) k hk (by decide)
  clear X33 H54 B0 h2
  refine wp_loop_rounds 2 ?_
  rw [rounds_succ]
  go_wp2_with (first
    | (go_at_call 41; refine X41.mono ?_; rintro e w3 ⟨rfl, b3⟩)
    | (go_at_call 40; refine (H40.out _ b3).mono ?_; rintro e w4 ⟨rfl, h4⟩; obtain ⟨⟨t0, t1, t2⟩, t3, W6, t4, t5⟩ := rn_facts hc.out hs.out hM.out.1 hM.out.2 he.out (B2.out.1.trans (b3.1.mono B2.out.1.size)) h4.out))
  rw [rounds_succ]
  go_wp2_with fail
  go_end0
  exact ⟨rfl, t5.out⟩
end Go.Proofs.Ythlbeofonbbbdaa
