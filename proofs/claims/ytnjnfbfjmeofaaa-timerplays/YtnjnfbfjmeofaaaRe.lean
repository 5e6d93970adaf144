/-
  The reference's Set.
-/
import Derived.Test.YtnjnfbfjmeofaaaRc
namespace Go.Proofs.Ytnjnfbfjmeofaaa
open Go.RowKit Go.Maps Go.WideMaps Go.Sort

/-- while the place is sought -/
structure In (w0 w : World) (rb bx g o c : Nat) (l1 l2 : List Al) (a : Al) (k : Nat) : Prop where
  li : Lie w g o c l2
  b : w.heap[rb]? = some (.cells #[.slice (some ⟨g, o, none⟩) (l1.length + 1) c] 29 (0, 0))
  x : w.heap[bx]? = some (.cells #[.string a.nm, .int .i64 a.at'] 47 (0, 0))
  h : Hl l1 l2 a k
  kp : Kp (· = g) w0 w
section
variable {w0 w w' : World} {rb bx g o c k : Nat} {l1 l2 : List Al} {a : Al}
theorem In.below (h : In w0 w rb bx g o c l1 l2 a k) (b : RowKit.Below w.heap.size w w') : In w0 w' rb bx g o c l1 l2 a k :=
  ⟨h.li.keep (b.block g h.li.lt), (b.block rb (Array.getElem?_eq_some_iff.1 h.b).1).trans h.b, (b.block bx (Array.getElem?_eq_some_iff.1 h.x).1).trans h.x, h.h, h.kp.trans (Kp.of_below b) fun _ _ q => q⟩
theorem In.put (h : In w0 w rb bx g o c l1 l2 a k) (hne : g ≠ bx ∧ g ≠ rb) (i : Nat) (b : Al) {k' : Nat} (h' : Hl l1 (l2.set i b) a k') : In w0 ((w.setCell ⟨g, o + i * 2, none⟩ (.string b.nm)).setCell ⟨g, o + i * 2 + 1, none⟩ (.int .i64 b.at')).drew rb bx g o c l1 (l2.set i b) a k' := by
  have e1 : ∀ j, j ≠ g → ((w.setCell ⟨g, o + i * 2, none⟩ (.string b.nm)).setCell ⟨g, o + i * 2 + 1, none⟩ (.int .i64 b.at')).heap[j]? = w.heap[j]? := fun j hj => (RowKit.Below.heap_setCell _ _ _ _ hj).trans (RowKit.Below.heap_setCell _ _ _ _ hj)
  refine ⟨(h.li.set i b).keep rfl, (e1 rb (Ne.symm hne.2)).trans h.b, (e1 bx (Ne.symm hne.1)).trans h.x, h', ?_⟩
  exact (h.kp.trans ((Kp.of_set (S := (· = g)) w ⟨g, o + i * 2, none⟩ _ rfl).trans (Kp.of_set (S := (· = g)) _ ⟨g, o + i * 2 + 1, none⟩ _ rfl) fun _ _ q => q) fun _ _ q => q).drew 1
end
theorem rowV47 {w : World} {s : ByteArray} {x : Int} : ∀ k u, (flat [⟨s, x⟩])[k]? = some u → (w.alloc (.cells #[.string s, .int .i64 x] 47)).cell? ⟨w.heap.size, 0 + k, none⟩ = some u := by
  intro k u hk
  rw [cell_of new0]
  match k, hk with
  | 0, hk => simp [flat_cons, flat_nil] at hk; subst hk; rfl
  | 1, hk => simp [flat_cons, flat_nil] at hk; subst hk; rfl
  | k + 2, hk => simp [flat_cons, flat_nil] at hk
/-- behind the last store -/
theorem set_end {w wc W3 W4 : World} {rb g o c : Nat} {v v1 : Value} {l1 l3 : List Al} {a : Al} (hM : Md w wc rb v v1 l1) (hA : Ap wc W3 rb wc.heap.size v1 g o c (l1 ++ [a]) a) (hb : W4.heap[rb]? = some (.cells #[.slice (some ⟨g, o, none⟩) (l1.length + 1) c] 29 (0, 0))) (hL : Lie W4 g o c l3) (hl : l3.length = l1.length + 1) (hk : Kp (· = g) W3 W4) : Rg2 w W4 rb v (.slice (some ⟨g, o, none⟩) (l1.length + 1) c) l3 := by
  have s1 := hM.g.kp.size
  have s2 := hA.kp.size
  refine ⟨⟨hb, .inr ⟨g, o, c, by rw [hl], hL⟩⟩, ?_, fun j q => ?_⟩
  · refine (hM.g.kp.trans (S' := fun j => Fr rb v1 j ∨ wc.heap.size ≤ j) ((hA.kp.mono (S' := fun j => Fr rb v1 j ∨ wc.heap.size ≤ j) fun _ _ q => .inl q).trans hk fun j _ q => ?_) fun j hj q => ?_)
    · have q' : j = g := q
      subst q'
      rcases hA.lo with q | q
      · exact .inl (.inr q)
      · exact .inr q
    · rcases q with q | q
      · rcases hM.g.fp j q with q | q
        · exact q
        · omega
      · omega
  · rcases q with q | q
    · exact .inl (.inl q)
    · have q' : g = j := Option.some.inj q
      subst q'
      rcases hA.lo with q | q
      · exact hM.g.fp g (.inr q)
      · exact .inr (by omega)
set_option maxHeartbeats 4000000 in
set_option maxRecDepth 100000 in
theorem rset_go (w : World) (rb : Nat) (v : Value) (l1 : List Al) (s : ByteArray) (x : Int) (kI : Int) (hs : Hid (Srt l1)) (q0 : Option Addr) (n0 c0 : Nat) (hv : w.cell? ⟨rb, 0, none⟩ = some (.slice q0 n0 c0))
    (H30 : Hid (Calls Try.prog 30 #[.pointer (some ⟨rb, 0, none⟩), .string s] w fun e w' => e = .returned (.int .i64 kI) ∧ w' = w))
    (HF : Hid ((kI = -1 ∧ n0 < 1024 ∧ Md w w rb v v l1) ∨ (0 ≤ kI ∧ Calls Try.prog 31 #[.pointer (some ⟨rb, 0, none⟩), .int .i64 kI] w fun e w' => e = .returned (.tuple #[]) ∧ ∃ v1, Md w w' rb v v1 l1))) :
    Calls Try.prog 21 #[.pointer (some ⟨rb, 0, none⟩), .string s, .int .i64 x] w fun e w' => e = .returned (.int .i64 0) ∧ ∃ v', Rg2 w w' rb v v' (ins ⟨s, x⟩ l1) := by
  go_enter Try.func21, Try.ntmps21
  go_upto_if 13 with (go_at_call 30; refine H30.out.mono ?_; rintro e w1 ⟨rfl, rfl⟩)
  go_cut [12] from 13 to 22 (fun _ wx => ∃ v1, Hid (Md w1 wx rb v v1 l1))
  case first =>
    rcases HF.out with ⟨hk, hn, hm⟩ | ⟨hk, hc⟩
    · subst hk
      have hn' : decide ((1024 : Int) ≤ (n0 : Int)) = false := decide_eq_false (by omega)
      have HM : Hid (Md w1 w1 rb v v l1) := hm
      clear hn hm
      go_wp2_with fail
      go_meet
      exact ⟨v, HM⟩
    · have HC : Hid (Calls Try.prog 31 #[.pointer (some ⟨rb, 0, none⟩), .int .i64 kI] w1 fun e w' => e = .returned (.tuple #[]) ∧ ∃ v1, Md w1 w' rb v v1 l1) := hc
      clear hc
      go_wp2_with (go_at_call 31; refine HC.out.mono ?_; rintro e w2 ⟨rfl, v1, hm⟩)
      go_meet
      exact ⟨v1, hm⟩
  case rest =>
    obtain ⟨v1, HM⟩ := hcut
    clear HF H30 hv
    generalize wc = W1 at *
    obtain ⟨n, hn⟩ : ∃ n, n = l1.length := ⟨_, rfl⟩
    have HNN : Hid (n = l1.length ∧ n < 1024) := ⟨hn, by rw [hn]; exact HM.out.n⟩
    obtain ⟨q1, c1, e1⟩ := HM.out.g.r.r.shape
    rw [← hn] at e1
    have hb1 := HM.out.g.r.b
    rw [e1] at hb1
    go_upto_region 7 with fail
    have hrb : Hid (rb < W1.heap.size) := (Array.getElem?_eq_some_iff.1 hb1).1
    have HB2 : Hid (RowKit.Below W1.heap.size W1 (W1.alloc (.cells #[.string s, .int .i64 x] 47))) := (RowKit.Below.refl _ W1).alloc (Nat.le_refl _) _
    have HX2 : Hid ((W1.alloc (.cells #[.string s, .int .i64 x] 47)).heap[W1.heap.size]? = some (.cells #[.string s, .int .i64 x] 47 (0, 0)) ∧ (W1.alloc (.cells #[.string s, .int .i64 x] 47)).heap.size = W1.heap.size + 1) := ⟨new0, by simp⟩
    generalize W1.alloc (.cells #[.string s, .int .i64 x] 47) = W2 at *
    have hb2 : W2.heap[rb]? = some (.cells #[.slice q1 n c1] 29 (0, 0)) := (HB2.out.block rb hrb.out).trans hb1
    have d2 : W2.cell? ⟨rb, 0, none⟩ = some (.slice q1 n c1) := by rw [cell_of hb2]; rfl
    have f2 := fz hb2 0
    have x0 : W2.cell? ⟨W1.heap.size, 0, none⟩ = some (.string s) := by rw [cell_of HX2.out.1]; rfl
    have x1 : W2.cell? ⟨W1.heap.size, 1, none⟩ = some (.int .i64 x) := by rw [cell_of HX2.out.1]; rfl
    have lr : rb < W2.heap.size := (Array.getElem?_eq_some_iff.1 hb2).1
    have lx : W1.heap.size < W2.heap.size := (Array.getElem?_eq_some_iff.1 HX2.out.1).1
    have BV : Hid (RowKit.Below W1.heap.size W1 (W2.alloc (.cells #[.string s, .int .i64 x] 47)).drew) := (HB2.out.alloc HB2.out.size _).drew
    have XV : Hid ((W2.alloc (.cells #[.string s, .int .i64 x] 47)).drew.heap[W1.heap.size]? = some (.cells #[.string s, .int .i64 x] 47 (0, 0))) := (RowKit.Below.heap_alloc W2 _ _ lx).trans HX2.out.1
    have NV : Hid (∀ j u, (flat [⟨s, x⟩])[j]? = some u → (W2.alloc (.cells #[.string s, .int .i64 x] 47)).drew.cell? ((⟨W2.heap.size, 0, none⟩ : Addr).add j) = some u) := fun j u hu => by
      rw [add2]
      exact rowV47 j u hu
    have RV : Hid ((W2.alloc (.cells #[.string s, .int .i64 x] 47)).drew.heap[rb]? = some (.cells #[.slice q1 n c1] 29 (0, 0))) := (RowKit.Below.heap_alloc W2 _ _ lr).trans hb2
    obtain ⟨i0, hi, hz0, hz1, hz2⟩ := info_parts info47
    have HI0 : Hid (Try.prog.info? 47 = some i0 ∧ i0.zero = some (.agg #[.string ⟨#[]⟩, .int .i64 0]) ∧ i0.size = 2 ∧ i0.bytes = 24) := ⟨hi, hz0, hz1, hz2⟩
    have HRF : Hid (Rf W1 rb (.slice q1 n c1) l1) := by have := HM.out.g.r; rw [e1] at this; exact this
    have H63 : Hid (n + 1 ≤ maxLen ∧ (n + 1) * 24 ≤ 140737488355328) := by have := HNN.out.2; exact ⟨by unfold maxLen; omega, by omega⟩
    clear hi hz0 hz1 hz2 hb2 HX2 HB2 hb1 hn
    subst e1
    go_cut [26] from 27 to 35 (fun _ wx => ∃ g o c, Hid (Ap W1 wx rb W1.heap.size (.slice q1 n c1) g o c (l1 ++ [⟨s, x⟩]) ⟨s, x⟩))
    case first =>
      by_cases hfull : c1 < n + 1
      · have HCC : Hid (∀ b, q1 = some b → ∀ j u, (flat l1)[j]? = some u → (W2.alloc (.cells #[.string s, .int .i64 x] 47)).drew.cell? (b.add j) = some u) := fun b eb j u hu => by
          rcases HRF.out.r with ⟨e1, _⟩ | ⟨g, o, c', e1, hL⟩
          · rw [eb] at e1; cases e1
          · have e2 : b = ⟨g, o, none⟩ := by
              rw [eb] at e1
              simp only [Value.slice.injEq, Option.some.injEq] at e1
              exact e1.1
            subst e2
            exact lie_cells (hL.keep (BV.out.block g hL.lt)) j u hu
        have HQN : Hid (q1 = none → n = 0 ∧ c1 = 0) := fun eb => by
          rcases HRF.out.r with ⟨e1, _⟩ | ⟨g, o, c', e1, hL⟩
          · rw [eb] at e1
            simp only [Value.slice.injEq] at e1
            exact ⟨e1.2.1, e1.2.2⟩
          · rw [eb] at e1; cases e1
        have HFL : Hid ((flat l1).length = n * 2) := by unfold Hid; rw [flat_length, ← HNN.out.1]
        go_region_law (refine step_append_grows rfl (.tmp 30) (.tmp 32) 27 rfl 47 i0 _ 2 24 Try.underlying27 HI0.out.1 HI0.out.2.1 HI0.out.2.2.1 HI0.out.2.2.2 rfl (by decide) q1 n c1 (flat l1) (by simp [Act.eval]) HQN.out HFL.out HCC.out ⟨W2.heap.size, 0, none⟩ 1 1 (flat [⟨s, x⟩]) (by simp [Act.eval]) rfl NV.out (flat_one' _) hfull H63.out.1 H63.out.2 ?_; intro v' w4 h1 h2; obtain ⟨g4, c4, ev4, hb4, hap⟩ := ap_grow HRF.out HNN.out.1.symm BV.out XV.out h1 h2; subst ev4; have d4 : w4.cell? ⟨rb, 0, none⟩ = some (.slice q1 n c1) := (by rw [cell_of hb4]; rfl); have f4 := fz hb4 0; have HAP : Hid (Ap W1 (w4.setCell ⟨rb, 0, none⟩ (.slice (some ⟨g4, 0, none⟩) (n + 1) c4)) rb W1.heap.size (.slice q1 n c1) g4 0 c4 (l1 ++ [⟨s, x⟩]) ⟨s, x⟩) := hap; clear h1 h2 hb4 hap)
        all_goals (go_wp2_with fail; go_meet)
        all_goals exact ⟨_, _, _, HAP⟩
      · obtain ⟨g, o, c', e1, hL⟩ : ∃ g o c', (Value.slice q1 n c1) = .slice (some ⟨g, o, none⟩) n c' ∧ Lie W1 g o c' l1 := by
          rcases HRF.out.r with ⟨e1, _⟩ | ⟨g, o, c', e1, hL⟩
          · simp only [Value.slice.injEq] at e1
            omega
          · rw [← HNN.out.1] at e1
            exact ⟨g, o, c', e1, hL⟩
        have e2 : q1 = some ⟨g, o, none⟩ ∧ c1 = c' := by simpa using e1
        obtain ⟨rfl, rfl⟩ := e2
        have hroom : n + 1 ≤ c1 := by omega
        have HLI : Hid (Lie (W2.alloc (.cells #[.string s, .int .i64 x] 47)).drew g o c1 l1) := hL.keep (BV.out.block g hL.lt)
        have HSP : Hid (∀ j, j < (flat [⟨s, x⟩]).length → ((W2.alloc (.cells #[.string s, .int .i64 x] 47)).drew.cell? ⟨g, o + n * 2 + j, none⟩).isSome = true ∧ (W2.alloc (.cells #[.string s, .int .i64 x] 47)).drew.frozen? ⟨g, o + n * 2 + j, none⟩ = false) := fun j hj => by
          obtain ⟨cs, h1, h2, _⟩ := HLI.out.ex
          have hj2 : j < 2 := hj
          obtain ⟨u, hu⟩ := cell_some h1 (i := o + n * 2 + j) (by omega)
          exact ⟨by rw [hu]; rfl, fz h1 _⟩
        have hap := ap_room (a := ⟨s, x⟩) HRF.out HNN.out.1.symm hL hroom BV.out XV.out
        have hgr : g ≠ rb := fun q => HRF.out.r.ne HRF.out.b (by decide) (by rw [← q]; rfl)
        have hb5 : (((W2.alloc (.cells #[.string s, .int .i64 x] 47)).drew.setCell ⟨g, o + n * 2, none⟩ (.string s)).setCell ⟨g, o + n * 2 + 1, none⟩ (.int .i64 x)).heap[rb]? = some (.cells #[.slice (some ⟨g, o, none⟩) n c1] 29 (0, 0)) := (RowKit.Below.heap_setCell _ _ _ _ (Ne.symm hgr)).trans ((RowKit.Below.heap_setCell _ _ _ _ (Ne.symm hgr)).trans RV.out)
        have HSC : Hid ((W2.alloc (.cells #[.string s, .int .i64 x] 47)).drew.setCells g (o + n * 2) (flat [⟨s, x⟩]) = ((W2.alloc (.cells #[.string s, .int .i64 x] 47)).drew.setCell ⟨g, o + n * 2, none⟩ (.string s)).setCell ⟨g, o + n * 2 + 1, none⟩ (.int .i64 x)) := rfl
        have HAP : Hid (Ap W1 ((((W2.alloc (.cells #[.string s, .int .i64 x] 47)).drew.setCell ⟨g, o + n * 2, none⟩ (.string s)).setCell ⟨g, o + n * 2 + 1, none⟩ (.int .i64 x)).setCell ⟨rb, 0, none⟩ (.slice (some ⟨g, o, none⟩) (n + 1) c1)) rb W1.heap.size (.slice (some ⟨g, o, none⟩) n c1) g o c1 (l1 ++ [⟨s, x⟩]) ⟨s, x⟩) := hap
        clear hap hL e1
        generalize ((W2.alloc (.cells #[.string s, .int .i64 x] 47)).drew.setCell ⟨g, o + n * 2, none⟩ (.string s)).setCell ⟨g, o + n * 2 + 1, none⟩ (.int .i64 x) = W5 at *
        have d5 : W5.cell? ⟨rb, 0, none⟩ = some (.slice (some ⟨g, o, none⟩) n c1) := by rw [cell_of hb5]; rfl
        have f5 := fz hb5 0
        clear hb5
        go_region_law (refine step_append_room rfl (.tmp 30) (.tmp 32) 27 rfl 47 i0 2 Try.underlying27 HI0.out.1 HI0.out.2.2.1 g o n c1 (by simp [Act.eval]) ⟨W2.heap.size, 0, none⟩ 1 1 (flat [⟨s, x⟩]) (by simp [Act.eval]) rfl NV.out (flat_one' _) hroom HSP.out ?_; rw [HSC.out])
        all_goals (go_wp2_with fail; go_meet)
        all_goals exact ⟨_, _, _, HAP⟩
    case rest =>
      obtain ⟨g, o, c, HAP⟩ := hcut
      clear RV NV XV BV lx lr x0 x1 f2 d2 HI0 H63 HRF
      obtain ⟨bx, hbx⟩ : ∃ bx, bx = W1.heap.size := ⟨_, rfl⟩
      have HNE : Hid (g ≠ bx ∧ g ≠ rb) := by rw [hbx]; exact ⟨HAP.out.ne.1, HAP.out.ne.2.1⟩
      have hlen : (l1 ++ [(⟨s, x⟩ : Al)]).length = l1.length + 1 := by rw [List.length_append]; rfl
      have In0 : Hid (In wc wc rb bx g o c l1 (l1 ++ [⟨s, x⟩]) ⟨s, x⟩ n) := by
        refine ⟨HAP.out.li, ?_, by rw [hbx]; exact HAP.out.x, ?_, Kp.refl _ _⟩
        · have := HAP.out.b
          rw [hlen] at this
          exact this
        · rw [HNN.out.1]
          exact Hl.start l1 ⟨s, x⟩ ⟨s, x⟩
      have d8 : wc.cell? ⟨rb, 0, none⟩ = some (.slice (some ⟨g, o, none⟩) (n + 1) c) := by rw [cell_of In0.out.b, HNN.out.1]; rfl
      have hn8 : (n : Int) < 1024 := by have := HNN.out.2; omega
      clear hlen
      rw [← hbx]
      clear hbx
      go_wp2_with fail
      go_loopw [7] (fun t wr => ∃ (k : Nat) (l2 : List Al), t = .int .i64 k ∧ Hid (In wc wr rb bx g o c l1 l2 ⟨s, x⟩ k)) (fun t _ => (intOf t).toNat)
      case atStart => exact ⟨n, _, by simp, In0.out⟩
      case round =>
        clear In0 d8
        obtain ⟨k, l2, rfl, HI⟩ := hrel
        by_cases hk0 : k = 0
        · have HK0 : Hid (k = 0) := hk0
          have hk5 : decide ((0 : Int) < (k : Int)) = false := decide_eq_false (by omega)
          have hk9 : decide (0 < k) = false := decide_eq_false (by omega)
          have hk6 : ¬ (0 : Int) < (k : Int) := by omega
          clear hk0
          go_upto_region 9 with fail
          go_quiet (fail)
          have HIQ : Hid (In wc (wr.drewN nq) rb bx g o c l1 l2 ⟨s, x⟩ k) := HI.out.below (below_drewN (RowKit.Below.refl _ _) _)
          clear HI
          generalize wr.drewN nq = WQ at *
          have HI2 : Hid (In wc WQ rb bx g o c l1 l2 ⟨s, x⟩ k) := HIQ.out
          have hl2 := HI2.out.h.hn
          obtain ⟨p0, p1, hp0, hp1⟩ := HI2.out.li.some (i := k) (by have := HI2.out.h.hk; have := HI2.out.li.le; omega)
          have ff0 := HI2.out.li.fz (o + k * 2)
          have ff1 := HI2.out.li.fz (o + k * 2 + 1)
          have db : WQ.cell? ⟨rb, 0, none⟩ = some (.slice (some ⟨g, o, none⟩) (n + 1) c) := by rw [cell_of HI2.out.b, HNN.out.1]; rfl
          have dx0 : WQ.cell? ⟨bx, 0, none⟩ = some (.string s) := by rw [cell_of HI2.out.x]; rfl
          have dx1 : WQ.cell? ⟨bx, 1, none⟩ = some (.int .i64 x) := by rw [cell_of HI2.out.x]; rfl
          have hkn : (k : Nat) < n + 1 := by have := HI2.out.h.hk; have := HNN.out.1; omega
          have hkn' : ((k : Nat) : Int) < ((n + 1 : Nat) : Int) := by omega
          have hkn2 : ((k : Nat) : Int) < (n : Int) + 1 := by omega
          have HRG : Hid (∃ v', Rg2 w1 ((WQ.setCell ⟨g, o + k * 2, none⟩ (.string s)).setCell ⟨g, o + k * 2 + 1, none⟩ (.int .i64 x)).drew rb v v' (ins ⟨s, x⟩ l1)) := by
            have hd := HI2.out.h.done hs.out (.inl HK0.out)
            have e1 : ∀ j, j ≠ g → ((WQ.setCell ⟨g, o + k * 2, none⟩ (.string s)).setCell ⟨g, o + k * 2 + 1, none⟩ (.int .i64 x)).heap[j]? = WQ.heap[j]? := fun j hj => (RowKit.Below.heap_setCell _ _ _ _ hj).trans (RowKit.Below.heap_setCell _ _ _ _ hj)
            have hLs := HI2.out.li.set k ⟨s, x⟩
            rw [hd] at hLs
            have hkp : Kp (· = g) wc ((WQ.setCell ⟨g, o + k * 2, none⟩ (.string s)).setCell ⟨g, o + k * 2 + 1, none⟩ (.int .i64 x)).drew := (HI2.out.kp.trans ((Kp.of_set (S := (· = g)) WQ ⟨g, o + k * 2, none⟩ _ rfl).trans (Kp.of_set (S := (· = g)) _ ⟨g, o + k * 2 + 1, none⟩ _ rfl) fun _ _ q => q) fun _ _ q => q).drew 1
            exact ⟨_, set_end HM.out HAP.out ((e1 rb (Ne.symm HNE.out.2)).trans HI2.out.b) (hLs.keep rfl) (ins_length _ _) hkp⟩
          clear HI2
          go_upto_region 12 with fail
          go_region
          all_goals go_wp2_with fail
          all_goals go_ret
          all_goals exact ⟨rfl, HRG.out⟩
        · obtain ⟨k', rfl⟩ : ∃ k', k = k' + 1 := ⟨k - 1, by omega⟩
          obtain ⟨k2, hk2⟩ : ∃ k2, k2 = k' + 1 := ⟨_, rfl⟩
          rw [← hk2] at HI ⊢
          have HK2 : Hid (k2 = k' + 1 ∧ k2 ≤ n) := ⟨hk2, by have := HI.out.h.hk; have := HNN.out.1; omega⟩
          have hk4 : (0 : Int) < (k2 : Int) := by omega
          have hk5 : decide ((0 : Int) < (k2 : Int)) = true := decide_eq_true hk4
          have hk8 : 0 < k2 := by omega
          have hk9 : decide (0 < k2) = true := decide_eq_true hk8
          have hk3 : (k2 : Int) - 1 = (k' : Int) := by omega
          have hkn1 : (k' : Int) < (n : Int) + 1 := by have := HK2.out; omega
          have hkn3 : (k' : Int) < ((n + 1 : Nat) : Int) := by have := HK2.out; omega
          have hkb : (k2 : Int) ≤ 1024 := by have := HK2.out; omega
          have hgj := gt_some (l := l2) (i := k') (by have := HI.out.h.hn; have := HK2.out; have := HNN.out.1; omega)
          have y0 := HI.out.li.c0 hgj
          have y1 := HI.out.li.c1 hgj
          have elo : gt l2 k' = gt l1 k' := HI.out.h.lo k' (by have := HK2.out; omega)
          have dr : wr.cell? ⟨rb, 0, none⟩ = some (.slice (some ⟨g, o, none⟩) (n + 1) c) := by rw [cell_of HI.out.b, HNN.out.1]; rfl
          have db0 : wr.cell? ⟨bx, 0, none⟩ = some (.string s) := by rw [cell_of HI.out.x]; rfl
          have db1 : wr.cell? ⟨bx, 1, none⟩ = some (.int .i64 x) := by rw [cell_of HI.out.x]; rfl
          have H17 : Hid (∀ W, Calls Try.prog 17 #[.agg #[.string s, .int .i64 x], .agg #[.string (gt l2 k').nm, .int .i64 (gt l2 k').at']] W fun e w' => e = .returned (.bool (ltB ⟨s, x⟩ (gt l2 k'))) ∧ RowKit.Below W.heap.size W w') := fun W => before_any ⟨s, x⟩ (gt l2 k') W
          have ELO : Hid (gt l2 k' = gt l1 k') := elo
          clear hgj elo hk0 hk2
          obtain ⟨B, hB⟩ : ∃ B, B = ltB ⟨s, x⟩ (gt l2 k') := ⟨_, rfl⟩
          rw [← hB] at H17
          have HBB : Hid (B = ltB ⟨s, x⟩ (gt l2 k')) := hB
          clear hB
          obtain ⟨bn, hbn⟩ : ∃ bn, bn = (gt l2 k').nm := ⟨_, rfl⟩
          obtain ⟨ba, hba⟩ : ∃ ba, ba = (gt l2 k').at' := ⟨_, rfl⟩
          rw [← hbn] at y0 H17
          rw [← hba] at y1 H17
          have HBN : Hid (bn = (gt l2 k').nm ∧ ba = (gt l2 k').at') := ⟨hbn, hba⟩
          clear hbn hba
          go_upto_region 9 with fail
          have G17 := grown (W := wr) H17
          have m0 := cell_regrown y0
          have m1 := cell_regrown y1
          have m2 := cell_regrown dr
          have m3 := cell_regrown db0
          have m4 := cell_regrown db1
          refine wp_region_quiet_below (by kernel_rfl) (by kernel_rfl) ?_
          repeat (first | go_big_quiet_step ((go_at_call 17; exact G17.out _ _)) | quiet_step ((go_at_call 17; exact G17.out _ _)))
          refine wpQuiet_nil ?_
          intro _ hw'
          obtain ⟨⟨dq, osq⟩, hw''⟩ := hw'
          subst hw''
          have HIW : Hid (In wc (grow (redrawn wr dq) osq) rb bx g o c l1 l2 ⟨s, x⟩ k2) := HI.out.below (below_regrown wr dq osq)
          have z0 := m0 dq osq
          have z1 := m1 dq osq
          have z2 := m2 dq osq
          clear m0 m1 m2 m3 m4 y0 y1 dr db0 db1 H17 G17 HI
          generalize grow (redrawn wr dq) osq = W4 at *
          cases B with
          | false =>
            clear z0 z1 z2
            have HI2 : Hid (In wc W4 rb bx g o c l1 l2 ⟨s, x⟩ k2) := HIW.out
            have hl2 := HI2.out.h.hn
            obtain ⟨p0, p1, hp0, hp1⟩ := HI2.out.li.some (i := k2) (by have := HI2.out.h.hk; have := HI2.out.li.le; omega)
            have ff0 := HI2.out.li.fz (o + k2 * 2)
            have ff1 := HI2.out.li.fz (o + k2 * 2 + 1)
            have db : W4.cell? ⟨rb, 0, none⟩ = some (.slice (some ⟨g, o, none⟩) (n + 1) c) := by rw [cell_of HI2.out.b, HNN.out.1]; rfl
            have dx0 : W4.cell? ⟨bx, 0, none⟩ = some (.string s) := by rw [cell_of HI2.out.x]; rfl
            have dx1 : W4.cell? ⟨bx, 1, none⟩ = some (.int .i64 x) := by rw [cell_of HI2.out.x]; rfl
            have hkn : (k2 : Nat) < n + 1 := by have := HI2.out.h.hk; have := HNN.out.1; omega
            have hkn' : ((k2 : Nat) : Int) < ((n + 1 : Nat) : Int) := by omega
            have hkn2 : ((k2 : Nat) : Int) < (n : Int) + 1 := by omega
            have HRG : Hid (∃ v', Rg2 w1 ((W4.setCell ⟨g, o + k2 * 2, none⟩ (.string s)).setCell ⟨g, o + k2 * 2 + 1, none⟩ (.int .i64 x)).drew rb v v' (ins ⟨s, x⟩ l1)) := by
              have hd := HI2.out.h.done hs.out (.inr (by rw [HK2.out.1, Nat.add_sub_cancel, ← ELO.out]; exact HBB.out.symm))
              have e1 : ∀ j, j ≠ g → ((W4.setCell ⟨g, o + k2 * 2, none⟩ (.string s)).setCell ⟨g, o + k2 * 2 + 1, none⟩ (.int .i64 x)).heap[j]? = W4.heap[j]? := fun j hj => (RowKit.Below.heap_setCell _ _ _ _ hj).trans (RowKit.Below.heap_setCell _ _ _ _ hj)
              have hLs := HI2.out.li.set k2 ⟨s, x⟩
              rw [hd] at hLs
              have hkp : Kp (· = g) wc ((W4.setCell ⟨g, o + k2 * 2, none⟩ (.string s)).setCell ⟨g, o + k2 * 2 + 1, none⟩ (.int .i64 x)).drew := (HI2.out.kp.trans ((Kp.of_set (S := (· = g)) W4 ⟨g, o + k2 * 2, none⟩ _ rfl).trans (Kp.of_set (S := (· = g)) _ ⟨g, o + k2 * 2 + 1, none⟩ _ rfl) fun _ _ q => q) fun _ _ q => q).drew 1
              exact ⟨_, set_end HM.out HAP.out ((e1 rb (Ne.symm HNE.out.2)).trans HI2.out.b) (hLs.keep rfl) (ins_length _ _) hkp⟩
            clear HI2
            go_upto_region 12 with fail
            go_region
            all_goals go_wp2_with fail
            all_goals go_ret
            all_goals exact ⟨rfl, HRG.out⟩
          | true =>
            have hl2 := HIW.out.h.hn
            obtain ⟨p0, p1, hp0, hp1⟩ := HIW.out.li.some (i := k2) (by have := HIW.out.h.hk; have := HIW.out.li.le; omega)
            have ff0 := HIW.out.li.fz (o + k2 * 2)
            have ff1 := HIW.out.li.fz (o + k2 * 2 + 1)
            have hkn' : (k2 : Int) < ((n + 1 : Nat) : Int) := by have := HK2.out; omega
            have hkn2 : (k2 : Int) < (n : Int) + 1 := by have := HK2.out; omega
            have HNXT : Hid (In wc ((W4.setCell ⟨g, o + k2 * 2, none⟩ (.string bn)).setCell ⟨g, o + k2 * 2 + 1, none⟩ (.int .i64 ba)).drew rb bx g o c l1 (l2.set k2 (gt l2 k')) ⟨s, x⟩ k') := by
              rw [HBN.out.1, HBN.out.2]
              refine HIW.out.put HNE.out k2 (gt l2 k') ?_
              have h1 := HIW.out.h
              rw [HK2.out.1] at h1 ⊢
              exact h1.step (by rw [← ELO.out]; exact HBB.out.symm)
            clear HIW
            go_upto_region 10 with fail
            go_region
            all_goals go_wp2_with fail
            all_goals
              refine ⟨⟨k', _, by simp, HNXT.out⟩, ?_⟩
              simp [intOf]
              omega
end Go.Proofs.Ytnjnfbfjmeofaaa
