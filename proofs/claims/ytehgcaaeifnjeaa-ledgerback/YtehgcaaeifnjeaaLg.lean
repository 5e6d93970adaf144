/-
  LedgerBack's law.
-/
import Derived.Test.YtehgcaaeifnjeaaLe
import Derived.Test.YtehgcaaeifnjeaaLf
namespace Go.Proofs.Ytehgcaaeifnjeaa
open Go.RowKit Go.Maps Go.WideMaps Go.Sort

def vC (v : V) : List Value := [.int .i64 v.a, .int .i64 v.b, .int .i64 v.c, .int .i64 v.d]
theorem vC_len (v : V) : (vC v).length = 4 := rfl
theorem vC_one (v : V) : ∀ u ∈ vC v, u.oneCell' = true := by
  intro u hu
  simp only [vC, List.mem_cons, List.not_mem_nil, or_false] at hu
  rcases hu with rfl | rfl | rfl | rfl <;> rfl
theorem info33 : (Try.prog.info? 33).map (fun i => (i.zero, i.size, i.bytes)) = some (some (.agg #[.int .i64 0, .int .i64 0, .int .i64 0, .int .i64 0]), 4, 32) := by kernel_rfl
abbrev WR (b : Nat) (w : World) (v : Value) (L : List V) : Prop := GRow 33 4 vC b w v L
theorem app_v {ops : Array Oper} {rest : List Oper} {o : Oper} {a : Act} {Q : Exit → Act → World → Prop} {wr : World} {B : Nat} (hgd : o.guard = none) (s x : Operand) (ho : o.op = .call { callee := .builtin .append, args := #[s, x], argTypes := #[43, 43] }) (p : Option Addr) (m c : Nat) (E : List V) (hs : a.eval s = .slice p m c) (hr : WR B wr (.slice p m c) E) (hB : B ≤ wr.heap.size)
    (g off n cc : Nat) (F : List V) (hx : a.eval x = .slice (some ⟨g, off, none⟩) n cc) (hn : n = F.length) (hF : RowV wr g off (F.flatMap vC)) (h9 : m + n ≤ 1000000000000)
    (h : ∀ p3 c3 w3, WR B w3 (.slice p3 (m + n) c3) (E ++ F) → Below B wr w3 → wpList Try.prog ops Q rest (a.put o.dst (.slice p3 (m + n) c3)) w3) :
    wpList Try.prog ops Q (o :: rest) a wr := append_g vC_len vC_one Try.underlying43 info33 rfl (by decide) hgd s x ho p m c E hs hr hB g off n cc F hx hn hF (by unfold maxLen; omega) (by omega) h
def was (D : List A) (i : Nat) : List V := (List.range i).map fun k => (usedD D (nmI k)).1
theorem was_len (D : List A) (i : Nat) : (was D i).length = i := by unfold was; simp
theorem was_on (D : List A) (i : Nat) : was D i ++ [(usedD D (nmI i)).1] = was D (i + 1) := by unfold was; rw [List.range_succ, List.map_append]; rfl
theorem was_at (D : List A) {i k : Nat} (h : k < i) : (was D i)[k]? = some (usedD D (nmI k)).1 := by unfold was; rw [List.getElem?_map, List.getElem?_range h]; rfl
/-- the row of what was used is kept -/
theorem was_kept {w W1 W2 : World} {pb : Nat} {D : List A} {v : Value} {l : List V} (h : LL w W1 NX pb D) (hr : WR W1.heap.size W2 v l) (hb : Below W1.heap.size W1 W2) : ∃ X, LL w W2 X pb D ∧ ∀ W D', LL w W X pb D' → WR W1.heap.size W v l := by
  rcases hr.2 with ⟨rfl, h0⟩ | ⟨g, cap, cur, rfl, hge, hg, h1, h2, h3, h4⟩
  · exact ⟨NX, h.below hb, fun W D' _ => ⟨hr.1, .inl ⟨rfl, h0⟩⟩⟩
  · refine ⟨XS NX g (.cells cur 33 (0, 0)), h.add hb hg hge, fun W D' hl => ⟨hr.1, .inr ⟨g, cap, cur, rfl, hge, hl.kept g _ (if_pos rfl), h1, h2, h3, h4⟩⟩⟩
theorem eq_self (x : V) (w : World) : (Op.equalIn 10000 33 (.agg #[.int .i64 x.a, .int .i64 x.b, .int .i64 x.c, .int .i64 x.d]) (.agg #[.int .i64 x.a, .int .i64 x.b, .int .i64 x.c, .int .i64 x.d])).run Try.prog w = .ok true w := by
  have := eq4 x.a x.b x.c x.d x.a x.b x.c x.d w
  simpa using this
set_option maxHeartbeats 8000000 in
set_option maxRecDepth 100000 in
theorem back_law (q : Option Addr) (n c : Nat) (L : List V) (q1 : Option Addr) (n1 c1 : Nat) (L1 : List E) (q2 : Option Addr) (n2 c2 : Nat) (L2 : List E) (w : World) (hn : n = L.length) (hn1 : n1 = L1.length) (hn2 : n2 = L2.length) (hr : VR w q L) (hr1 : ERow w q1 L1) (hr2 : ERow w q2 L2) (hz1 : Zs L1) (hz2 : Zs L2) (hm : n ≤ 9223372036854775807) (hm1 : n1 ≤ 9223372036854775807) (hm2 : n2 ≤ 9223372036854775807) :
    Calls Try.prog 5 #[.slice q n c, .slice q1 n1 c1, .slice q2 n2 c2] w fun e w' => e = .returned (.bool true) ∧ Below w.heap.size w w' := by
  have HA : Hid (∀ W, Below w.heap.size w W → Calls Try.prog 9 #[] W fun e w' => e = .returned (.bool true) ∧ Hid (Below w.heap.size w w')) := fun W b => (awake_any w W NX b (fun k o h => by cases h)).mono fun e w' ⟨he, hb⟩ => ⟨he, hb.out.1⟩
  have HN : Hid (∀ W, Below w.heap.size w W → Calls Try.prog 11 #[] W fun e w' => ∃ pb, e = .returned (.pointer (some ⟨pb, 0, none⟩)) ∧ Hid (LL w w' NX pb [])) := fun W b => (new_any W).mono fun e w' ⟨he, hw⟩ => ⟨_, he, by rw [hw]; exact l_new w W NX b (fun k o h => by cases h)⟩
  have HR : Hid (VR w q L ∧ n = L.length) := ⟨hr, hn⟩
  have HR1 : Hid (ERow w q1 L1 ∧ n1 = L1.length ∧ Zs L1) := ⟨hr1, hn1, hz1⟩
  have HR2 : Hid (ERow w q2 L2 ∧ n2 = L2.length ∧ Zs L2) := ⟨hr2, hn2, hz2⟩
  clear hr hr1 hr2 hn hn1 hn2 hz1 hz2
  by_cases h20 : 20 < n
  · have g1 : (20 : Int) < (n : Int) := by omega
    have g2 : decide ((20 : Int) < (n : Int)) = true := decide_eq_true g1
    clear HN HR HR1 HR2
    go_enter Try.func5, Try.ntmps5
    go_wp2_with (go_at_call 9; refine (HA.out _ (Below.refl _ _)).mono ?_; rintro e w1 ⟨rfl, b1⟩)
    refine (HA.out _ b1.out).mono ?_
    first | rintro e w3 rfl b3 | rintro e w3 ⟨rfl, b3⟩
    go_wp2_with fail
    go_ret
    exact ⟨rfl, b3.out⟩
  have g20 : ¬ (20 : Int) < (n : Int) := by omega
  have g20' : decide ((20 : Int) < (n : Int)) = false := decide_eq_false g20
  by_cases h1a : 100 < n1
  · have g1 : (100 : Int) < (n1 : Int) := by omega
    have g2 : decide ((100 : Int) < (n1 : Int)) = true := decide_eq_true g1
    clear HN HR HR1 HR2
    go_enter Try.func5, Try.ntmps5
    go_wp2_with (go_at_call 9; refine (HA.out _ (Below.refl _ _)).mono ?_; rintro e w1 ⟨rfl, b1⟩)
    refine (HA.out _ b1.out).mono ?_
    first | rintro e w3 rfl b3 | rintro e w3 ⟨rfl, b3⟩
    go_wp2_with fail
    go_ret
    exact ⟨rfl, b3.out⟩
  have g1a : ¬ (100 : Int) < (n1 : Int) := by omega
  have g1a' : decide ((100 : Int) < (n1 : Int)) = false := decide_eq_false g1a
  by_cases h2a : 100 < n2
  · have g1 : (100 : Int) < (n2 : Int) := by omega
    have g2 : decide ((100 : Int) < (n2 : Int)) = true := decide_eq_true g1
    clear HN HR HR1 HR2
    go_enter Try.func5, Try.ntmps5
    go_wp2_with (go_at_call 9; refine (HA.out _ (Below.refl _ _)).mono ?_; rintro e w1 ⟨rfl, b1⟩)
    refine (HA.out _ b1.out).mono ?_
    first | rintro e w3 rfl b3 | rintro e w3 ⟨rfl, b3⟩
    go_wp2_with fail
    go_ret
    exact ⟨rfl, b3.out⟩
  have g2a : ¬ (100 : Int) < (n2 : Int) := by omega
  have g2a' : decide ((100 : Int) < (n2 : Int)) = false := decide_eq_false g2a
  have h20' : n ≤ 20 := by omega
  have hn2' : n2 ≤ 100 := by omega
  clear hm hm1 hm2
  go_enter Try.func5, Try.ntmps5
  go_upto_region 3 with (go_at_call 9; refine (HA.out _ (Below.refl _ _)).mono ?_; rintro e w1 ⟨rfl, b1⟩)
  clear HA
  go_upto_region 4 with (go_at_call 11; refine (HN.out _ b1.out).mono ?_; rintro e W0 ⟨pb, rfl, h3⟩)
  clear HN b1 h20 g20' h1a g1a' h2a g2a'
  go_wp2_with fail
  go_loopw [8] (fun x wr => ∃ i : Nat, x = .int .i64 i ∧ i ≤ n ∧ Hid (∃ D, LL w wr NX pb D)) (fun x _ => n - (intOf x).toNat)
  case atStart => exact ⟨0, rfl, Nat.zero_le _, _, h3.out⟩
  case round =>
    obtain ⟨i, rfl, hin, HI⟩ := hrel
    clear h3
    by_cases hi : i < n
    · have i1 : (i : Int) < (n : Int) := by omega
      have i2 : decide ((i : Int) < (n : Int)) = true := decide_eq_true i1
      have i3 : (i : Int) < 20 := by omega
      obtain ⟨v, hv⟩ : ∃ v, L[i]? = some v := ⟨_, List.getElem?_eq_getElem (by have := HR.out.2; omega)⟩
      obtain ⟨D, hD⟩ := HI.out
      obtain ⟨g, a, rfl, c0, c1', c2', c3⟩ := HR.out.1.at hD.bel hv
      have H18 : Hid (Calls Try.prog 18 #[.pointer (some ⟨pb, 0, none⟩), .string (nmB i), .agg #[.int .i64 v.a, .int .i64 v.b, .int .i64 v.c, .int .i64 v.d]] wr fun e w' => (∃ c : Int, e = .returned (.int .i64 c)) ∧ Hid (∃ D, LL w w' NX pb D)) := (l_open hD (nmB i) (nm_size i) v).mono fun e w' ⟨he, hl⟩ => ⟨⟨_, he⟩, _, hl.out⟩
      have hcv := nm_conv (i := i) (by omega)
      have h32 : IntKind.i32.wrap (97 + (i : Int)) = 97 + (i : Int) := by rw [IntKind.wrap_i32]; omega
      generalize nmB i = nb at *
      clear hD hv HI
      go_wp2_with (go_at_call 18; refine H18.out.mono ?_; rintro e w4 ⟨⟨cc, rfl⟩, h4⟩)
      exact ⟨⟨i + 1, by simp, by omega, h4.out⟩, by simp only [intOf]; omega⟩
    · have i1 : ¬ (i : Int) < (n : Int) := by omega
      have i2 : decide ((i : Int) < (n : Int)) = false := decide_eq_false i1
      obtain ⟨D, hD⟩ := HI.out
      have H19 : Hid (Calls Try.prog 19 #[.pointer (some ⟨pb, 0, none⟩), .slice q1 n1 c1] wr fun e w' => (∃ c : Int, e = .returned (.int .i64 c)) ∧ Hid (∃ D, LL w w' NX pb D)) := by
        have := l_take hD q1 L1 c1 (by have := HR1.out.2.2.2; omega) (HR1.out.1.keep hD.bel) HR1.out.2.2.1
        rw [← HR1.out.2.1] at this
        exact this.mono fun e w' ⟨he, hl⟩ => ⟨⟨_, he⟩, _, hl.out⟩
      clear hD HI
      go_upto_region 9 with (go_at_call 19; refine H19.out.mono ?_; rintro e W1 ⟨⟨cc, rfl⟩, h5⟩)
      obtain ⟨D0, hD0⟩ := h5.out
      have HL1 : Hid (LL w W1 NX pb D0) := hD0
      clear h5 hD0 H19 hi hin i1 i2
      go_wp2_with fail
      go_loopw [9, 10] (fun v x wr => ∃ i p m c, v = .slice p m c ∧ x = .int .i64 (i : Nat) ∧ i ≤ n ∧ Hid (WR W1.heap.size wr (.slice p m c) (was D0 i) ∧ Below W1.heap.size W1 wr)) (fun _ x _ => n - (intOf x).toNat)
      case atStart => exact ⟨0, none, 0, 0, rfl, rfl, Nat.zero_le _, GRow.nil _ _ _ _ _, Below.refl _ _⟩
      case round =>
        obtain ⟨j, p, m, c9, rfl, rfl, hjn, HJ⟩ := hrel
        have hmj : m = j := by have := HJ.out.1.len; rwa [was_len] at this
        subst hmj
        by_cases hj : m < n
        · have i1 : (m : Int) < (n : Int) := by omega
          have i2 : decide ((m : Int) < (n : Int)) = true := decide_eq_true i1
          have i3 : (m : Int) < 20 := by omega
          have H14 : Hid (Calls Try.prog 14 #[.pointer (some ⟨pb, 0, none⟩), .string (nmB m)] wr fun e w' => e = .returned (.tuple #[.agg #[.int .i64 (usedD D0 (nmI m)).1.a, .int .i64 (usedD D0 (nmI m)).1.b, .int .i64 (usedD D0 (nmI m)).1.c, .int .i64 (usedD D0 (nmI m)).1.d], .int .i64 ((usedD D0 (nmI m)).2 : Nat)]) ∧ Hid (Below wr.heap.size wr w')) := by
            obtain ⟨S, hS, _⟩ := (HL1.out.below HJ.out.2).led
            have := used_any hS (nmB m) (nm_size m)
            rw [nmI_eq] at this
            exact this
          have HON : Hid (was D0 m ++ [(usedD D0 (nmI m)).1] = was D0 (m + 1)) := was_on D0 m
          have hcv := nm_conv (i := m) (by omega)
          have h32 : IntKind.i32.wrap (97 + (m : Int)) = 97 + (m : Int) := by rw [IntKind.wrap_i32]; omega
          generalize nmB m = nb at *
          generalize (usedD D0 (nmI m)).1 = uv at *
          generalize (usedD D0 (nmI m)).2 = uc at *
          go_upto_region 14 with (go_at_call 14; refine H14.out.mono ?_; rintro e w6 ⟨rfl, b6⟩)
          have R7 : Hid (WR W1.heap.size (w6.alloc (.cells #[.int .i64 uv.a, .int .i64 uv.b, .int .i64 uv.c, .int .i64 uv.d] 33 (0, 0))) (.slice p m c9) (was D0 m) ∧ Below W1.heap.size W1 (w6.alloc (.cells #[.int .i64 uv.a, .int .i64 uv.b, .int .i64 uv.c, .int .i64 uv.d] 33 (0, 0)))) := by
            have b7 : Below wr.heap.size wr (w6.alloc (.cells #[.int .i64 uv.a, .int .i64 uv.b, .int .i64 uv.c, .int .i64 uv.d] 33 (0, 0))) := b6.out.alloc b6.out.size _
            exact ⟨HJ.out.1.below b7, HJ.out.2.trans (b7.mono HJ.out.2.size)⟩
          obtain ⟨d0, d1, d2, d3, -⟩ := cells4 (new0 (w := w6) (o := .cells #[.int .i64 uv.a, .int .i64 uv.b, .int .i64 uv.c, .int .i64 uv.d] 33 (0, 0)))
          clear H14 hcv h32 b6 HJ
          generalize w6.alloc (.cells #[.int .i64 uv.a, .int .i64 uv.b, .int .i64 uv.c, .int .i64 uv.d] 33 (0, 0)) = W7 at *
          generalize w6.heap.size = g11 at *
          have R8 : Hid (WR W1.heap.size (W7.alloc (.cells #[.int .i64 uv.a, .int .i64 uv.b, .int .i64 uv.c, .int .i64 uv.d] 33 (0, 0))) (.slice p m c9) (was D0 m) ∧ Below W1.heap.size W1 (W7.alloc (.cells #[.int .i64 uv.a, .int .i64 uv.b, .int .i64 uv.c, .int .i64 uv.d] 33 (0, 0)))) := ⟨R7.out.1.below ((Below.refl _ _).alloc (Nat.le_refl _) _), R7.out.2.alloc R7.out.2.size _⟩
          have V1 : Hid (RowV (W7.alloc (.cells #[.int .i64 uv.a, .int .i64 uv.b, .int .i64 uv.c, .int .i64 uv.d] 33 (0, 0))) W7.heap.size 0 ([uv].flatMap vC)) := row_one new0 rfl
          go_wp2_with (at_builtin; refine app_v (wr := W7.alloc (.cells #[.int .i64 uv.a, .int .i64 uv.b, .int .i64 uv.c, .int .i64 uv.d] 33 (0, 0))) (B := W1.heap.size) rfl _ _ rfl p m c9 (was D0 m) rfl R8.out.1 R8.out.2.size W7.heap.size 0 1 1 [uv] rfl rfl V1.out (by omega) ?_; intro p3 c3 w3 R3 hB3)
          rw [HON.out] at R3
          exact ⟨⟨m + 1, p3, m + 1, c3, rfl, by simp, by omega, R3, R8.out.2.trans hB3⟩, by simp only [intOf]; omega⟩
        · have i1 : ¬ (m : Int) < (n : Int) := by omega
          have i2 : decide ((m : Int) < (n : Int)) = false := decide_eq_false i1
          have hie : m = n := by omega
          subst hie
          obtain ⟨X, hX, hK⟩ := was_kept HL1.out HJ.out.1 HJ.out.2
          have HX : Hid (LL w wr X pb D0) := hX
          have HK : Hid (∀ W D', LL w W X pb D' → WR W1.heap.size W (.slice p m c9) (was D0 m)) := hK
          have HT : Hid (∀ W D, LL w W X pb D → Calls Try.prog 19 #[.pointer (some ⟨pb, 0, none⟩), .slice q2 n2 c2] W fun e w' => e = .returned (.int .i64 (takeD D L2).1) ∧ Hid (LL w w' X pb (takeD D L2).2)) := fun W D h => by
            have := l_take h q2 L2 c2 (by have := HR2.out.2.2.2; omega) (HR2.out.1.keep h.bel) HR2.out.2.2.1
            rw [← HR2.out.2.1] at this
            exact this
          have HG : Hid (∀ W D, LL w W X pb D → Calls Try.prog 20 #[.pointer (some ⟨pb, 0, none⟩), .slice q2 n2 c2] W fun e w' => e = .returned (.int .i64 (giveD D L2).1) ∧ Hid (LL w w' X pb (giveD D L2).2)) := fun W D h => by
            have := l_give h q2 L2 c2 (by have := HR2.out.2.2.2; omega) (HR2.out.1.keep h.bel) HR2.out.2.2.1
            rw [← HR2.out.2.1] at this
            exact this
          clear hX hK HJ hj hjn i1 i2
          have HT0 := HT.out wr D0 HX.out
          by_cases ht : (takeD D0 L2).1 = 0
          · obtain ⟨t1, t2, t3⟩ := take_ok0 ht
            have hsr : Srt A.nm D0 := by obtain ⟨S, hS, _⟩ := HX.out.led; exact hS.srt
            have hok : ∀ a ∈ D0, a.lim.ok = true ∧ a.us.ok = true := by obtain ⟨S, hS, _⟩ := HX.out.led; exact hS.ok
            have hb0 : setU (fun n => (u0 D0 n).add (tot L2 n)) D0 = bkD D0 L2 0 := rfl
            have HTA : Hid (∀ W, LL w W X pb D0 → Calls Try.prog 19 #[.pointer (some ⟨pb, 0, none⟩), .slice q2 n2 c2] W fun e w' => e = .returned (.int .i64 0) ∧ Hid (LL w w' X pb (bkD D0 L2 0))) := fun W h => by
              have := HT.out W D0 h
              rw [ht, t3, hb0] at this
              exact this
            have HGA : Hid (∀ W, LL w W X pb (bkD D0 L2 0) → Calls Try.prog 20 #[.pointer (some ⟨pb, 0, none⟩), .slice q2 n2 c2] W fun e w' => e = .returned (.int .i64 0) ∧ Hid (LL w w' X pb D0)) := fun W h => by
              have := HG.out W _ h
              rw [bk_all hsr hok t1] at this
              exact this
            have HGO : Hid (∀ W i e g, L2[i]? = some e → LL w W X pb (bkD D0 L2 i) → W.heap[g]? = some (.cells #[.string e.nm, .int .i64 e.am.a, .int .i64 e.am.b, .int .i64 e.am.c, .int .i64 e.am.d] 50 (0, 0)) → Calls Try.prog 20 #[.pointer (some ⟨pb, 0, none⟩), .slice (some ⟨g, 0, none⟩) 1 1] W fun e w' => e = .returned (.int .i64 0) ∧ Hid (LL w w' X pb (bkD D0 L2 (i + 1)))) := fun W i e g he h hg => by
              have := l_give h (some ⟨g, 0, none⟩) [e] 1 (by simp) (erow1 hg) (fun x hx => by rw [List.mem_singleton.1 hx]; exact HR2.out.2.2.1 e (List.mem_of_getElem? he))
              rw [bk_step hok t1 he] at this
              exact this
            have HEN : Hid (bkD D0 L2 n2 = D0) := by
              have := bk_end (T := L2) hsr
              rw [← HR2.out.2.1] at this
              exact this
            clear HT0 HT HG t1 t2 t3 ht hsr hok hb0
            go_upto_region 16 with (go_at_call 19; refine (HTA.out _ HX.out).mono ?_; rintro e w8 ⟨rfl, h8⟩)
            clear HX
            go_wp2_with fail
            go_loopw [13] (fun x wr => ∃ i : Nat, x = .int .i64 i ∧ i ≤ n2 ∧ Hid (LL w wr X pb (bkD D0 L2 i))) (fun x _ => n2 - (intOf x).toNat)
            case atStart => exact ⟨0, rfl, Nat.zero_le _, h8.out⟩
            case round =>
              obtain ⟨k, rfl, hkn, HKK⟩ := hrel
              clear h8
              by_cases hk : k < n2
              · have k1 : (k : Int) < (n2 : Int) := by omega
                have k2 : decide ((k : Int) < (n2 : Int)) = true := decide_eq_true k1
                obtain ⟨v, hv⟩ : ∃ v, L2[k]? = some v := ⟨_, List.getElem?_eq_getElem (by have := HR2.out.2.1; omega)⟩
                obtain ⟨g, o, rfl, c0, c1', c2', c3, c4⟩ := (HR2.out.1.keep HKK.out.bel) k v hv
                obtain ⟨nm, a0, a1, a2, a3⟩ := v
                simp only [] at c0 c1' c2' c3 c4
                have HC : Hid (Calls Try.prog 20 #[.pointer (some ⟨pb, 0, none⟩), .slice (some ⟨wr.heap.size, 0, none⟩) 1 1] (wr.alloc (.cells #[.string nm, .int .i64 a0, .int .i64 a1, .int .i64 a2, .int .i64 a3] 50 (0, 0))) fun e w' => e = .returned (.int .i64 0) ∧ Hid (LL w w' X pb (bkD D0 L2 (k + 1)))) := HGO.out _ k _ _ hv (HKK.out.below ((Below.refl _ _).alloc (Nat.le_refl _) _)) new0
                clear hv HKK
                go_wp2_with (go_at_call 20; refine HC.out.mono ?_; rintro e w9 ⟨rfl, h9⟩)
                exact ⟨⟨k + 1, by simp, by omega, h9.out⟩, by simp only [intOf]; omega⟩
              · have k1 : ¬ (k : Int) < (n2 : Int) := by omega
                have k2 : decide ((k : Int) < (n2 : Int)) = false := decide_eq_false k1
                have hkk : k = n2 := by omega
                have H9 : Hid (LL w wr X pb D0) := by
                  have := HKK.out
                  rw [hkk, HEN.out] at this
                  exact this
                clear HKK HGO HEN hkk
                go_upto_region 23 with (first | (go_at_call 19; refine (HTA.out _ H9.out).mono ?_; rintro e wA ⟨rfl, hA⟩) | (go_at_call 20; refine (HGA.out _ hA.out).mono ?_; rintro e wB ⟨rfl, h8⟩))
                clear H9 hA HTA HGA k1 k2 hk hkn
                go_wp2_with fail
                go_loopw [14] (fun x wr => ∃ k : Nat, x = .int .i64 k ∧ k ≤ m ∧ Hid (LL w wr X pb D0)) (fun x _ => m - (intOf x).toNat)
                case atStart => exact ⟨0, rfl, Nat.zero_le _, h8.out⟩
                case round =>
                  obtain ⟨k, rfl, hkn, HQ⟩ := hrel
                  clear h8
                  by_cases hk : k < m
                  · have k1 : (k : Int) < (m : Int) := by omega
                    have k2 : decide ((k : Int) < (m : Int)) = true := decide_eq_true k1
                    have k3 : (k : Int) < 20 := by omega
                    have k4 : (0 : Int) ≤ (k : Int) := by omega
                    have H14 : Hid (Calls Try.prog 14 #[.pointer (some ⟨pb, 0, none⟩), .string (nmB k)] wr fun e w' => e = .returned (.tuple #[.agg #[.int .i64 (usedD D0 (nmI k)).1.a, .int .i64 (usedD D0 (nmI k)).1.b, .int .i64 (usedD D0 (nmI k)).1.c, .int .i64 (usedD D0 (nmI k)).1.d], .int .i64 ((usedD D0 (nmI k)).2 : Nat)]) ∧ Hid (LL w w' X pb D0)) := by
                      have := l_used HQ.out (nmB k) (nm_size k)
                      rw [nmI_eq] at this
                      exact this
                    have hcv := nm_conv (i := k) (by omega)
                    have h32 : IntKind.i32.wrap (97 + (k : Int)) = 97 + (k : Int) := by rw [IntKind.wrap_i32]; omega
                    have hwa := was_at D0 hk
                    generalize nmB k = nb at *
                    generalize (usedD D0 (nmI k)).1 = uv at *
                    generalize (usedD D0 (nmI k)).2 = uc at *
                    clear HQ
                    go_upto_region 27 with (go_at_call 14; refine H14.out.mono ?_; rintro e w6 ⟨rfl, h6⟩)
                    have h7 : Hid (LL w (w6.alloc (.cells #[.int .i64 uv.a, .int .i64 uv.b, .int .i64 uv.c, .int .i64 uv.d] 33 (0, 0))) X pb D0) := h6.out.below ((Below.refl _ _).alloc (Nat.le_refl _) _)
                    obtain ⟨d0, d1, d2, d3, -⟩ := cells4 (new0 (w := w6) (o := .cells #[.int .i64 uv.a, .int .i64 uv.b, .int .i64 uv.c, .int .i64 uv.d] 33 (0, 0)))
                    clear H14 hcv h32 h6
                    generalize w6.alloc (.cells #[.int .i64 uv.a, .int .i64 uv.b, .int .i64 uv.c, .int .i64 uv.d] 33 (0, 0)) = W7 at *
                    generalize w6.heap.size = g15 at *
                    obtain ⟨gg, hgg, hcell⟩ := (HK.out _ _ h7.out).at vC_len hwa
                    subst hgg
                    have e0 := hcell 0 _ rfl
                    have e1 := hcell 1 _ rfl
                    have e2 := hcell 2 _ rfl
                    have e3 := hcell 3 _ rfl
                    simp only [Nat.add_zero] at e0
                    have q1 := eq_self uv
                    clear hcell hwa
                    go_quiet (fail)
                    have h8 : Hid (∀ j, LL w (W7.drewN j) X pb D0) := fun j => h7.out.drew j
                    go_wp2_with fail
                    exact ⟨⟨k + 1, by simp, by omega, h8.out _⟩, by simp only [intOf]; omega⟩
                  · have k1 : ¬ (k : Int) < (m : Int) := by omega
                    have k2 : decide ((k : Int) < (m : Int)) = false := decide_eq_false k1
                    go_wp2_with fail
                    go_ret
                    exact ⟨rfl, HQ.out.bel⟩
          · have ht0 : (takeD D0 L2).2 = D0 := take_bad ht
            have HTB : Hid (Calls Try.prog 19 #[.pointer (some ⟨pb, 0, none⟩), .slice q2 n2 c2] wr fun e w' => e = .returned (.int .i64 (takeD D0 L2).1) ∧ Hid (LL w w' X pb D0)) := by
              rw [ht0] at HT0
              exact HT0
            have ht2 : ((takeD D0 L2).1 == 0) = false := by simpa using ht
            generalize (takeD D0 L2).1 = tc at *
            clear HT0 HT HG ht0 HX
            go_upto_region 23 with (go_at_call 19; refine HTB.out.mono ?_; rintro e w8 ⟨rfl, h8⟩)
            clear HTB ht ht2
            go_wp2_with fail
            go_loopw [14] (fun x wr => ∃ k : Nat, x = .int .i64 k ∧ k ≤ m ∧ Hid (LL w wr X pb D0)) (fun x _ => m - (intOf x).toNat)
            case atStart => exact ⟨0, rfl, Nat.zero_le _, h8.out⟩
            case round =>
              obtain ⟨k, rfl, hkn, HQ⟩ := hrel
              clear h8
              by_cases hk : k < m
              · have k1 : (k : Int) < (m : Int) := by omega
                have k2 : decide ((k : Int) < (m : Int)) = true := decide_eq_true k1
                have k3 : (k : Int) < 20 := by omega
                have k4 : (0 : Int) ≤ (k : Int) := by omega
                have H14 : Hid (Calls Try.prog 14 #[.pointer (some ⟨pb, 0, none⟩), .string (nmB k)] wr fun e w' => e = .returned (.tuple #[.agg #[.int .i64 (usedD D0 (nmI k)).1.a, .int .i64 (usedD D0 (nmI k)).1.b, .int .i64 (usedD D0 (nmI k)).1.c, .int .i64 (usedD D0 (nmI k)).1.d], .int .i64 ((usedD D0 (nmI k)).2 : Nat)]) ∧ Hid (LL w w' X pb D0)) := by
                  have := l_used HQ.out (nmB k) (nm_size k)
                  rw [nmI_eq] at this
                  exact this
                have hcv := nm_conv (i := k) (by omega)
                have h32 : IntKind.i32.wrap (97 + (k : Int)) = 97 + (k : Int) := by rw [IntKind.wrap_i32]; omega
                have hwa := was_at D0 hk
                generalize nmB k = nb at *
                generalize (usedD D0 (nmI k)).1 = uv at *
                generalize (usedD D0 (nmI k)).2 = uc at *
                clear HQ
                go_upto_region 27 with (go_at_call 14; refine H14.out.mono ?_; rintro e w6 ⟨rfl, h6⟩)
                have h7 : Hid (LL w (w6.alloc (.cells #[.int .i64 uv.a, .int .i64 uv.b, .int .i64 uv.c, .int .i64 uv.d] 33 (0, 0))) X pb D0) := h6.out.below ((Below.refl _ _).alloc (Nat.le_refl _) _)
                obtain ⟨d0, d1, d2, d3, -⟩ := cells4 (new0 (w := w6) (o := .cells #[.int .i64 uv.a, .int .i64 uv.b, .int .i64 uv.c, .int .i64 uv.d] 33 (0, 0)))
                clear H14 hcv h32 h6
                generalize w6.alloc (.cells #[.int .i64 uv.a, .int .i64 uv.b, .int .i64 uv.c, .int .i64 uv.d] 33 (0, 0)) = W7 at *
                generalize w6.heap.size = g15 at *
                obtain ⟨gg, hgg, hcell⟩ := (HK.out _ _ h7.out).at vC_len hwa
                subst hgg
                have e0 := hcell 0 _ rfl
                have e1 := hcell 1 _ rfl
                have e2 := hcell 2 _ rfl
                have e3 := hcell 3 _ rfl
                simp only [Nat.add_zero] at e0
                have q1 := eq_self uv
                clear hcell hwa
                go_quiet (fail)
                have h8 : Hid (∀ j, LL w (W7.drewN j) X pb D0) := fun j => h7.out.drew j
                go_wp2_with fail
                exact ⟨⟨k + 1, by simp, by omega, h8.out _⟩, by simp only [intOf]; omega⟩
              · have k1 : ¬ (k : Int) < (m : Int) := by omega
                have k2 : decide ((k : Int) < (m : Int)) = false := decide_eq_false k1
                go_wp2_with fail
                go_ret
                exact ⟨rfl, HQ.out.bel⟩
end Go.Proofs.Ytehgcaaeifnjeaa
