/-
  WorkerEpochs' law: the walk.
-/
import Derived.Test.YtihjmigjphljnaaLd
namespace Go.Proofs.Ytihjmigjphljnaa
open Go.RowKit Go.Maps Go.WideMaps
open Tk

/-- behind Expire -/
def Esx (w W : World) (X : Nat → Option Obj) (tb : Nat) (s : ByteArray) (now last : Int) : Prop := ∃ D, LL w W X tb (expR D now) ∧ (0 ≤ now ∧ now ≤ 999) ∧ (∀ n ∈ expR D now, n.sn ≤ now) ∧ last ≤ (getN (expR D now) s.data.toList).ep
/-- live nodes, all heard within their leases -/
def Lst (w : World) (p : Option Addr) (m : Nat) (now : Int) : Prop := m ≤ 12 ∧ ∃ M : List Nd, M.length = m ∧ VR w p M ∧ ∀ x ∈ M, now < x.sn + 10 ∧ 0 ≤ x.sn ∧ x.sn ≤ 1099511627776
set_option maxHeartbeats 16000000 in
set_option maxRecDepth 100000 in
theorem epochs_law (q : Option Addr) (n c : Nat) (L : List Opr) (s : ByteArray) (w : World) (hn : n = L.length) (hs : Scr w q L) (hz : ∀ o ∈ L, o.nm.size ≤ 140737488351232) (hi : ∀ o ∈ L, (Lit.int .i64 o.ep).wf = true ∧ (Lit.int .i64 o.now).wf = true) (hm : n ≤ 9223372036854775807) (hsz : s.size ≤ 281474976710656) :
    Calls Try.prog 4 #[.slice q n c, .string s] w fun e w' => e = .returned (.bool true) ∧ Below w.heap.size w w' := by
  have HA : Hid (∀ W, Calls Try.prog 9 #[] W fun e w' => e = .returned (.bool true) ∧ Hid (Below W.heap.size W w')) := awake_any
  by_cases h500 : 500 < n
  · have h3 : (500 : Int) < (n : Int) := by omega
    have h4 : decide ((500 : Int) < (n : Int)) = true := decide_eq_true h3
    clear hs hz hi hn hsz hm
    go_enter Try.func4, Try.ntmps4
    go_upto_region 2 with (go_at_call 9; refine (HA.out _).mono ?_; rintro e w1 ⟨rfl, b1⟩)
    have HB : Hid (Calls Try.prog 9 #[] w1 fun e w' => e = .returned (.bool true) ∧ Hid (Below w.heap.size w w')) := (HA.out w1).mono fun e w' ⟨h1, h2⟩ => ⟨h1, b1.out.trans (h2.out.mono b1.out.size)⟩
    clear HA b1
    go_wp2_with (go_at_call 9; refine HB.out.mono ?_; rintro e w2 ⟨rfl, b2⟩)
    go_ret
    exact ⟨rfl, b2.out⟩
  have h5 : decide ((500 : Int) < (n : Int)) = false := decide_eq_false (by omega)
  have hn500 : n ≤ 500 := by omega
  have HSc : Hid (Scr w q L ∧ n = L.length) := ⟨hs, hn⟩
  have HZ : Hid (∀ o ∈ L, o.nm.size ≤ 281474976710656 ∧ -9223372036854775808 ≤ o.now ∧ o.now ≤ 9223372036854775807) := fun o ho => ⟨by have := hz o ho; omega, by have := (hi o ho).2; simpa [Lit.wf, IntKind.min, IntKind.max, IntKind.signed, IntKind.bits] using this⟩
  have HSS : Hid (s.size ≤ 281474976710656) := hsz
  clear hs hz hi hn hsz hm h500
  have KR : Hid (∀ W X tb now last (o : Opr), o.nm.size ≤ 281474976710656 → Est w W X tb s now last → Calls Try.prog 18 #[.pointer (some ⟨tb, 0, none⟩), .string o.nm, .int .i64 o.ep, .agg #[.int .i64 o.v.a, .int .i64 o.v.b, .int .i64 o.v.c, .int .i64 o.v.d], .int .i64 now] W fun e w' => ∃ b r, e = .returned (.tuple #[.bool b, .int .i64 r]) ∧ Hid (Est w w' X tb s now last)) := fun W X tb now last o ho h => by
    obtain ⟨h1, D, h2, h3, h4⟩ := h
    exact (ll_reg h2 o.nm ho o.ep now o.v).mono fun e w' ⟨he, hh⟩ => ⟨_, _, he, Est.of h1 h4 hh.out (inc_reg h2.tab.1 h3)⟩
  have KB : Hid (∀ W X tb now last (o : Opr), o.nm.size ≤ 281474976710656 → Est w W X tb s now last → Calls Try.prog 19 #[.pointer (some ⟨tb, 0, none⟩), .string o.nm, .int .i64 o.ep, .int .i64 now] W fun e w' => ∃ r, e = .returned (.int .i64 r) ∧ Hid (Est w w' X tb s now last)) := fun W X tb now last o ho h => by
    obtain ⟨h1, D, h2, h3, h4⟩ := h
    exact (ll_beat h2 o.nm ho o.ep now).mono fun e w' ⟨he, hh⟩ => ⟨_, he, Est.of h1 h4 hh.out (inc_beat h2.tab.1 h3)⟩
  have KE : Hid (∀ W X tb now last, Est w W X tb s now last → Calls Try.prog 20 #[.pointer (some ⟨tb, 0, none⟩), .int .i64 now] W fun e w' => ∃ p m c', e = .returned (.slice p m c') ∧ Hid (Esx w w' X tb s now last)) := fun W X tb now last h => by
    obtain ⟨h1, D, h2, h3, h4⟩ := h
    have hi := inc_exp h3
    exact (ll_exp h2 now).mono fun e w' ⟨p, c', he, hh⟩ => ⟨p, _, c', he, D, hh.out.1, h1, hi.sn, Int.le_trans h4 (hi.ep _)⟩
  have KL : Hid (∀ W X tb now last, Esx w W X tb s now last → Calls Try.prog 14 #[.pointer (some ⟨tb, 0, none⟩)] W fun e w' => ∃ p m c', e = .returned (.slice p m c') ∧ Hid (Lst w' p m now ∧ Est w w' X tb s now last)) := fun W X tb now last h => by
    obtain ⟨D, h2, h1, h3, h4⟩ := h
    refine (ll_live h2).mono ?_
    rintro e w' ⟨p, c', he, hh⟩
    have ht := h2.tab
    exact ⟨p, _, c', he, ⟨Nat.le_trans (List.length_filter_le ..) ht.2.1, _, rfl, hh.out.2, fun x hx => ⟨live_exp x hx, (ht.2.2 x (List.mem_filter.1 hx).1).2.2.2⟩⟩, h1, _, hh.out.1, h3, h4⟩
  have KG : Hid (∀ W X tb now last, Est w W X tb s now last → Calls Try.prog 21 #[.pointer (some ⟨tb, 0, none⟩), .string s] W fun e w' => ∃ (x : Nd) (r : Int), e = .returned (.tuple #[.agg #[.string x.nm, .int .i64 x.ep, .int .i64 x.v.a, .int .i64 x.v.b, .int .i64 x.v.c, .int .i64 x.v.d, .int .i64 x.sn, .bool x.lv], .int .i64 r]) ∧ Hid (Est w w' X tb s now x.ep ∧ ((r = 0 ∧ last ≤ x.ep ∧ x.nm = s) ∨ r = 3))) := fun W X tb now last h => by
    obtain ⟨h1, D, h2, h3, h4⟩ := h
    refine (ll_get h2 s HSS.out).mono ?_
    rintro e w' ⟨he, hh⟩
    unfold getR at he
    have hg : ∀ o, fnd Nd.k s.data.toList D = some o → getN D s.data.toList = o := fun o hf => by unfold getN; rw [hf]; rfl
    cases hf : fnd Nd.k s.data.toList D with
    | none =>
      rw [hf] at he
      have hz : getN D s.data.toList = Nd.z := by unfold getN; rw [hf]; rfl
      exact ⟨Nd.z, 3, he, ⟨h1, D, hh.out, h3, by rw [hz]; exact Int.le_refl _⟩, .inr rfl⟩
    | some o =>
      rw [hf] at he
      rw [hg o hf] at h4
      exact ⟨o, 0, he, ⟨h1, D, hh.out, h3, by rw [hg o hf]; exact Int.le_refl _⟩, .inl ⟨rfl, h4, nm_of (fnd_some hf).2⟩⟩
  go_enter Try.func4, Try.ntmps4
  go_upto_region 3 with (go_at_call 9; refine (HA.out _).mono ?_; rintro e w1 ⟨rfl, b1⟩)
  clear HA
  go_upto_region 4 with (go_at_call 10; refine (new_any _).mono ?_; rintro e w2 ⟨rfl, rfl⟩)
  have L0 : Hid (Est w (w1.alloc (.cells #[.map none, .slice none 0 0, .map none] 63 (0, 0))) NX w1.heap.size s 0 0) := ⟨⟨by omega, by omega⟩, [], ll_new b1.out (kept_none w1), (fun _ h => nomatch h), Int.le_refl _⟩
  clear b1
  generalize w1.alloc (.cells #[.map none, .slice none 0 0, .map none] 63) = W2 at *
  generalize w1.heap.size = tb at *
  go_wp2_with fail
  go_loopw [6, 7, 8] (fun t6 t7 t8 wr => ∃ (i : Nat) (last now : Int), i ≤ n ∧ t6 = .int .i64 last ∧ t7 = .int .i64 now ∧ t8 = .int .i64 (i : Nat) ∧ Hid (Est w wr NX tb s now last)) (fun _ _ t8 _ => n - (intOf t8).toNat)
  case atStart => exact ⟨0, 0, 0, Nat.zero_le _, rfl, rfl, rfl, L0.out⟩
  case round =>
    obtain ⟨i, last, now, hi, rfl, rfl, rfl, HI⟩ := hrel
    clear L0
    by_cases hlt : i < n
    · obtain ⟨o, ho⟩ : ∃ o, L[i]? = some o := ⟨L[i]'(by have := HSc.out.2; omega), List.getElem?_eq_getElem _⟩
      have hbel : Below w.heap.size w wr := by obtain ⟨-, D, h2, -⟩ := HI.out; exact h2.bel
      obtain ⟨g, f, rfl, d0, d1, d2, d3, d4, d5, d6, d7⟩ := (HSc.out.1.below hbel) i o ho
      obtain ⟨hnm, hw0, hw1⟩ := HZ.out o (List.mem_of_getElem? ho)
      have hii : (i : Int) < (n : Int) := by omega
      obtain ⟨x, hx⟩ : ∃ x : Int, x = o.now.tmod 1000 := ⟨_, rfl⟩
      have hx1 : -1000 < x ∧ x < 1000 := by
        rw [hx]
        have h1 := Int.tmod_lt_of_pos o.now (show (0 : Int) < 1000 by omega)
        have h2 := Int.lt_tmod_of_pos o.now (show (0 : Int) < 1000 by omega)
        omega
      have hx2 : o.now.tmod 1000 = x := hx.symm
      have hx3 : IntKind.i64.wrap x = x := by rw [IntKind.wrap_i64]; omega
      obtain ⟨now2, hnow2⟩ : ∃ now2, max now x = now2 := ⟨_, rfl⟩
      have HE2 : Hid (Est w wr NX tb s now2 last) := by
        obtain ⟨⟨h0, h1⟩, D, h2, h3, h4⟩ := HI.out
        exact ⟨⟨by omega, by omega⟩, D, h2, fun n hn => by have := h3 n hn; omega, h4⟩
      have b1 : Below wr.heap.size wr (wr.alloc (.cells #[.int .i64 o.k, .string o.nm, .int .i64 o.ep, .int .i64 o.now, .int .i64 o.v.a, .int .i64 o.v.b, .int .i64 o.v.c, .int .i64 o.v.d] 34)) := (Below.refl _ _).alloc (Nat.le_refl _) _
      have I1 : Hid (Est w (wr.alloc (.cells #[.int .i64 o.k, .string o.nm, .int .i64 o.ep, .int .i64 o.now, .int .i64 o.v.a, .int .i64 o.v.b, .int .i64 o.v.c, .int .i64 o.v.d] 34)) (XS NX wr.heap.size (oB o)) tb s now2 last) := by
        obtain ⟨h1, D, h2, h3, h4⟩ := HE2.out
        exact ⟨h1, D, h2.add b1 new0 (Nat.le_refl _), h3, h4⟩
      have HB : Hid (∀ W now last, Est w W (XS NX wr.heap.size (oB o)) tb s now last → W.heap[wr.heap.size]? = some (oB o)) := fun W now last h => by
        obtain ⟨-, D, h2, -⟩ := h
        exact h2.kept _ _ (by unfold XS; rw [if_pos rfl])
      have HW : Hid (∀ W now last, Est w W (XS NX wr.heap.size (oB o)) tb s now last → 0 ≤ now ∧ now ≤ 999) := fun W now last h => h.1
      have HO : Hid (o.nm.size ≤ 281474976710656) := hnm
      clear ho hbel hnm hw0 hw1 hx HI HE2 b1
      go_upto_region 10 with fail
      clear d0 d1 d2 d3 d4 d5 d6 d7
      generalize wr.alloc (.cells #[.int .i64 o.k, .string o.nm, .int .i64 o.ep, .int .i64 o.now, .int .i64 o.v.a, .int .i64 o.v.b, .int .i64 o.v.c, .int .i64 o.v.d] 34) = W1 at *
      generalize wr.heap.size = g9 at *
      obtain ⟨d0, d1, d2, d3, d4, d5, d6, d7⟩ := oB_cells (HB.out _ _ _ I1.out)
      go_upto_block 2 with fail
      clear hx1 hx2 hx3 hnow2
      go_cut [10, 11] from 23 to 102 (fun _ _ wx => Hid (Est w wx (XS NX g9 (oB o)) tb s now2 last))
      case first =>
        rcases (by omega : o.k = 1 ∨ o.k = 2 ∨ o.k = 3 ∨ (o.k ≠ 1 ∧ o.k ≠ 2 ∧ o.k ≠ 3)) with h1 | h1 | h1 | ⟨h1, h2, h3⟩
        · have e1 : (o.k == 1) = true := by simp [h1]
          go_wp2_with (go_at_call 18; refine (KR.out _ _ _ _ _ o HO.out I1.out).mono ?_; rintro e w3 ⟨b, r, rfl, h3⟩)
          go_meet
          exact h3
        · have e1 : (o.k == 1) = false := by simp [h1]
          have e2 : (o.k == 2) = true := by simp [h1]
          go_wp2_with (go_at_call 19; refine (KB.out _ _ _ _ _ o HO.out I1.out).mono ?_; rintro e w3 ⟨r, rfl, h3⟩)
          go_meet
          exact h3
        · have e1 : (o.k == 1) = false := by simp [h1]
          have e2 : (o.k == 2) = false := by simp [h1]
          have e3 : (o.k == 3) = true := by simp [h1]
          go_upto_region 19 with (first | (go_at_call 20; refine (KE.out _ _ _ _ _ I1.out).mono ?_; rintro e w3 ⟨p, m, c', rfl, h3⟩) | (go_at_call 14; refine (KL.out _ _ _ _ _ h3.out).mono ?_; rintro e w4 ⟨p4, m4, c4, rfl, h4⟩))
          have HM : Hid (Lst w4 p4 m4 now2 ∧ Est w w4 (XS NX g9 (oB o)) tb s now2 last) := h4
          have hm12 := h4.out.1.1
          clear h3 h4 I1 d0 d1 d2 d3 d4 d5 d6 d7 e1 e2 e3 h1 KR KB KE KL KG
          go_wp2_with fail
          go_loopw [11] (fun t wr => ∃ k : Nat, k ≤ m4 ∧ t = .int .i64 k ∧ wr = w4) (fun t _ => m4 - (intOf t).toNat)
          case atStart => exact ⟨0, Nat.zero_le _, rfl, rfl⟩
          case round =>
            obtain ⟨k, hk, rfl, rfl⟩ := hrel
            by_cases hkm : k < m4
            · obtain ⟨-, M, hM, hV, hall⟩ := HM.out.1
              obtain ⟨y, hy⟩ : ∃ y, M[k]? = some y := ⟨M[k]'(by omega), List.getElem?_eq_getElem _⟩
              obtain ⟨gy, rfl⟩ := hV.some hy
              obtain ⟨-, -, -, -, -, -, x6, -⟩ := hV.cells hy
              obtain ⟨f1, f2, f3⟩ := hall y (List.mem_of_getElem? hy)
              have hk1 : (k : Int) < (m4 : Int) := by omega
              have hw : IntKind.i64.wrap (y.sn + 10) = y.sn + 10 := by rw [IntKind.wrap_i64]; omega
              have hle : decide (y.sn + 10 ≤ now2) = false := decide_eq_false (by omega)
              clear hy hall hV hM f1 f2 f3
              go_wp2_with fail
              exact ⟨⟨k + 1, by omega, by simp, by first | rfl | trivial⟩, by simp [intOf]; omega⟩
            · obtain rfl : k = m4 := by omega
              have hk1 : ¬ (k : Int) < (k : Int) := by omega
              go_wp2_with fail
              go_meet
              exact HM.out.2
        · have e1 : (o.k == 1) = false := by simpa using h1
          have e2 : (o.k == 2) = false := by simpa using h2
          have e3 : (o.k == 3) = false := by simpa using h3
          go_wp2_with fail
          go_meet
          exact I1
      case rest =>
        clear I1 d0 d1 d2 d3 d4 d5 d6 d7 KR KB KE KL
        go_upto_region 25 with (go_at_call 21; refine (KG.out _ _ _ _ _ hcut.out).mono ?_; rintro e w5 ⟨y, r, rfl, h5⟩)
        have b5 : Below w5.heap.size w5 (w5.alloc (.cells #[.string y.nm, .int .i64 y.ep, .int .i64 y.v.a, .int .i64 y.v.b, .int .i64 y.v.c, .int .i64 y.v.d, .int .i64 y.sn, .bool y.lv] 46)) := (Below.refl _ _).alloc (Nat.le_refl _) _
        have z0 : (w5.alloc (.cells #[.string y.nm, .int .i64 y.ep, .int .i64 y.v.a, .int .i64 y.v.b, .int .i64 y.v.c, .int .i64 y.v.d, .int .i64 y.sn, .bool y.lv] 46)).cell? ⟨w5.heap.size, 0, none⟩ = some (.string y.nm) := by rw [cell_of new0]; rfl
        have z1 : (w5.alloc (.cells #[.string y.nm, .int .i64 y.ep, .int .i64 y.v.a, .int .i64 y.v.b, .int .i64 y.v.c, .int .i64 y.v.d, .int .i64 y.sn, .bool y.lv] 46)).cell? ⟨w5.heap.size, 1, none⟩ = some (.int .i64 y.ep) := by rw [cell_of new0]; rfl
        have HF : Hid (Est w (w5.alloc (.cells #[.string y.nm, .int .i64 y.ep, .int .i64 y.v.a, .int .i64 y.v.b, .int .i64 y.v.c, .int .i64 y.v.d, .int .i64 y.sn, .bool y.lv] 46)) NX tb s now2 y.ep) := by
          obtain ⟨h1, D, h2, h3, h4⟩ := h5.out.1
          exact ⟨h1, D, (h2.weak).below b5, h3, h4⟩
        have HR := h5.out.2
        clear h5 b5 hcut KG HB HW
        generalize (w5.alloc (.cells #[.string y.nm, .int .i64 y.ep, .int .i64 y.v.a, .int .i64 y.v.b, .int .i64 y.v.c, .int .i64 y.v.d, .int .i64 y.sn, .bool y.lv] 46)) = W6 at *
        obtain ⟨yn, ye, yv, ys, yl⟩ := y
        simp only at z0 z1 HR HF
        rcases HR with ⟨rfl, h1, rfl⟩ | rfl
        · have hd : decide (ye < last) = false := decide_eq_false (by omega)
          have hb : (yn.toList == yn.toList) = true := by simp
          go_wp2_with fail
          exact ⟨⟨i + 1, ye, now2, by omega, rfl, rfl, by simp, HF.out⟩, by simp [intOf]; omega⟩
        · go_wp2_with fail
          exact ⟨⟨i + 1, ye, now2, by omega, rfl, rfl, by simp, HF.out⟩, by simp [intOf]; omega⟩
    · obtain rfl : i = n := by omega
      have hii : ¬ (i : Int) < (i : Int) := by omega
      have hbel : Hid (Below w.heap.size w wr) := by obtain ⟨-, D, h2, -⟩ := HI.out; exact h2.bel
      clear HI
      go_wp2_with fail
      go_ret
      exact ⟨rfl, hbel.out⟩
end Go.Proofs.Ytihjmigjphljnaa
