/-
  The reference's Free and Parents.
-/
import Derived.Test.YtodldfgoieikcaaRa
namespace Go.Proofs.Ytodldfgoieikcaa
open Go.RowKit Go.Maps

theorem Rel.has {g : GS} {R : List JB} (h : Rel g R) (hk : Jok R) {b : JB} (hb : b ∈ R) : hasB g (b.id : Int) = true := hasB_iff.2 ⟨b.id, rfl, (hk.g b hb).1, by have := (hk.g b hb).2.1; omega, by rw [(h.a b hb).1]; have := (hk.g b hb).2.2.1; omega⟩
theorem Rel.no {g : GS} {R : List JB} (h : Rel g R) {x : Int} (hx : ∀ b ∈ R, (b.id : Int) ≠ x) : hasB g x = false := by
  cases e : hasB g x
  · rfl
  · obtain ⟨i, rfl, h1, h2, h3⟩ := hasB_iff.1 e
    exact absurd (h.z i h2 fun b hb q => hx b hb (by omega)).1 h3
theorem freeB_no {g : GS} {x : Int} (h : hasB g x = false) : freeB g x = false := by unfold freeB; rw [h]; rfl
theorem freeB_yes {g : GS} {i : Nat} (h : hasB g (i : Int) = true) : freeB g (i : Int) = frB g i := by unfold freeB; rw [h]; simp
theorem mem_lsI {s : Nat → Bool} {x : Int} : x ∈ lsI s ↔ ∃ i : Nat, x = i ∧ i < 101 ∧ s i = true := lsK_mem
set_option maxHeartbeats 2000000 in
set_option maxRecDepth 100000 in
theorem rfree_any {w : World} {bs rb : Nat} {v : Value} {R : List JB} {g : GS} (h : Rm w bs rb v R) (hr : Rel g R) (x : Int) : Calls Try.prog 14 #[.pointer (some ⟨rb, 0, none⟩), .int .i64 x] w fun e w' => e = .returned (.bool (freeB g x)) ∧ w' = w := by
  have HM : Hid (Rm w bs rb v R) := h
  have HR : Hid (Rel g R) := hr
  have HF : Hid (∀ (y k : Int), Fnd R y k → ∀ w', w' = w → Calls Try.prog 27 #[.pointer (some ⟨rb, 0, none⟩), .int .i64 y] w' fun e w' => e = .returned (.int .i64 k) ∧ w' = w) := fun y k hk w' e => by rw [e]; exact find_any h hk
  obtain ⟨k, hk⟩ := fnd_all R x
  rcases hk with ⟨i, b, rfl, hb, rfl⟩ | ⟨rfl, hno⟩
  · have HK : Hid (Fnd R (b.id : Int) (i : Int)) := .inl ⟨i, b, rfl, hb, rfl⟩
    have hil := (List.getElem?_eq_some_iff.1 hb).1
    obtain ⟨gg, c, e0⟩ := h.row (by omega)
    have c0 := h.cell
    have hlen := h.ok.len
    have hbm := List.mem_of_getElem? hb
    subst e0
    obtain ⟨s0, s1, s2⟩ := h.cells hb
    obtain ⟨n, hn⟩ : ∃ n, n = R.length := ⟨_, rfl⟩
    have HNN : Hid (n = R.length) := hn
    rw [← hn] at c0 hlen hil
    have hi' : (i : Int) < (n : Int) := by omega
    have hi0 : decide ((i : Int) < 0) = false := decide_eq_false (by omega)
    have HB : Hid (freeB g (b.id : Int) = frB g b.id) := freeB_yes (hr.has h.ok hbm)
    have hst := (hr.a b hbm).1
    have hps := (hr.a b hbm).2
    have hpr := (h.p b hbm).ai
    have hpn := h.ok.q b hbm
    have hid := h.ok.g b hbm
    have HP : Hid (b.n = b.ps.length ∧ AI w b.p b.ps ∧ b.ps = lsI (g.ps b.id) ∧ g.st b.id = b.st ∧ b.id ≤ 100 ∧ ∀ x ∈ b.ps, isN x = true) := ⟨hpn.1, hpr, hps, hst, hid.2.1, hpn.2.2.2⟩
    have hbn := hpn.2.1
    generalize b.p = bp at *
    generalize b.n = bn at *
    generalize b.c = bc at *
    clear hn hb h hr hst hps hpr hpn hid hbm
    by_cases h1 : b.st = 1
    · have h1' : ((b.st : Int) != 1) = false := by simp [h1]
      have H1 : Hid (b.st = 1) := h1
      clear h1
      go_enter Try.func14, Try.ntmps14
      go_upto_region 4 with (go_at_call 27; refine (HF.out _ _ HK.out _ rfl).mono ?_; rintro e w1 ⟨rfl, rfl⟩)
      clear s0 s2 h1'
      go_wp2_with fail
      go_loopw [6] (fun t wr => ∃ j : Nat, t = .int .i64 j ∧ j ≤ bn ∧ wr = w1 ∧ Hid (∀ (m : Nat) (y : Int), m < j → b.ps[m]? = some y → ∃ b2 ∈ R, (b2.id : Int) = y ∧ b2.st = 2)) (fun t _ => bn - (intOf t).toNat)
      case atStart => exact ⟨0, rfl, Nat.zero_le _, rfl, fun j _ hj => absurd hj (by omega)⟩
      case round =>
        obtain ⟨j, rfl, hjn, rfl, HJ⟩ := hrel
        by_cases hj : j < bn
        · have hj' : (j : Int) < (bn : Int) := by omega
          obtain ⟨y, hy⟩ : ∃ y, b.ps[j]? = some y := ⟨_, List.getElem?_eq_getElem (by have := HP.out.1; omega)⟩
          obtain ⟨pg, po, rfl, cy⟩ := HP.out.2.1 j y hy
          obtain ⟨ky, hky⟩ := fnd_all R y
          have HKY : Hid (Fnd R y ky) := hky
          have hyN := HP.out.2.2.2.2.2 y (List.mem_of_getElem? hy)
          obtain ⟨yn, rfl, hy1, hy2⟩ := isN_nat hyN
          have hpsy : g.ps b.id yn = true := by
            have hm := List.mem_of_getElem? hy
            rw [HP.out.2.2.1] at hm
            obtain ⟨z, e1, e2, e3⟩ := mem_lsI.1 hm
            have : yn = z := by omega
            rw [this]; exact e3
          clear hyN
          rcases hky with ⟨i2, b2, rfl, hb2, hid2⟩ | ⟨rfl, hno⟩
          · obtain ⟨-, -, t2⟩ := HM.out.cells hb2
            have hi2l := (List.getElem?_eq_some_iff.1 hb2).1
            have hi2 : (i2 : Int) < (n : Int) := by have := HNN.out; omega
            have hi20 : decide ((i2 : Int) < 0) = false := decide_eq_false (by omega)
            by_cases h2 : b2.st = 2
            · have h2' : ((b2.st : Int) != 2) = false := by simp [h2]
              have HX : Hid (∀ (m : Nat) (y : Int), m < j + 1 → b.ps[m]? = some y → ∃ b2 ∈ R, (b2.id : Int) = y ∧ b2.st = 2) := fun m z hm hz => by
                by_cases e : m = j
                · subst e; rw [hy] at hz; cases hz; exact ⟨b2, List.mem_of_getElem? hb2, hid2, h2⟩
                · exact HJ.out m z (by omega) hz
              clear h2 hy hb2 hid2 hpsy
              go_wp2_with (go_at_call 27; refine (HF.out _ _ HKY.out _ rfl).mono ?_; rintro e w1 ⟨rfl, rfl⟩)
              refine ⟨⟨j + 1, by simp, by omega, by first | rfl | trivial, HX.out⟩, ?_⟩
              simp [intOf]
              omega
            · have h2' : ((b2.st : Int) != 2) = true := by simp; omega
              have HX : Hid (frB g b.id = false) := frB_no fun q => by
                have := q.2 yn hy2 hpsy
                have h3 := (HR.out.a b2 (List.mem_of_getElem? hb2)).1
                have : b2.id = yn := by omega
                rw [this] at h3
                omega
              clear h2 hy hb2 hid2 hpsy
              go_wp2_with (go_at_call 27; refine (HF.out _ _ HKY.out _ rfl).mono ?_; rintro e w1 ⟨rfl, rfl⟩)
              go_ret
              exact ⟨ret_b (by rw [HB.out, HX.out]), rfl⟩
          · have HX : Hid (frB g b.id = false) := frB_no fun q => by
              have h3 := q.2 yn hy2 hpsy
              have h4 := (HR.out.z yn hy2 fun b3 hb3 e => hno b3 hb3 (by omega)).1
              omega
            clear hy hno hpsy
            go_wp2_with (go_at_call 27; refine (HF.out _ _ HKY.out _ rfl).mono ?_; rintro e w1 ⟨rfl, rfl⟩)
            go_ret
            exact ⟨ret_b (by rw [HB.out, HX.out]), rfl⟩
        · have hj' : ¬ (j : Int) < (bn : Int) := by omega
          have HX : Hid (frB g b.id = true) := frB_iff.2 ⟨by rw [HP.out.2.2.2.1]; exact H1.out, fun m hm hp => by
            have hmm : (m : Int) ∈ b.ps := by rw [HP.out.2.2.1]; exact mem_lsI.2 ⟨m, rfl, hm, hp⟩
            obtain ⟨t, ht⟩ := List.getElem?_of_mem hmm
            obtain ⟨b2, h1, h2, h3⟩ := HJ.out t m (by have := (List.getElem?_eq_some_iff.1 ht).1; have := HP.out.1; omega) ht
            have h4 := (HR.out.a b2 h1).1
            have : b2.id = m := by omega
            rw [this] at h4
            omega⟩
          go_wp2_with fail
          go_ret
          exact ⟨ret_b (by rw [HB.out, HX.out]), rfl⟩
    · have h1' : ((b.st : Int) != 1) = true := by simp; omega
      have HX : Hid (frB g b.id = false) := frB_no fun q => h1 (by rw [← HP.out.2.2.2.1]; exact q.1)
      clear h1
      go_enter Try.func14, Try.ntmps14
      go_wp2_with (go_at_call 27; refine (HF.out _ _ HK.out _ rfl).mono ?_; rintro e w1 ⟨rfl, rfl⟩)
      go_ret
      exact ⟨ret_b (by rw [HB.out, HX.out]), rfl⟩
  · have HK : Hid (Fnd R x (-1)) := .inr ⟨rfl, hno⟩
    have HX : Hid (freeB g x = false) := freeB_no (hr.no hno)
    clear h hr hno
    go_enter Try.func14, Try.ntmps14
    go_wp2_with (go_at_call 27; refine (HF.out _ _ HK.out _ rfl).mono ?_; rintro e w1 ⟨rfl, rfl⟩)
    go_ret
    exact ⟨ret_b HX.out.symm, rfl⟩

set_option maxHeartbeats 1000000 in
set_option maxRecDepth 100000 in
theorem rpar_any {w : World} {bs rb : Nat} {v : Value} {R : List JB} {g : GS} (h : Rm w bs rb v R) (hr : Rel g R) (x : Int) : Calls Try.prog 22 #[.pointer (some ⟨rb, 0, none⟩), .int .i64 x] w fun e w' => ∃ (p : Option Addr) (n c : Nat) (er : Int), e = .returned (.tuple #[.slice p n c, .int .i64 er]) ∧ n ≤ 101 ∧ w' = w ∧ Hid (∃ E, ParR g x E er g ∧ n = E.length ∧ AI w p E) := by
  have HF : Hid (∀ (y k : Int), Fnd R y k → ∀ w', w' = w → Calls Try.prog 27 #[.pointer (some ⟨rb, 0, none⟩), .int .i64 y] w' fun e w' => e = .returned (.int .i64 k) ∧ w' = w) := fun y k hk w' e => by rw [e]; exact find_any h hk
  obtain ⟨k, hk⟩ := fnd_all R x
  rcases hk with ⟨i, b, rfl, hb, rfl⟩ | ⟨rfl, hno⟩
  · have HK : Hid (Fnd R (b.id : Int) (i : Int)) := .inl ⟨i, b, rfl, hb, rfl⟩
    have hil := (List.getElem?_eq_some_iff.1 hb).1
    obtain ⟨gg, c, e0⟩ := h.row (by omega)
    have c0 := h.cell
    have hlen := h.ok.len
    have hbm := List.mem_of_getElem? hb
    subst e0
    obtain ⟨s0, s1, s2⟩ := h.cells hb
    obtain ⟨n, hn⟩ : ∃ n, n = R.length := ⟨_, rfl⟩
    rw [← hn] at c0 hlen hil
    have hi' : (i : Int) < (n : Int) := by omega
    have hi0 : decide ((i : Int) < 0) = false := decide_eq_false (by omega)
    have hid := h.ok.g b hbm
    have HP : Hid (b.n ≤ 101 ∧ ∃ E, ParR g (b.id : Int) E 0 g ∧ b.n = E.length ∧ AI w b.p E) := ⟨(h.ok.q b hbm).2.1, b.ps, by
      rw [(hr.a b hbm).2]
      exact .ok b.id rfl hid.1 (by omega) (by rw [(hr.a b hbm).1]; omega), (h.ok.q b hbm).1, (h.p b hbm).ai⟩
    clear hn hb h hr hid hbm
    go_enter Try.func22, Try.ntmps22
    go_wp2_with (go_at_call 27; refine (HF.out _ _ HK.out _ rfl).mono ?_; rintro e w1 ⟨rfl, rfl⟩)
    go_ret2
    exact ⟨b.p, b.n, b.c, 0, rfl, HP.out.1, rfl, HP.out.2⟩
  · have HK : Hid (Fnd R x (-1)) := .inr ⟨rfl, hno⟩
    have HX : Hid (ParR g x [] 3 g) := .none (hr.no hno)
    clear h hr hno
    go_enter Try.func22, Try.ntmps22
    go_wp2_with (go_at_call 27; refine (HF.out _ _ HK.out _ rfl).mono ?_; rintro e w1 ⟨rfl, rfl⟩)
    go_ret2
    exact ⟨none, 0, 0, 3, rfl, by omega, rfl, [], HX.out, rfl, AI.nil _ _⟩
end Go.Proofs.Ytodldfgoieikcaa
