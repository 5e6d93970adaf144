/-
  LedgerAll's law.
-/
import Derived.Test.YtehgcaaeifnjeaaLb
import Derived.Test.YtehgcaaeifnjeaaGr
namespace Go.Proofs.Ytehgcaaeifnjeaa
open Go.RowKit Go.Maps Go.WideMaps

def eC (e : E) : List Value := [.string e.nm, .int .i64 e.am.a, .int .i64 e.am.b, .int .i64 e.am.c, .int .i64 e.am.d]
theorem eC_len (e : E) : (eC e).length = 5 := rfl
theorem eC_one (e : E) : ∀ u ∈ eC e, u.oneCell' = true := by
  intro u hu
  simp only [eC, List.mem_cons, List.not_mem_nil, or_false] at hu
  rcases hu with rfl | rfl | rfl | rfl | rfl <;> rfl
theorem info50 : (Try.prog.info? 50).map (fun i => (i.zero, i.size, i.bytes)) = some (some (.agg #[.string ⟨#[]⟩, .int .i64 0, .int .i64 0, .int .i64 0, .int .i64 0]), 5, 48) := by kernel_rfl
/-- a row of entries made by a law -/
abbrev ER (b : Nat) (w : World) (v : Value) (L : List E) : Prop := GRow 50 5 eC b w v L
theorem ER.erow {b : Nat} {w : World} {q : Option Addr} {n c : Nat} {L : List E} (h : ER b w (.slice q n c) L) : ERow w q L := fun i v hv => by
  obtain ⟨g, rfl, hk⟩ := h.at eC_len hv
  refine ⟨g, 0, rfl, ?_⟩
  have k0 := hk 0 _ rfl
  have k1 := hk 1 _ rfl
  have k2 := hk 2 _ rfl
  have k3 := hk 3 _ rfl
  have k4 := hk 4 _ rfl
  simp only [Nat.zero_add, Nat.add_zero] at *
  exact ⟨k0, k1, k2, k3, k4⟩
theorem tot_ge {es : List E} (h : ∀ e ∈ es, e.am.ok = true) {e : E} (he : e ∈ es) : e.am.le (tot es e.n) = true := by
  induction es with
  | nil => cases he
  | cons x r ih =>
    have hr : ∀ y ∈ r, y.am.ok = true := fun y hy => h y (List.mem_cons_of_mem _ hy)
    have hp := tot_pos hr e.n
    rw [tot_cons]
    rcases List.mem_cons.1 he with rfl | he
    · rw [if_pos rfl]
      refine V.le_iff.2 ?_
      unfold V.pos V.add at *
      simp only at *
      omega
    · have h2 := V.le_iff.1 (ih hr he)
      have h3 := V.pos_ok (h x (List.mem_cons_self ..))
      split
      · refine V.le_iff.2 ?_
        unfold V.pos V.add at *
        simp only at *
        omega
      · exact ih hr he
def aM : V := ⟨1099511627776, 1099511627776, 1099511627776, 1099511627776⟩
def alD1 : List A := [⟨[97], aM, V.nil⟩]
def alD : List A := [⟨[97], aM, V.nil⟩, ⟨[98], V.nil, V.nil⟩]
def bE : E := ⟨⟨#[98]⟩, ⟨0, 0, 1, 0⟩⟩
theorem al_open1 : openD [] [97] aM = (0, alD1) := by kernel_rfl
theorem al_open2 : openD alD1 [98] V.nil = (0, alD) := by kernel_rfl
theorem al_usedA : usedD alD [97] = (V.nil, 0) := by decide +kernel
theorem al_usedB : usedD alD [98] = (V.nil, 0) := by decide +kernel
/-- entries of a, and one of b that is too much -/
def Als (F : List E) : Prop := ∀ e ∈ F, e = bE ∨ e.nm = ⟨#[97]⟩
theorem al_take {F : List E} (h : Als F) (hb : bE ∈ F) : ((takeD alD F).1 = 9 ∨ (takeD alD F).1 = 4) ∧ (takeD alD F).2 = alD := by
  unfold takeD
  by_cases hc : checkD alD F = 0
  · unfold postD
    rw [if_pos hc]
    cases hs : seqU takeF alD (u0 alD) F with
    | none => exact ⟨.inl rfl, rfl⟩
    | some u =>
      obtain ⟨h1, _⟩ := seq_take_some hs
      obtain ⟨a, ha, hl⟩ := h1 bE hb
      have hok := (check0 hc).1
      have hge := V.le_iff.1 (tot_ge hok hb)
      have e1 : fnd A.nm bE.n alD = some ⟨[98], V.nil, V.nil⟩ := by rfl
      obtain rfl := Option.some.inj (ha.symm.trans e1)
      have e2 : u0 alD bE.n = V.nil := by rfl
      rw [e2, nil_add] at hl
      have hl := V.le_iff.1 hl
      unfold bE V.nil at *
      simp only at *
      omega
  · rw [postD_bad hc]
    refine ⟨.inr ?_, rfl⟩
    unfold checkD at *
    by_cases h4 : F.all (fun e => e.am.ok) = true
    · rw [if_pos h4] at hc ⊢
      have h5 : F.all (fun e => (fnd A.nm e.n alD).isSome) = true := List.all_eq_true.2 fun e he => by
        rcases h e he with rfl | q
        · rfl
        · unfold E.n
          rw [q]
          rfl
      rw [if_pos h5] at hc
      exact absurd rfl hc
    · rw [if_neg h4]
theorem app_e {ops : Array Oper} {rest : List Oper} {o : Oper} {a : Act} {Q : Exit → Act → World → Prop} {wr : World} {B : Nat} (hgd : o.guard = none) (s x : Operand) (ho : o.op = .call { callee := .builtin .append, args := #[s, x], argTypes := #[34, 34] }) (p : Option Addr) (m c : Nat) (E : List E) (hs : a.eval s = .slice p m c) (hr : ER B wr (.slice p m c) E) (hB : B ≤ wr.heap.size)
    (g off n cc : Nat) (F : List Go.Proofs.Ytehgcaaeifnjeaa.E) (hx : a.eval x = .slice (some ⟨g, off, none⟩) n cc) (hn : n = F.length) (hF : RowV wr g off (F.flatMap eC)) (h9 : m + n ≤ 1000000000000)
    (h : ∀ p3 c3 w3, ER B w3 (.slice p3 (m + n) c3) (E ++ F) → Below B wr w3 → wpList Try.prog ops Q rest (a.put o.dst (.slice p3 (m + n) c3)) w3) :
    wpList Try.prog ops Q (o :: rest) a wr := append_g eC_len eC_one Try.underlying34 info50 rfl (by decide) hgd s x ho p m c E hs hr hB g off n cc F hx hn hF (by unfold maxLen; omega) (by omega) h
theorem als_b {F : List E} (h : Als F) : Als (F ++ [bE]) := fun e he => by
  rcases List.mem_append.1 he with h' | h'
  · exact h e h'
  · exact .inl (List.mem_singleton.1 h')
/-- while the entries are laid -/
structure Aly (W0 wr : World) (k i : Nat) (p : Option Addr) (m c : Nat) (F : List E) : Prop where
  r : ER W0.heap.size wr (.slice p m c) F
  b : Below W0.heap.size W0 wr
  a : Als F
  k : k < i → bE ∈ F
  n : F.length ≤ 2 * i
structure Mid (W0 wr : World) (i : Nat) (p : Option Addr) (m c : Nat) (F : List E) (P : Prop) : Prop where
  r : ER W0.heap.size wr (.slice p m c) F
  b : Below W0.heap.size W0 wr
  a : Als F
  k : P → bE ∈ F
  n : F.length ≤ 2 * i + 1
set_option maxHeartbeats 4000000 in
set_option maxRecDepth 100000 in
theorem all_law (q : Option Addr) (n c : Nat) (L : List E) (y : Nat) (w : World) (hn : n = L.length) (hr : ERow w q L) (hm : n ≤ 9223372036854775807) (hy : y ≤ 255) :
    Calls Try.prog 6 #[.slice q n c, .int .u8 y] w fun e w' => e = .returned (.bool true) ∧ Below w.heap.size w w' := by
  have HA : Hid (∀ W, Below w.heap.size w W → Calls Try.prog 9 #[] W fun e w' => e = .returned (.bool true) ∧ Hid (Below w.heap.size w w')) := fun W b => (awake_any w W NX b (fun k o h => by cases h)).mono fun e w' ⟨he, hb⟩ => ⟨he, hb.out.1⟩
  have HN : Hid (∀ W, Below w.heap.size w W → Calls Try.prog 11 #[] W fun e w' => ∃ pb, e = .returned (.pointer (some ⟨pb, 0, none⟩)) ∧ Hid (LL w w' NX pb [])) := fun W b => (new_any W).mono fun e w' ⟨he, hw⟩ => ⟨_, he, by rw [hw]; exact l_new w W NX b (fun k o h => by cases h)⟩
  have HO1 : Hid (∀ pb W, LL w W NX pb [] → Calls Try.prog 18 #[.pointer (some ⟨pb, 0, none⟩), .string ⟨#[97]⟩, .agg #[.int .i64 1099511627776, .int .i64 1099511627776, .int .i64 1099511627776, .int .i64 1099511627776]] W fun e w' => e = .returned (.int .i64 0) ∧ Hid (LL w w' NX pb alD1)) := fun pb W h => by
    have := l_open h ⟨#[97]⟩ (by decide) aM
    rw [show (ByteArray.mk #[97]).data.toList = [97] from rfl, al_open1] at this
    exact this
  have HO2 : Hid (∀ pb W, LL w W NX pb alD1 → Calls Try.prog 18 #[.pointer (some ⟨pb, 0, none⟩), .string ⟨#[98]⟩, .agg #[.int .i64 0, .int .i64 0, .int .i64 0, .int .i64 0]] W fun e w' => e = .returned (.int .i64 0) ∧ Hid (LL w w' NX pb alD)) := fun pb W h => by
    have := l_open h ⟨#[98]⟩ (by decide) V.nil
    rw [show (ByteArray.mk #[98]).data.toList = [98] from rfl, al_open2] at this
    exact this
  have HU1 : Hid (∀ X pb W, LL w W X pb alD → Calls Try.prog 14 #[.pointer (some ⟨pb, 0, none⟩), .string ⟨#[97]⟩] W fun e w' => e = .returned (.tuple #[.agg #[.int .i64 0, .int .i64 0, .int .i64 0, .int .i64 0], .int .i64 0]) ∧ Hid (LL w w' X pb alD)) := fun X pb W h => by
    have := l_used h ⟨#[97]⟩ (by decide)
    rw [show (ByteArray.mk #[97]).data.toList = [97] from rfl, al_usedA] at this
    exact this
  have HU2 : Hid (∀ X pb W, LL w W X pb alD → Calls Try.prog 14 #[.pointer (some ⟨pb, 0, none⟩), .string ⟨#[98]⟩] W fun e w' => e = .returned (.tuple #[.agg #[.int .i64 0, .int .i64 0, .int .i64 0, .int .i64 0], .int .i64 0]) ∧ Hid (LL w w' X pb alD)) := fun X pb W h => by
    have := l_used h ⟨#[98]⟩ (by decide)
    rw [show (ByteArray.mk #[98]).data.toList = [98] from rfl, al_usedB] at this
    exact this
  have q1 : ∀ w, (Op.equalIn 10000 33 (.agg #[.int .i64 0, .int .i64 0, .int .i64 0, .int .i64 0]) (.agg #[.int .i64 0, .int .i64 0, .int .i64 0, .int .i64 0])).run Try.prog w = .ok true w := fun w => eq4 0 0 0 0 0 0 0 0 w
  have HR : Hid (ERow w q L) := hr
  have HL : Hid (n = L.length) := hn
  clear hr hn
  by_cases h100 : 100 < n
  · have g1 : (100 : Int) < (n : Int) := by omega
    have g2 : decide ((100 : Int) < (n : Int)) = true := decide_eq_true g1
    clear HN HO1 HO2 HU1 HU2 q1
    go_enter Try.func6, Try.ntmps6
    go_wp2_with (go_at_call 9; refine (HA.out _ (Below.refl _ _)).mono ?_)
    first | rintro e w1 rfl b1 | rintro e w1 ⟨rfl, b1⟩
    go_wp2_with (go_at_call 9; refine (HA.out _ b1.out).mono ?_)
    first | rintro e w2 rfl b2 | rintro e w2 ⟨rfl, b2⟩
    go_wp2_with fail
    go_ret
    exact ⟨rfl, b2.out⟩
  · have g1 : ¬ (100 : Int) < (n : Int) := by omega
    have g2 : decide ((100 : Int) < (n : Int)) = false := decide_eq_false g1
    go_enter Try.func6, Try.ntmps6
    go_upto_region 3 with (go_at_call 9; refine (HA.out _ (Below.refl _ _)).mono ?_; rintro e w1 ⟨rfl, b1⟩)
    go_upto_region 4 with (go_at_call 11; refine (HN.out _ b1.out).mono ?_; rintro e w2 ⟨pb, rfl, h2⟩)
    go_upto_region 5 with (go_at_call 18; refine (HO1.out pb _ h2.out).mono ?_; rintro e w3 ⟨rfl, h3⟩)
    go_upto_region 6 with (go_at_call 18; refine (HO2.out pb _ h3.out).mono ?_; rintro e W0 ⟨rfl, h4⟩)
    clear h2 h3 b1 HA HN HO1 HO2
    have ht : ((y : Int)).tmod ((n : Int) + 1) = ((y % (n + 1) : Nat) : Int) := by
      rw [show ((n : Int) + 1) = ((n + 1 : Nat) : Int) by simp, Int.tmod_eq_emod_of_nonneg (by omega)]
      simp
    have hkl : y % (n + 1) ≤ n := Nat.le_of_lt_succ (Nat.mod_lt y (Nat.succ_pos n))
    generalize y % (n + 1) = k at *
    have hw1 : wrap64 (y : Int) = y := by unfold wrap64; omega
    have hw2 : wrap64 (k : Int) = k := by unfold wrap64; omega
    have hnz : ¬ ((n : Int) + 1 = 0) := by omega
    go_upto_region 8 with fail
    clear ht hw1 hw2 hnz hy
    have HLL : Hid (LL w W0 NX pb alD) := h4.out
    have HW0 : Hid (Below w.heap.size w W0) := h4.out.bel
    clear h4
    go_wp2_with fail
    go_loopw [7, 8] (fun v x wr => ∃ i p m c F, v = .slice p m c ∧ x = .int .i64 (i : Nat) ∧ i ≤ n + 1 ∧ Aly W0 wr k i p m c F) (fun _ x _ => n + 2 - (intOf x).toNat)
    case atStart => exact ⟨0, none, 0, 0, [], rfl, rfl, Nat.zero_le _, GRow.nil _ _ _ _ _, Below.refl _ _, (fun e he => by cases he), (fun h => absurd h (Nat.not_lt_zero _)), Nat.zero_le _⟩
    case round =>
      obtain ⟨i, p, m, c9, F, rfl, rfl, hi, hA⟩ := hrel
      have hml : m = F.length := hA.r.len
      have hF2 := hA.n
      have hm2 : m ≤ 202 := by omega
      have AL : Hid (Aly W0 wr k i p m c9 F) := hA
      clear hA hF2 hml
      by_cases hin : i ≤ n
      · have i1 : (i : Int) ≤ (n : Int) := by omega
        have i2 : decide ((i : Int) ≤ (n : Int)) = true := decide_eq_true i1
        have i3 : (i : Int) ≤ 100 := by omega
        by_cases hik : i = k
        · subst hik
          have R1 : Hid (ER W0.heap.size (wr.alloc (.cells #[.string ⟨#[98]⟩, .int .i64 0, .int .i64 0, .int .i64 1, .int .i64 0] 50 (0, 0))) (.slice p m c9) F) := AL.out.r.below ((Below.refl _ _).alloc (Nat.le_refl _) _)
          have B1 : Hid (Below W0.heap.size W0 (wr.alloc (.cells #[.string ⟨#[98]⟩, .int .i64 0, .int .i64 0, .int .i64 1, .int .i64 0] 50 (0, 0)))) := AL.out.b.alloc AL.out.b.size _
          have V1 : Hid (RowV (wr.alloc (.cells #[.string ⟨#[98]⟩, .int .i64 0, .int .i64 0, .int .i64 1, .int .i64 0] 50 (0, 0))) wr.heap.size 0 ([bE].flatMap eC)) := row_one new0 rfl
          go_upto_region 13 with (at_builtin; refine app_e (wr := wr.alloc (.cells #[.string ⟨#[98]⟩, .int .i64 0, .int .i64 0, .int .i64 1, .int .i64 0] 50 (0, 0))) (B := W0.heap.size) rfl _ _ rfl p m c9 F rfl R1.out B1.out.size wr.heap.size 0 1 1 [bE] rfl rfl V1.out (by omega) ?_; intro p3 c3 w3 R3 hB3)
          have AM : Hid (Mid W0 w3 i p3 (m + 1) c3 (F ++ [bE]) True) := ⟨R3, B1.out.trans hB3, als_b AL.out.a, (fun _ => List.mem_append_right _ (List.mem_singleton.2 rfl)), by have := AL.out.n; simp; omega⟩
          clear R1 B1 V1 R3 hB3 AL
          generalize hm3 : m + 1 = m3 at *
          have hm4 : m3 ≤ 203 := by omega
          clear hm3
          obtain ⟨F3, hF3⟩ : ∃ F3, F3 = F ++ [bE] := ⟨_, rfl⟩
          rw [← hF3] at AM
          clear hF3
          by_cases hil : i < n
          · have j1 : (i : Int) < (n : Int) := by omega
            have j2 : decide ((i : Int) < (n : Int)) = true := decide_eq_true j1
            obtain ⟨v, hv⟩ : ∃ v, L[i]? = some v := ⟨L[i]'(by rw [← HL.out]; omega), List.getElem?_eq_getElem _⟩
            obtain ⟨g, o, rfl, c0, c1, c2, c3', c4⟩ := (HR.out.keep (HW0.out.trans (AM.out.b.mono HW0.out.size))) i _ hv
            obtain ⟨nm, a0, a1, a2, a3⟩ := v
            simp only [] at c0 c1 c2 c3' c4
            clear hv
            have R1 : Hid (ER W0.heap.size (w3.alloc (.cells #[.string ⟨#[97]⟩, .int .i64 a0, .int .i64 a1, .int .i64 a2, .int .i64 a3] 50 (0, 0))) (.slice p3 m3 c3) F3) := AM.out.r.below ((Below.refl _ _).alloc (Nat.le_refl _) _)
            have B1 : Hid (Below W0.heap.size W0 (w3.alloc (.cells #[.string ⟨#[97]⟩, .int .i64 a0, .int .i64 a1, .int .i64 a2, .int .i64 a3] 50 (0, 0)))) := AM.out.b.alloc AM.out.b.size _
            have V1 : Hid (RowV (w3.alloc (.cells #[.string ⟨#[97]⟩, .int .i64 a0, .int .i64 a1, .int .i64 a2, .int .i64 a3] 50 (0, 0))) w3.heap.size 0 ([(⟨⟨#[97]⟩, ⟨a0, a1, a2, a3⟩⟩ : E)].flatMap eC)) := row_one new0 rfl
            go_wp2_with (at_builtin; refine app_e (wr := w3.alloc (.cells #[.string ⟨#[97]⟩, .int .i64 a0, .int .i64 a1, .int .i64 a2, .int .i64 a3] 50 (0, 0))) (B := W0.heap.size) rfl _ _ rfl p3 m3 c3 F3 rfl R1.out B1.out.size w3.heap.size 0 1 1 [⟨⟨#[97]⟩, ⟨a0, a1, a2, a3⟩⟩] rfl rfl V1.out (by omega) ?_; intro p5 c5 w5 R5 hB5)
            refine ⟨⟨i + 1, p5, m3 + 1, c5, _, rfl, by simp, by omega, R5, B1.out.trans hB5, (fun e he => ?_), (fun hki => List.mem_append_left _ (AM.out.k trivial)), ?_⟩, by simp only [intOf]; omega⟩
            · rcases List.mem_append.1 he with h | h
              · exact AM.out.a e h
              · exact .inr (by rw [List.mem_singleton.1 h])
            · have := AM.out.n
              simp
              omega
          · have j1 : ¬ (i : Int) < (n : Int) := by omega
            have j2 : decide ((i : Int) < (n : Int)) = false := decide_eq_false j1
            go_wp2_with fail
            exact ⟨⟨i + 1, p3, m3, c3, _, rfl, by simp, by omega, AM.out.r, AM.out.b, AM.out.a, (fun hki => AM.out.k trivial), by have := AM.out.n; omega⟩, by simp only [intOf]; omega⟩
        · have k1 : ¬ (i : Int) = (k : Int) := by omega
          have k2 : ((i : Int) == (k : Int)) = false := by simpa using k1
          have k3 : decide ((i : Int) = (k : Int)) = false := decide_eq_false k1
          go_upto_region 13 with fail
          have AM : Hid (Mid W0 wr i p m c9 F (k < i)) := ⟨AL.out.r, AL.out.b, AL.out.a, AL.out.k, by have := AL.out.n; omega⟩
          clear AL
          generalize p = p3, m = m3, c9 = c3, F = F3, wr = w3 at *
          by_cases hil : i < n
          · have j1 : (i : Int) < (n : Int) := by omega
            have j2 : decide ((i : Int) < (n : Int)) = true := decide_eq_true j1
            obtain ⟨v, hv⟩ : ∃ v, L[i]? = some v := ⟨L[i]'(by rw [← HL.out]; omega), List.getElem?_eq_getElem _⟩
            obtain ⟨g, o, rfl, c0, c1, c2, c3', c4⟩ := (HR.out.keep (HW0.out.trans (AM.out.b.mono HW0.out.size))) i _ hv
            obtain ⟨nm, a0, a1, a2, a3⟩ := v
            simp only [] at c0 c1 c2 c3' c4
            clear hv
            have R1 : Hid (ER W0.heap.size (w3.alloc (.cells #[.string ⟨#[97]⟩, .int .i64 a0, .int .i64 a1, .int .i64 a2, .int .i64 a3] 50 (0, 0))) (.slice p3 m3 c3) F3) := AM.out.r.below ((Below.refl _ _).alloc (Nat.le_refl _) _)
            have B1 : Hid (Below W0.heap.size W0 (w3.alloc (.cells #[.string ⟨#[97]⟩, .int .i64 a0, .int .i64 a1, .int .i64 a2, .int .i64 a3] 50 (0, 0)))) := AM.out.b.alloc AM.out.b.size _
            have V1 : Hid (RowV (w3.alloc (.cells #[.string ⟨#[97]⟩, .int .i64 a0, .int .i64 a1, .int .i64 a2, .int .i64 a3] 50 (0, 0))) w3.heap.size 0 ([(⟨⟨#[97]⟩, ⟨a0, a1, a2, a3⟩⟩ : E)].flatMap eC)) := row_one new0 rfl
            go_wp2_with (at_builtin; refine app_e (wr := w3.alloc (.cells #[.string ⟨#[97]⟩, .int .i64 a0, .int .i64 a1, .int .i64 a2, .int .i64 a3] 50 (0, 0))) (B := W0.heap.size) rfl _ _ rfl p3 m3 c3 F3 rfl R1.out B1.out.size w3.heap.size 0 1 1 [⟨⟨#[97]⟩, ⟨a0, a1, a2, a3⟩⟩] rfl rfl V1.out (by omega) ?_; intro p5 c5 w5 R5 hB5)
            refine ⟨⟨i + 1, p5, m3 + 1, c5, _, rfl, by simp, by omega, R5, B1.out.trans hB5, (fun e he => ?_), (fun hki => List.mem_append_left _ (AM.out.k (by omega))), ?_⟩, by simp only [intOf]; omega⟩
            · rcases List.mem_append.1 he with h | h
              · exact AM.out.a e h
              · exact .inr (by rw [List.mem_singleton.1 h])
            · have := AM.out.n
              simp
              omega
          · have j1 : ¬ (i : Int) < (n : Int) := by omega
            have j2 : decide ((i : Int) < (n : Int)) = false := decide_eq_false j1
            go_wp2_with fail
            exact ⟨⟨i + 1, p3, m3, c3, _, rfl, by simp, by omega, AM.out.r, AM.out.b, AM.out.a, (fun hki => AM.out.k (by omega)), by have := AM.out.n; omega⟩, by simp only [intOf]; omega⟩
      · have hie : i = n + 1 := by omega
        subst hie
        have i1 : ¬ (((n + 1 : Nat) : Int) ≤ (n : Int)) := by omega
        have i2 : decide (((n + 1 : Nat) : Int) ≤ (n : Int)) = false := decide_eq_false i1
        have hbF : bE ∈ F := AL.out.k (by omega)
        obtain ⟨t1, t2⟩ := al_take AL.out.a hbF
        have H19 : Hid (Calls Try.prog 19 #[.pointer (some ⟨pb, 0, none⟩), .slice p m c9] wr fun e w' => e = .returned (.int .i64 (takeD alD F).1) ∧ Hid (LL w w' NX pb alD)) := by
          have hl := HLL.out.below AL.out.b
          have := l_take hl p F c9 (by have := AL.out.n; omega) AL.out.r.erow (fun e he => by
            rcases AL.out.a e he with rfl | q
            · decide
            · rw [q]; decide)
          rw [t2, ← AL.out.r.len] at this
          exact this
        generalize (takeD alD F).1 = tc at *
        clear AL hbF t2 HLL
        rcases t1 with rfl | rfl
        all_goals (
          go_upto_region 16 with (go_at_call 19; refine H19.out.mono ?_; rintro e w5 ⟨rfl, h5⟩)
          go_upto_region 17 with (go_at_call 14; refine (HU1.out NX pb _ h5.out).mono ?_; rintro e w6 ⟨rfl, h6⟩)
          have h7 : Hid (LL w (w6.alloc (.cells #[.int .i64 0, .int .i64 0, .int .i64 0, .int .i64 0] 33 (0, 0))) (XS NX w6.heap.size (.cells #[.int .i64 0, .int .i64 0, .int .i64 0, .int .i64 0] 33 (0, 0))) pb alD) := h6.out.alloc _
          generalize w6.alloc (.cells #[.int .i64 0, .int .i64 0, .int .i64 0, .int .i64 0] 33 (0, 0)) = W7 at *
          generalize w6.heap.size = g10 at *
          clear h5 h6 H19
          go_upto_region 18 with (go_at_call 14; refine (HU2.out _ pb _ h7.out).mono ?_; rintro e w8 ⟨rfl, h8⟩)
          obtain ⟨d0, d1, d2, d3, -, -, -, -, ds, dn⟩ := cells4 (at_alloc (o := .cells #[.int .i64 0, .int .i64 0, .int .i64 0, .int .i64 0] 33 (0, 0)) (h8.out.kept g10 _ (if_pos rfl)))
          obtain ⟨e0, e1, e2, e3, -⟩ := cells4 (new0 (w := w8) (o := .cells #[.int .i64 0, .int .i64 0, .int .i64 0, .int .i64 0] 33 (0, 0)))
          have h9 : Hid (Below w.heap.size w (w8.alloc (.cells #[.int .i64 0, .int .i64 0, .int .i64 0, .int .i64 0] 33 (0, 0)))) := h8.out.bel.alloc h8.out.bel.size _
          generalize w8.alloc (.cells #[.int .i64 0, .int .i64 0, .int .i64 0, .int .i64 0] 33 (0, 0)) = W9 at *
          generalize w8.heap.size = g12 at *
          clear h7 h8
          go_wp2_with fail
          go_ret
          exact ⟨rfl, h9.out⟩)
end Go.Proofs.Ytehgcaaeifnjeaa
