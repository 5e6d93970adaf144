/-
  slices.BinarySearch at strings. Who isn't asked for: the closure, slices.IndexFunc. slices.DeleteFunc at tenants. slices.DeleteFunc at tenants: those that aren't asked for go.
-/
import Derived.Test.YtcgaekaollhmpaaGreatTb
import Derived.Laws.Cover1
import Derived.WideAt
import Derived.Lib.SliceRun
import Derived.Laws.IdiomCopy
namespace Go.Proofs.YtcgaekaollhmpaaGreat
open Go.RowKit Go.Maps Go.WideShapes Go.WideAt Go.ChangeAt
theorem isnan61 (s : List UInt8) (w : World) : Calls Tryz.prog 42 #[.string ⟨⟨s⟩⟩] w fun e w' => e = .returned (.bool false) ∧ w' = w := by
  go_enter Tryz.func42, Tryz.ntmps42
  go_wp2_with fail
  go_ret
  exact ⟨by simp, rfl⟩
theorem isnan88 (s : List UInt8) (w : World) : Calls Tryz.prog 71 #[.string ⟨⟨s⟩⟩] w fun e w' => e = .returned (.bool false) ∧ w' = w := by
  go_enter Tryz.func71, Tryz.ntmps71
  go_wp2_with fail
  go_ret
  exact ⟨by simp, rfl⟩
theorem less60 (a b : List UInt8) (w : World) : Calls Tryz.prog 41 #[.string ⟨⟨a⟩⟩, .string ⟨⟨b⟩⟩] w fun e w' => e = .returned (.bool (Op.bytesLess a b)) ∧ w' = w := by
  have H := isnan88
  go_enter Tryz.func41, Tryz.ntmps41
  go_wp2_with (go_at_call 71; refine (H _ _).mono ?_; rintro e w1 ⟨rfl, h1⟩; obtain rfl := h1.symm)
  go_ret
  exact ⟨by simp, rfl⟩
/-- names in a row that doesn't fall -/
def Asc (L : List (List UInt8)) : Prop := L.Pairwise fun a b => Op.bytesLess b a = false
theorem le_lt {a b t : List UInt8} (h1 : Op.bytesLess b a = false) (h2 : Op.bytesLess b t = true) : Op.bytesLess a t = true := by
  rw [less_before] at *
  by_cases e : a = b
  · rw [e]; exact h2
  · rcases bytes_total a b e with h | h
    · exact bytes_trans _ _ _ h h2
    · rw [h1] at h; cases h
theorem lt_eq {a b : List UInt8} (h1 : Op.bytesLess a b = false) (h2 : Op.bytesLess b a = false) : a = b := by
  rw [less_before] at *
  by_cases e : a = b
  · exact e
  · rcases bytes_total a b e with h | h
    · rw [h1] at h; cases h
    · rw [h2] at h; cases h
theorem lt_irr (a : List UInt8) : Op.bytesLess a a = false := by
  rw [less_before]; exact bytes_irrefl a
theorem asc_mem {L : List (List UInt8)} {t : List UInt8} {k : Nat} (h1 : ∀ i s, i < k → L[i]? = some s → Op.bytesLess s t = true) (h2 : ∀ i s, k ≤ i → L[i]? = some s → Op.bytesLess s t = false) (hs : Asc L) : t ∈ L ↔ L[k]? = some t := by
  constructor
  · intro h
    obtain ⟨i, hi, e⟩ := List.getElem_of_mem h
    have hi' : L[i]? = some t := by rw [List.getElem?_eq_getElem hi, e]
    by_cases c : i < k
    · have := h1 i t c hi'; rw [lt_irr] at this; cases this
    · by_cases e2 : i = k
      · rw [← e2]; exact hi'
      · have hk : k < L.length := by omega
        have ha := h2 k L[k] (Nat.le_refl _) (List.getElem?_eq_getElem hk)
        have hb := List.pairwise_iff_getElem.1 hs k i hk hi (by omega)
        rw [e] at hb
        rw [List.getElem?_eq_getElem hk, lt_eq ha hb]
  · exact fun h => List.mem_of_getElem? h
/-- what a search answers -/
def BsR (w : World) (L : List (List UInt8)) (t : List UInt8) (e : Ending) (w' : World) : Prop := ∃ (k : Nat) (b : Bool), e = .returned (.tuple #[.int .i64 k, .bool b]) ∧ Hid ((b = true ↔ t ∈ L) ∧ Below w.heap.size w w')
set_option maxHeartbeats 2000000 in
set_option maxRecDepth 100000 in
theorem bsearch_raw (w : World) (q : Option Addr) (n c : Nat) (L : List (List UInt8)) (t : List UInt8) (hn : n = L.length) (hn1 : n ≤ 1000000) (hs : Hid (Asc L)) (hr : Hid (∀ i s, L[i]? = some s → ∃ g o, q = some ⟨g, o, none⟩ ∧ w.cell? ⟨g, o + i, none⟩ = some (.string ⟨⟨s⟩⟩))) :
    Calls Tryz.prog 23 #[.slice q n c, .string ⟨⟨t⟩⟩] w (BsR w L t) := by
  have H60 := less60
  have H61 := isnan61
  have hln : Hid (n = L.length) := hn
  clear hn
  go_enter Tryz.func23, Tryz.ntmps23
  go_wp2_with fail
  go_loopw [7, 8] (fun t5 t6 wr => ∃ i j : Nat, t5 = .int .i64 i ∧ t6 = .int .i64 j ∧ i ≤ j ∧ j ≤ n ∧ wr = w ∧ Hid ((∀ k s, k < i → L[k]? = some s → Op.bytesLess s t = true) ∧ (∀ k s, j ≤ k → L[k]? = some s → Op.bytesLess s t = false))) (fun t5 t6 _ => (intOf t6).toNat - (intOf t5).toNat)
  case atStart => exact ⟨0, n, rfl, rfl, Nat.zero_le _, Nat.le_refl _, rfl, (fun k s hk => absurd hk (by omega)), fun k s hk e => absurd (List.getElem?_eq_some_iff.1 e).1 (by have := hln.out; omega)⟩
  case round =>
    obtain ⟨i, j, rfl, rfl, hij, hjn, hw, HK⟩ := hrel
    obtain rfl := hw.symm
    clear hw
    by_cases he : i = j
    · subst he
      have HM : Hid (t ∈ L ↔ L[i]? = some t) := asc_mem HK.out.1 HK.out.2 hs.out
      by_cases hi : i < n
      · obtain ⟨a, ha⟩ : ∃ a, L[i]? = some a := ⟨_, List.getElem?_eq_getElem (by have := hln.out; omega)⟩
        obtain ⟨g, o, rfl, y0⟩ := hr.out i a ha
        have i1 : (i : Int) < (n : Int) := by omega
        have i2 : decide ((i : Int) < (n : Int)) = true := decide_eq_true i1
        have HA : Hid (L[i]? = some a) := ha
        clear HK hr ha
        by_cases hat : a = t
        · have g1 : (a == t) = true := by simpa using hat
          subst hat
          go_wp2_with (go_at_call 42; refine (H61 _ _).mono ?_; rintro e w1 ⟨rfl, h1⟩; obtain rfl := h1.symm)
          go_ret2
          unfold BsR
          exact ⟨i, true, by simp, ⟨fun _ => HM.out.2 HA.out, fun _ => rfl⟩, Below.refl _ _⟩
        · have g1 : (a == t) = false := by simpa using hat
          go_wp2_with (go_at_call 42; refine (H61 _ _).mono ?_; rintro e w1 ⟨rfl, h1⟩; obtain rfl := h1.symm)
          go_ret2
          unfold BsR
          refine ⟨i, false, by simp, ⟨(fun h => by cases h), fun h => ?_⟩, Below.refl _ _⟩
          have := HM.out.1 h
          rw [HA.out] at this
          exact absurd (Option.some.inj this) hat
      · have i1 : ¬ (i : Int) < (n : Int) := by omega
        have i2 : decide ((i : Int) < (n : Int)) = false := decide_eq_false i1
        clear HK hr
        go_wp2_with fail
        go_ret2
        unfold BsR
        refine ⟨i, false, by simp, ⟨(fun h => by cases h), fun h => ?_⟩, Below.refl _ _⟩
        have := (List.getElem?_eq_some_iff.1 (HM.out.1 h)).1
        have := hln.out
        omega
    · have hlt : (i : Int) < (j : Int) := by omega
      obtain ⟨m, hm1, hm2, hm3⟩ : ∃ m : Nat, ((i : Int) + (j : Int)) / 2 = (m : Int) ∧ i ≤ m ∧ m < j := ⟨(i + j) / 2, by omega, by omega, by omega⟩
      obtain ⟨a, ha⟩ : ∃ a, L[m]? = some a := ⟨_, List.getElem?_eq_getElem (by have := hln.out; omega)⟩
      obtain ⟨g, o, rfl, y0⟩ := hr.out m a ha
      have hml : m < L.length := (List.getElem?_eq_some_iff.1 ha).1
      have hma : L[m] = a := (List.getElem?_eq_some_iff.1 ha).2
      have m1 : (m : Int) < (n : Int) := by omega
      have X60 := H60 a t w
      cases hb : Op.bytesLess a t
      · have HN : Hid ((∀ k s, k < i → L[k]? = some s → Op.bytesLess s t = true) ∧ (∀ k s, m ≤ k → L[k]? = some s → Op.bytesLess s t = false)) := by
          refine ⟨HK.out.1, fun k s hk e => ?_⟩
          by_cases ek : k = m
          · subst ek; rw [ha] at e; rw [← Option.some.inj e]; exact hb
          · obtain ⟨hkl, hks⟩ := List.getElem?_eq_some_iff.1 e
            have := List.pairwise_iff_getElem.1 hs.out m k hml hkl (by omega)
            rw [hma, hks] at this
            cases q : Op.bytesLess s t with
            | false => rfl
            | true => have := le_lt this q; rw [hb] at this; cases this
        rw [hb] at X60
        clear HK hr ha hml hma hb H60 H61
        go_wp2_with (go_at_call 41; refine X60.mono ?_; rintro e w1 ⟨rfl, h1⟩; obtain rfl := h1.symm)
        exact ⟨⟨i, m, rfl, rfl, hm2, by omega, trivial, HN.out⟩, by simp only [intOf]; omega⟩
      · have HN : Hid ((∀ k s, k < m + 1 → L[k]? = some s → Op.bytesLess s t = true) ∧ (∀ k s, j ≤ k → L[k]? = some s → Op.bytesLess s t = false)) := by
          refine ⟨fun k s hk e => ?_, HK.out.2⟩
          by_cases ek : k = m
          · subst ek; rw [ha] at e; rw [← Option.some.inj e]; exact hb
          · obtain ⟨hkl, hks⟩ := List.getElem?_eq_some_iff.1 e
            have := List.pairwise_iff_getElem.1 hs.out k m hkl hml (by omega)
            rw [hma, hks] at this
            exact le_lt this hb
        rw [hb] at X60
        clear HK hr ha hml hma hb H60 H61
        go_wp2_with (go_at_call 41; refine X60.mono ?_; rintro e w1 ⟨rfl, h1⟩; obtain rfl := h1.symm)
        exact ⟨⟨m + 1, j, by simp, rfl, by omega, hjn, trivial, HN.out⟩, by simp only [intOf]; omega⟩
end Go.Proofs.YtcgaekaollhmpaaGreat

namespace Go.Proofs.YtcgaekaollhmpaaGreat
open Go.RowKit Go.Maps
/-- the names that are asked for, in a box -/
structure Ask (w : World) (ab : Nat) (L : List (List UInt8)) : Prop where
  s : Asc L
  n : L.length ≤ 1000000
  b : ∃ q c, w.cell? ⟨ab, 0, none⟩ = some (.slice q L.length c) ∧ ∀ i s, L[i]? = some s → ∃ g o, q = some ⟨g, o, none⟩ ∧ w.cell? ⟨g, o + i, none⟩ = some (.string ⟨⟨s⟩⟩)
  l : ab < w.heap.size
theorem cell_kept {w w' : World} (b : Below w.heap.size w w') {g o : Nat} {v : Value} (h : w.cell? ⟨g, o, none⟩ = some v) : w'.cell? ⟨g, o, none⟩ = some v := by
  have hg : g < w.heap.size := by
    unfold World.cell? at h
    cases e : w.heap[g]? with
    | none => rw [e] at h; simp at h
    | some o => exact (Array.getElem?_eq_some_iff.1 e).1
  unfold World.cell? at *
  rw [b.block g hg]
  exact h
theorem Ask.below {w w' : World} {ab : Nat} {L : List (List UInt8)} (h : Ask w ab L) (b : Below w.heap.size w w') : Ask w' ab L := by
  obtain ⟨q, c, h1, h2⟩ := h.b
  refine ⟨h.s, h.n, ⟨q, c, cell_kept b h1, fun i s hi => ?_⟩, Nat.lt_of_lt_of_le h.l b.size⟩
  obtain ⟨g, o, e, h3⟩ := h2 i s hi
  exact ⟨g, o, e, cell_kept b h3⟩
/-- isn't asked for -/
def nask (L : List (List UInt8)) (x : Tn) : Bool := !decide (x.nm ∈ L)
set_option maxHeartbeats 1000000 in
set_option maxRecDepth 100000 in
theorem asked_cl {w : World} {ab : Nat} {L : List (List UInt8)} (h : Ask w ab L) (x : Tn) : Calls Tryz.prog 22 #[.agg #[.string ⟨⟨x.nm⟩⟩, .int .u64 x.n, .int .u64 x.d], .pointer (some ⟨ab, 0, none⟩)] w fun e w' => e = .returned (.bool (nask L x)) ∧ Hid (Below w.heap.size w w') := by
  obtain ⟨x1, x2, x3⟩ := x
  have B0 : Hid (Below w.heap.size w (w.alloc (.cells #[.string ⟨⟨x1⟩⟩, .int .u64 x2, .int .u64 x3] 51))) := (Below.refl _ w).alloc (Nat.le_refl _) _
  have h' := h.below B0.out
  obtain ⟨q, c, h1, h2⟩ := h'.b
  have H39 : Hid (Calls Tryz.prog 23 #[.slice q L.length c, .string ⟨⟨x1⟩⟩] (w.alloc (.cells #[.string ⟨⟨x1⟩⟩, .int .u64 x2, .int .u64 x3] 51)) fun e w' => ∃ (k : Nat), e = .returned (.tuple #[.int .i64 k, .bool (decide (x1 ∈ L))]) ∧ Hid (Below w.heap.size w w')) := by
    refine (bsearch_raw _ q L.length c L x1 rfl h.n h.s h2).mono ?_
    rintro e w' ⟨k, b, he, hb⟩
    have : b = decide (x1 ∈ L) := by
      cases b with
      | true => exact (decide_eq_true (hb.out.1.1 rfl)).symm
      | false => exact (decide_eq_false fun hm => by have := hb.out.1.2 hm; cases this).symm
    rw [this] at he
    exact ⟨k, he, B0.out.trans (hb.out.2.mono B0.out.size)⟩
  have hl := h'.l
  obtain ⟨n, hn⟩ : ∃ n, n = L.length := ⟨_, rfl⟩
  rw [← hn] at h1 H39
  obtain ⟨b, hb⟩ : ∃ b, b = decide (x1 ∈ L) := ⟨_, rfl⟩
  have HB : Hid (nask L ⟨x1, x2, x3⟩ = !b) := by rw [hb]; rfl
  rw [← hb] at H39
  rw [HB.out]
  simp only []
  clear h h' h2 hn hb HB B0
  go_enter Tryz.func22, Tryz.ntmps22
  go_wp2_with (go_at_call 23; refine H39.out.mono ?_; rintro e w1 ⟨k, rfl, h1⟩)
  go_ret
  exact ⟨rfl, h1.out⟩
theorem Tr.below {w w' : World} {g : Nat} {S : List Tn} (h : Tr w g S) (b : Below w.heap.size w w') {k : Nat} {x : Tn} (hk : S[k]? = some x) : w'.cell? ⟨g, k * 3, none⟩ = some (.string ⟨⟨x.nm⟩⟩) ∧ w'.cell? ⟨g, k * 3 + 1, none⟩ = some (.int .u64 x.n) ∧ w'.cell? ⟨g, k * 3 + 2, none⟩ = some (.int .u64 x.d) :=
  ⟨cell_kept b (h k x hk 0 _ rfl).1, cell_kept b (h k x hk 1 _ rfl).1, cell_kept b (h k x hk 2 _ rfl).1⟩
/-- what a search for the first answers -/
def IxR (w : World) (S : List Tn) (f : Tn → Bool) (e : Ending) (w' : World) : Prop := ∃ r : Int, e = .returned (.int .i64 r) ∧ Hid (((∃ k : Nat, r = k ∧ (∃ x, S[k]? = some x ∧ f x = true) ∧ ∀ i x, i < k → S[i]? = some x → f x = false) ∨ (r = -1 ∧ ∀ (i : Nat) x, S[i]? = some x → f x = false)) ∧ Below w.heap.size w w')
set_option maxHeartbeats 2000000 in
set_option maxRecDepth 100000 in
theorem ixf_any {w : World} {ab g n c : Nat} {L : List (List UInt8)} {S : List Tn} (h : Ask w ab L) (hr : Tr w g S) (hn : n = S.length) (hn1 : n ≤ 1000000) : Calls Tryz.prog 40 #[.slice (some ⟨g, 0, none⟩) n c, .func (.func 22) #[] #[.pointer (some ⟨ab, 0, none⟩)]] w (IxR w S (nask L)) := by
  have HQ : Hid (Ask w ab L ∧ Tr w g S ∧ n = S.length) := ⟨h, hr, hn⟩
  clear h hr hn
  go_enter Tryz.func40, Tryz.ntmps40
  go_wp2_with fail
  go_loopw [8, 5] (fun x _ wr => ∃ k : Nat, x = .int .i64 k ∧ k ≤ n ∧ Hid ((∀ i x, i < k → S[i]? = some x → nask L x = false) ∧ Below w.heap.size w wr)) (fun x _ _ => n - (intOf x).toNat)
  case atStart => exact ⟨0, rfl, Nat.zero_le _, (fun i x hi => absurd hi (by omega)), Below.refl _ _⟩
  case round =>
    obtain ⟨k, rfl, hk, HI⟩ := hrel
    by_cases hkn : k < n
    · have k1 : (k : Int) < (n : Int) := by omega
      have k2 : decide ((k : Int) < (n : Int)) = true := decide_eq_true k1
      obtain ⟨x, hx⟩ : ∃ x, S[k]? = some x := ⟨_, List.getElem?_eq_getElem (by have := HQ.out.2.2; omega)⟩
      obtain ⟨y0, y1, y2⟩ := HQ.out.2.1.below HI.out.2 hx
      have X38 := asked_cl (HQ.out.1.below HI.out.2) x
      have HX : Hid (S[k]? = some x) := hx
      obtain ⟨b, hb⟩ : ∃ b, b = nask L x := ⟨_, rfl⟩
      have HB : Hid (b = nask L x) := hb
      rw [← hb] at X38
      clear hx hb HQ
      have HX2 : Hid (∃ x, S[k]? = some x ∧ nask L x = b) := ⟨x, HX.out, HB.out.symm⟩
      have HNX : Hid (b = false → ∀ i x, i < k + 1 → S[i]? = some x → nask L x = false) := fun e i y hi hy => by
        by_cases ei : i = k
        · subst ei
          rw [HX.out] at hy
          rw [← Option.some.inj hy, ← HB.out, e]
        · exact HI.out.1 i y (by omega) hy
      obtain ⟨x1, x2, x3⟩ := x
      simp only [] at y0 y1 y2 X38
      clear HX HB
      cases b
      · go_wp2_with (go_at_call 22; refine X38.mono ?_; rintro e w1 ⟨rfl, h1⟩)
        exact ⟨⟨k + 1, by simp, hkn, HNX.out (by simp), HI.out.2.trans (h1.out.mono HI.out.2.size)⟩, by simp only [intOf]; omega⟩
      · go_wp2_with (go_at_call 22; refine X38.mono ?_; rintro e w1 ⟨rfl, h1⟩)
        go_ret
        unfold IxR
        exact ⟨k, by simp, .inl ⟨k, rfl, HX2.out, HI.out.1⟩, HI.out.2.trans (h1.out.mono HI.out.2.size)⟩
    · have k1 : ¬ (k : Int) < (n : Int) := by omega
      have k2 : decide ((k : Int) < (n : Int)) = false := decide_eq_false k1
      go_wp2_with fail
      go_ret
      unfold IxR
      exact ⟨-1, by simp, .inr ⟨rfl, fun i x hx => HI.out.1 i x (by have := (List.getElem?_eq_some_iff.1 hx).1; have := HQ.out.2.2; omega) hx⟩, HI.out.2⟩
end Go.Proofs.YtcgaekaollhmpaaGreat

namespace Go.Proofs.YtcgaekaollhmpaaGreat
open Go.RowKit Go.Maps
theorem oth {W : World} {g a b : Nat} {v : Value} (h : a ≠ b) : (W.setCell ⟨g, a, none⟩ v).cell? ⟨g, b, none⟩ = W.cell? ⟨g, b, none⟩ := by
  apply World.cell?_setCell_other
  intro e
  exact h (by injection e)
theorem sam {W : World} {g a : Nat} {v u : Value} (h : W.cell? ⟨g, a, none⟩ = some u) : (W.setCell ⟨g, a, none⟩ v).cell? ⟨g, a, none⟩ = some v := by
  apply World.cell?_setCell_same
  exact h
theorem tr_set {W : World} {g k : Nat} {S : List Tn} (h : Tr W g S) (hk : k < S.length) (x : Tn) : Tr (((W.setCell ⟨g, k * 3, none⟩ (.string ⟨⟨x.nm⟩⟩)).setCell ⟨g, k * 3 + 1, none⟩ (.int .u64 x.n)).setCell ⟨g, k * 3 + 2, none⟩ (.int .u64 x.d)) g (S.set k x) := by
  intro i t hi j u hu
  have hj : j < 3 := (List.getElem?_eq_some_iff.1 hu).1
  have hil : i < S.length := by have := (List.getElem?_eq_some_iff.1 hi).1; rwa [List.length_set] at this
  obtain ⟨s, hs⟩ : ∃ s, S[i]? = some s := ⟨_, List.getElem?_eq_getElem hil⟩
  obtain ⟨s', hs'⟩ : ∃ s', S[k]? = some s' := ⟨_, List.getElem?_eq_getElem hk⟩
  have hfr : W.frozen? ⟨g, i * 3 + j, none⟩ = false := by
    obtain ⟨v, hv⟩ : ∃ v, (tC s)[j]? = some v := ⟨_, List.getElem?_eq_getElem (by rw [tC_len]; exact hj)⟩
    exact (h i s hs j v hv).2
  refine ⟨?_, by simpa using hfr⟩
  by_cases e : i = k
  · subst e
    rw [List.getElem?_set_self hil] at hi
    obtain rfl := Option.some.inj hi
    have c0 := (h i s hs 0 _ rfl).1
    have c1 := (h i s hs 1 _ rfl).1
    have c2 := (h i s hs 2 _ rfl).1
    match j, hj with
    | 0, _ =>
      obtain rfl := Option.some.inj hu
      rw [oth (by omega), oth (by omega)]
      exact sam c0
    | 1, _ =>
      obtain rfl := Option.some.inj hu
      rw [oth (by omega)]
      exact sam ((oth (by omega)).trans c1)
    | 2, _ =>
      obtain rfl := Option.some.inj hu
      exact sam ((oth (by omega)).trans ((oth (by omega)).trans c2))
  · rw [List.getElem?_set_ne (fun q => e q.symm)] at hi
    rw [oth (by omega), oth (by omega), oth (by omega)]
    exact (h i t hi j u hu).1
theorem tr_kp {W W' : World} {g : Nat} {S : List Tn} (h : Tr W g S) (b : Below W.heap.size W W') : Tr W' g S := fun i t hi j u hu => by
  obtain ⟨h1, h2⟩ := h i t hi j u hu
  refine ⟨cell_kept b h1, ?_⟩
  have hg : g < W.heap.size := by
    unfold World.cell? at h1
    cases e : W.heap[g]? with
    | none => rw [e] at h1; simp at h1
    | some o => exact (Array.getElem?_eq_some_iff.1 e).1
  unfold World.frozen? at *
  rw [b.block g hg]
  exact h2
def zs (n : Nat) : List Value := (Builtin.zeroCells (Value.agg #[.string ⟨#[]⟩, .int .u64 0, .int .u64 0]).cells n).toList
theorem zs_len (n : Nat) : (zs n).length = n * 3 := by
  have : (Value.agg #[.string ⟨#[]⟩, .int .u64 0, .int .u64 0]).cells = #[.string ⟨#[]⟩, .int .u64 0, .int .u64 0] := by kernel_rfl
  unfold zs Builtin.zeroCells
  rw [this]
  simp
theorem zs_one (n : Nat) : ∀ v ∈ zs n, v.oneCell' = true := by
  have : (Value.agg #[.string ⟨#[]⟩, .int .u64 0, .int .u64 0]).cells = #[.string ⟨#[]⟩, .int .u64 0, .int .u64 0] := by kernel_rfl
  intro v hv
  unfold zs Builtin.zeroCells at hv
  rw [this] at hv
  simp only [Array.toList_map, List.mem_map] at hv
  obtain ⟨i, _, rfl⟩ := hv
  have h3 : i % #[(Value.string ⟨#[]⟩ : Value), .int .u64 0, .int .u64 0].size < 3 := Nat.mod_lt _ (by decide)
  generalize i % #[(Value.string ⟨#[]⟩ : Value), .int .u64 0, .int .u64 0].size = j at *
  match j, h3 with
  | 0, _ => rfl
  | 1, _ => rfl
  | 2, _ => rfl
theorem run_clear3 (w : World) (ty : TypeId) (g o n c : Nat) (hn : 0 < n) (hc : ∀ j, j < n * 3 → (w.cell? ⟨g, o + j, none⟩).isSome = true) (hf : ∀ j, j < n * 3 → w.frozen? ⟨g, o + j, none⟩ = false) :
    (Builtin.clear_ #[38] ty #[.slice (some ⟨g, o, none⟩) n c]).run Tryz.prog w = .ok (.tuple #[]) (w.setCells g o (zs n)) := by
  have hst := run_storeCells_cells (P := Tryz.prog) g o (zs n) 0 w (by rw [zs_len]; simpa using hc) (by rw [zs_len]; simpa using hf) (zs_one n)
  simp only [Nat.add_zero] at hst
  obtain ⟨m, rfl⟩ : ∃ m, n = m + 1 := ⟨n - 1, by omega⟩
  unfold zs at hst
  simp [Builtin.clear_, run_underlying Tryz.underlying38, Tryz.zeroValue51, hst, zs]
end Go.Proofs.YtcgaekaollhmpaaGreat

namespace Go.Proofs.YtcgaekaollhmpaaGreat
open Go.RowKit Go.Maps
theorem setCells_kp {g : Nat} : ∀ (vs : List Value) (o : Nat) (w : World), Kp (· = g) w (w.setCells g o vs)
  | [], _, _ => Kp.refl _ _
  | v :: r, o, w => Kp.trans (S := (· = g)) (S' := (· = g)) (Kp.of_set w ⟨g, o, none⟩ v rfl) (setCells_kp r (o + 1) _) fun _ _ e => e
def keep (L : List (List UInt8)) (x : Tn) : Bool := !nask L x
/-- while tenants are deleted -/
def Dl (w : World) (g n : Nat) (L : List (List UInt8)) (S : List Tn) (i j : Nat) (wr : World) : Prop := ∃ S', Tr wr g S' ∧ S'.length = n ∧ S'.take i = (S.take j).filter (keep L) ∧ S'.drop j = S.drop j ∧ Kp (· = g) w wr
set_option maxHeartbeats 2000000 in
set_option maxRecDepth 100000 in
theorem del_any {w : World} {ab g n c : Nat} {L : List (List UInt8)} {S : List Tn} (hK : Hid (∀ W, Kp (· = g) w W → Ask W ab L)) (hr : Tr w g S) (hn : n = S.length) (hn1 : n ≤ 1000000) (hnc : n ≤ c) (hc : c ≤ 9223372036854775807) (hg : g < w.heap.size) : Calls Tryz.prog 21 #[.slice (some ⟨g, 0, none⟩) n c, .func (.func 22) #[] #[.pointer (some ⟨ab, 0, none⟩)]] w fun e w' => ∃ m : Nat, e = .returned (.slice (some ⟨g, 0, none⟩) m c) ∧ Hid (m = (S.filter (keep L)).length ∧ Tr w' g (S.filter (keep L)) ∧ Kp (· = g) w w') := by
  have H59 : Hid (Calls Tryz.prog 40 #[.slice (some ⟨g, 0, none⟩) n c, .func (.func 22) #[] #[.pointer (some ⟨ab, 0, none⟩)]] w (IxR w S (nask L))) := ixf_any (hK.out w (Kp.refl _ _)) hr hn hn1
  have HR : Hid (Tr w g S ∧ n = S.length) := ⟨hr, hn⟩
  clear hr hn
  go_enter Tryz.func21, Tryz.ntmps21
  go_upto_region 2 with (go_at_call 40; refine H59.out.mono ?_; rintro e w1 ⟨r, rfl, h1⟩)
  clear H59
  rcases h1.out.1 with ⟨k, rfl, ⟨x, hx, hfx⟩, hlt⟩ | ⟨rfl, hall⟩
  · have k0 : ((k : Int) == -1) = false := by simp
    have k00 : ¬ (k : Int) = -1 := by omega
    have hkn : k < n := by have := (List.getElem?_eq_some_iff.1 hx).1; have := HR.out.2; omega
    have H0 : Hid (Dl w g n L S k (k + 1) w1) := by
      refine ⟨S, tr_kp HR.out.1 h1.out.2, HR.out.2.symm, ?_, rfl, Kp.of_below h1.out.2⟩
      rw [List.take_add_one, hx, List.filter_append]
      have : List.filter (keep L) (Option.toList (some x)) = [] := by simp [keep, hfx]
      rw [this, List.append_nil]
      refine (List.filter_eq_self.2 fun y hy => ?_).symm
      obtain ⟨i, hi, e⟩ := List.getElem_of_mem hy
      rw [List.length_take] at hi
      rw [List.getElem_take] at e
      have := hlt i y (by omega) (by rw [List.getElem?_eq_getElem (by omega), e])
      simp [keep, this]
    clear h1 hx hfx hlt
    go_wp2_with fail
    go_loopw [5, 6, 7] (fun t5 t6 _ wr => ∃ i j : Nat, t5 = .int .i64 i ∧ t6 = .int .i64 j ∧ i < j ∧ j ≤ n ∧ Hid (Dl w g n L S i j wr)) (fun _ t6 _ _ => n - (intOf t6).toNat)
    case atStart => exact ⟨k, k + 1, rfl, by simp, by omega, hkn, H0.out⟩
    case round =>
      clear H0
      obtain ⟨i, j, rfl, rfl, hij, hjn, HI⟩ := hrel
      by_cases hj : j < n
      · have j1 : (j : Int) < (n : Int) := by omega
        have j2 : decide ((j : Int) < (n : Int)) = true := decide_eq_true j1
        obtain ⟨y, hy⟩ : ∃ y, S[j]? = some y := ⟨_, List.getElem?_eq_getElem (by have := HR.out.2; omega)⟩
        obtain ⟨S', q1, q2, q3, q4, q5⟩ := HI.out
        have hy' : S'[j]? = some y := by
          have e1 : (S'.drop j)[0]? = (S.drop j)[0]? := by rw [q4]
          rw [List.getElem?_drop, List.getElem?_drop, Nat.add_zero] at e1
          rw [e1]; exact hy
        have hgw : g < wr.heap.size := Nat.lt_of_lt_of_le hg q5.size
        obtain ⟨y0, y1, y2⟩ := q1.below (Below.refl _ _) hy'
        have i1 : (i : Int) < (n : Int) := by omega
        have HQ : Hid (∀ W, Below wr.heap.size wr W → Tr W g S' ∧ Kp (· = g) w W) := fun W b => ⟨tr_kp q1 b, q5.trans (Kp.of_below (S := (· = g)) b) fun _ _ e => e⟩
        have BA : Hid (Below wr.heap.size wr (wr.alloc (.cells #[.string ⟨⟨y.nm⟩⟩, .int .u64 y.n, .int .u64 y.d] 51))) := (Below.refl _ _).alloc (Nat.le_refl _) _
        have X38 := asked_cl (hK.out _ (HQ.out _ BA.out).2) y
        have HS : Hid (S'.length = n ∧ S'.take i = (S.take j).filter (keep L) ∧ S'.drop j = S.drop j ∧ S[j]? = some y) := ⟨q2, q3, q4, hy⟩
        obtain ⟨b, hb⟩ : ∃ b, b = nask L y := ⟨_, rfl⟩
        rw [← hb] at X38
        have HB : Hid (b = nask L y) := hb
        clear q1 q2 q3 q4 q5 HI hb hy hy'
        cases b
        · have HN : Hid (∀ W, Below wr.heap.size wr W → Dl w g n L S (i + 1) (j + 1) (((W.setCell ⟨g, i * 3, none⟩ (.string ⟨⟨y.nm⟩⟩)).setCell ⟨g, i * 3 + 1, none⟩ (.int .u64 y.n)).setCell ⟨g, i * 3 + 2, none⟩ (.int .u64 y.d))) := fun W b => by
            obtain ⟨p1, p2⟩ := HQ.out W b
            obtain ⟨h1, h2, h3, h4⟩ := HS.out
            refine ⟨S'.set i y, tr_set p1 (by omega) y, by rw [List.length_set]; exact h1, ?_, ?_, ?_⟩
            · rw [List.take_add_one (i := j), h4, List.filter_append, ← h2]
              have e1 : List.filter (keep L) (Option.toList (some y)) = [y] := by simp [keep, ← HB.out]
              rw [e1, List.take_add_one, List.getElem?_set_self (by omega), List.take_set_of_le (Nat.le_refl _)]
              rfl
            · rw [List.drop_set_of_lt (by omega)]
              have := congrArg (List.drop 1) h3
              rwa [List.drop_drop, List.drop_drop] at this
            · exact p2.trans ((Kp.of_set (S := (· = g)) W ⟨g, i * 3, none⟩ _ rfl).trans ((Kp.of_set (S := (· = g)) _ ⟨g, i * 3 + 1, none⟩ _ rfl).trans (Kp.of_set (S := (· = g)) _ ⟨g, i * 3 + 2, none⟩ _ rfl) fun _ _ e => e) fun _ _ e => e) fun _ _ e => e
          obtain ⟨z, hz⟩ : ∃ z, S'[i]? = some z := ⟨_, List.getElem?_eq_getElem (by have := HS.out.1; omega)⟩
          have HC : Hid (∀ W, Below wr.heap.size wr W → (W.cell? ⟨g, i * 3, none⟩ = some (.string ⟨⟨z.nm⟩⟩) ∧ W.cell? ⟨g, i * 3 + 1, none⟩ = some (.int .u64 z.n) ∧ W.cell? ⟨g, i * 3 + 2, none⟩ = some (.int .u64 z.d)) ∧ W.frozen? ⟨g, i * 3, none⟩ = false ∧ W.frozen? ⟨g, i * 3 + 1, none⟩ = false ∧ W.frozen? ⟨g, i * 3 + 2, none⟩ = false) := fun W b => by
            obtain ⟨p1, p2⟩ := HQ.out W b
            have a0 := p1 i z hz 0 _ rfl
            have a1 := p1 i z hz 1 _ rfl
            have a2 := p1 i z hz 2 _ rfl
            exact ⟨⟨a0.1, a1.1, a2.1⟩, a0.2, a1.2, a2.2⟩
          clear hz
          obtain ⟨y1', y2', y3'⟩ := y
          simp only [] at y0 y1 y2 X38 HN BA
          clear HQ HS HB
          go_upto_region 9 with (go_at_call 22; refine X38.mono ?_; rintro e w3 ⟨rfl, h3⟩)
          have B3 : Hid (Below wr.heap.size wr w3) := BA.out.trans (h3.out.mono BA.out.size)
          obtain ⟨⟨d0, d1, d2⟩, f0, f1, f2⟩ := HC.out w3 B3.out
          have nb := at_below h3.out (Nat.le_refl _) new0
          obtain ⟨n0, n1, n2⟩ := c3 nb
          have hgl : g < w3.heap.size := Nat.lt_of_lt_of_le hgw B3.out.size
          have hbl := (Array.getElem?_eq_some_iff.1 nb).1
          have hne : ¬ wr.heap.size = g := by omega
          have HN3 : Hid (Dl w g n L S (i + 1) (j + 1) (((w3.setCell ⟨g, i * 3, none⟩ (.string ⟨⟨y1'⟩⟩)).setCell ⟨g, i * 3 + 1, none⟩ (.int .u64 y2')).setCell ⟨g, i * 3 + 2, none⟩ (.int .u64 y3'))) := HN.out w3 B3.out
          clear HN HC B3 BA h3 nb X38 y0 y1 y2
          go_wp2_with fail
          exact ⟨⟨i + 1, j + 1, by simp, by simp, by omega, by omega, HN3.out⟩, by simp [intOf]; omega⟩
        · have HN : Hid (∀ W, Below wr.heap.size wr W → Dl w g n L S i (j + 1) W) := fun W b => by
            obtain ⟨p1, p2⟩ := HQ.out W b
            obtain ⟨h1, h2, h3, h4⟩ := HS.out
            refine ⟨S', p1, h1, ?_, ?_, p2⟩
            · rw [List.take_add_one (i := j), h4, List.filter_append, ← h2]
              have e1 : List.filter (keep L) (Option.toList (some y)) = [] := by simp [keep, ← HB.out]
              rw [e1, List.append_nil]
            · have := congrArg (List.drop 1) h3
              rwa [List.drop_drop, List.drop_drop] at this
          obtain ⟨y1', y2', y3'⟩ := y
          simp only [] at y0 y1 y2 X38 BA
          clear HQ HS HB
          go_wp2_with (go_at_call 22; refine X38.mono ?_; rintro e w3 ⟨rfl, h3⟩)
          exact ⟨⟨i, j + 1, rfl, by simp, by omega, by omega, HN.out _ (BA.out.trans (h3.out.mono BA.out.size))⟩, by simp [intOf]; omega⟩
      · have j1 : ¬ (j : Int) < (n : Int) := by omega
        have j2 : decide ((j : Int) < (n : Int)) = false := decide_eq_false j1
        obtain rfl : j = n := by omega
        obtain ⟨S', q1, q2, q3, q4, q5⟩ := HI.out
        have eS : S.take j = S := List.take_of_length_le (by have := HR.out.2; omega)
        rw [eS] at q3
        clear eS
        have hcl : ∀ ty, (Builtin.clear_ #[38] ty #[.slice (some ⟨g, i * 3, none⟩) (j - i) (c - i)]).run Tryz.prog wr = .ok (.tuple #[]) (wr.setCells g (i * 3) (zs (j - i))) := fun ty => by
          have hcell : ∀ t, t < (j - i) * 3 → ∃ v, wr.cell? ⟨g, i * 3 + t, none⟩ = some v ∧ wr.frozen? ⟨g, i * 3 + t, none⟩ = false := fun t ht => by
            obtain ⟨z, hz⟩ : ∃ z, S'[i + t / 3]? = some z := ⟨_, List.getElem?_eq_getElem (by omega)⟩
            obtain ⟨v, hv⟩ : ∃ v, (tC z)[t % 3]? = some v := ⟨_, List.getElem?_eq_getElem (by rw [tC_len]; omega)⟩
            have := q1 _ z hz _ v hv
            rw [show (i + t / 3) * 3 + t % 3 = i * 3 + t by omega] at this
            exact ⟨v, this⟩
          exact run_clear3 wr ty g (i * 3) (j - i) (c - i) (by omega) (fun t ht => by obtain ⟨v, h1, _⟩ := hcell t ht; rw [h1]; rfl) (fun t ht => by obtain ⟨v, _, h2⟩ := hcell t ht; exact h2)
        have HF : Hid (i = (S.filter (keep L)).length ∧ Tr (wr.setCells g (i * 3) (zs (j - i))) g (S.filter (keep L)) ∧ Kp (· = g) w (wr.setCells g (i * 3) (zs (j - i)))) := by
          rw [← q3]
          refine ⟨by rw [List.length_take]; omega, fun a t ha b u hu => ?_, Kp.trans (S := (· = g)) (S' := (· = g)) q5 (setCells_kp _ _ _) fun _ _ e => e⟩
          have hai : a < i := by have := (List.getElem?_eq_some_iff.1 ha).1; rw [List.length_take] at this; omega
          have hb3 : b < 3 := (List.getElem?_eq_some_iff.1 hu).1
          rw [List.getElem?_take, if_pos hai] at ha
          obtain ⟨e1, e2⟩ := q1 a t ha b u hu
          exact ⟨(World.cell?_setCells_out g _ _ _ _ (fun _ _ => .inl (by show a * 3 + b < i * 3; omega))).trans e1, (World.frozen?_setCells g _ _ _ _).trans e2⟩
        have b1 : (i : Int) ≤ (j : Int) := by omega
        have b2 : (j : Int) ≤ (c : Int) := by omega
        have b3 : (i : Int) ≤ (c : Int) := by omega
        have b4 : ¬ c = i := by omega
        have b5 : (0 : Int) ≤ (i : Int) := by omega
        have hgw : g < wr.heap.size := Nat.lt_of_lt_of_le hg q5.size
        generalize wr.setCells g (i * 3) (zs (j - i)) = W9 at *
        clear q1 q2 q3 q4 q5 HI hK HR
        go_wp2_with fail
        go_ret
        exact ⟨i, rfl, HF.out⟩
  · have HF : Hid (n = (S.filter (keep L)).length ∧ Tr w1 g (S.filter (keep L)) ∧ Kp (· = g) w w1) := by
      have e : S.filter (keep L) = S := List.filter_eq_self.2 fun y hy => by
        obtain ⟨i, hi, e⟩ := List.getElem_of_mem hy
        have := hall i y (by rw [List.getElem?_eq_getElem hi, e])
        simp [keep, this]
      rw [e]
      exact ⟨HR.out.2, tr_kp HR.out.1 h1.out.2, Kp.of_below h1.out.2⟩
    clear hall h1
    go_wp2_with fail
    go_ret
    exact ⟨n, rfl, HF.out⟩
end Go.Proofs.YtcgaekaollhmpaaGreat
