/-
  Scripts: are they few; the names of a law's accounts; what takes and gifts leave.
-/
import Derived.Test.YtehgcaaeifnjeaaOpen
import Derived.Test.YtehgcaaeifnjeaaLc
import Derived.Lib.QuietBelow
namespace Go.Proofs.Ytehgcaaeifnjeaa
open Go.RowKit Go.Maps Go.WideMaps

theorem Scr.below {w w1 : World} {q : Option Addr} {L : List Opr} (h : Scr w q L) (k : Below w.heap.size w w1) : Scr w1 q L := fun i o ho => by
  obtain ⟨⟨g, f, e, h0, h1, h2, h3, h4, h5, h6⟩, h7, h8⟩ := h i o ho
  exact ⟨⟨g, f, e, cell_below h0 k, cell_below h1 k, cell_below h2 k, cell_below h3 k, cell_below h4 k, cell_below h5 k, cell_below h6 k⟩, h7.keep k, h8⟩
def fewN : Nat → List Opr → Bool
  | s, [] => decide (s ≤ 2000)
  | s, o :: r => if s ≤ 2000 then fewN (s + (5 + o.es.length)) r else false
theorem few_yes : ∀ {s : Nat} {L : List Opr}, fewN s L = true → s + 5 * L.length ≤ 2000 ∧ ∀ o ∈ L, o.es.length ≤ 2000
  | s, [], h => ⟨by unfold fewN at h; simpa using h, fun o ho => by cases ho⟩
  | s, o :: r, h => by
    unfold fewN at h
    split at h
    · obtain ⟨h1, h2⟩ := few_yes h
      refine ⟨by simp; omega, fun x hx => ?_⟩
      rcases List.mem_cons.1 hx with rfl | hx
      · omega
      · exact h2 x hx
    · cases h
theorem few_no {s : Nat} {L : List Opr} (h : ¬ s ≤ 2000) : fewN s L = false := by
  cases L <;> simp [fewN, h]
set_option maxHeartbeats 1000000 in
set_option maxRecDepth 100000 in
theorem few_any (w : World) (q : Option Addr) (n c : Nat) (L : List Opr) (hn : n = L.length) (hS : Scr w q L) (hZ : ∀ o ∈ L, o.es.length ≤ 140737488351232) (h9 : n ≤ 9223372036854775807) : Calls Try.prog 10 #[.slice q n c] w fun e w' => e = .returned (.bool (fewN 0 L)) ∧ w' = w := by
  have HS : Hid (n = L.length ∧ Scr w q L) := ⟨hn, hS⟩
  have HZ : Hid (∀ o ∈ L, o.es.length ≤ 140737488351232) := hZ
  clear hn hS hZ
  go_enter Try.func10, Try.ntmps10
  go_wp2_with fail
  go_loopw [3, 4] (fun t x wr => ∃ s i : Nat, t = .int .i64 s ∧ x = .int .i64 i ∧ i ≤ n ∧ s ≤ 140737488360000 ∧ wr = w ∧ Hid (fewN 0 L = fewN s (L.drop i))) (fun _ x _ => n - (intOf x).toNat)
  case atStart => exact ⟨0, 0, rfl, rfl, Nat.zero_le _, by omega, rfl, rfl⟩
  case round =>
    obtain ⟨s, i, rfl, rfl, hin, hs9, rfl, HI⟩ := hrel
    by_cases hi : i < n
    · have hi' : (i : Int) < (n : Int) := by omega
      have hi2 : decide ((i : Int) < (n : Int)) = true := decide_eq_true hi'
      obtain ⟨o, ho⟩ : ∃ o, L[i]? = some o := ⟨_, List.getElem?_eq_getElem (by have := HS.out.1; omega)⟩
      have hd : L.drop i = o :: L.drop (i + 1) := by
        have h1 := (List.getElem?_eq_some_iff.1 ho).1
        rw [List.drop_eq_getElem_cons h1, (List.getElem?_eq_some_iff.1 ho).2]
      by_cases h3 : s ≤ 2000
      · have h3' : (s : Int) ≤ 2000 := by omega
        have h4' : decide ((s : Int) ≤ 2000) = true := decide_eq_true h3'
        obtain ⟨⟨g, f, rfl, -, -, -, -, -, -, s6⟩, -, -⟩ := HS.out.2 i o ho
        have hz := HZ.out o (List.mem_of_getElem? ho)
        have hz' : (o.es.length : Int) ≤ 140737488351232 := by omega
        have HX : Hid (fewN 0 L = fewN (s + (5 + o.es.length)) (L.drop (i + 1))) := by
          have := HI.out
          rw [hd] at this
          unfold Hid
          rw [this]
          show (if s ≤ 2000 then _ else _) = _
          rw [if_pos h3]
        clear hd ho
        go_wp2_with fail
        refine ⟨⟨s + (5 + o.es.length), i + 1, by simp, by simp, by omega, by omega, by first | rfl | trivial, HX.out⟩, ?_⟩
        simp [intOf]
        omega
      · have h3' : ¬ (s : Int) ≤ 2000 := by omega
        have h4' : decide ((s : Int) ≤ 2000) = false := decide_eq_false h3'
        have HX : Hid (fewN 0 L = false) := by
          have := HI.out
          rw [few_no h3] at this
          exact this
        clear hd ho
        go_wp2_with fail
        go_ret
        exact ⟨ret_b HX.out.symm, rfl⟩
    · have hi' : ¬ (i : Int) < (n : Int) := by omega
      have hi2 : decide ((i : Int) < (n : Int)) = false := decide_eq_false hi'
      have HX : Hid (fewN 0 L = decide (s ≤ 2000)) := by
        have := HI.out
        rw [List.drop_eq_nil_of_le (by have := HS.out.1; omega)] at this
        exact this
      go_wp2_with fail
      go_ret
      refine ⟨ret_b ?_, rfl⟩
      rw [HX.out]
      first | (exact decide_eq_decide.2 (by omega)) | simp
/-! ### names -/
def nmB (i : Nat) : ByteArray := ⟨#[UInt8.ofNat (97 + i)]⟩
@[irreducible] def nmI (i : Nat) : List UInt8 := [UInt8.ofNat (97 + i)]
theorem nmI_eq (i : Nat) : (nmB i).data.toList = nmI i := by unfold nmI; rfl
theorem nm_inj {i j : Nat} (hi : i < 20) (hj : j < 20) (h : nmI i = nmI j) : i = j := by
  unfold nmI at h
  have : ∀ i, i < 20 → ∀ j, j < 20 → UInt8.ofNat (97 + i) = UInt8.ofNat (97 + j) → i = j := by decide +kernel
  exact this i hi j hj (by injection h)
theorem nm_size (i : Nat) : (nmB i).size ≤ 281474976710656 := by
  have : (nmB i).size = 1 := rfl
  omega
theorem one_byte {s : ByteArray} {x : UInt8} (h : s.data.toList = [x]) : s = ⟨#[x]⟩ := by
  obtain ⟨⟨l⟩⟩ := s
  simp only at h
  rw [h]
theorem enc_at : ∀ i : Nat, i < 20 → (Utf8.encode (97 + (i : Int))).data.toList = [UInt8.ofNat (97 + i)] := by decide +kernel
theorem conv_rune (n : Int) (w : World) : (convert 21 9 (.int .i32 n)).run Try.prog w = .ok (.string (Utf8.encode n)) w := by
  simp [convert, run_underlying Try.underlying21, run_underlying Try.underlying9, Conv.intToString]
theorem nm_conv {i : Nat} (hi : i < 20) (w : World) : (convert 21 9 (.int .i32 (97 + (i : Int)))).run Try.prog w = .ok (.string (nmB i)) w := by
  rw [conv_rune, one_byte (enc_at i hi)]
  rfl
/-! ### accounts within their limits -/
theorem fnd_ins' {n m : List UInt8} {x : A} {D : List A} (hx : x.nm = n) (hn : fnd A.nm n D = none) : fnd A.nm m (ins A.nm x D) = if m = n then some x else fnd A.nm m D := by
  have := fnd_put (m := m) (l := D) hx
  rwa [drp_none hn] at this
/-- what the first i limits have made -/
structure Hl (LM : List V) (i : Nat) (D : List A) : Prop where
  yes : ∀ k v, k < i → LM[k]? = some v → v.ok = true → ∃ us, fnd A.nm (nmI k) D = some ⟨nmI k, v, us⟩ ∧ us.le v = true
  no : ∀ k v, k < i → LM[k]? = some v → v.ok = false → fnd A.nm (nmI k) D = none
  rest : ∀ k, i ≤ k → k < 20 → fnd A.nm (nmI k) D = none
  len : D.length ≤ i
theorem Hl.nil (LM : List V) : Hl LM 0 [] := ⟨fun _ _ hk => absurd hk (Nat.not_lt_zero _), fun _ _ hk => absurd hk (Nat.not_lt_zero _), fun _ _ _ => rfl, Nat.le_refl _⟩
theorem nil_le {v : V} (h : v.ok = true) : V.nil.le v = true := by
  have := V.ok_iff.1 h
  refine V.le_iff.2 ?_
  unfold V.nil
  simp only
  omega
theorem Hl.open {LM : List V} {i : Nat} {D : List A} {v : V} (h : Hl LM i D) (hi : i < 20) (hv : LM[i]? = some v) : Hl LM (i + 1) (openD D (nmI i) v).2 := by
  have hf := h.rest i (Nat.le_refl _) hi
  by_cases hok : v.ok = true
  · have e : (openD D (nmI i) v).2 = ins A.nm ⟨nmI i, v, V.nil⟩ D := by
      unfold openD
      rw [if_pos hok, hf]
      simp only
      rw [if_neg (by have := h.len; omega)]
    rw [e]
    have key : ∀ k, fnd A.nm (nmI k) (ins A.nm ⟨nmI i, v, V.nil⟩ D) = if nmI k = nmI i then some ⟨nmI i, v, V.nil⟩ else fnd A.nm (nmI k) D := fun k => fnd_ins' (x := ⟨nmI i, v, V.nil⟩) rfl hf
    refine ⟨fun k u hk hu ho => ?_, fun k u hk hu ho => ?_, fun k hk hk2 => ?_, by rw [ins_length]; have := h.len; omega⟩
    · rw [key]
      by_cases q : k = i
      · subst q
        rw [if_pos rfl]
        obtain rfl := Option.some.inj (hv.symm.trans hu)
        exact ⟨V.nil, rfl, nil_le hok⟩
      · rw [if_neg fun e => q (nm_inj (by omega) hi e)]
        exact h.yes k u (by omega) hu ho
    · rw [key]
      have q : k ≠ i := fun q => by
        subst q
        obtain rfl := Option.some.inj (hv.symm.trans hu)
        rw [hok] at ho
        cases ho
      rw [if_neg fun e => q (nm_inj (by omega) hi e)]
      exact h.no k u (by omega) hu ho
    · rw [key, if_neg fun e => by have := nm_inj hk2 hi e; omega]
      exact h.rest k (by omega) hk2
  · have e : (openD D (nmI i) v).2 = D := by
      unfold openD
      rw [if_neg hok]
    rw [e]
    refine ⟨fun k u hk hu ho => ?_, fun k u hk hu ho => ?_, fun k hk hk2 => h.rest k (by omega) hk2, by have := h.len; omega⟩
    · have q : k ≠ i := fun q => by
        subst q
        obtain rfl := Option.some.inj (hv.symm.trans hu)
        exact hok ho
      exact h.yes k u (by omega) hu ho
    · by_cases q : k = i
      · subst q
        exact hf
      · exact h.no k u (by omega) hu ho
theorem Hl.upd {LM : List V} {i : Nat} {D : List A} (h : Hl LM i D) (u : List UInt8 → V) (hu : ∀ n a, fnd A.nm n D = some a → a.us.le a.lim = true → (u n).le a.lim = true) : Hl LM i (setU u D) := by
  refine ⟨fun k v hk hv ho => ?_, fun k v hk hv ho => ?_, fun k hk hk2 => ?_, by show (List.map _ D).length ≤ i; rw [List.length_map]; exact h.len⟩
  · obtain ⟨us, h1, h2⟩ := h.yes k v hk hv ho
    exact ⟨u (nmI k), by rw [fnd_setU, h1]; rfl, hu _ _ h1 h2⟩
  · rw [fnd_setU, h.no k v hk hv ho]; rfl
  · rw [fnd_setU, h.rest k hk hk2]; rfl
theorem Hl.take {LM : List V} {i : Nat} {D : List A} (h : Hl LM i D) (es : List E) : Hl LM i (takeD D es).2 := by
  unfold takeD
  by_cases hc : checkD D es = 0
  · unfold postD
    rw [if_pos hc]
    cases hs : seqU takeF D (u0 D) es with
    | none => exact h
    | some u =>
      obtain ⟨h1, rfl⟩ := seq_take_some hs
      dsimp only
      refine h.upd _ fun n a ha hl => ?_
      by_cases hm : ∃ e ∈ es, e.n = n
      · obtain ⟨e, he, rfl⟩ := hm
        obtain ⟨b, hb, hbl⟩ := h1 e he
        obtain rfl := Option.some.inj (ha.symm.trans hb)
        exact hbl
      · rw [tot_none fun e he q => hm ⟨e, he, q⟩, V.add_nil]
        unfold u0
        rw [ha]
        exact hl
  · rw [postD_bad hc]
    exact h
theorem Hl.give {LM : List V} {i : Nat} {D : List A} (h : Hl LM i D) (es : List E) : Hl LM i (giveD D es).2 := by
  unfold giveD
  by_cases hc : checkD D es = 0
  · unfold postD
    rw [if_pos hc]
    cases hs : seqU giveF D (u0 D) es with
    | none => exact h
    | some u =>
      obtain ⟨h1, rfl⟩ := seq_give_some hs
      dsimp only
      refine h.upd _ fun n a ha hl => ?_
      have hp := tot_pos (check0 hc).1 n
      have hl := V.le_iff.1 hl
      have e : u0 D n = a.us := by unfold u0; rw [ha]
      rw [e]
      refine V.le_iff.2 ?_
      unfold V.pos V.sub at *
      simp only at *
      omega
  · rw [postD_bad hc]
    exact h
theorem Hl.used {LM : List V} {i : Nat} {D : List A} (h : Hl LM i D) {k : Nat} {v : V} (hk : k < i) (hv : LM[k]? = some v) : ∃ us, usedD D (nmI k) = (us, if v.ok then 0 else 3) ∧ (v.ok = true → us.le v = true ∧ ∃ a ∈ D, a.us = us) := by
  unfold usedD
  cases ho : v.ok with
  | true =>
    obtain ⟨us, h1, h2⟩ := h.yes k v hk hv ho
    rw [h1]
    exact ⟨us, rfl, fun _ => ⟨h2, _, (fnd_some h1).1, rfl⟩⟩
  | false =>
    rw [h.no k v hk hv ho]
    exact ⟨V.nil, rfl, fun q => by cases q⟩
end Go.Proofs.Ytehgcaaeifnjeaa
