/-
  The document's ledger: wrong.
-/
import Derived.Test.YtehgcaaeifnjeaaRf
import Derived.Test.YtehgcaaeifnjeaaWf
namespace Go.Proofs.Ytehgcaaeifnjeaa
open Go.RowKit Go.Maps Go.WideMaps

/-- what the document's find answers in every world that is like this one -/
def RFinds (w : World) (p : Value) (F : List UInt8 → Option Nat) : Prop := ∀ w1, Below w.heap.size w w1 → ∀ s : ByteArray, Calls Try.prog 32 #[p, .string s] w1 fun e w' => e = .returned (.int .i64 (match F s.data.toList with | none => -1 | some k => (k : Int))) ∧ w' = w1
/-- a name's place -/
def plc (D : List A) (n : List UInt8) : Option Nat := D.findIdx? (fun a => a.nm == n)
theorem plc_none {D : List A} {n : List UInt8} (h : plc D n = none) : fnd A.nm n D = none := by
  unfold plc at h
  unfold fnd
  rw [List.findIdx?_eq_none_iff] at h
  exact List.find?_eq_none.2 fun x hx => by simpa using h x hx
theorem plc_some {D : List A} {n : List UInt8} {k : Nat} (h : plc D n = some k) : ∃ a, D[k]? = some a ∧ a.nm = n := by
  unfold plc at h
  obtain ⟨h1, h2, -⟩ := List.findIdx?_eq_some_iff_getElem.1 h
  exact ⟨D[k], List.getElem?_eq_getElem h1, by simpa using h2⟩
theorem plc_isSome (D : List A) (n : List UInt8) (hs : Srt A.nm D) : (plc D n).isSome = (fnd A.nm n D).isSome := by
  cases h : plc D n with
  | none => rw [plc_none h]; rfl
  | some k =>
    obtain ⟨a, h1, rfl⟩ := plc_some h
    rw [fnd_at hs h1]; rfl
theorem rfinds_at {w : World} {rb : Nat} {q : Option Addr} {n c : Nat} {D : List A} (h : RAt w rb q n c D) : RFinds w (.pointer (some ⟨rb, 0, none⟩)) (plc D) := fun w1 b s => by
  cases hp : plc D s.data.toList with
  | none => exact rfind_no (h.below b) (plc_none hp)
  | some k =>
    obtain ⟨a, h1, h2⟩ := plc_some hp
    exact rfind_yes (h.below b) h1 h2
set_option maxHeartbeats 2000000 in
set_option maxRecDepth 100000 in
theorem rwrong_raw (p : Value) (F : List UInt8 → Option Nat) (s : Option Addr) (l : List E) (c : Nat) (w : World) (hn : l.length < 1152921504606846976) (hr : ERow w s l) (hF : RFinds w p F) :
    Calls Try.prog 40 #[p, .slice s l.length c] w fun e w' => e = .returned (.int .i64 (chk F l)) ∧ Below w.heap.size w w' := by
  generalize hL : l.length = n at *
  have HL : Hid (l.length = n) := hL
  have HR : Hid (ERow w s l) := hr
  have HF : Hid (RFinds w p F) := hF
  have HC : Hid (∀ (a b c d : Int) (w : World), Calls Try.prog 21 #[.agg #[.int .i64 a, .int .i64 b, .int .i64 c, .int .i64 d]] w fun e w' => e = .returned (.bool (fm a b c d)) ∧ Below w.heap.size w w') := fun a b c d w => rformed_any a b c d w
  clear hL hr hF
  go_enter Try.func40, Try.ntmps40
  go_wp2_with fail
  go_loopw [5] (fun x wr => ∃ k : Nat, x = .int .i64 k ∧ k ≤ n ∧ (∀ (i : Nat) (v : E), i < k → l[i]? = some v → v.am.ok = true) ∧ Below w.heap.size w wr) (fun x _ => (n : Int).toNat - (intOf x).toNat)
  case atStart => exact ⟨0, rfl, by omega, fun _ _ h => absurd h (by omega), Below.refl _ _⟩
  case round =>
    obtain ⟨k, rfl, hk, hall, hb⟩ := hrel
    by_cases h0 : k = n
    · subst h0
      have hall2 : Hid (l.all (fun e => e.am.ok) = true) := by
        refine List.all_eq_true.2 fun v hv => ?_
        obtain ⟨i, hi⟩ := List.mem_iff_getElem?.1 hv
        have hi' := (List.getElem?_eq_some_iff.1 hi).1
        exact hall i v (by have := HL.out; omega) hi
      have HB0 : Hid (Below w.heap.size w wr) := hb
      clear hall hb HC
      go_wp2_with fail
      generalize hkk : k = n at *
      go_loopw [6] (fun x wr => ∃ k : Nat, x = .int .i64 k ∧ k ≤ n ∧ (∀ (i : Nat) (v : E), i < k → l[i]? = some v → (F v.n).isSome = true) ∧ Below w.heap.size w wr) (fun x _ => (n : Int).toNat - (intOf x).toNat)
      case atStart => exact ⟨0, rfl, by omega, fun _ _ h => absurd h (by omega), HB0.out⟩
      case round =>
        obtain ⟨k, rfl, hk, hall, hb⟩ := hrel
        by_cases h0 : k = n
        · subst h0
          go_wp2_with fail
          go_ret
          refine ⟨congrArg (fun b => Ending.returned (Value.int .i64 b)) ?_, hb⟩
          unfold chk
          rw [if_pos hall2.out, if_pos]
          refine List.all_eq_true.2 fun v hv => ?_
          obtain ⟨i, hi⟩ := List.mem_iff_getElem?.1 hv
          have hi' := (List.getElem?_eq_some_iff.1 hi).1
          exact hall i v (by have := HL.out; omega) hi
        · have hlt : k < l.length := by have := HL.out; omega
          have hlt' : (k : Int) < (n : Int) := by omega
          have hd : decide ((k : Int) < (n : Int)) = true := decide_eq_true hlt'
          obtain ⟨v, hv⟩ : ∃ v, l[k]? = some v := ⟨l[k], List.getElem?_eq_getElem hlt⟩
          obtain ⟨q, o, rfl, c0, c1, c2, c3, c4⟩ := (HR.out.keep hb) k _ hv
          have HB : Hid (Below w.heap.size w wr) := hb
          have HA : Hid (∀ (i : Nat) (v : E), i < k → l[i]? = some v → (F v.n).isSome = true) := hall
          have G31 := HF.out wr hb v.nm
          change Calls Try.prog 32 #[p, .string v.nm] wr fun e w' => e = .returned (.int .i64 (match F v.n with | none => -1 | some k => (k : Int))) ∧ w' = wr at G31
          clear hb hall
          obtain ⟨g, hg⟩ : ∃ g, F v.n = g := ⟨_, rfl⟩
          have HG : Hid (F v.n = g) := hg
          rw [hg] at G31
          clear hg
          cases g with
          | none =>
            have G31 : Hid (Calls Try.prog 32 #[p, .string v.nm] wr fun e w' => e = .returned (.int .i64 (-1)) ∧ w' = wr) := G31
            obtain ⟨nm, a, b, c', d⟩ := v
            simp only [] at c0 c1 c2 c3 c4 G31
            go_wp2_with (go_at_call 32; refine G31.out.mono ?_; rintro e w1 ⟨rfl, hw⟩; obtain rfl := hw)
            go_ret
            refine ⟨congrArg (fun b => Ending.returned (Value.int .i64 b)) ?_, HB.out⟩
            unfold chk
            rw [if_pos hall2.out, if_neg]
            intro h
            have := List.all_eq_true.1 h _ (List.mem_of_getElem? hv)
            rw [HG.out] at this
            cases this
          | some gb =>
            have G31 : Hid (Calls Try.prog 32 #[p, .string v.nm] wr fun e w' => e = .returned (.int .i64 (gb : Int)) ∧ w' = wr) := G31
            have hgb : ¬ (gb : Int) < 0 := by omega
            obtain ⟨nm, a, b, c', d⟩ := v
            simp only [] at c0 c1 c2 c3 c4 G31
            go_wp2_with (go_at_call 32; refine G31.out.mono ?_; rintro e w1 ⟨rfl, hw⟩; obtain rfl := hw)
            refine ⟨⟨k + 1, ?_, by omega, ?_, HB.out⟩, ?_⟩
            · simp
            · intro i u hi hiv
              by_cases hik : i = k
              · subst hik
                rw [hv] at hiv
                obtain rfl := Option.some.inj hiv
                rw [HG.out]; rfl
              · exact HA.out i u (by omega) hiv
            · simp only [intOf]; omega
    · have hlt : k < l.length := by have := HL.out; omega
      have hlt' : (k : Int) < (n : Int) := by omega
      have hd : decide ((k : Int) < (n : Int)) = true := decide_eq_true hlt'
      obtain ⟨v, hv⟩ : ∃ v, l[k]? = some v := ⟨l[k], List.getElem?_eq_getElem hlt⟩
      obtain ⟨nm, a, b, c', d⟩ := v
      obtain ⟨q, o, rfl, c0, c1, c2, c3, c4⟩ := (HR.out.keep hb) k _ hv
      simp only [] at c0 c1 c2 c3 c4
      have HB : Hid (Below w.heap.size w wr) := hb
      have HA : Hid (∀ (i : Nat) (v : E), i < k → l[i]? = some v → v.am.ok = true) := hall
      have c2 : wr.cell? ⟨q, o + k * 5 + 1 + 1, none⟩ = some (.int .i64 b) := c2
      have c3 : wr.cell? ⟨q, o + k * 5 + 1 + 2, none⟩ = some (.int .i64 c') := c3
      have c4 : wr.cell? ⟨q, o + k * 5 + 1 + 3, none⟩ = some (.int .i64 d) := c4
      clear hb hall
      by_cases hf : fm a b c' d = true
      · have HC' : Hid (∀ (w : World), Calls Try.prog 21 #[.agg #[.int .i64 a, .int .i64 b, .int .i64 c', .int .i64 d]] w fun e w' => e = .returned (.bool true) ∧ Below w.heap.size w w') := fun w => by have := HC.out a b c' d w; rwa [hf] at this
        clear HC
        go_wp2_with (go_at_call 21; refine (HC'.out _).mono ?_; rintro e w1 ⟨rfl, b1⟩)
        refine ⟨⟨k + 1, ?_, by omega, ?_, ?_⟩, ?_⟩
        · simp
        · intro i v hi hiv
          by_cases hik : i = k
          · subst hik
            rw [hv] at hiv
            obtain rfl := Option.some.inj hiv
            exact hf
          · exact HA.out i v (by omega) hiv
        · exact below_from HB.out b1 HB.out.size
        · simp only [intOf]; omega
      · have HC' : Hid (∀ (w : World), Calls Try.prog 21 #[.agg #[.int .i64 a, .int .i64 b, .int .i64 c', .int .i64 d]] w fun e w' => e = .returned (.bool false) ∧ Below w.heap.size w w') := fun w => by have := HC.out a b c' d w; rwa [Bool.eq_false_iff.2 hf] at this
        clear HC
        go_wp2_with (go_at_call 21; refine (HC'.out _).mono ?_; rintro e w1 ⟨rfl, b1⟩)
        go_ret
        refine ⟨congrArg (fun b => Ending.returned (Value.int .i64 b)) ?_, below_from HB.out b1 HB.out.size⟩
        unfold chk
        rw [if_neg]
        intro h
        exact hf (List.all_eq_true.1 h _ (List.mem_of_getElem? hv))
theorem rwrong_any {w : World} {T : Nat → Prop} {rb : Nat} {D : List A} (h : Ref w T rb D) (s : Option Addr) (l : List E) (c : Nat) (hn : l.length < 1152921504606846976) (hr : ERow w s l) :
    Calls Try.prog 40 #[.pointer (some ⟨rb, 0, none⟩), .slice s l.length c] w fun e w' => e = .returned (.int .i64 (checkD D l)) ∧ Below w.heap.size w w' := by
  obtain ⟨⟨q, n, c', h1, -⟩, -⟩ := h
  have := rwrong_raw _ (plc D) s l c w hn hr (rfinds_at h1)
  have e : chk (plc D) l = checkD D l := by
    unfold chk checkD
    simp only [plc_isSome _ _ h1.srt]
  rwa [e] at this
end Go.Proofs.Ytehgcaaeifnjeaa
