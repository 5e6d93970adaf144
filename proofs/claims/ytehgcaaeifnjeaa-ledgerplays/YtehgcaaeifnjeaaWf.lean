/-
  Entries in memory; the ledger's function check.
-/
import Derived.Test.YtehgcaaeifnjeaaWe
namespace Go.Proofs.Ytehgcaaeifnjeaa
open Go.RowKit Go.Maps Go.WideMaps

/-- entries, one behind the other -/
def ERow (w : World) (s : Option Addr) (l : List E) : Prop := ∀ (i : Nat) (v : E), l[i]? = some v → ∃ p o, s = some ⟨p, o, none⟩ ∧ w.cell? ⟨p, o + i * 5, none⟩ = some (.string v.nm) ∧ w.cell? ⟨p, o + i * 5 + 1, none⟩ = some (.int .i64 v.am.a) ∧ w.cell? ⟨p, o + i * 5 + 2, none⟩ = some (.int .i64 v.am.b) ∧ w.cell? ⟨p, o + i * 5 + 3, none⟩ = some (.int .i64 v.am.c) ∧ w.cell? ⟨p, o + i * 5 + 4, none⟩ = some (.int .i64 v.am.d)
theorem ERow.keep' {w w1 : World} {s : Option Addr} {l : List E} (h : ERow w s l) (hk : ∀ p o, s = some ⟨p, o, none⟩ → w1.heap[p]? = w.heap[p]?) : ERow w1 s l := fun i v hv => by
  obtain ⟨p, o, rfl, h0, h1, h2, h3, h4⟩ := h i v hv
  have e := hk p o rfl
  exact ⟨p, o, rfl, (cell_eq e).trans h0, (cell_eq e).trans h1, (cell_eq e).trans h2, (cell_eq e).trans h3, (cell_eq e).trans h4⟩
theorem ERow.keep {w w1 : World} {s : Option Addr} {l : List E} (h : ERow w s l) (b : Below w.heap.size w w1) : ERow w1 s l := fun i v hv => by
  obtain ⟨p, o, rfl, h0, h1, h2, h3, h4⟩ := h i v hv
  exact ⟨p, o, rfl, cell_below h0 b, cell_below h1 b, cell_below h2 b, cell_below h3 b, cell_below h4 b⟩
theorem ERow.nil (w : World) (s : Option Addr) : ERow w s [] := fun i v hv => by simp at hv

def ptr (o : Option Nat) : Value := match o with
  | none => .pointer none
  | some b => .pointer (some ⟨b, 0, none⟩)
theorem fptr_ptr (o : Option Ac) : fptr o = ptr (o.map Ac.fb) := by cases o <;> rfl
def chk (F : List UInt8 → Option Nat) (es : List E) : Int := if es.all (fun e => e.am.ok) then (if es.all (fun e => (F e.n).isSome) then 0 else 3) else 4
/-- what find answers in every world that is like this one -/
def Finds (w : World) (p : Value) (F : List UInt8 → Option Nat) : Prop := ∀ w1, Below w.heap.size w w1 → ∀ s : ByteArray, s.size ≤ 281474976710656 → Calls Try.prog 31 #[p, .string s] w1 fun e w' => e = .returned (ptr (F s.data.toList)) ∧ w' = w1
theorem finds_nil (w : World) : Finds w (.pointer none) fun _ => none := fun w1 _ s _ => find_nil w1 s
theorem finds_at {w : World} {pb : Nat} {mb : Option Nat} {l : List Ac} (h : LgAt w pb mb l) : Finds w (.pointer (some ⟨pb, 0, none⟩)) fun n => (fnd Ac.nm n l).map Ac.fb := fun w1 b s hs => by
  have := find_any (h.keep fun k hk => b.block k (h.lt hk)) s hs
  rwa [fptr_ptr] at this

set_option maxHeartbeats 2000000 in
set_option maxRecDepth 100000 in
theorem check_raw (p : Value) (F : List UInt8 → Option Nat) (s : Option Addr) (l : List E) (c : Nat) (w : World) (hn : l.length < 1152921504606846976) (hr : ERow w s l) (hz : ∀ e ∈ l, e.nm.size ≤ 281474976710656) (hF : Finds w p F) :
    Calls Try.prog 47 #[p, .slice s l.length c] w fun e w' => e = .returned (.int .i64 (chk F l)) ∧ Below w.heap.size w w' := by
  generalize hL : l.length = n at *
  have HL : Hid (l.length = n) := hL
  have HR : Hid (ERow w s l) := hr
  have HZ : Hid (∀ e ∈ l, e.nm.size ≤ 281474976710656) := hz
  have HF : Hid (Finds w p F) := hF
  have HC : Hid (∀ (a b c d : Int) (w : World), Calls Try.prog 35 #[.agg #[.int .i64 a, .int .i64 b, .int .i64 c, .int .i64 d]] w fun e w' => e = .returned (.bool (fm a b c d)) ∧ Below w.heap.size w w') := fun a b c d w => formed_any a b c d w
  clear hL hr hz hF
  go_enter Try.func47, Try.ntmps47
  go_wp2_with fail
  go_loopw [11] (fun x wr => ∃ k : Nat, x = .int .i64 k ∧ k ≤ n ∧ (∀ (i : Nat) (v : E), i < k → l[i]? = some v → v.am.ok = true) ∧ Below w.heap.size w wr) (fun x _ => (n : Int).toNat - (intOf x).toNat)
  case atStart => exact ⟨0, rfl, by omega, fun _ _ h => absurd h (by omega), Below.refl _ _⟩
  case round =>
    obtain ⟨k, rfl, hk, hall, hb⟩ := hrel
    by_cases h0 : k = n
    · subst h0
      have hall2 : Hid (l.all (fun e => e.am.ok) = true) := by
        refine List.all_eq_true.2 fun v hv => ?_
        obtain ⟨i, hi⟩ := List.mem_iff_getElem?.1 hv
        have hi' := (List.getElem?_eq_some_iff.1 hi).1
        exact hall i v (by have := HL.out; omega) hi
      have HB0 : Hid (Below w.heap.size w wr) := hb
      clear hall hb HC
      go_wp2_with fail
      generalize hkk : k = n at *
      go_loopw [22] (fun x wr => ∃ k : Nat, x = .int .i64 k ∧ k ≤ n ∧ (∀ (i : Nat) (v : E), i < k → l[i]? = some v → (F v.n).isSome = true) ∧ Below w.heap.size w wr) (fun x _ => (n : Int).toNat - (intOf x).toNat)
      case atStart => exact ⟨0, rfl, by omega, fun _ _ h => absurd h (by omega), HB0.out⟩
      case round =>
        obtain ⟨k, rfl, hk, hall, hb⟩ := hrel
        by_cases h0 : k = n
        · subst h0
          go_wp2_with fail
          go_ret
          refine ⟨congrArg (fun b => Ending.returned (Value.int .i64 b)) ?_, hb⟩
          unfold chk
          rw [if_pos hall2.out, if_pos]
          refine List.all_eq_true.2 fun v hv => ?_
          obtain ⟨i, hi⟩ := List.mem_iff_getElem?.1 hv
          have hi' := (List.getElem?_eq_some_iff.1 hi).1
          exact hall i v (by have := HL.out; omega) hi
        · have hlt : k < l.length := by have := HL.out; omega
          have hlt' : (k : Int) < (n : Int) := by omega
          have hd : decide ((k : Int) < (n : Int)) = true := decide_eq_true hlt'
          obtain ⟨v, hv⟩ : ∃ v, l[k]? = some v := ⟨l[k], List.getElem?_eq_getElem hlt⟩
          have hvz := HZ.out v (List.mem_of_getElem? hv)
          obtain ⟨q, o, rfl, c0, c1, c2, c3, c4⟩ := (HR.out.keep hb) k _ hv
          have HB : Hid (Below w.heap.size w wr) := hb
          have HA : Hid (∀ (i : Nat) (v : E), i < k → l[i]? = some v → (F v.n).isSome = true) := hall
          clear hb hall
          have G31 : Hid (∀ w1, Below w.heap.size w w1 → Calls Try.prog 31 #[p, .string v.nm] w1 fun e w' => e = .returned (ptr (F v.n)) ∧ w' = w1) := fun w1 b => HF.out w1 b v.nm hvz
          clear hvz
          obtain ⟨g, hg⟩ : ∃ g, F v.n = g := ⟨_, rfl⟩
          have HG : Hid (F v.n = g) := hg
          rw [hg] at G31
          clear hg
          cases g with
          | none =>
            have G31 : Hid (∀ w1, Below w.heap.size w w1 → Calls Try.prog 31 #[p, .string v.nm] w1 fun e w' => e = .returned (.pointer none) ∧ w' = w1) := G31
            obtain ⟨nm, a, b, c', d⟩ := v
            simp only [] at c0 c1 c2 c3 c4 G31
            go_wp2_with (go_at_call 31; refine (G31.out _ (HB.out.alloc HB.out.size _)).mono ?_; rintro e w1 ⟨rfl, rfl⟩)
            go_ret
            refine ⟨congrArg (fun b => Ending.returned (Value.int .i64 b)) ?_, HB.out.alloc HB.out.size _⟩
            unfold chk
            rw [if_pos hall2.out, if_neg]
            intro h
            have := List.all_eq_true.1 h _ (List.mem_of_getElem? hv)
            rw [HG.out] at this
            cases this
          | some gb =>
            have G31 : Hid (∀ w1, Below w.heap.size w w1 → Calls Try.prog 31 #[p, .string v.nm] w1 fun e w' => e = .returned (.pointer (some ⟨gb, 0, none⟩)) ∧ w' = w1) := G31
            obtain ⟨nm, a, b, c', d⟩ := v
            simp only [] at c0 c1 c2 c3 c4 G31
            go_wp2_with (go_at_call 31; refine (G31.out _ (HB.out.alloc HB.out.size _)).mono ?_; rintro e w1 ⟨rfl, rfl⟩)
            refine ⟨⟨k + 1, ?_, by omega, ?_, HB.out.alloc HB.out.size _⟩, ?_⟩
            · simp
            · intro i u hi hiv
              by_cases hik : i = k
              · subst hik
                rw [hv] at hiv
                obtain rfl := Option.some.inj hiv
                rw [HG.out]; rfl
              · exact HA.out i u (by omega) hiv
            · simp only [intOf]; omega
    · have hlt : k < l.length := by have := HL.out; omega
      have hlt' : (k : Int) < (n : Int) := by omega
      have hd : decide ((k : Int) < (n : Int)) = true := decide_eq_true hlt'
      obtain ⟨v, hv⟩ : ∃ v, l[k]? = some v := ⟨l[k], List.getElem?_eq_getElem hlt⟩
      obtain ⟨nm, a, b, c', d⟩ := v
      obtain ⟨q, o, rfl, c0, c1, c2, c3, c4⟩ := (HR.out.keep hb) k _ hv
      simp only [] at c0 c1 c2 c3 c4
      have HB : Hid (Below w.heap.size w wr) := hb
      have HA : Hid (∀ (i : Nat) (v : E), i < k → l[i]? = some v → v.am.ok = true) := hall
      clear hb hall
      by_cases hf : fm a b c' d = true
      · have HC' : Hid (∀ (w : World), Calls Try.prog 35 #[.agg #[.int .i64 a, .int .i64 b, .int .i64 c', .int .i64 d]] w fun e w' => e = .returned (.bool true) ∧ Below w.heap.size w w') := fun w => by have := HC.out a b c' d w; rwa [hf] at this
        clear HC
        go_wp2_with (go_at_call 35; refine (HC'.out _).mono ?_; rintro e w1 ⟨rfl, b1⟩)
        refine ⟨⟨k + 1, ?_, by omega, ?_, ?_⟩, ?_⟩
        · simp
        · intro i v hi hiv
          by_cases hik : i = k
          · subst hik
            rw [hv] at hiv
            obtain rfl := Option.some.inj hiv
            exact hf
          · exact HA.out i v (by omega) hiv
        · exact below_from (HB.out.alloc HB.out.size _) b1 (by have := HB.out.size; simp; omega)
        · simp only [intOf]; omega
      · have HC' : Hid (∀ (w : World), Calls Try.prog 35 #[.agg #[.int .i64 a, .int .i64 b, .int .i64 c', .int .i64 d]] w fun e w' => e = .returned (.bool false) ∧ Below w.heap.size w w') := fun w => by have := HC.out a b c' d w; rwa [Bool.eq_false_iff.2 hf] at this
        clear HC
        go_wp2_with (go_at_call 35; refine (HC'.out _).mono ?_; rintro e w1 ⟨rfl, b1⟩)
        go_ret
        refine ⟨congrArg (fun b => Ending.returned (Value.int .i64 b)) ?_, below_from (HB.out.alloc HB.out.size _) b1 (by have := HB.out.size; simp; omega)⟩
        unfold chk
        rw [if_neg]
        intro h
        exact hf (List.all_eq_true.1 h _ (List.mem_of_getElem? hv))
end Go.Proofs.Ytehgcaaeifnjeaa
