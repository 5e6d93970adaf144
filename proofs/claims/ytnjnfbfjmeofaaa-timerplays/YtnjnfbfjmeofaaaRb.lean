/-
  The reference's take, Cancel.
-/
import Derived.Test.YtnjnfbfjmeofaaaRa
namespace Go.Proofs.Ytnjnfbfjmeofaaa
open Go.RowKit Go.Maps Go.WideMaps

theorem elem27 : Try.prog.underlying 27 = some (.slice (Try.prog.elem 27)) := by kernel_rfl
theorem size27 : ∀ w, (sizeOf (Try.prog.elem 27)).run Try.prog w = .ok 2 w := fun w => by kernel_rfl
/-- where a stretch begins that is cut from below -/
def cutO (o c lo : Nat) : Nat := if c = lo then o else o + lo * 2
theorem add2 (b off j : Nat) : (⟨b, off, none⟩ : Addr).add j = ⟨b, off + j, none⟩ := by unfold Addr.add; split <;> simp_all
theorem rsl_h (g o n c m : Nat) (h : m ≤ c) : ∀ w, (Instr.sliceAt 27 (.slice (some ⟨g, o, none⟩) n c) none (some (.int .i64 m)) none).run Try.prog w = .ok (.slice (some ⟨g, o, none⟩) m c) w := fun w => by
  rw [run_sliceAt_slice (h := elem27), run_slice_h (ht := elem27) (h0 := by omega) (h2 := by omega), size27]
  simp only [Result.andThen, Int.toNat_natCast]
  unfold sliced
  split
  · rename_i e; subst e; simp
  · simp [add2]
theorem rsl_l (g o n c lo : Nat) (h : lo ≤ n) (hc : n ≤ c) : ∀ w, (Instr.sliceAt 27 (.slice (some ⟨g, o, none⟩) n c) (some (.int .i64 lo)) none none).run Try.prog w = .ok (.slice (some ⟨g, cutO o c lo, none⟩) (n - lo) (c - lo)) w := fun w => by
  rw [run_sliceAt_slice (h := elem27), run_slice_l (ht := elem27) (h0 := by omega) (h1 := by omega), size27]
  simp only [Result.andThen, Int.toNat_natCast]
  unfold sliced cutO
  split <;> simp_all [add2]
theorem flat_drop : ∀ (l : List Al) (n : Nat), flat (l.drop n) = (flat l).drop (n * 2)
  | [], n => by simp [flat]
  | b :: l, 0 => by simp [flat]
  | b :: l, n + 1 => by
    rw [List.drop_succ_cons, flat_cons, flat_drop l n, show (n + 1) * 2 = n * 2 + 1 + 1 by omega]
    rfl
theorem Lie.drop {w : World} {g o c : Nat} {l : List Al} (h : Lie w g o c l) (k : Nat) (hk : k ≤ l.length) : Lie w g (cutO o c k) (c - k) (l.drop k) := by
  obtain ⟨cs, h1, h2, h3⟩ := h.ex
  have hle := h.le
  refine ⟨⟨cs, h1, ?_, ?_⟩, by rw [List.length_drop]; omega, by have := h.mx; omega⟩
  · unfold cutO
    split <;> omega
  · unfold cutO
    split
    · rw [List.drop_of_length_le (by omega)]
      simp [flat]
    · have e := flat_drop l k
      rw [e, ← h3, List.drop_take, List.drop_drop, List.length_drop, show l.length * 2 - k * 2 = (l.length - k) * 2 by omega]
theorem flat_erase (l : List Al) (k : Nat) : flat (l.take k) ++ flat (l.drop (k + 1)) = flat (l.eraseIdx k) := by rw [← flat_append, List.eraseIdx_eq_take_drop_succ]
/-- behind take -/
structure Tk (w w' : World) (rb : Nat) (n k : Nat) (l : List Al) : Prop where
  ex : ∃ v, w'.heap[rb]? = some (.cells #[v] 29 (0, 0)) ∧ w'.ownsRow w.heap.size 47 2 v (n - 1) (flat (l.eraseIdx k))
  kp : Kp (· = rb) w w'
theorem sl_own {w : World} {B e size n : Nat} {v : Value} {xs : List Value} (h : w.ownsRow B e size v n xs) : ∃ a b c, v = .slice a b c := by
  rcases h.2 with ⟨rfl, _⟩ | ⟨g, cap, cur, rfl, _⟩
  · exact ⟨_, _, _, rfl⟩
  · exact ⟨_, _, _, rfl⟩
set_option maxHeartbeats 2000000 in
set_option maxRecDepth 100000 in
theorem rtake_raw (w : World) (rb g o n c k : Nat) (l : List Al) (hl : Hid (l.length = n)) (hn : n ≤ 1024) (hk : k < n) (hb : Hid (w.heap[rb]? = some (.cells #[.slice (some ⟨g, o, none⟩) n c] 29 (0, 0)))) (hL : Hid (Lie w g o c l)) :
    Calls Try.prog 31 #[.pointer (some ⟨rb, 0, none⟩), .int .i64 k] w fun e w' => e = .returned (.tuple #[]) ∧ Tk w w' rb n k l := by
  have e0 : w.cell? ⟨rb, 0, none⟩ = some (.slice (some ⟨g, o, none⟩) n c) := by rw [cell_of hb.out]; rfl
  have hcn : n ≤ c := by have := hL.out.le; have := hl.out; omega
  have hsl := rsl_h g o n c k (by omega)
  obtain ⟨k1, ek1⟩ : ∃ k1, k1 = k + 1 := ⟨_, rfl⟩
  have hsl2 := rsl_l g o n c k1 (by omega) hcn
  have hrb : Hid (rb < w.heap.size) := (Array.getElem?_eq_some_iff.1 hb.out).1
  have R1 : Hid (RowV w g o (flat (l.take k))) := fun j u hu => by
    refine hL.out.rowV j u ?_
    have q : flat l = flat (l.take k) ++ flat (l.drop k) := by rw [← flat_append, List.take_append_drop]
    rw [q, List.getElem?_append_left (List.getElem?_eq_some_iff.1 hu).1]
    exact hu
  have L1 : Hid ((flat (l.take k)).length = k * 2) := by
    unfold Hid
    rw [flat_length, List.length_take, hl.out, Nat.min_eq_left (by omega)]
  have L2 : Hid ((flat (l.drop k1)).length = (n - k1) * 2) := by
    unfold Hid
    rw [flat_length, List.length_drop, hl.out]
  go_enter Try.func31, Try.ntmps31
  go_upto_region 2 with (at_builtin; refine append_vals (w := w) Try.underlying27 info47 rfl (by decide) rfl _ _ rfl w.heap.size (.slice none 0 0) 0 [] rfl (World.ownsRow_nil _ _ _ _) g o c k (flat (l.take k)) rfl L1.out R1.out (flat_one' _) (by unfold maxLen; omega) (by omega) (Nat.le_refl _) ?_; intro v' w3 h1 h2)
  rw [List.nil_append, Nat.zero_add] at h1
  obtain ⟨s1, s2, s3, rfl⟩ := sl_own h1
  have B3 : Hid (Below w.heap.size w w3) := ⟨h2.os, h2.tape, h2.output, h2.size, fun j hj => h2.block j hj (by intro q; cases q)⟩
  have O3 : Hid (w3.ownsRow w.heap.size 47 2 (.slice s1 s2 s3) k (flat (l.take k))) := h1
  have P3 : Hid (w3.heap[rb]? = some (.cells #[.slice (some ⟨g, o, none⟩) n c] 29 (0, 0))) := (B3.out.block rb hrb.out).trans hb.out
  have R4 : Hid (RowV w3 g (cutO o c k1) (flat (l.drop k1))) := ((hL.out.keep (B3.out.block g hL.out.lt)).drop k1 (by have := hl.out; omega)).rowV
  have d0 : w3.cell? ⟨rb, 0, none⟩ = some (.slice (some ⟨g, o, none⟩) n c) := by rw [cell_of P3.out]; rfl
  have hk1 : (k : Int) + 1 ≤ 1024 := by omega
  have hk0 : 0 ≤ (k : Int) := by omega
  have hkc : (k : Int) + 1 = (k1 : Int) := by omega
  have EK : Hid (k1 = k + 1 ∧ k < n ∧ n ≤ 1024) := ⟨ek1, hk, hn⟩
  have hkb : (k1 : Int) ≤ 1024 := by omega
  have hkb0 : 0 ≤ (k1 : Int) := by omega
  clear h1 h2 e0 R1 L1 ek1
  have Z3 : Hid (w.heap.size ≤ w3.heap.size) := B3.out.size
  go_upto_region 3 with (at_builtin; refine append_vals (w := w3) Try.underlying27 info47 rfl (by decide) rfl _ _ rfl w.heap.size (.slice s1 s2 s3) k (flat (l.take k)) rfl O3.out g (cutO o c k1) (c - k1) (n - k1) (flat (l.drop k1)) rfl L2.out R4.out (flat_one' _) (by have := EK.out; unfold maxLen; omega) (by have := EK.out; omega) Z3.out ?_; intro v' w4 h1 h2)
  obtain ⟨t1, t2, t3, rfl⟩ := sl_own h1
  have hob : ∀ j, (Value.slice s1 s2 s3).ownBlock = some j → w.heap.size ≤ j := fun j q => (World.ownsRow.lt O3.out j q).1
  have P4 : w4.heap[rb]? = some (.cells #[.slice (some ⟨g, o, none⟩) n c] 29 (0, 0)) := (h2.block rb (by have := hrb.out; have := Z3.out; omega) (fun q => by have := hob rb q.symm; have := hrb.out; omega)).trans P3.out
  have O4 : Hid (w4.ownsRow w.heap.size 47 2 (.slice t1 t2 t3) (k + (n - k1)) (flat (l.take k) ++ flat (l.drop k1))) := h1
  have K4 : Hid (Kp (fun _ => False) w w4) := ⟨h2.os.trans B3.out.os, h2.tape.trans B3.out.tape, h2.output.trans B3.out.output, Nat.le_trans B3.out.size h2.size, fun j hj _ => (h2.block j (by have := Z3.out; omega) (fun q => by have := hob j q.symm; omega)).trans (B3.out.block j hj)⟩
  have d4 : w4.cell? ⟨rb, 0, none⟩ = some (.slice (some ⟨g, o, none⟩) n c) := by rw [cell_of P4]; rfl
  have f4 := fz P4 0
  have P5 : Hid ((w4.setCell ⟨rb, 0, none⟩ (.slice t1 t2 t3)).heap[rb]? = some (.cells #[.slice t1 t2 t3] 29 (0, 0))) := setB P4 _
  clear h1 h2 d0 P4 hob
  go_wp2_with fail
  go_end0
  have hEK := EK.out
  refine ⟨rfl, ⟨.slice t1 t2 t3, P5.out, ?_⟩, ?_⟩
  · have e1 : n - 1 = k + (n - k1) := by omega
    rw [e1, ← flat_erase, ← hEK.1]
    refine ownsKeep O4.out fun j q => Below.heap_setCell _ _ _ _ ?_
    have := (World.ownsRow.lt O4.out j q).1
    have := hrb.out
    show j ≠ rb
    omega
  · exact (K4.out.mono (S' := (· = rb)) fun _ _ h => h.elim).trans (Kp.of_set (S := (· = rb)) w4 ⟨rb, 0, none⟩ _ rfl) fun _ _ h => h
set_option maxHeartbeats 400000 in
theorem rcan_no (w : World) (rb : Nat) (s : ByteArray) (H : Hid (Calls Try.prog 30 #[.pointer (some ⟨rb, 0, none⟩), .string s] w fun e w' => e = .returned (.int .i64 (-1)) ∧ w' = w)) :
    Calls Try.prog 23 #[.pointer (some ⟨rb, 0, none⟩), .string s] w fun e w' => e = .returned (.int .i64 3) ∧ w' = w := by
  go_enter Try.func23, Try.ntmps23
  go_wp2_with (go_at_call 30; refine H.out.mono ?_; rintro e w1 ⟨rfl, rfl⟩)
  go_ret
  exact ⟨rfl, rfl⟩
set_option maxHeartbeats 400000 in
theorem rcan_yes (w : World) (rb i : Nat) (s : ByteArray) (Q : World → Prop) (H : Hid (Calls Try.prog 30 #[.pointer (some ⟨rb, 0, none⟩), .string s] w fun e w' => e = .returned (.int .i64 i) ∧ w' = w)) (HT : Hid (Calls Try.prog 31 #[.pointer (some ⟨rb, 0, none⟩), .int .i64 i] w fun e w' => e = .returned (.tuple #[]) ∧ Q w')) :
    Calls Try.prog 23 #[.pointer (some ⟨rb, 0, none⟩), .string s] w fun e w' => e = .returned (.int .i64 0) ∧ Q w' := by
  have hi0 : 0 ≤ (i : Int) := by omega
  go_enter Try.func23, Try.ntmps23
  go_wp2_with (first | (go_at_call 30; refine H.out.mono ?_; rintro e w1 ⟨rfl, rfl⟩) | (go_at_call 31; refine HT.out.mono ?_; rintro e w2 ⟨rfl, hq⟩))
  go_ret
  exact ⟨rfl, hq⟩
/-- the reference's blocks -/
def Fr (rb : Nat) (v : Value) (k : Nat) : Prop := k = rb ∨ v.ownBlock = some k
/-- what a call of the reference leaves -/
structure Rg2 (w w' : World) (rb : Nat) (v v' : Value) (l : List Al) : Prop where
  r : Rf w' rb v' l
  kp : Kp (Fr rb v) w w'
  fp : ∀ k, Fr rb v' k → Fr rb v k ∨ w.heap.size ≤ k
section
variable {w w' : World} {rb : Nat} {v : Value} {l : List Al}
theorem Rf.stay (h : Rf w rb v l) : Rg2 w w rb v v l := ⟨h, Kp.refl _ _, fun _ q => .inl q⟩
theorem erase_drp {l : List Al} (hn : Nod l) {i : Nat} {a : Al} (hi : l[i]? = some a) : l.eraseIdx i = drp a.k l := by
  induction l generalizing i with
  | nil => simp at hi
  | cons c r ih =>
    have h1 := List.pairwise_cons.1 hn
    cases i with
    | zero =>
      simp at hi
      subst hi
      rw [List.eraseIdx_cons_zero, drp_hit _ rfl]
      exact (drp_none fun d hd e => h1.1 d hd e.symm).symm
    | succ i =>
      have hi' : r[i]? = some a := by simpa using hi
      rw [List.eraseIdx_cons_succ, ih h1.2 hi', drp_miss _ (h1.1 a (List.mem_of_getElem? hi'))]
theorem rtake_R (h : Rf w rb v l) {i : Nat} (hi : i < l.length) (hl : l.length ≤ 1024) : Calls Try.prog 31 #[.pointer (some ⟨rb, 0, none⟩), .int .i64 i] w fun e w' => e = .returned (.tuple #[]) ∧ ∃ v', Rg2 w w' rb v v' (l.eraseIdx i) := by
  obtain ⟨g, o, c, e, hL⟩ := h.r.row (by omega)
  refine (rtake_raw w rb g o l.length c i l rfl hl hi (by rw [← e]; exact h.b) hL).mono ?_
  rintro e' w' ⟨rfl, t⟩
  obtain ⟨v', h1, h2⟩ := t.ex
  have hlen : (l.eraseIdx i).length = l.length - 1 := List.length_eraseIdx_of_lt hi
  refine ⟨rfl, v', ⟨h1, RS.of_own h2 hlen⟩, t.kp.mono fun _ _ q => .inl q, fun k q => ?_⟩
  rcases q with q | q
  · exact .inl (.inl q)
  · exact .inr (World.ownsRow.lt h2 k q).1
theorem rcan_R (h : Rf w rb v l) (hn : Nod l) (s : ByteArray) (hl : l.length ≤ 1024) : Calls Try.prog 23 #[.pointer (some ⟨rb, 0, none⟩), .string s] w fun e w' => e = .returned (.int .i64 (canC s.data.toList l)) ∧ ∃ v', Rg2 w w' rb v v' (drp s.data.toList l) := by
  have hf := rfind_any h s hl
  unfold canC
  rw [plc_fnd]
  cases hp : plc s.data.toList l with
  | none =>
    rw [hp] at hf
    refine (rcan_no w rb s hf).mono ?_
    rintro e w' ⟨rfl, rfl⟩
    rw [drp_none (plc_none hp)]
    exact ⟨rfl, v, h.stay⟩
  | some i =>
    rw [hp] at hf
    obtain ⟨a, h1, h2⟩ := plc_some hp
    have hi := (List.getElem?_eq_some_iff.1 h1).1
    refine rcan_yes w rb i s _ hf ?_
    have := rtake_R h hi hl
    rw [erase_drp hn h1, h2] at this
    exact this
end
end Go.Proofs.Ytnjnfbfjmeofaaa
