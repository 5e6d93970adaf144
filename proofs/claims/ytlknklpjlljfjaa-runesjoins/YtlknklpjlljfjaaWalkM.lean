/-
  The contracts of strings.ContainsAny at a blank and a quotation mark, of strings.Clone, and of a builder's WriteByte beside a row of bytes that '[]byte(s)' has laid.
-/
import Derived.Test.YtlknklpjlljfjaaWalkL
import Derived.Test.YtlknklpjlljfjaaQuo
import Derived.Deep.WholeRow
namespace Go.Proofs.Ytlknklpjlljfjaa
open Go.RowKit

theorem zero61 : ∀ w, (zeroValue 61).run Try.prog w = .ok (.agg (Array.replicate 256 (.bool false))) w :=
  (zero_of_info (P := Try.prog) (t := 61) (n := 256) (by kernel_rfl)).1

theorem idxany_all (s : ByteArray) (w : World) (hs : s.size < 4294967281) :
    Calls Try.prog 37 #[.string s, .string ⟨#[32, 34]⟩] w fun e w' => e = .returned (.int .i64 (Lib.indexAny s.data.toList two)) ∧ Below w.heap.size w w' := by
  by_cases h8 : s.size ≤ 8
  · exact idxany_short s w h8
  · refine (Try.strings_IndexAny_long zero61 s ⟨#[32, 34]⟩ w (by decide) (by omega) hs (by decide) ?_).mono ?_
    · intro j b hj
      match j, hj with
      | 0, hj => simp at hj; subst hj; decide
      | 1, hj => simp at hj; subst hj; decide
      | j + 2, hj => simp at hj
    · rintro e w' ⟨rfl, rfl⟩
      exact ⟨rfl, ((Below.refl _ w).alloc (Nat.le_refl _) _).alloc (by simp) _⟩

theorem indexAny_two (l : List UInt8) : decide (0 ≤ Lib.indexAny l two) = Txt.hasB l := by
  induction l with
  | nil => rfl
  | cons b l ih =>
    have hge := Lib.indexAny_ge two l
    by_cases hb : b.toNat = 32 ∨ b.toNat = 34
    · have hc : two.contains b = true := by
        simp only [two, List.contains_cons, List.contains_nil, Bool.or_false, Bool.or_eq_true, beq_iff_eq]
        rcases hb with h | h
        · exact .inl (Txt.byte_eq (n := 32) (by decide) h)
        · exact .inr (Txt.byte_eq (n := 34) (by decide) h)
      rw [Lib.indexAny, if_pos hc]
      simp [Txt.hasB, hb]
    · have hc : two.contains b = false := by
        simp only [two, List.contains_cons, List.contains_nil, Bool.or_false, Bool.or_eq_false_iff, beq_eq_false_iff_ne]
        refine ⟨?_, ?_⟩
        · rintro rfl; exact hb (.inl rfl)
        · rintro rfl; exact hb (.inr rfl)
      have e : Txt.hasB (b :: l) = Txt.hasB l := by simp [Txt.hasB, hb]
      rw [e, ← ih, Lib.indexAny, if_neg (by rw [hc]; exact Bool.false_ne_true)]
      by_cases h1 : (Lib.indexAny l two == -1) = true
      · rw [if_pos h1]
        simp at h1
        rw [h1]
      · rw [if_neg h1]
        simp at h1
        rw [decide_eq_decide]
        omega

set_option maxHeartbeats 1000000 in
theorem contains_is (s : ByteArray) (b : Bool) (w : World) (hs : s.size < 4294967281) (h : Txt.hasB s.data.toList = b) :
    Calls Try.prog 28 #[.string s, .string ⟨#[32, 34]⟩] w fun e w' => e = .returned (.bool b) ∧ Below w.heap.size w w' := by
  have HB : Hid (decide (0 ≤ Lib.indexAny s.data.toList two) = b) := by unfold Hid; rw [indexAny_two]; exact h
  clear h
  have hcall : ∀ w, Calls Try.prog 37 #[.string s, .string ⟨#[32, 34]⟩] w fun e w' => e = .returned (.int .i64 (Lib.indexAny s.data.toList two)) ∧ Below w.heap.size w w' := fun w => idxany_all s w hs
  generalize Lib.indexAny s.data.toList two = z at HB hcall
  have HC : Hid (∀ w, Calls Try.prog 37 #[.string s, .string ⟨#[32, 34]⟩] w fun e w' => e = .returned (.int .i64 z) ∧ Below w.heap.size w w') := hcall
  clear hcall
  go_enter Try.func28, Try.ntmps28
  go_wp2_with (go_at_call 37; refine (HC.out _).mono ?_)
  rintro e w1 ⟨rfl, hb⟩
  go_wp2
  go_ret
  exact ⟨ret_b HB.out, hb⟩

set_option maxHeartbeats 1000000 in
theorem clone_any (s : ByteArray) (w : World) (hs : s.size ≤ 281474976710656) :
    Calls Try.prog 29 #[.string s] w fun e w' => e = .returned (.string s) ∧ Below w.heap.size w w' := by
  go_enter Try.func29, Try.ntmps29
  go_wp2_with (go_at_call 38; refine (Try.stringslite_Clone s _ hs).mono ?_)
  rintro e w1 ⟨rfl, hb⟩
  go_wp2
  go_ret
  exact ⟨rfl, hb⟩

/-- what stands beside a builder that is written: every block that is not its own, and no owned row of bytes -/
def Marked (o : Obj) : Prop := ∀ c fz, o = .cells c 5 fz → c.size < fz.2

theorem copy_all (B b : Nat) (bs : List Value) (w : World) (h : Lib.IsBuilderF 40 5 B b bs w) :
    Calls Try.prog 35 #[.pointer (some ⟨b, 0, none⟩)] w fun e w' => e = .returned (.tuple #[]) ∧ (Lib.BuilderAtF 40 5 B b (.pointer (some ⟨b, 0, none⟩)) bs w' ∧ Below B w w' ∧ ∀ k, k ≠ b → w'.heap[k]? = w.heap[k]?) := by
  rcases h with h | h
  · refine (copy_fresh b w h.cell0 h.shape h.frozen0).mono ?_
    rintro e w' ⟨rfl, rfl⟩
    exact ⟨rfl, h.used _, (Below.refl B w).setCell (p := ⟨b, 0, none⟩) h.1 _, fun k hk => Below.heap_setCell _ _ _ _ hk⟩
  · refine (copy_used b w h.cell0).mono ?_
    rintro e w' ⟨rfl, rfl⟩
    exact ⟨rfl, h, Below.refl B _, fun _ _ => rfl⟩

set_option maxHeartbeats 2000000 in
set_option maxRecDepth 100000 in
theorem writeByte_m (B b : Nat) (bs : List Value) (c : Int) (w : World) (h : Lib.IsBuilderF 40 5 B b bs w) (hlen : bs.length + 1 ≤ 140737488355328) (hBw : B ≤ w.heap.size) :
    Calls Try.prog 30 #[.pointer (some ⟨b, 0, none⟩), .int .u8 c] w fun e w' => e = .returned .nilIface ∧ (Lib.IsBuilderF 40 5 B b (bs ++ [.int .u8 c]) w' ∧ Below B w w' ∧ ∀ k o, w.heap[k]? = some o → k ≠ b → Marked o → w'.heap[k]? = some o) := by
  obtain ⟨i0, hi, hz0, hz1, hz2⟩ := info_parts infoByte
  go_enter Try.func30, Try.ntmps30
  go_wp2_with (go_at_call 35; refine (copy_all B b bs _ h).mono ?_)
  rintro e w1 ⟨rfl, h1, hb1, hk1⟩
  obtain ⟨hB, v, hbk, hown, hne⟩ := h1
  have HK : Hid (∀ k, k ≠ b → w1.heap[k]? = w.heap[k]?) := hk1
  clear hk1
  have c0 : w1.cell? ⟨b, 0, none⟩ = some (.pointer (some ⟨b, 0, none⟩)) := by rw [Lib.cell_of_heap hbk]; rfl
  have c1 : w1.cell? ⟨b, 1, none⟩ = some v := by rw [Lib.cell_of_heap hbk]; rfl
  go_wp2_with (at_builtin; refine wpList_append_ownF _ rfl _ _ 38 rfl B 5 i0 (.int .u8 0) 1 1 Try.underlying38 hi hz0 hz1 hz2 rfl (by decide) _ _ _ rfl (hown.alloc _) ⟨w1.heap.size, 0, none⟩ 1 1 [.int .u8 c] rfl rfl ?c1 ?c2 ?c3 ?c4 ?c5 ?_)
  case c1 =>
    intro j u hj
    match j, hj with
    | 0, hj => simp at hj; subst hj; simp [Addr.add]
  case c2 => intro u hu; simp at hu; subst hu; rfl
  case c3 => unfold maxLen; omega
  case c4 => omega
  case c5 => have := hb1.size; simp; omega
  intro v' w2 hown' hgrow _
  have hlt : b < w1.heap.size := by
    rcases Nat.lt_or_ge b w1.heap.size with h' | h'
    · exact h'
    · simp [Array.getElem?_eq_none h'] at hbk
  have hb2 : w2.heap[b]? = some (.cells #[.pointer (some ⟨b, 0, none⟩), v] 40 (0, 0)) := by
    rw [hgrow.block b (by simp; omega) (fun e => hne e.symm), Lib.alloc_old w1 _ b hlt]
    exact hbk
  have hkeep : ∀ k o, w.heap[k]? = some o → k ≠ b → Marked o → w2.heap[k]? = some o := by
    intro k o hk hkb hm
    have hk1 : w1.heap[k]? = some o := by rw [HK.out k hkb]; exact hk
    have hkl : k < w1.heap.size := (Array.getElem?_eq_some_iff.1 hk1).1
    rw [hgrow.block k (by simp; omega) ?_, Lib.alloc_old w1 _ k hkl]
    · exact hk1
    · intro e
      rcases hown.2 with ⟨hv, _⟩ | ⟨g, cap, cur, fz, hv, _, hg, hfz, hnc, _, hcs, _⟩
      · rw [hv] at e; simp [Value.ownBlock] at e
      · rw [hv] at e
        simp [Value.ownBlock] at e
        subst e
        rw [hk1] at hg
        have := hm cur fz (Option.some.inj hg)
        omega
  have HKE : Hid (∀ k o, w.heap[k]? = some o → k ≠ b → Marked o → w2.heap[k]? = some o) := hkeep
  clear hkeep
  have d0 : w2.cell? ⟨b, 0, none⟩ = some (.pointer (some ⟨b, 0, none⟩)) := by rw [Lib.cell_of_heap hb2]; rfl
  have d1 : w2.cell? ⟨b, 1, none⟩ = some v := by rw [Lib.cell_of_heap hb2]; rfl
  have f1 : w2.frozen? ⟨b, 1, none⟩ = false := Lib.frozen_of_heap hb2 1
  obtain ⟨g, cap, rfl⟩ : ∃ g cap, v' = .slice (some ⟨g, 0, none⟩) (bs.length + 1) cap := by
    rcases hown'.2 with ⟨_, h0⟩ | ⟨g, cap, cur, fz, hv, _⟩
    · omega
    · exact ⟨g, cap, hv⟩
  go_wp2
  go_ret
  refine ⟨rfl, .inr ?_, ?_, ?_⟩
  · exact Lib.BuilderAtF.put (T := 40) (e := 5) hB hb2 (bs' := bs ++ [.int .u8 c]) (by simpa using hown') neB
  · exact ((hb1.alloc (by have := hb1.size; omega) _).grown hgrow (by have := hb1.size; simp; omega) (fun k hk => (hown.lt k hk).1)).setCell (p := ⟨b, 1, none⟩) hB _
  · intro k o hk hkb hm
    rw [Below.heap_setCell _ _ _ _ hkb]
    exact HKE.out k o hk hkb hm

end Go.Proofs.Ytlknklpjlljfjaa
