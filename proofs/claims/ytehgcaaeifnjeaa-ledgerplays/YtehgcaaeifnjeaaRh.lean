/-
  The document's ledger: sum.
-/
import Derived.Test.YtehgcaaeifnjeaaRg
namespace Go.Proofs.Ytehgcaaeifnjeaa
open Go.RowKit Go.Maps Go.WideMaps

/-- one of a vector's four -/
def V.i (v : V) (i : Nat) : Int := match i with
  | 0 => v.a
  | 1 => v.b
  | 2 => v.c
  | _ => v.d
theorem V.i_add (v u : V) (i : Nat) : (v.add u).i i = v.i i + u.i i := by
  unfold V.i V.add
  split <;> rfl
theorem V.i_nil (i : Nat) : V.nil.i i = 0 := by
  unfold V.i V.nil
  split <;> rfl
theorem V.i_ok {v : V} (h : v.ok = true) (i : Nat) : 0 ≤ v.i i ∧ v.i i ≤ 1099511627776 := by
  have := V.ok_iff.1 h
  unfold V.i
  split <;> omega
/-- the amounts of one name, one of the four -/
def pt (l : List E) (nm : List UInt8) (i : Nat) : Int := (tot l nm).i i
theorem pt_cons (e : E) (l : List E) (nm : List UInt8) (i : Nat) : pt (e :: l) nm i = (if e.n = nm then e.am.i i else 0) + pt l nm i := by
  unfold pt
  rw [tot_cons]
  split
  · rw [V.i_add]
  · omega
theorem pt_nil (nm : List UInt8) (i : Nat) : pt [] nm i = 0 := V.i_nil i
theorem pt_append (l k : List E) (nm : List UInt8) (i : Nat) : pt (l ++ k) nm i = pt l nm i + pt k nm i := by
  unfold pt
  rw [tot_append, V.i_add]
theorem pt_pos {l : List E} (h : ∀ e ∈ l, e.am.ok = true) (nm : List UInt8) (i : Nat) : 0 ≤ pt l nm i := by
  induction l with
  | nil => rw [pt_nil]; omega
  | cons e r ih =>
    rw [pt_cons]
    have h1 := V.i_ok (h e (List.mem_cons_self ..)) i
    have h2 := ih fun x hx => h x (List.mem_cons_of_mem _ hx)
    split <;> omega
theorem pt_take {l : List E} {k : Nat} {v : E} (h : l[k]? = some v) (nm : List UInt8) (i : Nat) : pt (l.take (k + 1)) nm i = pt (l.take k) nm i + (if v.n = nm then v.am.i i else 0) := by
  rw [List.take_add_one, h, pt_append]
  simp only [Option.toList_some]
  rw [pt_cons, pt_nil, Int.add_zero]
/-- what sum answers: all of it, or more than any limit -/
def Smd (l : List E) (nm : List UInt8) (i : Nat) (z : Int) : Prop := 0 ≤ z ∧ z ≤ 3298534883328 ∧ z ≤ pt l nm i ∧ (z = pt l nm i ∨ 2199023255552 < z)
theorem Smd.gt {l : List E} {nm : List UInt8} {i : Nat} {z x : Int} (h : Smd l nm i z) (hx : x ≤ 1099511627776) : x < z ↔ x < pt l nm i := by
  obtain ⟨-, -, h3, h4⟩ := h
  omega
set_option maxHeartbeats 2000000 in
set_option maxRecDepth 100000 in
theorem rsum_raw (s : Option Addr) (l : List E) (n c : Nat) (nm : List UInt8) (i : Nat) (w : World) (hi : i < 4) (hl : Hid (l.length = n)) (hn : n < 1152921504606846976) (hr : Hid (ERow w s l)) (hok : Hid (∀ e ∈ l, e.am.ok = true)) :
    Calls Try.prog 41 #[.slice s n c, .string ⟨⟨nm⟩⟩, .int .i64 i] w fun e w' => (∃ z, e = .returned (.int .i64 z) ∧ Hid (Smd l nm i z)) ∧ w' = w := by
  have hi4 : (i : Int) < 4 := by omega
  go_enter Try.func41, Try.ntmps41
  go_wp2_with fail
  go_loopw [7, 8] (fun x y wr => ∃ (z : Int) (k : Nat), x = .int .i64 z ∧ y = .int .i64 k ∧ k ≤ n ∧ 0 ≤ z ∧ z ≤ 3298534883328 ∧ Hid (z = pt (l.take k) nm i) ∧ wr = w) (fun _ y _ => n - (intOf y).toNat)
  case atStart => exact ⟨0, 0, rfl, rfl, Nat.zero_le _, Int.le_refl _, by decide, (pt_nil _ _).symm, rfl⟩
  case round =>
    obtain ⟨z, k, rfl, rfl, hk, hz0, hz1, HZ, rfl⟩ := hrel
    by_cases h0 : k = n
    · subst h0
      have HS : Hid (Smd l nm i z) := by
        refine ⟨hz0, hz1, ?_, .inl ?_⟩
        · have := HZ.out
          rw [List.take_of_length_le (by have := hl.out; omega)] at this
          omega
        · have := HZ.out
          rwa [List.take_of_length_le (by have := hl.out; omega)] at this
      clear HZ
      go_wp2_with fail
      go_ret
      exact ⟨⟨_, rfl, HS⟩, rfl⟩
    · have hlt : k < l.length := by have := hl.out; omega
      have hlt' : (k : Int) < (n : Int) := by omega
      by_cases hbig : z ≤ 2199023255552
      · obtain ⟨v, hv⟩ : ∃ v, l[k]? = some v := ⟨l[k], List.getElem?_eq_getElem hlt⟩
        obtain ⟨q, o, rfl, c0, c1, c2, c3, c4⟩ := hr.out k _ hv
        have d0 : wr.cell? ⟨q, o + k * 5, none⟩ = some (.string ⟨⟨v.n⟩⟩) := c0
        have ci : wr.cell? ⟨q, o + k * 5 + 1 + i, none⟩ = some (.int .i64 (v.am.i i)) := by
          rcases (by omega : i = 0 ∨ i = 1 ∨ i = 2 ∨ i = 3) with rfl | rfl | rfl | rfl
          · exact c1
          · exact c2
          · exact c3
          · exact c4
        have hp := pt_take hv nm i
        have ho := V.i_ok (hok.out v (List.mem_of_getElem? hv)) i
        have HP : Hid (pt (l.take (k + 1)) nm i = pt (l.take k) nm i + (if v.n = nm then v.am.i i else 0)) := hp
        clear c0 c1 c2 c3 c4 hp hv
        by_cases hs : v.n = nm
        · have hb : (v.n == nm) = true := by simp [hs]
          have HQ : Hid (z + v.am.i i = pt (l.take (k + 1)) nm i) := by
            have := HP.out
            rw [if_pos hs, ← HZ.out] at this
            exact this.symm
          have hw9 : IntKind.i64.wrap (z + v.am.i i) = z + v.am.i i := by rw [IntKind.wrap_i64]; omega
          clear HP HZ hs
          go_wp2_with fail
          exact ⟨⟨_, k + 1, rfl, by simp, by omega, by omega, by omega, HQ, by first | rfl | trivial⟩, by simp only [intOf]; omega⟩
        · have hb : (v.n == nm) = false := by simp [hs]
          have HQ : Hid (z = pt (l.take (k + 1)) nm i) := by
            have := HP.out
            rw [if_neg hs, ← HZ.out, Int.add_zero] at this
            exact this.symm
          clear HP HZ hs
          go_wp2_with fail
          exact ⟨⟨z, k + 1, rfl, by simp, by omega, by omega, by omega, HQ, by first | rfl | trivial⟩, by simp only [intOf]; omega⟩
      · have HS : Hid (Smd l nm i z) := by
          refine ⟨hz0, hz1, ?_, .inr (by omega)⟩
          have := pt_append (l.take k) (l.drop k) nm i
          rw [List.take_append_drop, ← HZ.out] at this
          have := pt_pos (l := l.drop k) (fun e he => hok.out e (List.mem_of_mem_drop he)) nm i
          omega
        clear HZ
        go_wp2_with fail
        go_ret
        exact ⟨⟨_, rfl, HS⟩, rfl⟩
end Go.Proofs.Ytehgcaaeifnjeaa
