/-
  The law 'DiskPlays'.
-/
import Derived.Test.YtnohidalomjfmaaAl
namespace Go.Proofs.Ytnohidalomjfmaa
open Go.RowKit Go.Maps

/-- one call of a script, as it lies -/
structure OpR where
  kd : Int
  n : Int
  s : List UInt8
  t : List UInt8
  q : Option Addr
  m : Nat
  c : Nat
  mb : List UInt8
def flatO : List OpR → List Value
  | [] => []
  | o :: l => .int .i64 o.kd :: .int .i64 o.n :: .string ⟨⟨o.s⟩⟩ :: .string ⟨⟨o.t⟩⟩ :: .slice o.q o.m o.c :: flatO l
theorem flatO_get (l : List OpR) : ∀ (i : Nat) (o : OpR), l[i]? = some o → (flatO l)[i * 5]? = some (.int .i64 o.kd) ∧ (flatO l)[i * 5 + 1]? = some (.int .i64 o.n) ∧ (flatO l)[i * 5 + 2]? = some (.string ⟨⟨o.s⟩⟩) ∧ (flatO l)[i * 5 + 3]? = some (.string ⟨⟨o.t⟩⟩) ∧ (flatO l)[i * 5 + 4]? = some (.slice o.q o.m o.c) := by
  induction l with
  | nil => intro i v h; simp at h
  | cons u l ih =>
    intro i v h
    match i, h with
    | 0, h =>
      obtain rfl : u = v := by simpa using h
      exact ⟨rfl, rfl, rfl, rfl, rfl⟩
    | i + 1, h =>
      have := ih i v (by simpa using h)
      simp only [flatO]
      rw [show (i + 1) * 5 = i * 5 + 5 by omega]
      simpa only [List.getElem?_cons_succ, show i * 5 + 5 + 1 = i * 5 + 1 + 5 by omega, show i * 5 + 5 + 2 = i * 5 + 2 + 5 by omega, show i * 5 + 5 + 3 = i * 5 + 3 + 5 by omega, show i * 5 + 5 + 4 = i * 5 + 4 + 5 by omega] using this
structure OpOk (w : World) (o : OpR) : Prop where
  hn : o.n < 9223372036854775808
  hs : o.s.length ≤ 281474976710656
  ht : o.t.length ≤ 281474976710656
  hm : o.mb.length = o.m
  hq : o.q = none → o.c = 0
  hL : Lies w o.q o.mb
theorem take_snocO {l : List OpR} {k : Nat} {x : OpR} (h : l[k]? = some x) : l.take (k + 1) = l.take k ++ [x] := by
  obtain ⟨hk, rfl⟩ := List.getElem?_eq_some_iff.1 h
  exact List.take_succ_eq_append_getElem hk
def Scr (w : World) (g off : Nat) (L : List OpR) : Prop := RowV w g off (flatO L) ∧ ∀ o ∈ L, OpOk w o
theorem scr_at {w : World} {g off : Nat} {L : List OpR} (h : RowV w g off (flatO L)) {k : Nat} {o : OpR} (ho : L[k]? = some o) :
    w.cell? ⟨g, off + k * 5, none⟩ = some (.int .i64 o.kd) ∧ w.cell? ⟨g, off + k * 5 + 1, none⟩ = some (.int .i64 o.n) ∧ w.cell? ⟨g, off + k * 5 + 2, none⟩ = some (.string ⟨⟨o.s⟩⟩) ∧ w.cell? ⟨g, off + k * 5 + 3, none⟩ = some (.string ⟨⟨o.t⟩⟩) ∧ w.cell? ⟨g, off + k * 5 + 4, none⟩ = some (.slice o.q o.m o.c) := by
  obtain ⟨f0, f1, f2, f3, f4⟩ := flatO_get L k o ho
  exact ⟨h _ _ f0, h _ _ f1, h _ _ f2, h _ _ f3, h _ _ f4⟩

def FewR (L : List OpR) (w : World) (e : Ending) (w' : World) : Prop := ∃ b, e = .returned (.bool b) ∧ w' = w ∧ (b = true → ∀ o ∈ L, o.m ≤ 200000)
set_option maxHeartbeats 1000000 in
theorem few_some (L : List OpR) (g off c n : Nat) (w : World) (hl : Hid (L.length = n)) (hn : n < 1152921504606846976) (hb : Hid (∀ o ∈ L, o.m < 1152921504606846976)) (hr : Hid (RowV w g off (flatO L))) :
    Calls Try.prog 10 #[.slice (some ⟨g, off, none⟩) n c] w fun e w' => FewR L w e w' := by
  go_enter Try.func10, Try.ntmps10
  go_wp2_with fail
  go_loopw [3, 4] (fun a i wr => ∃ (v k : Nat), k ≤ n ∧ a = .int .i64 v ∧ i = .int .i64 k ∧ v ≤ 400050 ∧ wr = w ∧ (v ≤ 200000 → ∀ o ∈ L.take k, o.m ≤ 200000)) (fun _ i _ => n - (intOf i).toNat)
  case atStart => exact ⟨0, 0, Nat.zero_le _, rfl, rfl, Nat.zero_le _, rfl, fun _ o ho => by simp at ho⟩
  case round =>
    obtain ⟨v, k, hk, rfl, rfl, hv, rfl, hq⟩ := hrel
    have HQ : Hid (v ≤ 200000 → ∀ o ∈ L.take k, o.m ≤ 200000) := hq
    clear hq
    by_cases hlt : k < n
    · have hi : (k : Int) < (n : Int) := by omega
      by_cases hv2 : v ≤ 200000
      · obtain ⟨o, ho⟩ : ∃ o, L[k]? = some o := ⟨L[k]'(by have := hl.out; omega), List.getElem?_eq_getElem _⟩
        obtain ⟨c0, c1, c2, c3, c4⟩ := scr_at hr.out ho
        have hv3 : (v : Int) ≤ 200000 := by omega
        have hom := hb.out o (List.mem_of_getElem? ho)
        have HO : Hid (L[k]? = some o) := ho
        clear ho c0 c1 c2 c3
        go_wp2_with fail
        refine ⟨⟨v + (50 + min o.m 200000), k + 1, by omega, by go_num, by go_num, by omega, trivial, fun h x hx => ?_⟩, ?_⟩
        · rw [take_snocO HO.out] at hx
          rcases List.mem_append.1 hx with hx | hx
          · exact HQ.out hv2 x hx
          · simp only [List.mem_singleton] at hx
            subst hx
            omega
        · simp [intOf]; omega
      · have hv3 : ¬ (v : Int) ≤ 200000 := by omega
        go_wp2_with fail
        go_ret
        exact ⟨false, rfl, rfl, fun h => by cases h⟩
    · have hi : ¬ (k : Int) < (n : Int) := by omega
      go_wp2_with fail
      go_ret
      refine ⟨decide ((v : Int) ≤ 200000), rfl, rfl, fun h o ho => HQ.out (by have := of_decide_eq_true h; omega) o ?_⟩
      rw [List.take_of_length_le (by have := hl.out; omega)]
      exact ho
set_option maxHeartbeats 400000 in
theorem few_zero (a : Option Addr) (c : Nat) (w : World) : Calls Try.prog 10 #[.slice a 0 c] w fun e w' => e = .returned (.bool true) ∧ w' = w := by
  go_enter Try.func10, Try.ntmps10
  go_wp2_with fail
  go_rounds 1
  go_ret
  exact ⟨rfl, rfl⟩
end Go.Proofs.Ytnohidalomjfmaa
