/-
  The disk's functions goesOn, SetFuse, New; which names are files'.
-/
import Derived.Test.YtplcpjngpkghmaaWa
namespace Go.Proofs.Ytplcpjngpkghmaa
open Go.RowKit Go.Maps

theorem okB_eq (x : UInt8) : okB x = (decide (97 ≤ x.toNat) && decide (x.toNat ≤ 122) || decide (48 ≤ x.toNat) && decide (x.toNat ≤ 57) || decide (x.toNat = 46)) := by
  unfold okB
  congr 1
  have : (x == 46) = decide (x = 46) := rfl
  rw [this, decide_eq_decide, ← UInt8.toNat_inj]
  rfl
theorem all_take {l : List UInt8} {k : Nat} {x : UInt8} (h : l[k]? = some x) (hq : (l.take k).all okB = true) (hx : okB x = true) : (l.take (k + 1)).all okB = true := by
  rw [take_snoc h, List.all_append, hq]; simp [hx]
theorem all_no {l : List UInt8} {k : Nat} {x : UInt8} (h : l[k]? = some x) (hx : okB x = false) : l.all okB = false := by
  rw [List.all_eq_false]
  exact ⟨x, List.mem_of_getElem? h, by simp [hx]⟩

def okS (s : ByteArray) : Bool := s.data.toList.all okB
theorem new0 {w : World} {o : Obj} : (w.alloc o).heap[w.heap.size]? = some o := heap_alloc_new w o
set_option maxHeartbeats 1000000 in
theorem formed_in (s : ByteArray) (w : World) (h1 : 1 ≤ (s.size : Int)) (h2 : (s.size : Int) ≤ 32) :
    Calls Try.prog 49 #[.string s] w fun e w' => e = .returned (.bool (okS s)) ∧ w' = w := by
  go_enter Try.func49, Try.ntmps49
  go_wp2_with fail
  go_loopw [15] (fun i wr => ∃ k : Nat, k ≤ s.size ∧ i = .int .i64 k ∧ (s.data.toList.take k).all okB = true ∧ wr = w) (fun i _ => s.size - (intOf i).toNat)
  case atStart => exact ⟨0, Nat.zero_le _, rfl, rfl, rfl⟩
  case round =>
    obtain ⟨k, hk, rfl, hq, rfl⟩ := hrel
    have HQ : Hid _ := hq
    clear hq
    by_cases hlt : k < s.size
    · have hx : s.data.toList[k]? = some s[k] := by
        rw [Array.getElem?_toList]
        exact Array.getElem?_eq_getElem _
      have HX : Hid _ := hx
      clear hx
      have HO := okB_eq s[k]
      rcases (by omega : (97 ≤ s[k].toNat ∧ s[k].toNat ≤ 122) ∨ (48 ≤ s[k].toNat ∧ s[k].toNat ≤ 57) ∨ (s[k].toNat = 46) ∨ (s[k].toNat < 48 ∧ s[k].toNat ≠ 46) ∨ (57 < s[k].toNat ∧ s[k].toNat < 97) ∨ (122 < s[k].toNat)) with g | g | g | g | g | g
      · have e0 : 97 ≤ (s[k].toNat : Int) := by omega
        have e1 : (s[k].toNat : Int) ≤ 122 := by omega
        have HN : Hid _ := all_take HX.out HQ.out (by rw [HO]; simp; omega)
        clear g HO
        go_wp2_with fail
        refine ⟨⟨k + 1, by omega, by go_num, HN.out, trivial⟩, ?_⟩
        simp [intOf]; omega
      · have e0 : ¬ 97 ≤ (s[k].toNat : Int) := by omega
        have e1 : 48 ≤ (s[k].toNat : Int) := by omega
        have e2 : (s[k].toNat : Int) ≤ 57 := by omega
        have HN : Hid _ := all_take HX.out HQ.out (by rw [HO]; simp; omega)
        clear g HO
        go_wp2_with fail
        refine ⟨⟨k + 1, by omega, by go_num, HN.out, trivial⟩, ?_⟩
        simp [intOf]; omega
      · have e0 : ¬ 97 ≤ (s[k].toNat : Int) := by omega
        have e1 : ¬ 48 ≤ (s[k].toNat : Int) := by omega
        have e2 : ((s[k].toNat : Int) == 46) = true := by simp; omega
        have HN : Hid _ := all_take HX.out HQ.out (by rw [HO]; simp; omega)
        clear g HO
        go_wp2_with fail
        refine ⟨⟨k + 1, by omega, by go_num, HN.out, trivial⟩, ?_⟩
        simp [intOf]; omega
      · have e0 : ¬ 97 ≤ (s[k].toNat : Int) := by omega
        have e1 : ¬ 48 ≤ (s[k].toNat : Int) := by omega
        have e2 : ((s[k].toNat : Int) == 46) = false := by simp; omega
        have HF : Hid (okS s = false) := all_no HX.out (by rw [HO]; simp; omega)
        clear g HO
        go_wp2_with fail
        go_ret
        exact ⟨ret_b HF.out.symm, rfl⟩
      · have e0 : ¬ 97 ≤ (s[k].toNat : Int) := by omega
        have e1 : 48 ≤ (s[k].toNat : Int) := by omega
        have e2 : ¬ (s[k].toNat : Int) ≤ 57 := by omega
        have e3 : ((s[k].toNat : Int) == 46) = false := by simp; omega
        have HF : Hid (okS s = false) := all_no HX.out (by rw [HO]; simp; omega)
        clear g HO
        go_wp2_with fail
        go_ret
        exact ⟨ret_b HF.out.symm, rfl⟩
      · have e0 : 97 ≤ (s[k].toNat : Int) := by omega
        have e1 : ¬ (s[k].toNat : Int) ≤ 122 := by omega
        have e2 : 48 ≤ (s[k].toNat : Int) := by omega
        have e3 : ¬ (s[k].toNat : Int) ≤ 57 := by omega
        have e4 : ((s[k].toNat : Int) == 46) = false := by simp; omega
        have HF : Hid (okS s = false) := all_no HX.out (by rw [HO]; simp; omega)
        clear g HO
        go_wp2_with fail
        go_ret
        exact ⟨ret_b HF.out.symm, rfl⟩
    · have HT : Hid (okS s = true) := by
        have := HQ.out
        rwa [List.take_of_length_le (by rw [← Lib.size_eq]; omega)] at this
      go_wp2_with fail
      go_ret
      exact ⟨ret_b HT.out.symm, rfl⟩
set_option maxHeartbeats 400000 in
theorem formed_0 (s : ByteArray) (w : World) (h : (s.size : Int) < 1) : Calls Try.prog 49 #[.string s] w fun e w' => e = .returned (.bool false) ∧ w' = w := by
  go_enter Try.func49, Try.ntmps49
  go_wp2_with fail
  go_ret
  exact ⟨rfl, rfl⟩
set_option maxHeartbeats 400000 in
theorem formed_33 (s : ByteArray) (w : World) (h : 32 < (s.size : Int)) : Calls Try.prog 49 #[.string s] w fun e w' => e = .returned (.bool false) ∧ w' = w := by
  have h1 : ¬ (s.size : Int) < 1 := by omega
  go_enter Try.func49, Try.ntmps49
  go_wp2_with fail
  go_ret
  exact ⟨rfl, rfl⟩
theorem formed_any (s : ByteArray) (w : World) : Calls Try.prog 49 #[.string s] w fun e w' => e = .returned (.bool (okN s.data.toList)) ∧ w' = w := by
  have hl : s.data.toList.length = s.size := (Lib.size_eq s).symm
  by_cases h1 : s.size < 1
  · refine (formed_0 s w (by omega)).mono ?_
    rintro e w' ⟨rfl, rfl⟩
    exact ⟨ret_b (by unfold okN; rw [hl]; simp; omega), rfl⟩
  by_cases h2 : 32 < s.size
  · refine (formed_33 s w (by omega)).mono ?_
    rintro e w' ⟨rfl, rfl⟩
    exact ⟨ret_b (by unfold okN; rw [hl, decide_eq_false (by omega : ¬ s.size ≤ 32)]; simp), rfl⟩
  refine (formed_in s w (by omega) (by omega)).mono ?_
  rintro e w' ⟨rfl, rfl⟩
  exact ⟨ret_b (by unfold okN okS; rw [hl, decide_eq_true (by omega : 1 ≤ s.size), decide_eq_true (by omega : s.size ≤ 32)]; simp), rfl⟩

/-! ### the fuse -/
theorem DkAt.turn {w w' : World} {tg : Nat → Tg} {pb : Nat} {D D' : DK} {mb : Option Nat} {l : List Fl} {z z' : Int} (h : DkAt w tg pb D mb l z)
    (hc : w'.heap[pb]? = some (.cells #[.map mb, .bool D'.down, .bool D'.fuse.isSome, .int .i64 z'] 63 (0, 0))) (hk : Kp (· = pb) w w') (hf : D'.fs = D.fs) (hz : ∀ n, D'.fuse = some n → z' = n ∧ n < 9223372036854775808) : DkAt w' tg pb D' mb l z' := by
  have hb : ∀ k, tg k ≠ .no → tg k ≠ .dk → w'.heap[k]? = w.heap[k]? := fun k hk1 hk2 => hk.block k (h.lt k hk1) fun e => hk2 (by rw [e]; exact h.tp)
  refine ⟨hc, h.tp, hf.trans h.fs, hz, ?_, fun f hf => (h.fl f hf).keep (fun k hk => hb k ?_ ?_) (fun _ _ => rfl), h.srt, h.len, fun k hk' => Nat.lt_of_lt_of_le (h.lt k hk') hk.size⟩
  · have := h.mp
    unfold MpAt at *
    cases mb with
    | none => exact this
    | some m => exact ⟨this.1, keepMap this.2 (hb m (by rw [this.1]; exact nofun) (by rw [this.1]; exact nofun))⟩
  all_goals rcases hk with hk | hk <;> rw [hk] <;> exact nofun

theorem Step.of_kp {tg : Nat → Tg} {pb : Nat} {w w' : World} (hp : tg pb ≠ .no) (h : Kp (· = pb) w w') : Step tg tg w w' := ⟨h.mono fun k _ e => by rw [e]; exact hp, fun _ h => .inl h⟩

set_option maxHeartbeats 400000 in
theorem goes_none (w : World) (pb : Nat) (a b d : Value) (h : Hid (w.heap[pb]? = some (.cells #[a, b, .bool false, d] 63 (0, 0)))) : Calls Try.prog 51 #[.pointer (some ⟨pb, 0, none⟩)] w fun e w' => e = .returned (.bool true) ∧ w' = w := by
  obtain ⟨e0, e1, e2, e3⟩ := c4 h.out
  go_enter Try.func51, Try.ntmps51
  go_wp2_with fail
  go_ret
  exact ⟨rfl, rfl⟩
set_option maxHeartbeats 400000 in
theorem goes_zero (w : World) (pb : Nat) (a b : Value) (h : Hid (w.heap[pb]? = some (.cells #[a, b, .bool true, .int .i64 0] 63 (0, 0)))) : Calls Try.prog 51 #[.pointer (some ⟨pb, 0, none⟩)] w fun e w' => e = .returned (.bool false) ∧ w' = w.setCell ⟨pb, 1, none⟩ (.bool true) := by
  obtain ⟨e0, e1, e2, e3⟩ := c4 h.out
  have f1 := fz h.out 1
  go_enter Try.func51, Try.ntmps51
  go_wp2_with fail
  go_ret
  exact ⟨rfl, rfl⟩
set_option maxHeartbeats 400000 in
theorem goes_some (w : World) (pb : Nat) (a b : Value) (n : Nat) (hn : n + 1 < 9223372036854775808) (h : Hid (w.heap[pb]? = some (.cells #[a, b, .bool true, .int .i64 (n + 1 : Nat)] 63 (0, 0)))) : Calls Try.prog 51 #[.pointer (some ⟨pb, 0, none⟩)] w fun e w' => e = .returned (.bool true) ∧ w' = w.setCell ⟨pb, 3, none⟩ (.int .i64 n) := by
  obtain ⟨e0, e1, e2, e3⟩ := c4 h.out
  have f3 := fz h.out 3
  have hz : (((n + 1 : Nat) : Int) == 0) = false := by simp; omega
  go_enter Try.func51, Try.ntmps51
  go_wp2_with fail
  go_ret
  exact ⟨rfl, by congr 2⟩

theorem goes_any {w : World} {tg : Nat → Tg} {pb : Nat} {D : DK} {mb : Option Nat} {l : List Fl} {z : Int} (h : DkAt w tg pb D mb l z) :
    Calls Try.prog 51 #[.pointer (some ⟨pb, 0, none⟩)] w fun e w' => e = .returned (.bool (burn D).1) ∧ (∃ z', DkAt w' tg pb (burn D).2 mb l z') ∧ Step tg tg w w' := by
  obtain ⟨fs, dn, fu⟩ := D
  have hc := h.cell
  cases fu with
  | none =>
    refine (goes_none w pb _ _ _ hc).mono ?_
    rintro e w' ⟨rfl, rfl⟩
    exact ⟨rfl, ⟨z, h⟩, Step.refl _ _⟩
  | some n =>
    obtain ⟨rfl, hn⟩ := h.fz n rfl
    cases n with
    | zero =>
      refine (goes_zero w pb _ _ hc).mono ?_
      rintro e w' ⟨rfl, rfl⟩
      have hk : Kp (· = pb) w (w.setCell ⟨pb, 1, none⟩ (.bool true)) := Kp.of_set _ _ _ rfl
      refine ⟨rfl, ⟨_, h.turn (setB hc _) hk rfl h.fz⟩, Step.of_kp (by rw [h.tp]; exact nofun) hk⟩
    | succ n =>
      refine (goes_some w pb _ _ n hn hc).mono ?_
      rintro e w' ⟨rfl, rfl⟩
      have hk : Kp (· = pb) w (w.setCell ⟨pb, 3, none⟩ (.int .i64 n)) := Kp.of_set _ _ _ rfl
      refine ⟨rfl, ⟨_, h.turn (D' := ⟨fs, dn, some n⟩) (setB hc _) hk rfl (fun m e => by cases e; exact ⟨rfl, by omega⟩)⟩, Step.of_kp (by rw [h.tp]; exact nofun) hk⟩

set_option maxHeartbeats 400000 in
theorem setfuse_at (w : World) (pb : Nat) (a b c d : Value) (n : Int) (x : Bool) (hx : decide (0 ≤ n) = x) (h : Hid (w.heap[pb]? = some (.cells #[a, b, c, d] 63 (0, 0)))) : Calls Try.prog 14 #[.pointer (some ⟨pb, 0, none⟩), .int .i64 n] w fun e w' => e = .returned (.tuple #[]) ∧ w' = (w.setCell ⟨pb, 2, none⟩ (.bool x)).setCell ⟨pb, 3, none⟩ (.int .i64 n) := by
  obtain ⟨e0, e1, e2, e3⟩ := c4 h.out
  have f2 := fz h.out 2
  have f3 := fz h.out 3
  subst hx
  go_enter Try.func14, Try.ntmps14
  go_wp2_with fail
  go_end0
  exact ⟨rfl, rfl⟩
def setF (D : DK) (n : Int) : DK := { D with fuse := if 0 ≤ n then some n.toNat else none }
theorem setfuse_any {w : World} {tg : Nat → Tg} {pb : Nat} {D : DK} (n : Int) (hn : n < 9223372036854775808) (h : Dsk w tg pb D) :
    Calls Try.prog 14 #[.pointer (some ⟨pb, 0, none⟩), .int .i64 n] w fun e w' => e = .returned (.tuple #[]) ∧ Dsk w' tg pb (setF D n) ∧ Step tg tg w w' := by
  obtain ⟨mb, l, z, h⟩ := h
  have hc := h.cell
  refine (setfuse_at w pb _ _ _ _ n _ rfl hc).mono ?_
  rintro e w' ⟨rfl, rfl⟩
  have hk : Kp (· = pb) w ((w.setCell ⟨pb, 2, none⟩ (.bool (decide (0 ≤ n)))).setCell ⟨pb, 3, none⟩ (.int .i64 n)) := (Kp.of_set (S := (· = pb)) w ⟨pb, 2, none⟩ (.bool (decide (0 ≤ n))) rfl).trans (Kp.of_set (S := (· = pb)) _ ⟨pb, 3, none⟩ (.int .i64 n) rfl) fun _ _ h => h
  refine ⟨rfl, ⟨mb, l, n, h.turn ?_ hk rfl ?_⟩, Step.of_kp (by rw [h.tp]; exact nofun) hk⟩
  · have := setB (i := 3) (setB (i := 2) hc (.bool (decide (0 ≤ n)))) (.int .i64 n)
    have e : (setF D n).fuse.isSome = decide (0 ≤ n) := by
      unfold setF
      by_cases h : 0 ≤ n <;> simp [h]
    rw [e]
    exact this
  · intro m hm
    unfold setF at hm
    by_cases h0 : 0 ≤ n
    · simp only [if_pos h0, Option.some.injEq] at hm
      omega
    · simp [if_neg h0] at hm

set_option maxHeartbeats 400000 in
theorem new_at (w : World) : Calls Try.prog 11 #[] w fun e w' => e = .returned (.pointer (some ⟨w.heap.size, 0, none⟩)) ∧ w' = w.alloc (.cells #[.map none, .bool false, .bool false, .int .i64 0] 63) := by
  go_enter Try.func11, Try.ntmps11
  go_wp2_with fail
  go_ret
  exact ⟨rfl, rfl⟩
/-- the tags of a new disk at block p -/
def tgN (p : Nat) : Nat → Tg := fun k => if k = p then .dk else .no
theorem dsk_new (w : World) (V : World) (hV : V = w.alloc (.cells #[.map none, .bool false, .bool false, .int .i64 0] 63)) : Dsk V (tgN w.heap.size) w.heap.size DK.new := by
  subst hV
  refine ⟨none, [], 0, new0, by simp [tgN], rfl, nofun, rfl, nofun, List.Pairwise.nil, Nat.zero_le _, fun k hk => ?_⟩
  unfold tgN at hk
  split at hk
  · simp; omega
  · exact absurd rfl hk
theorem tgN_new {p k : Nat} (h : tgN p k ≠ .no) : k = p := by
  unfold tgN at h
  split at h
  · assumption
  · exact absurd rfl h
end Go.Proofs.Ytplcpjngpkghmaa
