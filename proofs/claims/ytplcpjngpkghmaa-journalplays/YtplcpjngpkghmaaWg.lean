/-
  bytes.Clone, Read; the calls on no disk.
-/
import Derived.Test.YtplcpjngpkghmaaWf
import Derived.Laws.Cover3
namespace Go.Proofs.Ytplcpjngpkghmaa
open Go.RowKit Go.Maps Go.WideMaps

theorem q30 (w : World) (a : Option Addr) (n c : Nat) : (binOp .eql 31 (.slice a n c) (.slice none 0 0)).run Try.prog w = .ok (.bool a.isNone) w := by
  simp only [binOp]
  simp [Go.run_equal_slice_nil w 31 5 a n c Try.underlying31]
set_option maxHeartbeats 400000 in
theorem bclone_none (w : World) (n c : Nat) : Calls Try.prog 45 #[.slice none n c] w fun e w' => e = .returned (.slice none 0 0) ∧ w' = w := by
  have q30 := q30
  go_enter Try.func45, Try.ntmps45
  go_wp2_with fail
  go_ret
  exact ⟨rfl, rfl⟩
set_option maxHeartbeats 400000 in
theorem bclone_some (w : World) (ad : Addr) (n c : Nat) (m : List UInt8) (hm : Hid (m.length = n)) (hL : Hid (Lies w (some ad) m)) (hn : Hid (n ≤ 140737488355328)) :
    Calls Try.prog 45 #[.slice (some ad) n c] w fun e w' => ∃ v, e = .returned v ∧ Own w' w.heap.size v m ∧ Below w.heap.size w w' := by
  have q30 := q30
  have OW : Hid (Own (w.alloc (.cells #[] 5)) w.heap.size (.slice (some ⟨w.heap.size, 0, none⟩) 0 0) []) := World.ownsRow_made w #[] 0 (Nat.le_refl _) (Nat.zero_le _) rfl
  have y1 : Hid (Below w.heap.size w (w.alloc (.cells #[] 5))) := (Below.refl _ w).alloc (Nat.le_refl _) _
  have HL : Hid (Lies (w.alloc (.cells #[] 5)) (some ad) m) := hL.out.keep y1.out (Nat.le_refl _)
  go_enter Try.func45, Try.ntmps45
  go_wp2_with (at_builtin; refine append_bytes rfl _ _ rfl w.heap.size _ _ m rfl OW.out _ c n rfl hm.out nofun HL.out ?_ ?_ ?_)
  · have := hm.out; have := hn.out; simp only [List.length_nil]; omega
  · simp
  intro v' w' ho hb
  go_wp2_with fail
  go_ret
  exact ⟨_, rfl, ho, y1.out.trans hb⟩
theorem bclone_any (w : World) (q : Option Addr) (n c : Nat) (m : List UInt8) (hm : m.length = n) (hL : Lies w q m) (hn : n ≤ 140737488355328) :
    Calls Try.prog 45 #[.slice q n c] w fun e w' => ∃ v, e = .returned v ∧ Own w' w.heap.size v m ∧ Below w.heap.size w w' := by
  cases q with
  | none =>
    have : m = [] := by
      rcases hL with h | ⟨g, o, e, _⟩
      · exact h
      · cases e
    subst this
    refine (bclone_none w n c).mono ?_
    rintro e w' ⟨rfl, rfl⟩
    exact ⟨_, rfl, Own.nil _ _, Below.refl _ _⟩
  | some ad => exact bclone_some w ad n c m hm hL hn

def readD (D : DK) (n : List UInt8) : Int × List UInt8 := if D.down then (11, []) else match fnd Fil.nm n D.fs with
  | none => (3, [])
  | some f => (0, f.b)

set_option maxHeartbeats 400000 in
theorem read_no (w : World) (p : Value) (s : ByteArray) (c : Int) (hc : (c != 0) = true) (H : Hid (Calls Try.prog 53 #[p, .string s] w fun e w' => e = .returned (.tuple #[.pointer none, .int .i64 c]) ∧ w' = w)) :
    Calls Try.prog 30 #[p, .string s] w fun e w' => e = .returned (.tuple #[.slice none 0 0, .int .i64 c]) ∧ w' = w := by
  go_enter Try.func30, Try.ntmps30
  go_wp2_with (go_at_call 53; refine H.out.mono ?_)
  rintro e w1 ⟨rfl, rfl⟩
  go_wp2_with fail
  go_ret2
  exact ⟨rfl, rfl⟩
set_option maxHeartbeats 400000 in
theorem read_yes (w : World) (p : Value) (s : ByteArray) (fb : Nat) (a : Option Addr) (n c : Nat) (sy : Value) (m : List UInt8) (hc : Hid (w.heap[fb]? = some (.cells #[.slice a n c, sy] 84 (0, 0)))) (hm : Hid (m.length = n)) (hL : Hid (Lies w a m)) (hn : Hid (n ≤ 140737488355328)) (H : Hid (Calls Try.prog 53 #[p, .string s] w fun e w' => e = .returned (.tuple #[.pointer (some ⟨fb, 0, none⟩), .int .i64 0]) ∧ w' = w)) :
    Calls Try.prog 30 #[p, .string s] w fun e w' => ∃ v, e = .returned (.tuple #[v, .int .i64 0]) ∧ Own w' w.heap.size v m ∧ Below w.heap.size w w' := by
  have H44 : Hid (Calls Try.prog 45 #[.slice a n c] w fun e w' => ∃ v, e = .returned v ∧ Own w' w.heap.size v m ∧ Below w.heap.size w w') := bclone_any w a n c m hm.out hL.out hn.out
  obtain ⟨e0, e1⟩ := c2 hc.out
  go_enter Try.func30, Try.ntmps30
  go_wp2_with (go_at_call 53; refine H.out.mono ?_)
  rintro e w1 ⟨rfl, rfl⟩
  go_wp2_with (go_at_call 45; refine H44.out.mono ?_)
  rintro e w2 ⟨v, rfl, ho, hb⟩
  go_wp2_with fail
  go_ret2
  exact ⟨v, rfl, ho, hb⟩
theorem read_any {w : World} {tg : Nat → Tg} {pb : Nat} {D : DK} (h : Dsk w tg pb D) (s : ByteArray) (hs : s.size ≤ maxLen) :
    Calls Try.prog 30 #[.pointer (some ⟨pb, 0, none⟩), .string s] w fun e w' => ∃ v, e = .returned (.tuple #[v, .int .i64 (readD D s.data.toList).1]) ∧ Own w' w.heap.size v (readD D s.data.toList).2 ∧ Below w.heap.size w w' := by
  obtain ⟨mb, l, z, h⟩ := h
  have hfd := find_any h s hs
  have hfs := h.fs
  unfold readD
  cases hd : D.down with
  | true =>
    simp only [if_true]
    unfold findP findC at hfd
    simp only [hd, if_true] at hfd
    refine (read_no w _ s 11 rfl hfd).mono ?_
    rintro e w' ⟨rfl, rfl⟩
    exact ⟨_, rfl, Own.nil _ _, Below.refl _ _⟩
  | false =>
    simp only [Bool.false_eq_true, if_false]
    unfold findP findC at hfd
    simp only [hd, Bool.false_eq_true, if_false] at hfd
    rw [hfs, ← map_fnd Fl.s_nm]
    cases hf : fnd Fl.nm s.data.toList l with
    | none =>
      rw [hf] at hfd
      refine (read_no w _ s 3 rfl hfd).mono ?_
      rintro e w' ⟨rfl, rfl⟩
      exact ⟨_, rfl, Own.nil _ _, Below.refl _ _⟩
    | some f =>
      rw [hf] at hfd
      have hF := h.fl f (fnd_some hf).1
      obtain ⟨a, c, hv, hL, -⟩ := hF.own.shape
      have hc := hF.cell
      rw [hv] at hc
      exact read_yes w _ s f.fb a _ c _ f.b hc rfl hL (by have := hF.hl; unfold Hid; omega) hfd
theorem read_nil (w : World) (s : ByteArray) : Calls Try.prog 30 #[.pointer none, .string s] w fun e w' => e = .returned (.tuple #[.slice none 0 0, .int .i64 11]) ∧ w' = w := read_no w _ s 11 rfl (find_nil w s)

set_option maxHeartbeats 400000 in
theorem sync_nil (w : World) (s : ByteArray) : Calls Try.prog 29 #[.pointer none, .string s] w fun e w' => e = .returned (.int .i64 11) ∧ w' = w := by
  have H : Hid (Calls Try.prog 53 #[.pointer none, .string s] w fun e w' => e = .returned (.tuple #[.pointer none, .int .i64 11]) ∧ w' = w) := find_nil w s
  go_enter Try.func29, Try.ntmps29
  go_wp2_with (go_at_call 53; refine H.out.mono ?_)
  rintro e w1 ⟨rfl, rfl⟩
  go_wp2_with fail
  go_ret
  exact ⟨rfl, rfl⟩
set_option maxHeartbeats 400000 in
theorem rename_nil (w : World) (s t : ByteArray) : Calls Try.prog 61 #[.pointer none, .string s, .string t] w fun e w' => e = .returned (.int .i64 11) ∧ w' = w := by
  have H : Hid (Calls Try.prog 53 #[.pointer none, .string s] w fun e w' => e = .returned (.tuple #[.pointer none, .int .i64 11]) ∧ w' = w) := find_nil w s
  go_enter Try.func61, Try.ntmps61
  go_wp2_with (go_at_call 53; refine H.out.mono ?_)
  rintro e w1 ⟨rfl, rfl⟩
  go_wp2_with fail
  go_ret
  exact ⟨rfl, rfl⟩
set_option maxHeartbeats 400000 in
theorem remove_nil (w : World) (s : ByteArray) : Calls Try.prog 31 #[.pointer none, .string s] w fun e w' => e = .returned (.int .i64 11) ∧ w' = w := by
  have H : Hid (Calls Try.prog 53 #[.pointer none, .string s] w fun e w' => e = .returned (.tuple #[.pointer none, .int .i64 11]) ∧ w' = w) := find_nil w s
  go_enter Try.func31, Try.ntmps31
  go_wp2_with (go_at_call 53; refine H.out.mono ?_)
  rintro e w1 ⟨rfl, rfl⟩
  go_wp2_with fail
  go_ret
  exact ⟨rfl, rfl⟩
set_option maxHeartbeats 400000 in
theorem truncate_nil (w : World) (s : ByteArray) (n : Int) : Calls Try.prog 72 #[.pointer none, .string s, .int .i64 n] w fun e w' => e = .returned (.int .i64 11) ∧ w' = w := by
  have H : Hid (Calls Try.prog 53 #[.pointer none, .string s] w fun e w' => e = .returned (.tuple #[.pointer none, .int .i64 11]) ∧ w' = w) := find_nil w s
  go_enter Try.func72, Try.ntmps72
  go_wp2_with (go_at_call 53; refine H.out.mono ?_)
  rintro e w1 ⟨rfl, rfl⟩
  go_wp2_with fail
  go_ret
  exact ⟨rfl, rfl⟩
set_option maxHeartbeats 400000 in
theorem restart_nil (w : World) (v : Value) : Calls Try.prog 15 #[.pointer none, v] w fun e w' => e = .returned (.tuple #[]) ∧ w' = w := by
  go_enter Try.func15, Try.ntmps15
  go_wp2_with fail
  exact bodyPost_ret (results_none rfl _ _ _) rfl ⟨rfl, rfl⟩
end Go.Proofs.Ytplcpjngpkghmaa
