/-
  List of a queue; calls on nil; Push on an empty queue; awake.
-/
import Derived.Test.YthlbeofonbbbdaaQl
namespace Go.Proofs.Ythlbeofonbbbdaa
open Go.RowKit Go.Maps Go.WideMaps

theorem list_any {w : World} {S : Nat → Prop} {pb N : Nat} {D : List J} (h : Que w S pb D N) (t : List UInt8) :
    Calls Try.prog 14 #[.pointer (some ⟨pb, 0, none⟩), .string ⟨⟨t⟩⟩] w fun e w' => ∃ p c, e = .returned (.slice p (ofT t D).length c) ∧ Hid (WRow w.heap.size w' (.slice p (ofT t D).length c) (ofT t D) ∧ Below w.heap.size w w') := by
  obtain ⟨⟨ow, mw, mh, l, q, h1, h2, h3, h4⟩, h5⟩ := h
  refine (list_raw w pb l t (fun a ha => h1.W.blk a ha) h1.W.len (line_any h1.W t)).mono ?_
  rintro e w' ⟨p, c, L, he, hL⟩
  obtain ⟨k1, k2, k3, k4⟩ := hL.out
  have hp : (L.map Hd.j).Perm (ofT t D) := by
    have q1 := k1.map Hd.j
    have q2 : (l.filter fun a => a.j.tn == t).map Hd.j = (l.map Hd.j).filter fun a => a.tn == t := by rw [List.filter_map]; rfl
    rw [q2] at q1
    exact q1.trans (h2.filter _)
  have hs : SJ (L.map Hd.j) := by
    have n1 : NJ (ofT t D) := List.Pairwise.filter _ (nj_perm h1.W.nj h2)
    have n3 := nj_perm n1 hp.symm
    unfold NJ at n3
    have n2 : L.Pairwise fun a b => a.j.job ≠ b.j.job := by rw [List.pairwise_map] at n3; exact n3
    refine List.pairwise_map.2 (List.Pairwise.imp_of_mem (fun {a b} ha hb hab => ?_) (List.Pairwise.and k2 n2))
    have ha1 := (List.mem_filter.1 (k1.mem_iff.1 ha)).2
    have hb1 := (List.mem_filter.1 (k1.mem_iff.1 hb)).2
    have ea : a.j.tn = t := by simpa using ha1
    have eb : b.j.tn = t := by simpa using hb1
    unfold bf
    rw [if_pos (ea.trans eb.symm)]
    exact (jl_tot hab.2).resolve_right (by rw [hab.1]; decide)
  have e1 : L.map Hd.j = ofT t D := sj_uniq hs (List.Pairwise.filter _ h3) hp
  have e2 : L.length = (ofT t D).length := by rw [← e1, List.length_map]
  rw [e2, e1] at k3
  exact ⟨p, c, by rw [he, e2], k3, k4⟩
theorem rem_nilq (w : World) (x : Int) : Calls Try.prog 16 #[.pointer none, .int .i64 x] w fun e w' => e = .returned (.int .i64 3) ∧ w' = w := by
  have H := qfind_nil w x
  go_enter Try.func16, Try.ntmps16
  go_wp2_with (go_at_call 29; refine H.mono ?_; rintro e w1 ⟨rfl, h1⟩; obtain rfl := h1.symm)
  go_ret
  exact ⟨rfl, rfl⟩
theorem ten_nilq (w : World) : Calls Try.prog 13 #[.pointer none] w fun e w' => e = .returned (.slice none 0 0) ∧ w' = w := by
  go_enter Try.func13, Try.ntmps13
  go_wp2_with fail
  go_ret
  exact ⟨rfl, rfl⟩
theorem top_nilq (w : World) : Calls Try.prog 17 #[.pointer none] w fun e w' => e = .returned (.tuple #[.int .i64 0, .slice none 0 0]) ∧ w' = w := by
  have H : Hid (∀ w, Calls Try.prog 13 #[.pointer none] w fun e w' => e = .returned (.slice none 0 0) ∧ w' = w) := ten_nilq
  go_enter Try.func17, Try.ntmps17
  go_wp2_with (go_at_call 13; refine (H.out _).mono ?_; rintro e w1 ⟨rfl, h1⟩; obtain rfl := h1.symm)
  refine wp_loop_rounds 1 ?_
  rw [rounds_succ]
  go_wp2_with fail
  go_ret2
  exact ⟨rfl, rfl⟩
theorem get_nilq (w : World) (x : Int) : Calls Try.prog 18 #[.pointer none, .int .i64 x] w fun e w' => e = .returned (.tuple #[.agg #[.int .i64 0, .string ⟨#[]⟩, .int .i64 0], .int .i64 3]) ∧ Below w.heap.size w w' := qget_none w _ x fun w1 _ => qfind_nil w1 x
theorem push_nilq (w : World) (j p : Int) (s : ByteArray) : Calls Try.prog 12 #[.pointer none, .agg #[.int .i64 j, .string s, .int .i64 p]] w fun e w' => e = .returned (.int .i64 10) ∧ Below w.heap.size w w' := by
  go_enter Try.func12, Try.ntmps12
  go_wp2_with fail
  go_ret
  exact ⟨rfl, (Below.refl _ _).alloc (Nat.le_refl _) _⟩
set_option maxHeartbeats 1000000 in
set_option maxRecDepth 100000 in
theorem push_bad (w : World) (pb : Nat) (x : J) (s : ByteArray) (hx : x.ok = false) : Calls Try.prog 12 #[.pointer (some ⟨pb, 0, none⟩), .agg #[.int .i64 x.job, .string s, .int .i64 x.pr]] w fun e w' => e = .returned (.int .i64 2) ∧ Below w.heap.size w w' := by
  obtain ⟨j, t, p⟩ := x
  have hx' : j < 1 ∨ 100 < j ∨ p < 0 ∨ 100 < p := by
    unfold J.ok at hx
    simp at hx
    by_cases h1 : 1 ≤ j
    · by_cases h2 : j ≤ 100
      · by_cases h3 : 0 ≤ p
        · have := hx h1 h2 h3; omega
        · omega
      · omega
    · omega
  clear hx
  simp only []
  by_cases h1 : j < 1
  · clear hx'
    go_enter Try.func12, Try.ntmps12
    go_wp2_with fail
    go_ret
    exact ⟨rfl, (Below.refl _ _).alloc (Nat.le_refl _) _⟩
  · by_cases h2 : 100 < j
    · clear hx'
      go_enter Try.func12, Try.ntmps12
      go_wp2_with fail
      go_ret
      exact ⟨rfl, (Below.refl _ _).alloc (Nat.le_refl _) _⟩
    · by_cases h3 : p < 0
      · clear hx'
        go_enter Try.func12, Try.ntmps12
        go_wp2_with fail
        go_ret
        exact ⟨rfl, (Below.refl _ _).alloc (Nat.le_refl _) _⟩
      · have h4 : 100 < p := by omega
        clear hx'
        go_enter Try.func12, Try.ntmps12
        go_wp2_with fail
        go_ret
        exact ⟨rfl, (Below.refl _ _).alloc (Nat.le_refl _) _⟩
set_option maxHeartbeats 1000000 in
set_option maxRecDepth 100000 in
/-- a job that doesn't wait yet -/
theorem push_raw (w : World) (pb : Nat) (j p : Int) (s : ByteArray) (R : World → Prop) (h1 : ¬ j < 1) (h2 : ¬ 100 < j) (h3 : ¬ p < 0) (h4 : ¬ 100 < p) (H29 : Hid (∀ w1, Below w.heap.size w w1 → Calls Try.prog 29 #[.pointer (some ⟨pb, 0, none⟩), .int .i64 j] w1 fun e w' => e = .returned (.pointer none) ∧ w' = w1))
    (H30 : Hid (∀ w1, Below w.heap.size w w1 → Calls Try.prog 30 #[.pointer (some ⟨pb, 0, none⟩), .agg #[.int .i64 j, .string s, .int .i64 p]] w1 fun e w' => e = .returned (.tuple #[]) ∧ Hid (R w'))) :
    Calls Try.prog 12 #[.pointer (some ⟨pb, 0, none⟩), .agg #[.int .i64 j, .string s, .int .i64 p]] w fun e w' => e = .returned (.int .i64 0) ∧ R w' := by
  have B0 : Below w.heap.size w (w.alloc (.cells #[.int .i64 j, .string s, .int .i64 p] 32)) := (Below.refl _ w).alloc (Nat.le_refl _) _
  have X29 := H29.out _ B0
  have X30 := H30.out _ B0
  clear H29 H30 B0
  go_enter Try.func12, Try.ntmps12
  go_wp2_with (first
    | (go_at_call 29; refine X29.mono ?_; rintro e w1 ⟨rfl, h1⟩; obtain rfl := h1.symm)
    | (go_at_call 30; refine X30.mono ?_; first | rintro e w2 rfl h2 | rintro e w2 ⟨rfl, h2⟩))
  go_ret
  exact ⟨rfl, h2.out⟩
end Go.Proofs.Ythlbeofonbbbdaa
