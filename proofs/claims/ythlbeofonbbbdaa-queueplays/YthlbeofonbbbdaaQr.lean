/-
  drop and Remove: their walks.
-/
import Derived.Test.YthlbeofonbbbdaaQq
namespace Go.Proofs.Ythlbeofonbbbdaa
open Go.RowKit Go.Maps Go.WideMaps

/-- the heap has let go of the waiter -/
structure D1 (w1 : World) (pb ab m m2 hb n : Nat) (j p g nz : Int) (t : ByteArray) (M M2 : DataW Nat) : Prop where
  pc : w1.heap[pb]? = some (.cells #[.map (some m), .map (some m2)] 54 (0, 0))
  en : w1.heap[ab]? = some (.cells #[.int .i64 j, .string t, .int .i64 p, .int .i64 g] 76 (0, 0))
  mp : w1.ownsMap Try.prog 2 pE m (Maps.size M) M
  mh : w1.ownsMap Try.prog 9 pE m2 n M2
  ln : Calls Try.prog 51 #[.pointer (some ⟨hb, 0, none⟩)] w1 fun e w' => e = .returned (.int .i64 nz) ∧ w' = w1
set_option maxHeartbeats 2000000 in
set_option maxRecDepth 100000 in
/-- the tenant has other waiters -/
theorem drop_more (w : World) (pb ab m m2 hb n : Nat) (j p g nz : Int) (t : ByteArray) (M M2 : DataW Nat) (P : World → Prop) (hnz : ¬ nz = 0) (hj : Hid (wf j))
    (hc : Hid (w.heap[pb]? = some (.cells #[.map (some m), .map (some m2)] 54 (0, 0)))) (ha : Hid (w.heap[ab]? = some (.cells #[.int .i64 j, .string t, .int .i64 p, .int .i64 g] 76 (0, 0))))
    (HLK : Hid (∀ k, (Instr.lookup 52 (.map (some m2)) (.string t) false).run Try.prog (w.drewN k) = .ok (.pointer (some ⟨hb, 0, none⟩)) (w.drewN k)))
    (H50 : Hid (∀ k, Calls Try.prog 50 #[.pointer (some ⟨hb, 0, none⟩), .int .i64 g] (w.drewN k) fun e w' => e = .returned (.int .i64 0) ∧ Hid (P w' ∧ D1 w' pb ab m m2 hb n j p g nz t M M2))) :
    Calls Try.prog 36 #[.pointer (some ⟨pb, 0, none⟩), .pointer (some ⟨ab, 0, none⟩)] w fun e w' => e = .returned (.tuple #[]) ∧ ∃ w1, P w1 ∧ w'.ownsMap Try.prog 2 pE m (Maps.size M) (M.del (.int .i64 j)) ∧ Kp (· = m) w1 w' := by
  have hL : (Instr.lookup 52 (.map (some m2)) (.string t) false).run Try.prog w.drew = .ok (.pointer (some ⟨hb, 0, none⟩)) w.drew := HLK.out 1
  have X50 : Calls Try.prog 50 #[.pointer (some ⟨hb, 0, none⟩), .int .i64 g] w.drew fun e w' => e = .returned (.int .i64 0) ∧ Hid (P w' ∧ D1 w' pb ab m m2 hb n j p g nz t M M2) := H50.out 1
  have hz1 : decide (nz = 0) = false := decide_eq_false hnz
  have hz2 : (nz == 0) = false := by simpa using hnz
  obtain ⟨-, q1⟩ := c2 hc.out
  obtain ⟨-, a1, -, a3⟩ := c4 ha.out
  have hl1 := (Array.getElem?_eq_some_iff.1 hc.out).1
  have hl2 := (Array.getElem?_eq_some_iff.1 ha.out).1
  clear HLK H50
  go_enter Try.func36, Try.ntmps36
  go_upto_region 0 with fail
  go_region
  go_upto_region 4 with (first
    | (go_at_call 50; refine X50.mono ?_; rintro e w1 ⟨rfl, h1⟩; have X51 := h1.out.2.ln)
    | (go_at_call 51; refine X51.mono ?_; rintro e w2 ⟨rfl, h2⟩; obtain rfl := h2.symm))
  have p0 := (c2 h1.out.2.pc).1
  have y0 := (c4 h1.out.2.en).1
  have hl3 := (Array.getElem?_eq_some_iff.1 h1.out.2.pc).1
  have hl4 := (Array.getElem?_eq_some_iff.1 h1.out.2.en).1
  clear X51 q1 a1 a3 hL
  obtain ⟨w4, hr4, ho4, ht4⟩ := (keepMap (w1 := w1.drew) h1.out.2.mp rfl).drop law2 Try.underlying51 (keyOf_int_mk Try.underlying2 hj.out) 0
  have T4 : Hid (Kp (· = m) w1 w4) := by
    have kk : Kp (· = m) w1.drew w4 := Kp.of_grown ht4.grown fun k q => (Option.some.inj q).symm
    exact ⟨kk.os, kk.tape, kk.output, kk.size, kk.block⟩
  replace ho4 : Hid _ := ho4
  clear ht4
  go_region
  go_wp2_with fail
  go_end0
  exact ⟨rfl, w1, h1.out.1, ho4.out, T4.out⟩
set_option maxHeartbeats 2000000 in
set_option maxRecDepth 100000 in
/-- it was the tenant's last one -/
theorem drop_last (w : World) (pb ab m m2 hb n : Nat) (j p g : Int) (t : ByteArray) (M M2 : DataW Nat) (P : World → Prop) (hj : Hid (wf j)) (ht : Hid (t.size ≤ maxLen)) (hne : Hid (m2 ≠ m))
    (hc : Hid (w.heap[pb]? = some (.cells #[.map (some m), .map (some m2)] 54 (0, 0)))) (ha : Hid (w.heap[ab]? = some (.cells #[.int .i64 j, .string t, .int .i64 p, .int .i64 g] 76 (0, 0))))
    (HLK : Hid (∀ k, (Instr.lookup 52 (.map (some m2)) (.string t) false).run Try.prog (w.drewN k) = .ok (.pointer (some ⟨hb, 0, none⟩)) (w.drewN k)))
    (H50 : Hid (∀ k, Calls Try.prog 50 #[.pointer (some ⟨hb, 0, none⟩), .int .i64 g] (w.drewN k) fun e w' => e = .returned (.int .i64 0) ∧ Hid (P w' ∧ D1 w' pb ab m m2 hb n j p g 0 t M M2))) :
    Calls Try.prog 36 #[.pointer (some ⟨pb, 0, none⟩), .pointer (some ⟨ab, 0, none⟩)] w fun e w' => e = .returned (.tuple #[]) ∧ ∃ w1, P w1 ∧ w'.ownsMap Try.prog 2 pE m (Maps.size M) (M.del (.int .i64 j)) ∧ w'.ownsMap Try.prog 9 pE m2 n (M2.del (.string t.data.toList)) ∧ Kp (fun k => k = m ∨ k = m2) w1 w' := by
  have hL : (Instr.lookup 52 (.map (some m2)) (.string t) false).run Try.prog w.drew = .ok (.pointer (some ⟨hb, 0, none⟩)) w.drew := HLK.out 1
  have X50 : Calls Try.prog 50 #[.pointer (some ⟨hb, 0, none⟩), .int .i64 g] w.drew fun e w' => e = .returned (.int .i64 0) ∧ Hid (P w' ∧ D1 w' pb ab m m2 hb n j p g 0 t M M2) := H50.out 1
  obtain ⟨-, q1⟩ := c2 hc.out
  obtain ⟨-, a1, -, a3⟩ := c4 ha.out
  have hl1 := (Array.getElem?_eq_some_iff.1 hc.out).1
  have hl2 := (Array.getElem?_eq_some_iff.1 ha.out).1
  clear HLK H50
  go_enter Try.func36, Try.ntmps36
  go_upto_region 0 with fail
  go_region
  go_upto_region 3 with (first
    | (go_at_call 50; refine X50.mono ?_; rintro e w1 ⟨rfl, h1⟩; have X51 := h1.out.2.ln)
    | (go_at_call 51; refine X51.mono ?_; rintro e w2 ⟨rfl, h2⟩; obtain rfl := h2.symm))
  have p0 := (c2 h1.out.2.pc).2
  have y0 := (c4 h1.out.2.en).2.1
  have hl3 := (Array.getElem?_eq_some_iff.1 h1.out.2.pc).1
  have hl4 := (Array.getElem?_eq_some_iff.1 h1.out.2.en).1
  clear X51 q1 a1 a3 hL
  obtain ⟨w3, hr3, ho3, ht3⟩ := (keepMap (w1 := w1.drew) h1.out.2.mh rfl).drop law9 Try.underlying52 (keyOf_string_mk (P := Try.prog) Try.underlying9 ht.out) 0
  have T3 : Hid (Kp (· = m2) w1 w3) := by
    have kk : Kp (· = m2) w1.drew w3 := Kp.of_grown ht3.grown fun k q => (Option.some.inj q).symm
    exact ⟨kk.os, kk.tape, kk.output, kk.size, kk.block⟩
  replace ho3 : Hid _ := ho3
  clear ht3
  go_region
  clear p0 y0 hr3
  have n1 : pb ≠ m2 := cells_map h1.out.2.mh h1.out.2.pc
  have n2 : ab ≠ m2 := cells_map h1.out.2.mh h1.out.2.en
  have pc3 := (T3.out.block pb hl3 n1).trans h1.out.2.pc
  have en3 := (T3.out.block ab hl4 n2).trans h1.out.2.en
  have p0 := (c2 pc3).1
  have y0 := (c4 en3).1
  have hl5 := (Array.getElem?_eq_some_iff.1 pc3).1
  have hl6 := (Array.getElem?_eq_some_iff.1 en3).1
  have M3 : w3.ownsMap Try.prog 2 pE m (Maps.size M) M := keepMap h1.out.2.mp (T3.out.block m h1.out.2.mp.lt fun e => hne.out e.symm)
  obtain ⟨w4, hr4, ho4, ht4⟩ := (keepMap (w1 := w3.drew) M3 rfl).drop law2 Try.underlying51 (keyOf_int_mk Try.underlying2 hj.out) 0
  have T4 : Hid (Kp (· = m) w3 w4) := by
    have kk : Kp (· = m) w3.drew w4 := Kp.of_grown ht4.grown fun k q => (Option.some.inj q).symm
    exact ⟨kk.os, kk.tape, kk.output, kk.size, kk.block⟩
  replace ho4 : Hid _ := ho4
  clear ht4 pc3 en3 M3
  go_upto_region 4 with fail
  go_region
  go_wp2_with fail
  go_end0
  have o3 := keepMap ho3.out (T4.out.block m2 (World.ownsMap.lt (P := Try.prog) ho3.out) hne.out)
  exact ⟨rfl, w1, h1.out.1, ho4.out, o3, (T3.out.mono fun _ _ e => .inr e).trans T4.out fun _ _ e => .inl e⟩
theorem rem_no (w : World) (pb : Nat) (x : Int) (H29 : Hid (Calls Try.prog 29 #[.pointer (some ⟨pb, 0, none⟩), .int .i64 x] w fun e w' => e = .returned (.pointer none) ∧ w' = w)) : Calls Try.prog 16 #[.pointer (some ⟨pb, 0, none⟩), .int .i64 x] w fun e w' => e = .returned (.int .i64 3) ∧ w' = w := by
  go_enter Try.func16, Try.ntmps16
  go_wp2_with (go_at_call 29; refine H29.out.mono ?_; rintro e w1 ⟨rfl, h1⟩; obtain rfl := h1.symm)
  go_ret
  exact ⟨rfl, rfl⟩
theorem rem_yes (w : World) (pb ab : Nat) (x : Int) (R : World → Prop) (H29 : Hid (Calls Try.prog 29 #[.pointer (some ⟨pb, 0, none⟩), .int .i64 x] w fun e w' => e = .returned (.pointer (some ⟨ab, 0, none⟩)) ∧ w' = w)) (H36 : Hid (Calls Try.prog 36 #[.pointer (some ⟨pb, 0, none⟩), .pointer (some ⟨ab, 0, none⟩)] w fun e w' => e = .returned (.tuple #[]) ∧ Hid (R w'))) : Calls Try.prog 16 #[.pointer (some ⟨pb, 0, none⟩), .int .i64 x] w fun e w' => e = .returned (.int .i64 0) ∧ R w' := by
  go_enter Try.func16, Try.ntmps16
  go_wp2_with (first
    | (go_at_call 29; refine H29.out.mono ?_; rintro e w1 ⟨rfl, h1⟩; obtain rfl := h1.symm)
    | (go_at_call 36; refine H36.out.mono ?_; rintro e w2 ⟨rfl, h2⟩))
  go_ret
  exact ⟨rfl, h2.out⟩
end Go.Proofs.Ythlbeofonbbbdaa
