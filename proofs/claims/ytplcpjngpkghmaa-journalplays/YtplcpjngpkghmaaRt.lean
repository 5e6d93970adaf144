/-
  The library's contracts of slices.Sorted(maps.Keys(m)) laid at this program's numbers (by the kit's own laying, in plain words), and the disk's names by them. The disk's names in their order; List; Sync. What a crash leaves of a file. Rename. Remove. Truncate. Truncate: the walk. Restart. Restart: the walk.
-/
import Derived.Shelf.SlIter.Nil
import Derived.Shelf.SortM.Plain
import Derived.Shelf.SortM.SortNone
import Derived.Ground.GgzProg
import Derived.Ground.SlgmProg
import Derived.Test.YtplcpjngpkghmaaWg
import Derived.OwnWalkIn
import Derived.TacticsInMore
import Derived.Test.YtplcpjngpkghmaaOv
namespace Go.Proofs
open Go.Shelf
def Try.keys54_ren : Go.Shelf.Ren := ⟨fun | 7 => 55 | 10 => 67 | n => n, fun | 23 => 61 | 26 => 9 | 3 => 66 | 28 => 89 | 0 => 0 | 27 => 88 | 33 => 81 | 4 => 4 | n => n, fun | n => n⟩
theorem Try.keys54 : Go.Proofs.SlLaysZ.n7 Try.prog Try.keys54_ren := {
  mixed := by kernel_rfl
  f7 := ⟨Try.f55.name, by decide, Try.func55.trans (congrArg some (by kernel_rfl))⟩
  f10 := ⟨Try.f67.name, by decide, Try.func67.trans (congrArg some (by kernel_rfl))⟩
  t0 := Try.underlying0
  a0 := Try.isAgg0
  z0 := Try.sizeOf0
  v0 := Try.zeroValue0
  t4 := Try.underlying4
  a4 := Try.isAgg4
  z4 := Try.sizeOf4
  v4 := Try.zeroValue4
  t23 := Try.underlying61
  a23 := Try.isAgg61
  z23 := Try.sizeOf61
  v23 := Try.zeroValue61
  t26 := Try.underlying9
  a26 := Try.isAgg9
  z26 := Try.sizeOf9
  v26 := Try.zeroValue9
  t27 := Try.underlying88
  a27 := Try.isAgg88
  z27 := Try.sizeOf88
  v27 := Try.zeroValue88
  t28 := Try.underlying89
  a28 := Try.isAgg89
  z28 := Try.sizeOf89
  v28 := Try.zeroValue89
  t33 := Try.underlying81
  a33 := Try.isAgg81
  z33 := Try.sizeOf81
  v33 := Try.zeroValue81 }
def Try.sorted53_ren : Go.Shelf.Ren := ⟨fun | 6 => 54 | 8 => 65 | 9 => 66 | 11 => 74 | 13 => 76 | 12 => 75 | 23 => 88 | 24 => 89 | 14 => 79 | 15 => 80 | 16 => 81 | 17 => 82 | 18 => 83 | 19 => 84 | 20 => 85 | 21 => 86 | 22 => 87 | 25 => 91 | 26 => 92 | 27 => 93 | 28 => 94 | 29 => 95 | 30 => 96 | 31 => 97 | n => n, fun | 26 => 9 | 28 => 89 | 24 => 64 | 0 => 0 | 3 => 3 | 37 => 35 | 48 => 92 | 50 => 125 | 4 => 4 | 40 => 116 | 39 => 115 | 45 => 121 | 5 => 5 | 9 => 9 | 51 => 128 | 55 => 132 | 57 => 134 | 58 => 135 | 33 => 81 | n => n, fun | n => n⟩
theorem Try.sorted53 : Go.Proofs.SlLaysZ.n6 Try.prog Try.sorted53_ren := {
  mixed := by kernel_rfl
  f6 := ⟨Try.f54.name, by decide, Try.func54.trans (congrArg some (by kernel_rfl))⟩
  f8 := ⟨Try.f65.name, by decide, Try.func65.trans (congrArg some (by kernel_rfl))⟩
  f11 := ⟨Try.f74.name, by decide, Try.func74.trans (congrArg some (by kernel_rfl))⟩
  t0 := Try.underlying0
  a0 := Try.isAgg0
  z0 := Try.sizeOf0
  v0 := Try.zeroValue0
  t24 := Try.underlying64
  a24 := Try.isAgg64
  z24 := Try.sizeOf64
  v24 := Try.zeroValue64
  t26 := Try.underlying9
  a26 := Try.isAgg9
  z26 := Try.sizeOf9
  v26 := Try.zeroValue9
  t28 := Try.underlying89
  a28 := Try.isAgg89
  z28 := Try.sizeOf89
  v28 := Try.zeroValue89
  i26 := by kernel_rfl }
def Try.sort57_ren : Go.Shelf.Ren := ⟨fun | 6 => 66 | 8 => 76 | 9 => 75 | 19 => 88 | 20 => 89 | 21 => 79 | 22 => 80 | 23 => 81 | 24 => 82 | 25 => 83 | 26 => 84 | 27 => 85 | 28 => 86 | 29 => 87 | 36 => 91 | 31 => 92 | 32 => 93 | 37 => 94 | 38 => 95 | 39 => 96 | 41 => 97 | n => n, fun | 27 => 64 | 29 => 9 | 3 => 3 | 32 => 35 | 26 => 64 | 0 => 0 | 44 => 92 | 46 => 125 | 4 => 4 | 36 => 116 | 35 => 115 | 41 => 121 | 5 => 5 | 9 => 9 | 53 => 128 | 57 => 132 | 63 => 134 | 64 => 135 | n => n, fun | n => n⟩
theorem Try.sort57 : Go.Proofs.SlLaysM.n6 Try.prog Try.sort57_ren := {
  mixed := by kernel_rfl
  f6 := ⟨Try.f66.name, by decide, Try.func66.trans (congrArg some (by kernel_rfl))⟩
  f8 := Try.func76.trans (congrArg some (by kernel_rfl))
  f9 := ⟨Try.f75.name, by decide, Try.func75.trans (congrArg some (by kernel_rfl))⟩
  f19 := Try.func88.trans (congrArg some (by kernel_rfl))
  f20 := Try.func89.trans (congrArg some (by kernel_rfl))
  f21 := ⟨Try.f79.name, by decide, Try.func79.trans (congrArg some (by kernel_rfl))⟩
  f22 := ⟨Try.f80.name, by decide, Try.func80.trans (congrArg some (by kernel_rfl))⟩
  f23 := ⟨Try.f81.name, by decide, Try.func81.trans (congrArg some (by kernel_rfl))⟩
  f24 := ⟨Try.f82.name, by decide, Try.func82.trans (congrArg some (by kernel_rfl))⟩
  f25 := ⟨Try.f83.name, by decide, Try.func83.trans (congrArg some (by kernel_rfl))⟩
  f26 := ⟨Try.f84.name, by decide, Try.func84.trans (congrArg some (by kernel_rfl))⟩
  f27 := ⟨Try.f85.name, by decide, Try.func85.trans (congrArg some (by kernel_rfl))⟩
  f28 := ⟨Try.f86.name, by decide, Try.func86.trans (congrArg some (by kernel_rfl))⟩
  f29 := ⟨Try.f87.name, by decide, Try.func87.trans (congrArg some (by kernel_rfl))⟩
  f31 := Try.func92.trans (congrArg some (by kernel_rfl))
  f32 := Try.func93.trans (congrArg some (by kernel_rfl))
  f36 := ⟨Try.f91.name, by decide, Try.func91.trans (congrArg some (by kernel_rfl))⟩
  f37 := ⟨Try.f94.name, by decide, Try.func94.trans (congrArg some (by kernel_rfl))⟩
  f38 := ⟨Try.f95.name, by decide, Try.func95.trans (congrArg some (by kernel_rfl))⟩
  f39 := ⟨Try.f96.name, by decide, Try.func96.trans (congrArg some (by kernel_rfl))⟩
  f41 := ⟨Try.f97.name, by decide, Try.func97.trans (congrArg some (by kernel_rfl))⟩
  t0 := Try.underlying0
  a0 := Try.isAgg0
  z0 := Try.sizeOf0
  v0 := Try.zeroValue0
  t3 := Try.underlying3
  a3 := Try.isAgg3
  z3 := Try.sizeOf3
  v3 := Try.zeroValue3
  t4 := Try.underlying4
  a4 := Try.isAgg4
  z4 := Try.sizeOf4
  v4 := Try.zeroValue4
  t5 := Try.underlying5
  a5 := Try.isAgg5
  z5 := Try.sizeOf5
  v5 := Try.zeroValue5
  t9 := Try.underlying9
  a9 := Try.isAgg9
  z9 := Try.sizeOf9
  v9 := Try.zeroValue9
  t26 := Try.underlying64
  a26 := Try.isAgg64
  z26 := Try.sizeOf64
  v26 := Try.zeroValue64
  t27 := Try.underlying64
  a27 := Try.isAgg64
  z27 := Try.sizeOf64
  v27 := Try.zeroValue64
  t29 := Try.underlying9
  a29 := Try.isAgg9
  z29 := Try.sizeOf9
  v29 := Try.zeroValue9
  t32 := Try.underlying35
  a32 := Try.isAgg35
  z32 := Try.sizeOf35
  v32 := Try.zeroValue35
  t35 := Try.underlying115
  a35 := Try.isAgg115
  z35 := Try.sizeOf115
  v35 := Try.zeroValue115
  t36 := Try.underlying116
  a36 := Try.isAgg116
  z36 := Try.sizeOf116
  v36 := Try.zeroValue116
  t41 := Try.underlying121
  a41 := Try.isAgg121
  z41 := Try.sizeOf121
  v41 := Try.zeroValue121
  t44 := Try.underlying92
  a44 := Try.isAgg92
  z44 := Try.sizeOf92
  v44 := Try.zeroValue92
  t46 := Try.underlying125
  a46 := Try.isAgg125
  z46 := Try.sizeOf125
  v46 := Try.zeroValue125
  t53 := Try.underlying128
  a53 := Try.isAgg128
  z53 := Try.sizeOf128
  v53 := Try.zeroValue128
  t57 := Try.underlying132
  a57 := Try.isAgg132
  z57 := Try.sizeOf132
  v57 := Try.zeroValue132
  t63 := Try.underlying134
  a63 := Try.isAgg134
  z63 := Try.sizeOf134
  v63 := Try.zeroValue134
  t64 := Try.underlying135
  a64 := Try.isAgg135
  z64 := Try.sizeOf135
  v64 := Try.zeroValue135 }

open Go.RowKit Go.Maps Go.Sort Go.Shelf
theorem Try.sorts53 (m : Nat) : AnyZ.SortsIn Try.prog Try.sorted53_ren Fence.wide m :=
  ⟨fun blk off cap ss W hH hblk hsz => callsIn_wide.2 (AnyM.slices_Sort_string Try.sort57 blk off cap ss W hH hblk hsz),
   fun p cap W => callsIn_wide.2 (AnyM.slices_Sort_string_none Try.sort57 p cap W)⟩

theorem Try.maps_Keys_54 (mb : Option Nat) (W : World) : CallsIn Fence.wide 5 Try.prog 55 #[.map mb] W fun e w' => e = .returned (.func (.func 67) #[] #[.pointer (some ⟨W.heap.size, 0, none⟩)]) ∧ w' = W.alloc (.cells #[.map mb] 61) :=
  AnyZ.keys_in Try.keys54 Fence.wide 5 trivial rfl mb W

set_option maxHeartbeats 1000000 in
theorem Try.slices_Sorted_keys_53_54 {H : Type} (b nn : Nat) (D0 : DataW H) (R : Value → Option (DataW H × List MemPlace)) (w : World) (hown : w.ownsMap Try.prog 9 R b nn D0) (hmax : Maps.size D0 ≤ maxLen) (hbytes : Maps.size D0 * 16 ≤ 140737488355328) :
    CallsIn Fence.wide 5 Try.prog 54 #[.func (.func 67) #[] #[.pointer (some ⟨w.heap.size, 0, none⟩)]] (w.alloc (.cells #[.map (some b)] 61)) fun e w' => ∃ (v : Value) (ss : List (List UInt8)), e = .returned v ∧ ss.Perm (strKeys D0) ∧
      w'.ownsRow (w.alloc (.cells #[.map (some b)] 61)).heap.size 9 1 v ss.length ((ss.mergeSort (fun x y => decide (x ≤ y))).map encStr) ∧ (v = .slice none 0 0 ↔ ss = []) ∧ Below (w.alloc (.cells #[.map (some b)] 61)).heap.size (w.alloc (.cells #[.map (some b)] 61)) w' := by
  have hbl := hown.lt
  have hseq : SeqGives Fence.wide 2 Try.prog 67 #[.pointer (some ⟨w.heap.size, 0, none⟩)] encStr (fun ss => ss.Perm (strKeys D0)) (Maps.size D0) (w.alloc (.cells #[.map (some b)] 61)) :=
    AnyZ.keys_gives (ρ := Try.keys54_ren) { Try.keys54 with } Fence.wide _ trivial rfl (by omega) w.heap.size b nn D0 _ (by simp) (by simp) (by
      obtain ⟨es, clock, hb, Ft, hs, hD⟩ := hown
      exact ⟨es, clock, (Below.heap_alloc _ _ b hbl).trans hb, Ft, hs, hD⟩)
  exact AnyZ.sorted_in Try.sorted53 Fence.wide 5 trivial trivial trivial trivial rfl (by omega) (Try.sorts53 _) (enters_of Try.func66 (by kernel_rfl) rfl) 67 #[.pointer (some ⟨w.heap.size, 0, none⟩)] trivial (enters_of Try.func67 (by kernel_rfl) rfl) _ _ hmax hbytes _ hseq

set_option maxHeartbeats 1000000 in
theorem Try.slices_Sorted_keys_nil_53_54 (w : World) :
    CallsIn Fence.wide 5 Try.prog 54 #[.func (.func 67) #[] #[.pointer (some ⟨w.heap.size, 0, none⟩)]] (w.alloc (.cells #[.map none] 61)) fun e w' => ∃ (v : Value) (ss : List (List UInt8)), e = .returned v ∧ ss = [] ∧
      w'.ownsRow (w.alloc (.cells #[.map none] 61)).heap.size 9 1 v ss.length ((ss.mergeSort (fun x y => decide (x ≤ y))).map encStr) ∧ (v = .slice none 0 0 ↔ ss = []) ∧ Below (w.alloc (.cells #[.map none] 61)).heap.size (w.alloc (.cells #[.map none] 61)) w' := by
  have hseq : SeqGives Fence.wide 2 Try.prog 67 #[.pointer (some ⟨w.heap.size, 0, none⟩)] encStr (fun ss : List (List UInt8) => ss = []) 0 (w.alloc (.cells #[.map none] 61)) :=
    AnyZ.keys_gives_nil (ρ := Try.keys54_ren) { Try.keys54 with } Fence.wide _ trivial rfl w.heap.size _ (by simp) (by simp)
  exact AnyZ.sorted_in Try.sorted53 Fence.wide 5 trivial trivial trivial trivial rfl (by omega) (Try.sorts53 _) (enters_of Try.func66 (by kernel_rfl) rfl) 67 #[.pointer (some ⟨w.heap.size, 0, none⟩)] trivial (enters_of Try.func67 (by kernel_rfl) rfl) _ 0 (Nat.zero_le _) (by omega) _ hseq


namespace Ytplcpjngpkghmaa
set_option maxHeartbeats 1000000 in
theorem names_raw (b nn : Nat) (D0 : DataW Nat) (w : World) (pb : Nat) (x y z : Value) (hc : w.heap[pb]? = some (.cells #[.map (some b), x, y, z] 63 (0, 0))) (hown : w.ownsMap Try.prog 9 pE b nn D0) (hmax : Maps.size D0 ≤ maxLen) (hbytes : Maps.size D0 * 16 ≤ 140737488355328) :
    Calls Try.prog 32 #[.pointer (some ⟨pb, 0, none⟩)] w fun e w' => ∃ (v : Value) (ss : List (List UInt8)), e = .returned v ∧ ss.Perm (strKeys D0) ∧
      w'.ownsRow w.heap.size 9 1 v ss.length ((ss.mergeSort (fun x y => decide (x ≤ y))).map encStr) ∧ Below w.heap.size w w' := by
  obtain ⟨e0, e1, e2, e3⟩ := c4 hc
  refine (callsIn_wide (n := 6)).1 ?_
  have hfK : Fence.wide.fn 55 := trivial
  have hfS : Fence.wide.fn 54 := trivial
  refine callsIn_of_wp Try.func32 rfl trivial ?_ rfl
  simp only [Try.ntmps32, List.size_toArray, List.length_cons, List.length_nil, Nat.reduceAdd, Nat.reduceSub, Array.replicate_succ, Array.replicate_zero, List.push_toArray, List.append_toArray, List.nil_append, List.cons_append]
  gi_wp2_with (first
    | (gi_at_call 55; refine (Try.maps_Keys_54 _ _).mono ?_; rintro e w' ⟨rfl, rfl⟩)
    | (gi_at_call 54; refine (Try.slices_Sorted_keys_53_54 b nn D0 pE w hown hmax hbytes).mono ?_; rintro e w' ⟨v, ss, rfl, hS, hrow, hnil, hb⟩))
  go_ret
  exact ⟨v, ss, rfl, hS, ownsRow_base_a hrow (by simp), ((Below.refl _ w).alloc (Nat.le_refl _) _).trans (hb.mono (by simp))⟩
set_option maxHeartbeats 1000000 in
theorem names_none (w : World) (pb : Nat) (x y z : Value) (hc : w.heap[pb]? = some (.cells #[.map none, x, y, z] 63 (0, 0))) :
    Calls Try.prog 32 #[.pointer (some ⟨pb, 0, none⟩)] w fun e w' => e = .returned (.slice none 0 0) ∧ Below w.heap.size w w' := by
  obtain ⟨e0, e1, e2, e3⟩ := c4 hc
  refine (callsIn_wide (n := 6)).1 ?_
  have hfK : Fence.wide.fn 55 := trivial
  have hfS : Fence.wide.fn 54 := trivial
  refine callsIn_of_wp Try.func32 rfl trivial ?_ rfl
  simp only [Try.ntmps32, List.size_toArray, List.length_cons, List.length_nil, Nat.reduceAdd, Nat.reduceSub, Array.replicate_succ, Array.replicate_zero, List.push_toArray, List.append_toArray, List.nil_append, List.cons_append]
  gi_wp2_with (first
    | (gi_at_call 55; refine (Try.maps_Keys_54 _ _).mono ?_; rintro e w' ⟨rfl, rfl⟩)
    | (gi_at_call 54; refine (Try.slices_Sorted_keys_nil_53_54 w).mono ?_; rintro e w' ⟨v, ss, rfl, hS, hrow, hnil, hb⟩))
  go_ret
  exact ⟨by rw [hnil.2 hS]; rfl, ((Below.refl _ w).alloc (Nat.le_refl _) _).trans (hb.mono (by simp))⟩
end Ytplcpjngpkghmaa
end Go.Proofs

namespace Go.Proofs.Ytplcpjngpkghmaa
open Go.RowKit Go.Maps Go.WideMaps Go.Sort

theorem bb_lt : ∀ {a b : List UInt8}, bytesBefore a b = true → a < b
  | [], [], h => by simp [bytesBefore] at h
  | [], _ :: _, _ => List.nil_lt_cons _ _
  | _ :: _, [], h => by simp [bytesBefore] at h
  | x :: r, y :: s, h => by
    simp only [bytesBefore, Bool.or_eq_true, decide_eq_true_eq, Bool.and_eq_true, beq_iff_eq] at h
    rw [List.cons_lt_cons_iff]
    rcases h with h | ⟨h1, h2⟩
    · exact .inl h
    · exact .inr ⟨h1, bb_lt h2⟩
theorem names_sorted {l : List Fl} {ss : List (List UInt8)} (hs : Srt Fl.nm l) (hp : ss.Perm (l.map Fl.nm)) : ss.mergeSort (fun x y => decide (x ≤ y)) = l.map Fl.nm := by
  have tr : ∀ a b c : List UInt8, leB a b = true → leB b c = true → leB a c = true := fun a b c h1 h2 => by simp only [leB, decide_eq_true_eq] at *; exact List.le_trans h1 h2
  have tot : ∀ a b : List UInt8, (leB a b || leB b a) = true := fun a b => by simp only [leB, Bool.or_eq_true, decide_eq_true_eq]; exact List.le_total a b
  refine List.Perm.eq_of_pairwise (le := fun a b => leB a b = true) (fun a b _ _ h1 h2 => ?_) (List.pairwise_mergeSort tr tot ss) ?_ ((List.mergeSort_perm ss leB).trans hp)
  · simp only [leB, decide_eq_true_eq] at h1 h2
    exact List.le_antisymm h1 h2
  · refine List.pairwise_map.2 (List.Pairwise.imp (fun {a b} hab => ?_) hs)
    simp only [leB, decide_eq_true_eq]
    exact List.le_of_lt (bb_lt hab)

theorem names_any {w : World} {tg : Nat → Tg} {pb : Nat} {D : DK} {mb : Option Nat} {l : List Fl} {z : Int} (h : DkAt w tg pb D mb l z) :
    Calls Try.prog 32 #[.pointer (some ⟨pb, 0, none⟩)] w fun e w' => ∃ v, e = .returned v ∧ w'.ownsRow w.heap.size 9 1 v l.length ((l.map Fl.nm).map encStr) ∧ Below w.heap.size w w' := by
  have hm := h.mp
  unfold MpAt at hm
  cases mb with
  | none =>
    subst hm
    refine (names_none w pb _ _ _ h.cell).mono ?_
    rintro e w' ⟨rfl, hb⟩
    exact ⟨_, rfl, World.ownsRow_nil _ _ _ _, hb⟩
  | some m =>
    have hl := h.len
    refine (names_raw m l.length (mapOf l) w pb _ _ _ h.cell hm.2 (by rw [mapOf_size]; unfold maxLen; omega) (by rw [mapOf_size]; omega)).mono ?_
    rintro e w' ⟨v, ss, rfl, hS, hrow, hb⟩
    have hk : strKeys (mapOf l) = l.map Fl.nm := by
      unfold mapOf strKeys
      simp only [List.map_map]
      rfl
    rw [hk] at hS
    rw [names_sorted h.srt hS, show ss.length = l.length by rw [hS.length_eq, List.length_map]] at hrow
    exact ⟨v, rfl, hrow, hb⟩

/-- a slice of texts -/
def OwnS (w : World) (B : Nat) (v : Value) (ns : List (List UInt8)) : Prop := w.ownsRow B 9 1 v ns.length (ns.map encStr)
def listD (D : DK) : List (List UInt8) := if D.down then [] else D.fs.map Fil.nm
/-! ### Sync -/
def syncD (D : DK) (n : List UInt8) : Int × DK := if D.down then (11, D) else match fnd Fil.nm n D.fs with
  | none => (3, D)
  | some f => if (burn D).1 then (0, ⟨upd Fil.nm n ⟨n, f.b, f.b.length⟩ D.fs, (burn D).2.down, (burn D).2.fuse⟩) else (11, (burn D).2)

set_option maxHeartbeats 400000 in
theorem sync_no (w : World) (p : Value) (s : ByteArray) (c : Int) (hc : (c != 0) = true) (H : Hid (Calls Try.prog 53 #[p, .string s] w fun e w' => e = .returned (.tuple #[.pointer none, .int .i64 c]) ∧ w' = w)) :
    Calls Try.prog 29 #[p, .string s] w fun e w' => e = .returned (.int .i64 c) ∧ w' = w := by
  go_enter Try.func29, Try.ntmps29
  go_wp2_with (go_at_call 53; refine H.out.mono ?_)
  rintro e w1 ⟨rfl, rfl⟩
  go_wp2_with fail
  go_ret
  exact ⟨rfl, rfl⟩
theorem DkAt.synced {w : World} {tg : Nat → Tg} {pb : Nat} {D : DK} {mb : Option Nat} {l : List Fl} {z : Int} {f : Fl} {n : List UInt8} (h : DkAt w tg pb D mb l z) (hf : fnd Fl.nm n l = some f) :
    DkAt (w.setCell ⟨f.fb, 1, none⟩ (.int .i64 f.b.length)) tg pb ⟨upd Fil.nm n ⟨n, f.b, f.b.length⟩ D.fs, D.down, D.fuse⟩ mb (upd Fl.nm n ⟨n, f.b, f.b.length, f.fb, f.v⟩ l) z ∧ Step tg tg w (w.setCell ⟨f.fb, 1, none⟩ (.int .i64 f.b.length)) := by
  obtain ⟨hfl, hfn⟩ := fnd_some hf
  have hF := h.fl f hfl
  have hk : Kp (fun k => tg k = .fl n ∨ tg k = .rw n) w (w.setCell ⟨f.fb, 1, none⟩ (.int .i64 f.b.length)) := Kp.of_set _ ⟨f.fb, 1, none⟩ _ (.inl (by rw [hF.tb, hfn]))
  have hne : f.v.ownBlock ≠ some f.fb := fun e => by have := hF.tr _ e; rw [hF.tb] at this; cases this
  refine ⟨?_, hk.mono fun k _ e => by rcases e with e | e <;> rw [e] <;> exact nofun, fun _ h => .inl h⟩
  have := h.updated (f' := ⟨n, f.b, f.b.length, f.fb, f.v⟩) hf rfl rfl hk (fun k _ e => e) (fun _ _ => rfl) (fun k hk1 => by have := h.lt k hk1; simpa [World.setCell] using this)
    ⟨setB hF.cell _, hF.own.keepAt fun g hg => Below.heap_setCell _ _ _ _ (fun e => hne (by rw [hg, e])), by rw [hF.tb, hfn], fun g hg => by rw [hF.tr g hg, hfn], Nat.le_refl _, hF.hl⟩
  rw [map_upd Fl.s_nm, ← h.fs] at this
  exact this
set_option maxHeartbeats 1000000 in
theorem sync_yes {w : World} {tg : Nat → Tg} {pb : Nat} {D : DK} {mb : Option Nat} {l : List Fl} {z : Int} (h : Hid (DkAt w tg pb D mb l z)) (s : ByteArray) (nm b : List UInt8) (sy fb fk fc : Nat) (fa : Option Addr) (hfk : Hid (b.length = fk)) (hf : Hid (fnd Fl.nm s.data.toList l = some ⟨nm, b, sy, fb, .slice fa fk fc⟩)) (hd : Hid (D.down = false))
    (H : Hid (Calls Try.prog 53 #[.pointer (some ⟨pb, 0, none⟩), .string s] w fun e w' => e = .returned (.tuple #[.pointer (some ⟨fb, 0, none⟩), .int .i64 0]) ∧ w' = w)) :
    Calls Try.prog 29 #[.pointer (some ⟨pb, 0, none⟩), .string s] w fun e w' => e = .returned (.int .i64 (syncD D s.data.toList).1) ∧ Dsk w' tg pb (syncD D s.data.toList).2 ∧ Step tg tg w w' := by
  have hff : fnd Fil.nm s.data.toList D.fs = some ⟨nm, b, sy⟩ := by rw [h.out.fs, ← map_fnd Fl.s_nm, hf.out]; rfl
  obtain ⟨y, D1, hy⟩ : ∃ y D1, burn D = (y, D1) := ⟨_, _, rfl⟩
  obtain ⟨hy1, hy2⟩ := burn_eta _ hy
  have H37 : Hid (Calls Try.prog 51 #[.pointer (some ⟨pb, 0, none⟩)] w fun e w' => e = .returned (.bool y) ∧ (∃ z', DkAt w' tg pb D1 mb l z') ∧ Step tg tg w w') := by
    have := goes_any h.out
    rw [hy1, hy2] at this
    exact this
  have HF : Hid (D1.fs = D.fs) := by have := burn_fs D; rw [hy2] at this; exact this
  have HA : Hid (syncD D s.data.toList = if y then (0, ⟨upd Fil.nm s.data.toList ⟨s.data.toList, b, b.length⟩ D.fs, D1.down, D1.fuse⟩) else (11, D1)) := by
    unfold Hid syncD
    simp only [hd.out, hff, hy1, hy2, Bool.false_eq_true, if_false]
  generalize syncD D s.data.toList = A at *
  clear hff hy hy1 hy2
  go_enter Try.func29, Try.ntmps29
  go_wp2_with (go_at_call 53; refine H.out.mono ?_)
  rintro e w1 ⟨rfl, rfl⟩
  go_wp2_with (go_at_call 51; refine H37.out.mono ?_)
  rintro e w2 ⟨rfl, ⟨z', h2⟩, st⟩
  have H2 : Hid (DkAt w2 tg pb D1 mb l z') := h2
  have ST : Hid (Step tg tg w1 w2) := st
  clear h2 st
  cases y with
  | false =>
    go_wp2_with fail
    go_ret
    rw [HA.out, if_neg (by simp)]
    exact ⟨rfl, ⟨mb, l, z', H2.out⟩, ST.out⟩
  | true =>
    have hF := H2.out.fl _ (fnd_some hf.out).1
    obtain ⟨e0, e1⟩ := c2 hF.cell
    have f1 := fz hF.cell 1
    simp only at e0 e1 f1
    have h4 := H2.out.synced hf.out
    rw [hfk.out, HF.out] at h4
    have H4 : Hid _ := h4
    clear h4 hF
    go_wp2_with fail
    go_ret
    rw [HA.out, if_pos (by simp), hfk.out]
    exact ⟨rfl, ⟨_, _, _, H4.out.1⟩, ST.out.trans H4.out.2⟩
theorem sync_any {w : World} {tg : Nat → Tg} {pb : Nat} {D : DK} (h : Dsk w tg pb D) (s : ByteArray) (hs : s.size ≤ maxLen) :
    Calls Try.prog 29 #[.pointer (some ⟨pb, 0, none⟩), .string s] w fun e w' => e = .returned (.int .i64 (syncD D s.data.toList).1) ∧ Dsk w' tg pb (syncD D s.data.toList).2 ∧ Step tg tg w w' := by
  obtain ⟨mb, l, z, h⟩ := h
  have hfd := find_any h s hs
  have hfs := h.fs
  unfold findP findC at hfd
  cases hd : D.down with
  | true =>
    simp only [hd, if_true] at hfd
    refine (sync_no w _ s 11 rfl hfd).mono ?_
    rintro e w' ⟨rfl, rfl⟩
    have e : syncD D s.data.toList = (11, D) := by unfold syncD; simp [hd]
    rw [e]
    exact ⟨rfl, ⟨mb, l, z, h⟩, Step.refl _ _⟩
  | false =>
    simp only [hd, Bool.false_eq_true, if_false] at hfd
    cases hf : fnd Fl.nm s.data.toList l with
    | none =>
      rw [hf] at hfd
      refine (sync_no w _ s 3 rfl hfd).mono ?_
      rintro e w' ⟨rfl, rfl⟩
      have e : syncD D s.data.toList = (3, D) := by
        unfold syncD
        rw [hfs, ← map_fnd Fl.s_nm, hf]
        simp [hd]
      rw [e]
      exact ⟨rfl, ⟨mb, l, z, h⟩, Step.refl _ _⟩
    | some f =>
      rw [hf] at hfd
      obtain ⟨nm, b, sy, fb, v⟩ := f
      obtain ⟨a, cc, hv, -⟩ := (h.fl _ (fnd_some hf).1).own.shape
      simp only at hv
      subst hv
      exact sync_yes h s nm b sy fb _ cc a rfl hf hd hfd
end Go.Proofs.Ytplcpjngpkghmaa

namespace Go.Proofs.Ytplcpjngpkghmaa
open Go.RowKit Go.Maps Go.WideMaps Go.Sort

theorem cell_set {w : World} {g i j : Nat} {v : Value} (u : Value) (h : w.cell? ⟨g, j, none⟩ = some v) (hij : i ≠ j) : (w.setCell ⟨g, i, none⟩ u).cell? ⟨g, j, none⟩ = some v := by
  rw [World.cell?_setCell_other _ _ _ _ (fun e => hij (by simpa using congrArg Addr.off e))]
  exact h

set_option maxHeartbeats 400000 in
theorem cut_some (w : World) (fb g k c sy n m : Nat) (h : Hid (w.heap[fb]? = some (.cells #[.slice (some ⟨g, 0, none⟩) k c, .int .i64 sy] 84 (0, 0)))) (hn : n ≤ k) (hk : k ≤ c) (_hc : c ≤ 9223372036854775807) (hm : Hid (m = min sy n)) :
    Calls Try.prog 56 #[.pointer (some ⟨fb, 0, none⟩), .int .i64 n] w fun e w' => e = .returned (.tuple #[]) ∧ w' = (w.setCell ⟨fb, 0, none⟩ (.slice (some ⟨g, 0, none⟩) n c)).setCell ⟨fb, 1, none⟩ (.int .i64 m) := by
  obtain ⟨e0, e1⟩ := c2 h.out
  have f0 := fz h.out 0
  have h1 := setB (i := 0) h.out (.slice (some ⟨g, 0, none⟩) n c)
  have e1' := (c2 h1).2
  have f1 := fz h1 1
  clear h1
  go_enter Try.func56, Try.ntmps56
  go_wp2_with fail
  go_end0
  have hm' : (m : Int) = min (sy : Int) (n : Int) := by have := hm.out; omega
  rw [hm']
  exact ⟨rfl, rfl⟩
set_option maxHeartbeats 400000 in
theorem cut_none (w : World) (fb sy : Nat) (h : Hid (w.heap[fb]? = some (.cells #[.slice none 0 0, .int .i64 sy] 84 (0, 0)))) :
    Calls Try.prog 56 #[.pointer (some ⟨fb, 0, none⟩), .int .i64 0] w fun e w' => e = .returned (.tuple #[]) ∧ w' = (w.setCell ⟨fb, 0, none⟩ (.slice none 0 0)).setCell ⟨fb, 1, none⟩ (.int .i64 0) := by
  obtain ⟨e0, e1⟩ := c2 h.out
  have f0 := fz h.out 0
  have h1 := setB (i := 0) h.out (.slice none 0 0)
  have e1' := (c2 h1).2
  have f1 := fz h1 1
  clear h1
  go_enter Try.func56, Try.ntmps56
  go_wp2_with fail
  go_end0
  have hm' : min (sy : Int) 0 = 0 := by omega
  rw [hm']
  exact ⟨rfl, rfl⟩

set_option maxRecDepth 100000 in
theorem xor255 (y : UInt8) : bits .xor .u8 (y.toNat : Int) 255 = 255 - (y.toNat : Int) := by
  have h : ∀ n : Fin 256, bits .xor .u8 (n.val : Int) 255 = 255 - (n.val : Int) := by decide
  exact h ⟨y.toNat, y.toNat_lt⟩
theorem kept_eq (x : UInt8) (u kp : Nat) (h : kp = x.toNat % (u + 1)) : (wrap64 (x.toNat : Int)).tmod ((u : Int) + 1) = (kp : Int) := by
  have hx := x.toNat_lt
  have hw : wrap64 (x.toNat : Int) = (x.toNat : Int) := by unfold wrap64; omega
  rw [hw, h]
  rw [Int.tmod_eq_emod_of_nonneg (by omega), Int.natCast_emod]
  rfl
theorem cut_at (w : World) (fb g k c sy kp : Nat) (h : w.heap[fb]? = some (.cells #[.slice (some ⟨g, 0, none⟩) k c, .int .i64 sy] 84 (0, 0))) (hn : sy + kp ≤ k) (hk : k ≤ c) (hc : c ≤ 9223372036854775807) :
    Calls Try.prog 56 #[.pointer (some ⟨fb, 0, none⟩), .int .i64 ((sy : Int) + (kp : Int))] w fun e w' => e = .returned (.tuple #[]) ∧ w'.heap[fb]? = some (.cells #[.slice (some ⟨g, 0, none⟩) (sy + kp) c, .int .i64 sy] 84 (0, 0)) ∧ Kp (· = fb) w w' := by
  rw [← Int.natCast_add]
  refine (cut_some w fb g k c sy (sy + kp) sy h hn hk hc (by unfold Hid; omega)).mono ?_
  rintro e w' ⟨rfl, rfl⟩
  exact ⟨rfl, setB (i := 1) (setB (i := 0) h _) _, (Kp.of_set (S := (· = fb)) w ⟨fb, 0, none⟩ _ rfl).trans (Kp.of_set (S := (· = fb)) _ ⟨fb, 1, none⟩ _ rfl) fun _ _ h => h⟩

set_option maxHeartbeats 1000000 in
set_option maxRecDepth 100000 in
theorem crash_keep (w : World) (fb g k c sy kp : Nat) (x : UInt8) (h : Hid (w.heap[fb]? = some (.cells #[.slice (some ⟨g, 0, none⟩) k c, .int .i64 sy] 84 (0, 0)))) (hs : sy ≤ k) (hk : k ≤ c) (hb : k ≤ 1048576) (hc : c ≤ 9223372036854775807) (hkp : Hid (kp = x.toNat % (k - sy + 1))) (hx : (x.toNat : Int) < 128 ∨ kp = 0) :
    Calls Try.prog 35 #[.pointer (some ⟨fb, 0, none⟩), .int .u8 x.toNat] w fun e w' => e = .returned (.tuple #[]) ∧ w'.heap[fb]? = some (.cells #[.slice (some ⟨g, 0, none⟩) (sy + kp) c, .int .i64 ((sy : Int) + (kp : Int))] 84 (0, 0)) ∧ Kp (· = fb) w w' := by
  have H41 : Hid (Calls Try.prog 33 #[.pointer (some ⟨fb, 0, none⟩)] w fun e w' => e = .returned (.int .i64 ((k - sy : Nat) : Int)) ∧ Below w.heap.size w w') := unsynced_at w fb _ k c sy hb hs h
  have hkl : kp ≤ k - sy := by have h1 := hkp.out; have := Nat.mod_lt x.toNat (show 0 < k - sy + 1 by omega); omega
  have hK := kept_eq x (k - sy) kp hkp.out
  have H50 : Hid (∀ V : World, V.heap[fb]? = some (.cells #[.slice (some ⟨g, 0, none⟩) k c, .int .i64 sy] 84 (0, 0)) → Calls Try.prog 56 #[.pointer (some ⟨fb, 0, none⟩), .int .i64 ((sy : Int) + (kp : Int))] V fun e w' => e = .returned (.tuple #[]) ∧ w'.heap[fb]? = some (.cells #[.slice (some ⟨g, 0, none⟩) (sy + kp) c, .int .i64 sy] 84 (0, 0)) ∧ Kp (· = fb) V w') := fun V hV => cut_at V fb g k c sy kp hV (by omega) hk hc
  generalize hu : k - sy = u at *
  go_enter Try.func35, Try.ntmps35
  go_upto_region 1 with (go_at_call 33; refine H41.out.mono ?_; rintro e w1 ⟨rfl, b1⟩)
  have C1 := at_below b1 (Nat.le_refl _) h.out
  obtain ⟨e0, e1⟩ := c2 C1
  have K1 : Hid (Kp (· = fb) w w1) := Kp.of_below b1
  have HC1 : Hid _ := C1
  clear C1 b1 hK
  go_wp2_with (go_at_call 56; refine (H50.out _ HC1.out).mono ?_)
  rintro e w2 ⟨rfl, C2, k2⟩
  clear e0 e1
  obtain ⟨e0, e1⟩ := c2 C2
  have f1 := fz C2 1
  have C3 := setB (i := 1) C2 (.int .i64 ((sy : Int) + (kp : Int)))
  have P : Hid _ := And.intro C3 ((K1.out.trans k2 fun _ _ h => h).trans (Kp.of_set (S := (· = fb)) w2 ⟨fb, 1, none⟩ (.int .i64 ((sy : Int) + (kp : Int))) rfl) fun _ _ h => h)
  clear C2 C3 k2
  by_cases h1 : (128 : Int) ≤ (x.toNat : Int)
  · have kp0 : ¬ (0 : Int) < (kp : Int) := by omega
    go_wp2_with fail
    go_end0
    exact ⟨rfl, P.out.1, P.out.2⟩
  · go_wp2_with fail
    go_end0
    exact ⟨rfl, P.out.1, P.out.2⟩

set_option maxHeartbeats 1000000 in
set_option maxRecDepth 100000 in
theorem crash_flip (w : World) (fb g k c sy kp i : Nat) (x y : UInt8) (cur : Array Value) (h : Hid (w.heap[fb]? = some (.cells #[.slice (some ⟨g, 0, none⟩) k c, .int .i64 sy] 84 (0, 0)))) (hg : Hid (w.heap[g]? = some (.cells cur 5 (0, 0)))) (hne : Hid (g ≠ fb)) (hy : Hid (cur[i]? = some (.int .u8 y.toNat))) (hs : sy ≤ k) (hk : k ≤ c) (hb : k ≤ 1048576) (hc : c ≤ 9223372036854775807) (hkp : Hid (kp = x.toNat % (k - sy + 1))) (hx : 128 ≤ (x.toNat : Int)) (hx0 : 0 < (kp : Int)) (hi : Hid (sy + kp = i + 1)) (hil : i < 1048576) :
    Calls Try.prog 35 #[.pointer (some ⟨fb, 0, none⟩), .int .u8 x.toNat] w fun e w' => e = .returned (.tuple #[]) ∧ w'.heap[fb]? = some (.cells #[.slice (some ⟨g, 0, none⟩) (i + 1) c, .int .i64 ((i : Int) + 1)] 84 (0, 0)) ∧ (∃ z : Int, w'.heap[g]? = some (.cells (cur.setIfInBounds i (.int .u8 z)) 5 (0, 0)) ∧ z = 255 - (y.toNat : Int)) ∧ Kp (fun k => k = fb ∨ k = g) w w' := by
  have H41 : Hid (Calls Try.prog 33 #[.pointer (some ⟨fb, 0, none⟩)] w fun e w' => e = .returned (.int .i64 ((k - sy : Nat) : Int)) ∧ Below w.heap.size w w') := unsynced_at w fb _ k c sy hb hs h
  have hkl : kp ≤ k - sy := by have h1 := hkp.out; have := Nat.mod_lt x.toNat (show 0 < k - sy + 1 by omega); omega
  have hK := kept_eq x (k - sy) kp hkp.out
  have H50 : Hid (∀ V : World, V.heap[fb]? = some (.cells #[.slice (some ⟨g, 0, none⟩) k c, .int .i64 sy] 84 (0, 0)) → Calls Try.prog 56 #[.pointer (some ⟨fb, 0, none⟩), .int .i64 ((sy : Int) + (kp : Int))] V fun e w' => e = .returned (.tuple #[]) ∧ w'.heap[fb]? = some (.cells #[.slice (some ⟨g, 0, none⟩) (sy + kp) c, .int .i64 sy] 84 (0, 0)) ∧ Kp (· = fb) V w') := fun V hV => cut_at V fb g k c sy kp hV (by omega) hk hc
  generalize hu : k - sy = u at *
  go_enter Try.func35, Try.ntmps35
  go_upto_region 1 with (go_at_call 33; refine H41.out.mono ?_; rintro e w1 ⟨rfl, b1⟩)
  have C1 := at_below b1 (Nat.le_refl _) h.out
  obtain ⟨e0, e1⟩ := c2 C1
  have K1 : Hid (Kp (· = fb) w w1) := Kp.of_below b1
  have HC1 : Hid _ := C1
  clear C1 b1 hK
  go_wp2_with (go_at_call 56; refine (H50.out _ HC1.out).mono ?_)
  rintro e w2 ⟨rfl, C2, k2⟩
  clear e0 e1
  rw [hi.out] at C2
  have K2 : Hid (Kp (· = fb) w w2) := K1.out.trans k2 fun _ _ h => h
  have G2 : w2.heap[g]? = some (.cells cur 5 (0, 0)) := (K2.out.block g (Array.getElem?_eq_some_iff.1 hg.out).1 hne.out).trans hg.out
  obtain ⟨e0, e1⟩ := c2 C2
  have er : w2.cell? ⟨g, i, none⟩ = some (.int .u8 y.toNat) := by simp only [World.cell?, G2]; simpa using hy.out
  have fr := fz G2 i
  have HC2 : Hid _ := C2
  have HG2 : Hid _ := G2
  clear C2 G2 k2
  go_wp2_with fail
  go_region
  have C4 : Hid ((w2.setCell ⟨g, i, none⟩ (.int .u8 (bits .xor .u8 (y.toNat : Int) 255))).drew.heap[fb]? = some (.cells #[.slice (some ⟨g, 0, none⟩) (i + 1) c, .int .i64 sy] 84 (0, 0))) := (Below.heap_setCell _ _ _ _ (fun e => hne.out (by simpa using e.symm))).trans HC2.out
  have G4 : Hid ((w2.setCell ⟨g, i, none⟩ (.int .u8 (bits .xor .u8 (y.toNat : Int) 255))).drew.heap[g]? = some (.cells (cur.setIfInBounds i (.int .u8 (bits .xor .u8 (y.toNat : Int) 255))) 5 (0, 0))) := setB HG2.out _
  have K4 : Hid (Kp (fun k => k = fb ∨ k = g) w (w2.setCell ⟨g, i, none⟩ (.int .u8 (bits .xor .u8 (y.toNat : Int) 255))).drew) := by
    have := (K2.out.mono (S' := fun k => k = fb ∨ k = g) fun k _ e => .inl e).trans (Kp.of_set (S := fun k => k = fb ∨ k = g) w2 ⟨g, i, none⟩ (.int .u8 (bits .xor .u8 (y.toNat : Int) 255)) (.inr rfl)) fun _ _ h => h
    exact ⟨this.os, this.tape, this.output, this.size, this.block⟩
  have e255 : Hid (bits .xor .u8 (y.toNat : Int) 255 = 255 - (y.toNat : Int)) := xor255 y
  clear e0 e1 er fr
  generalize (w2.setCell ⟨g, i, none⟩ (.int .u8 (bits .xor .u8 (y.toNat : Int) 255))).drew = W at *
  obtain ⟨e0, e1⟩ := c2 C4.out
  have f1 := fz C4.out 1
  have C5 : Hid ((W.setCell ⟨fb, 1, none⟩ (.int .i64 ((i : Int) + 1))).heap[fb]? = some (.cells #[.slice (some ⟨g, 0, none⟩) (i + 1) c, .int .i64 ((i : Int) + 1)] 84 (0, 0))) := setB C4.out _
  have G5 : Hid ((W.setCell ⟨fb, 1, none⟩ (.int .i64 ((i : Int) + 1))).heap[g]? = some (.cells (cur.setIfInBounds i (.int .u8 (bits .xor .u8 (y.toNat : Int) 255))) 5 (0, 0))) := (Below.heap_setCell _ _ _ _ (fun e => hne.out (by simpa using e))).trans G4.out
  go_wp2_with fail
  go_end0
  exact ⟨rfl, C5.out, ⟨_, G5.out, e255.out⟩, K4.out.trans (Kp.of_set (S := fun k => k = fb ∨ k = g) W ⟨fb, 1, none⟩ _ (.inl rfl)) fun _ _ h => h⟩

def crashB (b : List UInt8) (sy : Nat) (x : UInt8) : List UInt8 :=
  if 128 ≤ x.toNat ∧ 0 < x.toNat % (b.length - sy + 1) then (b.take (sy + x.toNat % (b.length - sy + 1))).set (sy + x.toNat % (b.length - sy + 1) - 1) (255 - b.getD (sy + x.toNat % (b.length - sy + 1) - 1) 0)
  else b.take (sy + x.toNat % (b.length - sy + 1))
theorem kp_le (b : List UInt8) (sy : Nat) (x : UInt8) (h : sy ≤ b.length) : sy + x.toNat % (b.length - sy + 1) ≤ b.length := by
  have := Nat.mod_lt x.toNat (show 0 < b.length - sy + 1 by omega)
  omega
theorem crashB_length (b : List UInt8) (sy : Nat) (x : UInt8) (h : sy ≤ b.length) : (crashB b sy x).length = sy + x.toNat % (b.length - sy + 1) := by
  have := kp_le b sy x h
  unfold crashB
  split
  · rw [List.length_set, List.length_take]; omega
  · rw [List.length_take]; omega

theorem Own.take {w : World} {B g n c n' : Nat} {l : List UInt8} (h : Own w B (.slice (some ⟨g, 0, none⟩) n c) l) (hn : n' ≤ l.length) : Own w B (.slice (some ⟨g, 0, none⟩) n' c) (l.take n') := by
  have hl : (l.take n').length = n' := by rw [List.length_take]; omega
  refine ⟨by rw [bv_length, Nat.mul_one], ?_⟩
  rcases h.2 with ⟨e, _⟩ | ⟨g', cap, cur, e, hb, hgg, h1, h2, h3, h4⟩
  · cases e
  · cases e
    refine .inr ⟨g, c, cur, by rw [hl], hb, hgg, by omega, h2, h3, ?_⟩
    rw [hl, Nat.mul_one]
    rw [Nat.mul_one] at h4
    unfold bv at h4 ⊢
    rw [List.map_take, ← h4, List.take_take]
    congr 1
    omega
theorem Own.flip {w w' : World} {g n c i : Nat} {l : List UInt8} {y : UInt8} {cur : Array Value} (h : Own w 0 (.slice (some ⟨g, 0, none⟩) n c) l) (hc : w.heap[g]? = some (.cells cur 5 (0, 0))) (hg : w'.heap[g]? = some (.cells (cur.setIfInBounds i (.int .u8 y.toNat)) 5 (0, 0))) (hi : i < l.length) : Own w' 0 (.slice (some ⟨g, 0, none⟩) (i + 1) c) ((l.take (i + 1)).set i y) := by
  have hl : ((l.take (i + 1)).set i y).length = i + 1 := by rw [List.length_set, List.length_take]; omega
  refine ⟨by rw [bv_length, Nat.mul_one], ?_⟩
  rcases h.2 with ⟨e, _⟩ | ⟨g', cap, cur', e, hb, hgg, h1, h2, h3, h4⟩
  · cases e
  · cases e
    rw [hc] at hgg
    cases hgg
    refine .inr ⟨g, c, cur.setIfInBounds i (.int .u8 y.toNat), by rw [hl], Nat.zero_le _, hg, by omega, h2, by rw [Array.size_setIfInBounds]; exact h3, ?_⟩
    rw [hl, Nat.mul_one, Array.toList_setIfInBounds, List.take_set]
    rw [Nat.mul_one] at h4
    unfold bv at h4 ⊢
    rw [List.map_set, List.map_take, ← h4, List.take_take]
    congr 2
    omega

theorem DkAt.crashed {w w' : World} {tg : Nat → Tg} {pb : Nat} {D : DK} {mb : Option Nat} {l : List Fl} {z : Int} {f : Fl} {n b' : List UInt8} {g c t : Nat} (h : DkAt w tg pb D mb l z) (hf : fnd Fl.nm n l = some f) (hg : f.v.ownBlock = some g) (ht : b'.length = t) (hl : t ≤ 1048576)
    (hc : w'.heap[f.fb]? = some (.cells #[.slice (some ⟨g, 0, none⟩) t c, .int .i64 t] 84 (0, 0))) (ho : Own w' 0 (.slice (some ⟨g, 0, none⟩) t c) b') (hk : Kp (fun k => k = f.fb ∨ k = g) w w') :
    DkAt w' tg pb ⟨upd Fil.nm n ⟨n, b', b'.length⟩ D.fs, D.down, D.fuse⟩ mb (upd Fl.nm n ⟨n, b', b'.length, f.fb, .slice (some ⟨g, 0, none⟩) t c⟩ l) z ∧ Step tg tg w w' := by
  obtain ⟨hfl, hfn⟩ := fnd_some hf
  have hF := h.fl f hfl
  have hk' : Kp (fun k => tg k = .fl n ∨ tg k = .rw n) w w' := hk.mono fun k _ e => by
    rcases e with rfl | rfl
    · exact .inl (by rw [hF.tb, hfn])
    · exact .inr (by rw [hF.tr _ hg, hfn])
  refine ⟨?_, hk'.mono fun k _ e => by rcases e with e | e <;> rw [e] <;> exact nofun, fun _ h => .inl h⟩
  have := h.updated (f' := ⟨n, b', b'.length, f.fb, .slice (some ⟨g, 0, none⟩) t c⟩) hf rfl rfl hk' (fun k _ e => e) (fun _ _ => rfl) (fun k hk1 => Nat.lt_of_lt_of_le (h.lt k hk1) hk.size)
    ⟨by rw [ht]; exact hc, ho, by rw [hF.tb, hfn], fun g' hg' => by cases hg'; rw [hF.tr g hg, hfn], Nat.le_refl _, by show b'.length ≤ _; omega⟩
  rw [map_upd Fl.s_nm, ← h.fs] at this
  exact this

/-- what a crash leaves of a file with bytes that aren't synced -/
theorem crash_any {w : World} {tg : Nat → Tg} {pb : Nat} {D : DK} {mb : Option Nat} {l : List Fl} {z : Int} {f : Fl} {n : List UInt8} (h : DkAt w tg pb D mb l z) (hf : fnd Fl.nm n l = some f) (hs : f.sy < f.b.length) (x : UInt8) :
    Calls Try.prog 35 #[.pointer (some ⟨f.fb, 0, none⟩), .int .u8 x.toNat] w fun e w' => e = .returned (.tuple #[]) ∧ ∃ v, DkAt w' tg pb ⟨upd Fil.nm n ⟨n, crashB f.b f.sy x, (crashB f.b f.sy x).length⟩ D.fs, D.down, D.fuse⟩ mb (upd Fl.nm n ⟨n, crashB f.b f.sy x, (crashB f.b f.sy x).length, f.fb, v⟩ l) z ∧ Step tg tg w w' := by
  obtain ⟨hfl, hfn⟩ := fnd_some hf
  have hF := h.fl f hfl
  have hne : f.v.ownBlock ≠ some f.fb := fun e => by have := hF.tr _ e; rw [hF.tb] at this; cases this
  have hown := hF.own
  obtain ⟨_, cc, hv, hcc⟩ : ∃ (g c : Nat), f.v = .slice (some ⟨g, 0, none⟩) f.b.length c ∧ (∃ cur, w.heap[g]? = some (.cells cur 5 (0, 0)) ∧ f.b.length ≤ c ∧ c ≤ maxLen ∧ cur.toList.take (f.b.length * 1) = bv f.b) := by
    rcases hown.2 with ⟨_, h0⟩ | ⟨g, cap, cur, e, hb, hgg, h1, h2, h3, h4⟩
    · omega
    · exact ⟨g, cap, e, cur, hgg, h1, h2, h4⟩
  rename_i g
  obtain ⟨cur, hgg, hcap, hmax, hcur⟩ := hcc
  have hob : f.v.ownBlock = some g := by rw [hv]; rfl
  have hgne : g ≠ f.fb := fun e => hne (by rw [hob, e])
  have hcell := hF.cell
  rw [hv] at hcell
  have hown' := hown
  rw [hv] at hown'
  have hkle := kp_le f.b f.sy x hF.hs
  have hlen := crashB_length f.b f.sy x hF.hs
  have hbl := hF.hl
  by_cases hfl' : 128 ≤ x.toNat ∧ 0 < x.toNat % (f.b.length - f.sy + 1)
  · obtain ⟨i, hi⟩ : ∃ i, f.sy + x.toNat % (f.b.length - f.sy + 1) = i + 1 := ⟨f.sy + x.toNat % (f.b.length - f.sy + 1) - 1, by omega⟩
    obtain ⟨y, hy⟩ : ∃ y, f.b[i]? = some y := ⟨f.b[i]'(by omega), List.getElem?_eq_getElem _⟩
    have hcy : cur[i]? = some (.int .u8 y.toNat) := by
      have h1 := bv_get hy
      rw [← hcur, List.getElem?_take] at h1
      rw [if_pos (by omega)] at h1
      simpa using h1
    have hB : crashB f.b f.sy x = (f.b.take (i + 1)).set i (255 - y) := by
      unfold crashB
      rw [if_pos hfl', hi, Nat.add_sub_cancel]
      congr 2
      rw [List.getD_eq_getElem?_getD, hy]
      rfl
    refine (crash_flip w f.fb g f.b.length cc f.sy _ i x y cur hcell hgg hgne hcy hF.hs hcap hbl (by unfold maxLen at hmax; omega) rfl (by omega) (by omega) hi (by omega)).mono ?_
    rintro e w' ⟨rfl, h1, ⟨zz, h2, hz⟩, hk⟩
    refine ⟨rfl, .slice (some ⟨g, 0, none⟩) (i + 1) cc, ?_⟩
    rw [hi] at hlen
    refine h.crashed hf hob hlen (by omega) h1 ?_ hk
    rw [hB]
    rw [hz, inv_byte y] at h2
    exact hown'.flip hgg h2 (by omega)
  · have hB : crashB f.b f.sy x = f.b.take (f.sy + x.toNat % (f.b.length - f.sy + 1)) := by unfold crashB; rw [if_neg hfl']
    refine (crash_keep w f.fb g f.b.length cc f.sy _ x hcell hF.hs hcap hbl (by unfold maxLen at hmax; omega) rfl (by omega)).mono ?_
    rintro e w' ⟨rfl, h1, hk⟩
    refine ⟨rfl, .slice (some ⟨g, 0, none⟩) (f.sy + x.toNat % (f.b.length - f.sy + 1)) cc, ?_⟩
    refine h.crashed hf hob hlen (by omega) ?_ ?_ (hk.mono fun k _ e => .inl e)
    · rw [h1, Int.natCast_add]
    · rw [hB]
      exact (hown'.take hkle).keepAt fun g' hg' => by cases hg'; exact hk.block g (Array.getElem?_eq_some_iff.1 hgg).1 hgne
end Go.Proofs.Ytplcpjngpkghmaa

namespace Go.Proofs.Ytplcpjngpkghmaa
open Go.RowKit Go.Maps Go.WideMaps Go.Sort

def renameD (D : DK) (n t : List UInt8) : Int × DK := if D.down then (11, D) else match fnd Fil.nm n D.fs with
  | none => (3, D)
  | some f => if okN t = false then (4, D) else if (burn D).1 then (0, ⟨ins Fil.nm ⟨t, f.b, f.sy⟩ (drp Fil.nm t (drp Fil.nm n D.fs)), (burn D).2.down, (burn D).2.fuse⟩) else (11, (burn D).2)

def tagM (tg : Nat → Tg) (n t : List UInt8) : Nat → Tg := fun k => match tg k with
  | .fl x => if x = n then .fl t else if x = t then .no else .fl x
  | .rw x => if x = n then .rw t else if x = t then .no else .rw x
  | y => y
theorem tagM_no {tg : Nat → Tg} {n t : List UInt8} {k : Nat} (h : tagM tg n t k ≠ .no) : tg k ≠ .no := fun e => h (by unfold tagM; rw [e])
theorem drp_lt {α : Type} {nm : α → List UInt8} {n : List UInt8} {l : List α} {f : α} (h : fnd nm n l = some f) : (drp nm n l).length < l.length := by
  obtain ⟨h1, h2⟩ := fnd_some h
  unfold drp
  exact List.length_filter_lt_length_iff_exists.2 ⟨f, h1, by simp [h2]⟩
theorem drp_le {α : Type} {nm : α → List UInt8} {n : List UInt8} {l : List α} : (drp nm n l).length ≤ l.length := List.length_filter_le ..

/-- a file taken out of the map and put in again under another name -/
theorem DkAt.renamed {w w3 w4 : World} {tg : Nat → Tg} {pb m m' : Nat} {D : DK} {l : List Fl} {z : Int} {f : Fl} {n t : List UInt8} (h : DkAt w tg pb D (some m) l z) (hf : fnd Fl.nm n l = some f) (ht : w.mapTurned w3 m)
    (hm' : some m = some m' ∨ (some m = none ∧ m' = w3.heap.size)) (hc : w4.heap[pb]? = some (.cells #[.map (some m'), .bool D.down, .bool D.fuse.isSome, .int .i64 z] 63 (0, 0)))
    (ho : w4.ownsMap Try.prog 9 pE m' (ins Fl.nm ⟨t, f.b, f.sy, f.fb, f.v⟩ (drp Fl.nm t (drp Fl.nm n l))).length (mapOf (ins Fl.nm ⟨t, f.b, f.sy, f.fb, f.v⟩ (drp Fl.nm t (drp Fl.nm n l))))) (hk : Kp (fun k => k = pb ∨ some k = some m) w3 w4) :
    DkAt w4 (tagM tg n t) pb ⟨ins Fil.nm ⟨t, f.b, f.sy⟩ (drp Fil.nm t (drp Fil.nm n D.fs)), D.down, D.fuse⟩ (some m') (ins Fl.nm ⟨t, f.b, f.sy, f.fb, f.v⟩ (drp Fl.nm t (drp Fl.nm n l))) z ∧ Step tg (tagM tg n t) w w4 := by
  obtain ⟨hfl, hfn⟩ := fnd_some hf
  have hF := h.fl f hfl
  have hmp : tg m = .mp := h.mp.1
  obtain rfl : m = m' := by
    rcases hm' with e | ⟨e, _⟩
    · exact Option.some.inj e
    · cases e
  have hk' : Kp (fun k => k = pb ∨ k = m) w w4 := (Kp.of_grown (S := fun k => k = pb ∨ k = m) ht.grown (fun k e => .inr (Option.some.inj e).symm)).trans (hk.mono (S' := fun k => k = pb ∨ k = m) fun k _ e => e.imp id Option.some.inj) fun _ _ h => h
  have hS : ∀ k, k < w.heap.size → (k = pb ∨ k = m) → tg k = .dk ∨ tg k = .mp := fun k _ e => by
    rcases e with rfl | rfl
    · exact .inl h.tp
    · exact .inr hmp
  have hkeep : ∀ k, (tg k = .fl n ∨ tg k = .rw n) → w4.heap[k]? = w.heap[k]? := fun k hk1 => by
    have hlt := h.lt k (by rcases hk1 with hk1 | hk1 <;> rw [hk1] <;> exact nofun)
    refine hk'.block k hlt fun e => ?_
    rcases hS k hlt e with h2 | h2 <;> rcases hk1 with hk1 | hk1 <;> rw [hk1] at h2 <;> cases h2
  refine ⟨?_, hk'.mono fun k hlt e => by rcases hS k hlt e with e | e <;> rw [e] <;> exact nofun, fun k hk1 => .inl (tagM_no hk1)⟩
  have hlen : (ins Fl.nm (⟨t, f.b, f.sy, f.fb, f.v⟩ : Fl) (drp Fl.nm t (drp Fl.nm n l))).length ≤ 64 := by
    rw [ins_length]
    have h1 := drp_lt hf
    have h2 : (drp Fl.nm t (drp Fl.nm n l)).length ≤ (drp Fl.nm n l).length := drp_le
    have := h.len
    omega
  have := h.putted (tg' := tagM tg n t) (f := ⟨t, f.b, f.sy, f.fb, f.v⟩) (l1 := drp Fl.nm n l) hc hk' hS (by unfold tagM; rw [h.tp]) (by unfold tagM; rw [hmp]) ?_ ?_ ho hlen (fun k hk1 => Nat.lt_of_lt_of_le (h.lt k (tagM_no hk1)) hk'.size) (srt_drp h.srt) (fun g hg => (mem_drp.1 hg).1)
  · rw [map_ins Fl.s_nm, map_drp Fl.s_nm, map_drp Fl.s_nm, ← h.fs] at this
    exact this
  · intro g hg hg2 k hk1
    have hg1 := (mem_drp.1 hg).2
    unfold tagM
    rcases hk1 with hk1 | hk1 <;> rw [hk1] <;> simp only <;> rw [if_neg hg1, if_neg hg2]
  · have tb : tg f.fb = .fl n := by rw [hF.tb, hfn]
    have tr : ∀ g, f.v.ownBlock = some g → tg g = .rw n := fun g hg => by rw [hF.tr g hg, hfn]
    refine ⟨(hkeep _ (.inl tb)).trans hF.cell, hF.own.keepAt fun g hg => hkeep g (.inr (tr g hg)), ?_, fun g hg => ?_, hF.hs, hF.hl⟩
    · show tagM tg n t f.fb = .fl t
      unfold tagM; rw [tb]; simp
    · show tagM tg n t g = .rw t
      unfold tagM; rw [tr g hg]; simp

set_option maxHeartbeats 400000 in
theorem rename_no (w : World) (p : Value) (s t : ByteArray) (c : Int) (hc : (c != 0) = true) (H : Hid (Calls Try.prog 53 #[p, .string s] w fun e w' => e = .returned (.tuple #[.pointer none, .int .i64 c]) ∧ w' = w)) :
    Calls Try.prog 61 #[p, .string s, .string t] w fun e w' => e = .returned (.int .i64 c) ∧ w' = w := by
  go_enter Try.func61, Try.ntmps61
  go_wp2_with (go_at_call 53; refine H.out.mono ?_)
  rintro e w1 ⟨rfl, rfl⟩
  go_wp2_with fail
  go_ret
  exact ⟨rfl, rfl⟩

set_option maxHeartbeats 2000000 in
set_option maxRecDepth 100000 in
theorem rename_yes {w : World} {tg : Nat → Tg} {pb m : Nat} {D : DK} {l : List Fl} {z : Int} (h : Hid (DkAt w tg pb D (some m) l z)) (s t : ByteArray) (hs : Hid (s.size ≤ maxLen)) (ht : Hid (t.size ≤ 281474976710656)) (nm b : List UInt8) (sy fb : Nat) (fv : Value) (hf : Hid (fnd Fl.nm s.data.toList l = some ⟨nm, b, sy, fb, fv⟩)) (hd : Hid (D.down = false))
    (H : Hid (Calls Try.prog 53 #[.pointer (some ⟨pb, 0, none⟩), .string s] w fun e w' => e = .returned (.tuple #[.pointer (some ⟨fb, 0, none⟩), .int .i64 0]) ∧ w' = w)) :
    Calls Try.prog 61 #[.pointer (some ⟨pb, 0, none⟩), .string s, .string t] w fun e w' => e = .returned (.int .i64 (renameD D s.data.toList t.data.toList).1) ∧ ∃ tg', Dsk w' tg' pb (renameD D s.data.toList t.data.toList).2 ∧ Step tg tg' w w' := by
  have hff : fnd Fil.nm s.data.toList D.fs = some ⟨nm, b, sy⟩ := by rw [h.out.fs, ← map_fnd Fl.s_nm, hf.out]; rfl
  obtain ⟨x, hx⟩ : ∃ x, okN t.data.toList = x := ⟨_, rfl⟩
  obtain ⟨y, D1, hy⟩ : ∃ y D1, burn D = (y, D1) := ⟨_, _, rfl⟩
  obtain ⟨hy1, hy2⟩ := burn_eta _ hy
  have H35 : Hid (∀ w, Calls Try.prog 49 #[.string t] w fun e w' => e = .returned (.bool x) ∧ w' = w) := fun w => hx ▸ formed_any t w
  have H37 : Hid (Calls Try.prog 51 #[.pointer (some ⟨pb, 0, none⟩)] w fun e w' => e = .returned (.bool y) ∧ (∃ z', DkAt w' tg pb D1 (some m) l z') ∧ Step tg tg w w') := by
    have := goes_any h.out
    rw [hy1, hy2] at this
    exact this
  have HF : Hid (D1.fs = D.fs) := by have := burn_fs D; rw [hy2] at this; exact this
  have HA : Hid (renameD D s.data.toList t.data.toList = if x = false then (4, D) else if y then (0, ⟨ins Fil.nm ⟨t.data.toList, b, sy⟩ (drp Fil.nm t.data.toList (drp Fil.nm s.data.toList D.fs)), D1.down, D1.fuse⟩) else (11, D1)) := by
    unfold Hid renameD
    simp only [hd.out, hff, hx, hy1, hy2, Bool.false_eq_true, if_false]
  have hkey : Hid (keyOf Try.prog 9 (.string s) = some (.string s.data.toList)) := keyOf_string_mk (P := Try.prog) Try.underlying9 hs.out
  generalize renameD D s.data.toList t.data.toList = A at *
  clear hff hx hy hy1 hy2
  go_enter Try.func61, Try.ntmps61
  go_wp2_with (go_at_call 53; refine H.out.mono ?_)
  rintro e w1 ⟨rfl, rfl⟩
  go_wp2_with (go_at_call 49; refine (H35.out _).mono ?_)
  rintro e w1 ⟨rfl, rfl⟩
  cases x with
  | false =>
    go_wp2_with fail
    go_ret
    rw [HA.out, if_pos (by simp)]
    exact ⟨rfl, tg, ⟨_, l, z, h.out⟩, Step.refl _ _⟩
  | true =>
    go_wp2_with (go_at_call 51; refine H37.out.mono ?_)
    rintro e w2 ⟨rfl, ⟨z', h2⟩, st⟩
    have H2 : Hid (DkAt w2 tg pb D1 (some m) l z') := h2
    have ST : Hid (Step tg tg w1 w2) := st
    clear h2 st
    cases y with
    | false =>
      go_wp2_with fail
      go_ret
      rw [HA.out, if_neg (by simp), if_neg (by simp)]
      exact ⟨rfl, tg, ⟨_, l, z', H2.out⟩, ST.out⟩
    | true =>
      obtain ⟨e0, -, -, -⟩ := c4 H2.out.cell
      go_wp2_with (at_delete; refine wpList_delete_own _ rfl _ _ 61 9 rfl 66 law9 Try.underlying61 pE m l.length (mapOf l) rfl H2.out.mp.2 _ _ rfl hkey.out ?_)
      intro w3 ho3 ht3
      rw [mapOf_del] at ho3
      have hne : m ≠ pb := fun e => by have := H2.out.mp.1; rw [e, H2.out.tp] at this; cases this
      have hc3 : w3.heap[pb]? = some (.cells #[.map (some m), .bool D1.down, .bool D1.fuse.isSome, .int .i64 z'] 63 (0, 0)) := (ht3.grown.block pb (Array.getElem?_eq_some_iff.1 H2.out.cell).1 (fun e => hne (Option.some.inj e).symm)).trans H2.out.cell
      have ho3' := tight ho3
      rw [mapOf_size] at ho3'
      have H45 : Hid (Calls Try.prog 64 #[.pointer (some ⟨pb, 0, none⟩), .string t, .pointer (some ⟨fb, 0, none⟩)] w3 fun e w' => e = .returned (.tuple #[]) ∧ ∃ m', (some m = some m' ∨ (some m = none ∧ m' = w3.heap.size)) ∧
          w'.heap[pb]? = some (.cells #[.map (some m'), .bool D1.down, .bool D1.fuse.isSome, .int .i64 z'] 63 (0, 0)) ∧ w'.ownsMap Try.prog 9 pE m' (ins Fl.nm ⟨t.data.toList, b, sy, fb, fv⟩ (drp Fl.nm t.data.toList (drp Fl.nm s.data.toList l))).length (mapOf (ins Fl.nm ⟨t.data.toList, b, sy, fb, fv⟩ (drp Fl.nm t.data.toList (drp Fl.nm s.data.toList l)))) ∧ Kp (fun k => k = pb ∨ some k = some m) w3 w') :=
        put_any w3 pb (some m) (drp Fl.nm s.data.toList l) ⟨t.data.toList, b, sy, fb, fv⟩ _ _ _ t (by have := ht.out; unfold maxLen; omega) ht.out rfl hc3 ⟨hne, ho3'⟩ (by have := H2.out.len; have : (drp Fl.nm s.data.toList l).length ≤ l.length := drp_le; omega)
      have T3 : Hid (w2.mapTurned w3 m) := ht3
      clear e0 ho3 ho3' hc3 hne ht3
      go_wp2_with (go_at_call 64; refine H45.out.mono ?_)
      rintro e w4 ⟨rfl, m', hm', hc4, ho4, hk4⟩
      have h5 := H2.out.renamed hf.out T3.out hm' hc4 ho4 hk4
      rw [HF.out] at h5
      have H5 : Hid _ := h5
      clear h5 hm' hc4 ho4 hk4
      go_wp2_with fail
      go_ret
      rw [HA.out, if_neg (by simp), if_pos (by simp)]
      exact ⟨rfl, _, ⟨_, _, _, H5.out.1⟩, ST.out.trans H5.out.2⟩
theorem rename_any {w : World} {tg : Nat → Tg} {pb : Nat} {D : DK} (h : Dsk w tg pb D) (s t : ByteArray) (hs : s.size ≤ maxLen) (ht : t.size ≤ 281474976710656) :
    Calls Try.prog 61 #[.pointer (some ⟨pb, 0, none⟩), .string s, .string t] w fun e w' => e = .returned (.int .i64 (renameD D s.data.toList t.data.toList).1) ∧ ∃ tg', Dsk w' tg' pb (renameD D s.data.toList t.data.toList).2 ∧ Step tg tg' w w' := by
  obtain ⟨mb, l, z, h⟩ := h
  have hfd := find_any h s hs
  have hfs := h.fs
  unfold findP findC at hfd
  cases hd : D.down with
  | true =>
    simp only [hd, if_true] at hfd
    refine (rename_no w _ s t 11 rfl hfd).mono ?_
    rintro e w' ⟨rfl, rfl⟩
    have e : renameD D s.data.toList t.data.toList = (11, D) := by unfold renameD; simp [hd]
    rw [e]
    exact ⟨rfl, tg, ⟨mb, l, z, h⟩, Step.refl _ _⟩
  | false =>
    simp only [hd, Bool.false_eq_true, if_false] at hfd
    cases hf : fnd Fl.nm s.data.toList l with
    | none =>
      rw [hf] at hfd
      refine (rename_no w _ s t 3 rfl hfd).mono ?_
      rintro e w' ⟨rfl, rfl⟩
      have e : renameD D s.data.toList t.data.toList = (3, D) := by
        unfold renameD
        rw [hfs, ← map_fnd Fl.s_nm, hf]
        simp [hd]
      rw [e]
      exact ⟨rfl, tg, ⟨mb, l, z, h⟩, Step.refl _ _⟩
    | some f =>
      rw [hf] at hfd
      obtain ⟨nm, b, sy, fb, v⟩ := f
      cases mb with
      | none =>
        have : l = [] := h.mp
        rw [this] at hf
        cases hf
      | some m => exact rename_yes h s t hs ht nm b sy fb v hf hd hfd
end Go.Proofs.Ytplcpjngpkghmaa

namespace Go.Proofs.Ytplcpjngpkghmaa
open Go.RowKit Go.Maps Go.WideMaps Go.Sort

def removeD (D : DK) (n : List UInt8) : Int × DK := if D.down then (11, D) else match fnd Fil.nm n D.fs with
  | none => (3, D)
  | some _ => if (burn D).1 then (0, ⟨drp Fil.nm n D.fs, (burn D).2.down, (burn D).2.fuse⟩) else (11, (burn D).2)

theorem DkAt.removed {w w3 : World} {tg : Nat → Tg} {pb m : Nat} {D : DK} {l : List Fl} {z : Int} {n : List UInt8} (h : DkAt w tg pb D (some m) l z) (ht : w.mapTurned w3 m) (ho : w3.ownsMap Try.prog 9 pE m (drp Fl.nm n l).length (mapOf (drp Fl.nm n l))) :
    DkAt w3 tg pb ⟨drp Fil.nm n D.fs, D.down, D.fuse⟩ (some m) (drp Fl.nm n l) z ∧ Step tg tg w w3 := by
  have hmp : tg m = .mp := h.mp.1
  have hk : Kp (· = m) w w3 := Kp.of_grown (S := (· = m)) ht.grown (fun k e => (Option.some.inj e).symm)
  have hb : ∀ k, tg k ≠ .no → tg k ≠ .mp → w3.heap[k]? = w.heap[k]? := fun k h1 h2 => hk.block k (h.lt k h1) fun e => h2 (by rw [e]; exact hmp)
  refine ⟨⟨(hb pb (by rw [h.tp]; exact nofun) (by rw [h.tp]; exact nofun)).trans h.cell, h.tp, ?_, h.fz, ⟨hmp, ho⟩, fun f hf => ?_, srt_drp h.srt, Nat.le_trans drp_le h.len, fun k hk1 => Nat.lt_of_lt_of_le (h.lt k hk1) hk.size⟩, hk.mono fun k _ e => by rw [e, hmp]; exact nofun, fun _ h => .inl h⟩
  · show drp Fil.nm n D.fs = _
    rw [map_drp Fl.s_nm, h.fs]
  · refine (h.fl f (mem_drp.1 hf).1).keep (fun k hk1 => hb k ?_ ?_) (fun _ _ => rfl)
    all_goals rcases hk1 with hk1 | hk1 <;> rw [hk1] <;> exact nofun

set_option maxHeartbeats 400000 in
theorem remove_no (w : World) (p : Value) (s : ByteArray) (c : Int) (hc : (c != 0) = true) (H : Hid (Calls Try.prog 53 #[p, .string s] w fun e w' => e = .returned (.tuple #[.pointer none, .int .i64 c]) ∧ w' = w)) :
    Calls Try.prog 31 #[p, .string s] w fun e w' => e = .returned (.int .i64 c) ∧ w' = w := by
  go_enter Try.func31, Try.ntmps31
  go_wp2_with (go_at_call 53; refine H.out.mono ?_)
  rintro e w1 ⟨rfl, rfl⟩
  go_wp2_with fail
  go_ret
  exact ⟨rfl, rfl⟩
set_option maxHeartbeats 2000000 in
set_option maxRecDepth 100000 in
theorem remove_yes {w : World} {tg : Nat → Tg} {pb m fb : Nat} {D : DK} {l : List Fl} {z : Int} (h : Hid (DkAt w tg pb D (some m) l z)) (s : ByteArray) (hs : Hid (s.size ≤ maxLen)) (f : Fl) (hf : Hid (fnd Fl.nm s.data.toList l = some f)) (hd : Hid (D.down = false))
    (H : Hid (Calls Try.prog 53 #[.pointer (some ⟨pb, 0, none⟩), .string s] w fun e w' => e = .returned (.tuple #[.pointer (some ⟨fb, 0, none⟩), .int .i64 0]) ∧ w' = w)) :
    Calls Try.prog 31 #[.pointer (some ⟨pb, 0, none⟩), .string s] w fun e w' => e = .returned (.int .i64 (removeD D s.data.toList).1) ∧ Dsk w' tg pb (removeD D s.data.toList).2 ∧ Step tg tg w w' := by
  have hff : fnd Fil.nm s.data.toList D.fs = some f.s := by rw [h.out.fs, ← map_fnd Fl.s_nm, hf.out]; rfl
  obtain ⟨y, D1, hy⟩ : ∃ y D1, burn D = (y, D1) := ⟨_, _, rfl⟩
  obtain ⟨hy1, hy2⟩ := burn_eta _ hy
  have H37 : Hid (Calls Try.prog 51 #[.pointer (some ⟨pb, 0, none⟩)] w fun e w' => e = .returned (.bool y) ∧ (∃ z', DkAt w' tg pb D1 (some m) l z') ∧ Step tg tg w w') := by
    have := goes_any h.out
    rw [hy1, hy2] at this
    exact this
  have HF : Hid (D1.fs = D.fs) := by have := burn_fs D; rw [hy2] at this; exact this
  have HA : Hid (removeD D s.data.toList = if y then (0, ⟨drp Fil.nm s.data.toList D.fs, D1.down, D1.fuse⟩) else (11, D1)) := by
    unfold Hid removeD
    simp only [hd.out, hff, hy1, hy2, Bool.false_eq_true, if_false]
  have hkey : Hid (keyOf Try.prog 9 (.string s) = some (.string s.data.toList)) := keyOf_string_mk (P := Try.prog) Try.underlying9 hs.out
  generalize removeD D s.data.toList = A at *
  clear hff hy hy1 hy2
  go_enter Try.func31, Try.ntmps31
  go_wp2_with (go_at_call 53; refine H.out.mono ?_)
  rintro e w1 ⟨rfl, rfl⟩
  go_wp2_with (go_at_call 51; refine H37.out.mono ?_)
  rintro e w2 ⟨rfl, ⟨z', h2⟩, st⟩
  have H2 : Hid (DkAt w2 tg pb D1 (some m) l z') := h2
  have ST : Hid (Step tg tg w1 w2) := st
  clear h2 st
  cases y with
  | false =>
    go_wp2_with fail
    go_ret
    rw [HA.out, if_neg (by simp)]
    exact ⟨rfl, ⟨_, l, z', H2.out⟩, ST.out⟩
  | true =>
    obtain ⟨e0, -, -, -⟩ := c4 H2.out.cell
    go_wp2_with (at_delete; refine wpList_delete_own _ rfl _ _ 61 9 rfl 66 law9 Try.underlying61 pE m l.length (mapOf l) rfl H2.out.mp.2 _ _ rfl hkey.out ?_)
    intro w3 ho3 ht3
    rw [mapOf_del] at ho3
    have ho3' := tight ho3
    rw [mapOf_size] at ho3'
    have h5 := H2.out.removed ht3 ho3'
    rw [HF.out] at h5
    have H5 : Hid _ := h5
    clear e0 ho3 ho3' ht3 h5
    go_wp2_with fail
    go_ret
    rw [HA.out, if_pos (by simp)]
    exact ⟨rfl, ⟨_, _, _, H5.out.1⟩, ST.out.trans H5.out.2⟩
theorem remove_any {w : World} {tg : Nat → Tg} {pb : Nat} {D : DK} (h : Dsk w tg pb D) (s : ByteArray) (hs : s.size ≤ maxLen) :
    Calls Try.prog 31 #[.pointer (some ⟨pb, 0, none⟩), .string s] w fun e w' => e = .returned (.int .i64 (removeD D s.data.toList).1) ∧ Dsk w' tg pb (removeD D s.data.toList).2 ∧ Step tg tg w w' := by
  obtain ⟨mb, l, z, h⟩ := h
  have hfd := find_any h s hs
  have hfs := h.fs
  unfold findP findC at hfd
  cases hd : D.down with
  | true =>
    simp only [hd, if_true] at hfd
    refine (remove_no w _ s 11 rfl hfd).mono ?_
    rintro e w' ⟨rfl, rfl⟩
    have e : removeD D s.data.toList = (11, D) := by unfold removeD; simp [hd]
    rw [e]
    exact ⟨rfl, ⟨mb, l, z, h⟩, Step.refl _ _⟩
  | false =>
    simp only [hd, Bool.false_eq_true, if_false] at hfd
    cases hf : fnd Fl.nm s.data.toList l with
    | none =>
      rw [hf] at hfd
      refine (remove_no w _ s 3 rfl hfd).mono ?_
      rintro e w' ⟨rfl, rfl⟩
      have e : removeD D s.data.toList = (3, D) := by
        unfold removeD
        rw [hfs, ← map_fnd Fl.s_nm, hf]
        simp [hd]
      rw [e]
      exact ⟨rfl, ⟨mb, l, z, h⟩, Step.refl _ _⟩
    | some f =>
      rw [hf] at hfd
      cases mb with
      | none =>
        have : l = [] := h.mp
        rw [this] at hf
        cases hf
      | some m => exact remove_yes h s hs f hf hd hfd
end Go.Proofs.Ytplcpjngpkghmaa

namespace Go.Proofs.Ytplcpjngpkghmaa
open Go.RowKit Go.Maps Go.WideMaps Go.Sort

def truncD (D : DK) (n : List UInt8) (k : Int) : Int × DK := if D.down then (11, D) else match fnd Fil.nm n D.fs with
  | none => (3, D)
  | some f => if k < 0 ∨ (f.b.length : Int) < k then (2, D) else if (burn D).1 then (0, ⟨upd Fil.nm n ⟨n, f.b.take k.toNat, min f.sy k.toNat⟩ D.fs, (burn D).2.down, (burn D).2.fuse⟩) else (11, (burn D).2)

theorem DkAt.recell {w w' : World} {tg : Nat → Tg} {pb : Nat} {D : DK} {mb : Option Nat} {l : List Fl} {z : Int} {f : Fl} {n b' : List UInt8} {sy' : Nat} {v' : Value} (h : DkAt w tg pb D mb l z) (hf : fnd Fl.nm n l = some f)
    (hc : w'.heap[f.fb]? = some (.cells #[v', .int .i64 sy'] 84 (0, 0))) (ho : Own w' 0 v' b') (hob : ∀ g, v'.ownBlock = some g → f.v.ownBlock = some g) (hk : Kp (· = f.fb) w w') (hs : sy' ≤ b'.length) (hl : b'.length ≤ 1048576) :
    DkAt w' tg pb ⟨upd Fil.nm n ⟨n, b', sy'⟩ D.fs, D.down, D.fuse⟩ mb (upd Fl.nm n ⟨n, b', sy', f.fb, v'⟩ l) z ∧ Step tg tg w w' := by
  obtain ⟨hfl, hfn⟩ := fnd_some hf
  have hF := h.fl f hfl
  have hk' : Kp (fun k => tg k = .fl n ∨ tg k = .rw n) w w' := hk.mono fun k _ e => .inl (by rw [e, hF.tb, hfn])
  refine ⟨?_, hk'.mono fun k _ e => by rcases e with e | e <;> rw [e] <;> exact nofun, fun _ h => .inl h⟩
  have := h.updated (f' := ⟨n, b', sy', f.fb, v'⟩) hf rfl rfl hk' (fun k _ e => e) (fun _ _ => rfl) (fun k hk1 => Nat.lt_of_lt_of_le (h.lt k hk1) hk.size)
    ⟨hc, ho, by rw [hF.tb, hfn], fun g hg => by rw [hF.tr g (hob g hg), hfn], hs, hl⟩
  rw [map_upd Fl.s_nm, ← h.fs] at this
  exact this

/-- cut, on a disk's file -/
theorem cut_any {w : World} {tg : Nat → Tg} {pb : Nat} {D : DK} {mb : Option Nat} {l : List Fl} {z : Int} {f : Fl} {n : List UInt8} (h : DkAt w tg pb D mb l z) (hf : fnd Fl.nm n l = some f) (k : Nat) (hk : k ≤ f.b.length) :
    Calls Try.prog 56 #[.pointer (some ⟨f.fb, 0, none⟩), .int .i64 k] w fun e w' => e = .returned (.tuple #[]) ∧ Dsk w' tg pb ⟨upd Fil.nm n ⟨n, f.b.take k, min f.sy k⟩ D.fs, D.down, D.fuse⟩ ∧ Step tg tg w w' := by
  obtain ⟨hfl, hfn⟩ := fnd_some hf
  have hF := h.fl f hfl
  have hne : f.v.ownBlock ≠ some f.fb := fun e => by have := hF.tr _ e; rw [hF.tb] at this; cases this
  have hl := hF.hl
  have hown := hF.own
  have hcell := hF.cell
  have hlen : (f.b.take k).length = k := by rw [List.length_take]; omega
  rcases hown.2 with ⟨hv, h0⟩ | ⟨g, cap, cur, hv, _, hgg, h1, h2, _, _⟩
  · have hk0 : k = 0 := by omega
    subst hk0
    rw [hv] at hcell
    refine (cut_none w f.fb f.sy hcell).mono ?_
    rintro e w' ⟨rfl, rfl⟩
    have hkp : Kp (· = f.fb) w ((w.setCell ⟨f.fb, 0, none⟩ (.slice none 0 0)).setCell ⟨f.fb, 1, none⟩ (.int .i64 0)) := (Kp.of_set (S := (· = f.fb)) w ⟨f.fb, 0, none⟩ _ rfl).trans (Kp.of_set (S := (· = f.fb)) _ ⟨f.fb, 1, none⟩ _ rfl) fun _ _ h => h
    have h5 := h.recell (b' := f.b.take 0) (sy' := min f.sy 0) (v' := .slice none 0 0) hf (by rw [Nat.min_zero]; exact setB (i := 1) (setB (i := 0) hcell _) _) (by rw [List.take_zero]; exact Own.nil _ _) nofun hkp (by omega) (by omega)
    exact ⟨rfl, ⟨_, _, _, h5.1⟩, h5.2⟩
  · have hob : f.v.ownBlock = some g := by rw [hv]; rfl
    have hgne : g ≠ f.fb := fun e => hne (by rw [hob, e])
    have hown' := hown
    rw [hv] at hcell hown'
    refine (cut_some w f.fb g f.b.length cap f.sy k (min f.sy k) hcell hk h1 (by unfold maxLen at h2; omega) rfl).mono ?_
    rintro e w' ⟨rfl, rfl⟩
    have hkp : Kp (· = f.fb) w ((w.setCell ⟨f.fb, 0, none⟩ (.slice (some ⟨g, 0, none⟩) k cap)).setCell ⟨f.fb, 1, none⟩ (.int .i64 (min f.sy k : Nat))) := (Kp.of_set (S := (· = f.fb)) w ⟨f.fb, 0, none⟩ _ rfl).trans (Kp.of_set (S := (· = f.fb)) _ ⟨f.fb, 1, none⟩ _ rfl) fun _ _ h => h
    have h5 := h.recell (b' := f.b.take k) (sy' := min f.sy k) (v' := .slice (some ⟨g, 0, none⟩) k cap) hf (setB (i := 1) (setB (i := 0) hcell _) _) ((hown'.take hk).keepAt fun g' hg' => by cases hg'; exact hkp.block g (Array.getElem?_eq_some_iff.1 hgg).1 hgne) (fun g' hg' => by cases hg'; exact hob) hkp (by omega) (by omega)
    exact ⟨rfl, ⟨_, _, _, h5.1⟩, h5.2⟩
end Go.Proofs.Ytplcpjngpkghmaa

namespace Go.Proofs.Ytplcpjngpkghmaa
open Go.RowKit Go.Maps Go.WideMaps Go.Sort

set_option maxHeartbeats 400000 in
theorem trunc_no (w : World) (p : Value) (s : ByteArray) (k c : Int) (hc : (c != 0) = true) (H : Hid (Calls Try.prog 53 #[p, .string s] w fun e w' => e = .returned (.tuple #[.pointer none, .int .i64 c]) ∧ w' = w)) :
    Calls Try.prog 72 #[p, .string s, .int .i64 k] w fun e w' => e = .returned (.int .i64 c) ∧ w' = w := by
  go_enter Try.func72, Try.ntmps72
  go_wp2_with (go_at_call 53; refine H.out.mono ?_)
  rintro e w1 ⟨rfl, rfl⟩
  go_wp2_with fail
  go_ret
  exact ⟨rfl, rfl⟩
set_option maxHeartbeats 1000000 in
set_option maxRecDepth 100000 in
theorem trunc_yes {w : World} {tg : Nat → Tg} {pb : Nat} {D : DK} {mb : Option Nat} {l : List Fl} {z : Int} (h : Hid (DkAt w tg pb D mb l z)) (s : ByteArray) (k : Int) (nm b : List UInt8) (sy fb fk fc : Nat) (fa : Option Addr) (hfk : Hid (b.length = fk)) (hf : Hid (fnd Fl.nm s.data.toList l = some ⟨nm, b, sy, fb, .slice fa fk fc⟩)) (hd : Hid (D.down = false))
    (H : Hid (Calls Try.prog 53 #[.pointer (some ⟨pb, 0, none⟩), .string s] w fun e w' => e = .returned (.tuple #[.pointer (some ⟨fb, 0, none⟩), .int .i64 0]) ∧ w' = w)) :
    Calls Try.prog 72 #[.pointer (some ⟨pb, 0, none⟩), .string s, .int .i64 k] w fun e w' => e = .returned (.int .i64 (truncD D s.data.toList k).1) ∧ Dsk w' tg pb (truncD D s.data.toList k).2 ∧ Step tg tg w w' := by
  have hff : fnd Fil.nm s.data.toList D.fs = some ⟨nm, b, sy⟩ := by rw [h.out.fs, ← map_fnd Fl.s_nm, hf.out]; rfl
  have hF := h.out.fl _ (fnd_some hf.out).1
  obtain ⟨e0, e1⟩ := c2 hF.cell
  simp only at e0 e1
  obtain ⟨y, D1, hy⟩ : ∃ y D1, burn D = (y, D1) := ⟨_, _, rfl⟩
  obtain ⟨hy1, hy2⟩ := burn_eta _ hy
  have H37 : Hid (Calls Try.prog 51 #[.pointer (some ⟨pb, 0, none⟩)] w fun e w' => e = .returned (.bool y) ∧ (∃ z', DkAt w' tg pb D1 mb l z') ∧ Step tg tg w w') := by
    have := goes_any h.out
    rw [hy1, hy2] at this
    exact this
  have HF : Hid (D1.fs = D.fs) := by have := burn_fs D; rw [hy2] at this; exact this
  have HA : Hid (truncD D s.data.toList k = if k < 0 ∨ (fk : Int) < k then (2, D) else if y then (0, ⟨upd Fil.nm s.data.toList ⟨s.data.toList, b.take k.toNat, min sy k.toNat⟩ D.fs, D1.down, D1.fuse⟩) else (11, D1)) := by
    unfold Hid truncD
    simp only [hd.out, hff, hy1, hy2, Bool.false_eq_true, if_false, hfk.out]
  generalize truncD D s.data.toList k = A at *
  have HS : Hid (Dsk w tg pb D) := ⟨mb, l, z, h.out⟩
  clear hff hy hy1 hy2 hF
  go_enter Try.func72, Try.ntmps72
  go_wp2_with (go_at_call 53; refine H.out.mono ?_)
  rintro e w1 ⟨rfl, rfl⟩
  by_cases h0 : k < 0
  · go_wp2_with fail
    go_ret
    rw [HA.out, if_pos (.inl h0)]
    exact ⟨rfl, HS.out, Step.refl _ _⟩
  by_cases h1 : (fk : Int) < k
  · go_wp2_with fail
    go_ret
    rw [HA.out, if_pos (.inr h1)]
    exact ⟨rfl, HS.out, Step.refl _ _⟩
  obtain ⟨t, rfl⟩ : ∃ t : Nat, k = (t : Int) := ⟨k.toNat, by omega⟩
  go_wp2_with (go_at_call 51; refine H37.out.mono ?_)
  rintro e w2 ⟨rfl, ⟨z', h2⟩, st⟩
  have H2 : Hid (DkAt w2 tg pb D1 mb l z') := h2
  have ST : Hid (Step tg tg w1 w2) := st
  clear h2 st e0 e1
  cases y with
  | false =>
    go_wp2_with fail
    go_ret
    rw [HA.out, if_neg (by omega), if_neg (by simp)]
    exact ⟨rfl, ⟨mb, l, z', H2.out⟩, ST.out⟩
  | true =>
    have H50 : Hid (Calls Try.prog 56 #[.pointer (some ⟨fb, 0, none⟩), .int .i64 t] w2 fun e w' => e = .returned (.tuple #[]) ∧ Dsk w' tg pb ⟨upd Fil.nm s.data.toList ⟨s.data.toList, b.take t, min sy t⟩ D1.fs, D1.down, D1.fuse⟩ ∧ Step tg tg w2 w') := cut_any H2.out hf.out t (by have := hfk.out; simp only; omega)
    rw [HF.out] at H50
    go_wp2_with (go_at_call 56; refine H50.out.mono ?_)
    rintro e w3 ⟨rfl, d3, s3⟩
    have D3 : Hid _ := d3
    have S3 : Hid (Step tg tg w2 w3) := s3
    clear d3 s3
    go_wp2_with fail
    go_ret
    rw [HA.out, if_neg (by omega), if_pos (by simp), Int.toNat_natCast]
    exact ⟨rfl, D3.out, ST.out.trans S3.out⟩
theorem trunc_any {w : World} {tg : Nat → Tg} {pb : Nat} {D : DK} (h : Dsk w tg pb D) (s : ByteArray) (k : Int) (hs : s.size ≤ maxLen) :
    Calls Try.prog 72 #[.pointer (some ⟨pb, 0, none⟩), .string s, .int .i64 k] w fun e w' => e = .returned (.int .i64 (truncD D s.data.toList k).1) ∧ Dsk w' tg pb (truncD D s.data.toList k).2 ∧ Step tg tg w w' := by
  obtain ⟨mb, l, z, h⟩ := h
  have hfd := find_any h s hs
  have hfs := h.fs
  unfold findP findC at hfd
  cases hd : D.down with
  | true =>
    simp only [hd, if_true] at hfd
    refine (trunc_no w _ s k 11 rfl hfd).mono ?_
    rintro e w' ⟨rfl, rfl⟩
    have e : truncD D s.data.toList k = (11, D) := by unfold truncD; simp [hd]
    rw [e]
    exact ⟨rfl, ⟨mb, l, z, h⟩, Step.refl _ _⟩
  | false =>
    simp only [hd, Bool.false_eq_true, if_false] at hfd
    cases hf : fnd Fl.nm s.data.toList l with
    | none =>
      rw [hf] at hfd
      refine (trunc_no w _ s k 3 rfl hfd).mono ?_
      rintro e w' ⟨rfl, rfl⟩
      have e : truncD D s.data.toList k = (3, D) := by
        unfold truncD
        rw [hfs, ← map_fnd Fl.s_nm, hf]
        simp [hd]
      rw [e]
      exact ⟨rfl, ⟨mb, l, z, h⟩, Step.refl _ _⟩
    | some f =>
      rw [hf] at hfd
      obtain ⟨nm, b, sy, fb, v⟩ := f
      obtain ⟨a, cc, hv, -⟩ := (h.fl _ (fnd_some hf).1).own.shape
      simp only at hv
      subst hv
      exact trunc_yes h s k nm b sy fb _ cc a rfl hf hd hfd
end Go.Proofs.Ytplcpjngpkghmaa

namespace Go.Proofs.Ytplcpjngpkghmaa
open Go.RowKit Go.Maps Go.WideMaps Go.Sort

def rst : List Fil → List UInt8 → List Fil
  | [], _ => []
  | f :: r, ch => if f.sy < f.b.length then ⟨f.nm, crashB f.b f.sy (ch.headD 0), (crashB f.b f.sy (ch.headD 0)).length⟩ :: rst r ch.tail else f :: rst r ch
def restartD (D : DK) (ch : List UInt8) : DK := ⟨rst D.fs ch, false, none⟩

theorem name_len {w : World} {tg : Nat → Tg} {mb : Option Nat} {l : List Fl} (h : MpAt w tg mb l) {f : Fl} (hf : f ∈ l) : f.nm.length ≤ maxLen := by
  unfold MpAt at h
  cases mb with
  | none => subst h; cases hf
  | some m =>
    obtain ⟨es, he, hk⟩ := h.2.keysOf
    unfold mapOf at he
    injection he with he
    obtain ⟨key, hkey⟩ := hk (.string f.nm, .held f.fb) (by rw [← he]; exact List.mem_map.2 ⟨f, hf, rfl⟩)
    obtain ⟨x, _, e, hx⟩ := Maps.keyOf_str Try.underlying9 hkey
    injection e with e
    rw [e]
    exact hx

theorem next_any {w : World} {tg : Nat → Tg} (ch : List UInt8) (q : Option Addr) (m c : Nat) (hm : ch.length = m) (hc : m ≤ c) (hL : LiesOff w tg q ch) :
    Calls Try.prog 34 #[.slice q m c] w fun e w' => (∃ q' c', e = .returned (.tuple #[.int .u8 (ch.headD 0).toNat, .slice q' ch.tail.length c']) ∧ ch.tail.length ≤ c' ∧ LiesOff w' tg q' ch.tail) ∧ Below w.heap.size w w' := by
  cases ch with
  | nil =>
    simp only [List.length_nil] at hm
    subst hm
    refine (next_none w q c).mono ?_
    rintro e w' ⟨rfl, rfl⟩
    exact ⟨⟨none, 0, rfl, Nat.le_refl _, .inl rfl⟩, Below.refl _ _⟩
  | cons x t =>
    rcases hL with h | ⟨g, o, rfl, hr, h1, h2⟩
    · cases h
    · simp only [List.length_cons] at hm
      have hx := hr 0 x rfl
      refine (next_some w g o m c x (by omega) hc hx).mono ?_
      rintro e w' ⟨⟨q', c', rfl, h3, h4⟩, hb⟩
      have ht : m - 1 = t.length := by omega
      refine ⟨⟨q', c', by rw [ht]; rfl, by simp only [List.tail_cons]; omega, ?_⟩, hb⟩
      rcases h3 with h3 | rfl
      · exact .inl (List.eq_nil_of_length_eq_zero (by simp only [List.tail_cons]; omega))
      · refine .inr ⟨g, o + 1, rfl, fun k y hy => ?_, Nat.lt_of_lt_of_le h1 hb.size, h2⟩
        have := hr (k + 1) y (by simpa using hy)
        have h5 := (World.cell?_of_block (a := ⟨g, o + (k + 1), none⟩) (hb.block g h1)).trans this
        rwa [show o + 1 + k = o + (k + 1) by omega]

theorem upd_mid {α : Type} {nm : α → List UInt8} {a r : List α} {x y : α} {n : List UInt8} (h : Srt nm (a ++ x :: r)) (hx : nm x = n) : upd nm n y (a ++ x :: r) = a ++ y :: r := by
  obtain ⟨_, h2, h3⟩ := List.pairwise_append.1 h
  have h4 := (List.pairwise_cons.1 h2).1
  have e : ∀ l : List α, (∀ z ∈ l, nm z ≠ n) → upd nm n y l = l := fun l hl => by
    unfold upd
    refine (List.map_congr_left fun z hz => ?_).trans (List.map_id l)
    have : (nm z == n) = false := by simpa using hl z hz
    simp [this]
  have e1 := e a fun z hz e => by have := h3 z hz x (List.mem_cons_self ..); rw [e, ← hx, WideAt.bytes_irrefl] at this; cases this
  have e2 := e r fun z hz e => by have := h4 z hz; rw [e, ← hx, WideAt.bytes_irrefl] at this; cases this
  unfold upd at *
  rw [List.map_append, List.map_cons, e1, e2]
  simp [hx]
theorem fnd_mid {α : Type} {nm : α → List UInt8} {a r : List α} {x : α} (h : Srt nm (a ++ x :: r)) : fnd nm (nm x) (a ++ x :: r) = some x := by
  cases hq : fnd nm (nm x) (a ++ x :: r) with
  | none => exact absurd rfl (fnd_none hq x (by simp))
  | some g =>
    obtain ⟨g1, g2⟩ := fnd_some hq
    rw [srt_one h g1 (by simp) g2]

/-- the loop of Restart, round by round -/
structure RsAt (w : World) (tg : Nat → Tg) (pb : Nat) (l : List Fl) (fs : List Fil) (ch : List UInt8) (D : DK) (mb : Option Nat) (z : Int) (v : Value) (k : Nat) (q : Option Addr) (m c : Nat) (wr : World) (a r : List Fl) (ch' : List UInt8) : Prop where
  len : a.length = k
  cm : ch'.length = m
  cc : m ≤ c
  lo : LiesOff wr tg q ch'
  dk : DkAt wr tg pb ⟨(a ++ r).map Fl.s, D.down, D.fuse⟩ mb (a ++ r) z
  nms : (a ++ r).map Fl.nm = l.map Fl.nm
  rs : rst fs ch = a.map Fl.s ++ rst (r.map Fl.s) ch'
  row : wr.ownsRow w.heap.size 9 1 v l.length ((l.map Fl.nm).map encStr)
  st : Step tg tg w wr
theorem RsAt.size {w : World} {tg : Nat → Tg} {pb : Nat} {l : List Fl} {fs : List Fil} {ch : List UInt8} {D : DK} {mb : Option Nat} {z : Int} {v : Value} {k : Nat} {q : Option Addr} {m c : Nat} {wr : World} {a r : List Fl} {ch' : List UInt8} (h : RsAt w tg pb l fs ch D mb z v k q m c wr a r ch') : k + r.length = l.length := by
  have := congrArg List.length h.nms
  rw [List.length_map, List.length_map, List.length_append] at this
  have := h.len
  omega
theorem keepRow {w w1 : World} {B : Nat} {e : TypeId} {sz n : Nat} {v : Value} {xs : List Value} (h : w.ownsRow B e sz v n xs) (b : ∀ g, v.ownBlock = some g → w1.heap[g]? = w.heap[g]?) : w1.ownsRow B e sz v n xs := by
  refine ⟨h.1, ?_⟩
  rcases h.2 with hn | ⟨g, cap, cur, rfl, hb, hgg, rest⟩
  · exact .inl hn
  · exact .inr ⟨g, cap, cur, rfl, hb, (b g rfl).trans hgg, rest⟩
end Go.Proofs.Ytplcpjngpkghmaa

namespace Go.Proofs.Ytplcpjngpkghmaa
open Go.RowKit Go.Maps Go.WideMaps Go.Sort

def CrR (tg : Nat → Tg) (pb : Nat) (D : DK) (mb : Option Nat) (l : List Fl) (z : Int) (f : Fl) (x : UInt8) (w w' : World) : Prop := ∃ v, DkAt w' tg pb ⟨upd Fil.nm f.nm ⟨f.nm, crashB f.b f.sy x, (crashB f.b f.sy x).length⟩ D.fs, D.down, D.fuse⟩ mb (upd Fl.nm f.nm ⟨f.nm, crashB f.b f.sy x, (crashB f.b f.sy x).length, f.fb, v⟩ l) z ∧ Step tg tg w w'
set_option maxHeartbeats 4000000 in
set_option maxRecDepth 100000 in
theorem restart_at {w : World} {tg : Nat → Tg} {pb : Nat} {D : DK} {mb : Option Nat} {l : List Fl} {z : Int} (h : Hid (DkAt w tg pb D mb l z)) (ch : List UInt8) (q : Option Addr) (m c : Nat) (hm : Hid (ch.length = m)) (hc : Hid (m ≤ c)) (hL : Hid (LiesOff w tg q ch)) :
    Calls Try.prog 15 #[.pointer (some ⟨pb, 0, none⟩), .slice q m c] w fun e w' => e = .returned (.tuple #[]) ∧ Dsk w' tg pb (restartD D ch) ∧ Step tg tg w w' := by
  have H40 : Hid (Calls Try.prog 32 #[.pointer (some ⟨pb, 0, none⟩)] w fun e w' => ∃ v, e = .returned v ∧ w'.ownsRow w.heap.size 9 1 v l.length ((l.map Fl.nm).map encStr) ∧ Below w.heap.size w w') := names_any h.out
  go_enter Try.func15, Try.ntmps15
  go_wp2_with (go_at_call 32; refine H40.out.mono ?_)
  rintro e w1 ⟨v, rfl, hrow, b1⟩
  obtain ⟨n, hn⟩ : ∃ n, n = l.length := ⟨_, rfl⟩
  have hnl : n ≤ 64 := by rw [hn]; exact h.out.len
  obtain ⟨av, cv, hv⟩ : ∃ av cv, v = .slice av n cv := by
    rcases hrow.2 with ⟨hv, h0⟩ | ⟨g, cap, cur, hv, _⟩
    · exact ⟨none, 0, by rw [hv, hn, h0]⟩
    · exact ⟨_, cap, by rw [hv, hn]⟩
  subst hv
  have R0 : Hid (∃ a r ch', RsAt w tg pb l D.fs ch D mb z (.slice av n cv) 0 q m c w1 a r ch') := by
    refine ⟨[], l, ch, rfl, hm.out, hc.out, hL.out.step (Step.of_below tg b1), ?_, rfl, by rw [h.out.fs]; rfl, hrow, Step.of_below tg b1⟩
    have := h.out.keepB b1
    rw [List.nil_append, ← h.out.fs]
    exact this
  clear hrow b1 H40
  go_wp2_with fail
  go_loopw [1, 13] (fun cw iw wr => ∃ (k : Nat) (q : Option Addr) (m c : Nat), k ≤ n ∧ cw = .slice q m c ∧ iw = .int .i64 k ∧ ∃ a r ch', RsAt w tg pb l D.fs ch D mb z (.slice av n cv) k q m c wr a r ch') (fun _ i _ => n - (intOf i).toNat)
  case atStart => exact ⟨0, q, m, c, Nat.zero_le _, rfl, rfl, R0.out⟩
  case round =>
    obtain ⟨k, q, m, c, hk, rfl, rfl, a, r, ch', hR⟩ := hrel
    have HR : Hid _ := hR
    clear hR
    by_cases hlt : k < n
    · cases r with
      | nil => exact absurd HR.out.size (by simp only [List.length_nil]; omega)
      | cons f r =>
        have hd := HR.out.dk
        have hfd := fnd_mid hd.srt
        have hF := hd.fl f (fnd_some hfd).1
        have hnl2 := name_len hd.mp (fnd_some hfd).1
        have hlk := look_at hd.mp ⟨f.nm.toArray⟩ (by simpa [ByteArray.size] using hnl2)
        rw [show (⟨f.nm.toArray⟩ : ByteArray).data.toList = f.nm by simp, hfd] at hlk
        simp only [fptr] at hlk
        obtain ⟨e0, -, -, -⟩ := c4 hd.cell
        obtain ⟨gn, cap, hgv, hcell⟩ : ∃ gn cap, (Value.slice av n cv) = .slice (some ⟨gn, 0, none⟩) n cap ∧ wr.cell? ⟨gn, k, none⟩ = some (.string ⟨f.nm.toArray⟩) := by
          rcases HR.out.row.2 with ⟨_, h0⟩ | ⟨g, cap, cur, hv, hb, hgg, _⟩
          · omega
          · have hv' : (Value.slice av n cv) = .slice (some ⟨g, 0, none⟩) n cap := by rw [hv, ← hn]
            refine ⟨g, cap, hv', ?_⟩
            have hx : ((l.map Fl.nm).map encStr)[k]? = some (.string ⟨f.nm.toArray⟩) := by
              rw [← HR.out.nms, List.map_map, List.getElem?_map, List.getElem?_append_right (by rw [HR.out.len]; exact Nat.le_refl _), HR.out.len, Nat.sub_self]
              rfl
            have hc0 := World.ownsRow.cells HR.out.row (g := g) (by rw [hv']; rfl) k _ hx
            rwa [Addr.add_lit, Nat.zero_add] at hc0
        cases hgv
        obtain ⟨fa, fc, hfv, -⟩ := hF.own.shape
        have hfc := hF.cell
        rw [hfv] at hfc
        have H41 : Hid (Calls Try.prog 33 #[.pointer (some ⟨f.fb, 0, none⟩)] wr fun e w' => e = .returned (.int .i64 ((f.b.length - f.sy : Nat) : Int)) ∧ Below wr.heap.size wr w') := unsynced_at wr f.fb fa _ fc f.sy hF.hl hF.hs hfc
        clear hfc hfv hnl2
        by_cases hs : f.sy < f.b.length
        · have hpos : (0 : Int) < ((f.b.length - f.sy : Nat) : Int) := by omega
          generalize hu : f.b.length - f.sy = u at *
          clear hF hd
          go_wp2_with (go_at_call 33; refine H41.out.mono ?_)
          rintro e w2 ⟨rfl, b2⟩
          have L2 : Hid (LiesOff w2 tg q ch') := HR.out.lo.step (Step.of_below tg b2)
          have D2 : Hid _ := HR.out.dk.keepB b2
          have S2 : Hid (Step tg tg wr w2) := Step.of_below tg b2
          clear b2 hlk e0 hcell
          obtain ⟨x, hx⟩ : ∃ x, ch'.headD 0 = x := ⟨_, rfl⟩
          obtain ⟨t, ht⟩ : ∃ t, ch'.tail = t := ⟨_, rfl⟩
          have H42 : Hid (Calls Try.prog 34 #[.slice q m c] w2 fun e w' => (∃ q' c', e = .returned (.tuple #[.int .u8 x.toNat, .slice q' t.length c']) ∧ t.length ≤ c' ∧ LiesOff w' tg q' t) ∧ Below w2.heap.size w2 w') := by
            have := next_any ch' q m c HR.out.cm HR.out.cc L2.out
            rw [hx, ht] at this
            exact this
          have HX0 : Hid (ch'.headD 0 = x) := hx
          have HT0 : Hid (ch'.tail = t) := ht
          clear hx ht
          go_wp2_with (go_at_call 34; refine H42.out.mono ?_)
          rintro e w3 ⟨⟨q3, c3, rfl, hc3, L3⟩, b3⟩
          have HL3 : Hid (LiesOff w3 tg q3 t) := L3
          have D3 : Hid _ := D2.out.keepB b3
          have S3 : Hid (Step tg tg wr w3) := S2.out.trans (Step.of_below tg b3)
          have HC3 : Hid _ := hc3
          clear b3 L3 hc3
          have H43 : Hid (Calls Try.prog 35 #[.pointer (some ⟨f.fb, 0, none⟩), .int .u8 x.toNat] w3 fun e w' => e = .returned (.tuple #[]) ∧ CrR tg pb ⟨(a ++ f :: r).map Fl.s, D.down, D.fuse⟩ mb (a ++ f :: r) z f x w3 w') := crash_any D3.out hfd hs x
          go_wp2_with (go_at_call 35; refine H43.out.mono ?_)
          rintro e w4 ⟨rfl, hcr⟩
          obtain ⟨v4, d4, s4⟩ := hcr
          rw [upd_mid D3.out.srt rfl] at d4
          have HX : Hid (∃ a r ch'', RsAt w tg pb l D.fs ch D mb z (.slice (some ⟨gn, 0, none⟩) n cv) (k + 1) q3 t.length c3 w4 a r ch'') := by
            have hb : ∀ g, (Value.slice (some ⟨gn, 0, none⟩) n cv).ownBlock = some g → w4.heap[g]? = wr.heap[g]? := fun g hg => by
              have h1 := World.ownsRow.lt HR.out.row g hg
              exact (S3.out.trans s4).1.block g h1.2 fun e => by have := h.out.lt g e; omega
            have hD : (⟨upd Fil.nm f.nm ⟨f.nm, crashB f.b f.sy x, (crashB f.b f.sy x).length⟩ ((a ++ f :: r).map Fl.s), D.down, D.fuse⟩ : DK) = ⟨(a ++ ⟨f.nm, crashB f.b f.sy x, (crashB f.b f.sy x).length, f.fb, v4⟩ :: r).map Fl.s, D.down, D.fuse⟩ := by
              rw [← upd_mid (y := (⟨f.nm, crashB f.b f.sy x, (crashB f.b f.sy x).length, f.fb, v4⟩ : Fl)) D3.out.srt rfl, map_upd Fl.s_nm]
              rfl
            have d4' := d4
            rw [hD] at d4'
            refine ⟨a ++ [⟨f.nm, crashB f.b f.sy x, (crashB f.b f.sy x).length, f.fb, v4⟩], r, t, by rw [List.length_append, HR.out.len]; rfl, rfl, HC3.out, HL3.out.step s4, by rw [List.append_assoc]; exact d4', ?_, ?_, keepRow HR.out.row hb, HR.out.st.trans (S3.out.trans s4)⟩
            · rw [← HR.out.nms, List.append_assoc, List.map_append, List.map_append, List.map_append]; rfl
            · rw [HR.out.rs, List.map_append, List.append_assoc, List.map_cons]
              show _ ++ rst (f.s :: _) _ = _
              conv => lhs; unfold rst
              rw [if_pos (show f.s.sy < f.s.b.length from hs), HX0.out, HT0.out]
              rfl
          clear d4 s4
          go_wp2_with fail
          refine ⟨⟨k + 1, q3, _, c3, by omega, rfl, by go_num, HX.out⟩, ?_⟩
          simp [intOf]; omega
        · have hz0 : f.b.length - f.sy = 0 := by omega
          have HSY : Hid (¬ f.sy < f.b.length) := hs
          rw [hz0] at H41
          clear hF hd hs hz0
          go_wp2_with (go_at_call 33; refine H41.out.mono ?_)
          rintro e w2 ⟨rfl, b2⟩
          have HX : Hid (∃ a r ch'', RsAt w tg pb l D.fs ch D mb z (.slice (some ⟨gn, 0, none⟩) n cv) (k + 1) q m c w2 a r ch'') := by
            refine ⟨a ++ [f], r, ch', by rw [List.length_append, HR.out.len]; rfl, HR.out.cm, HR.out.cc, HR.out.lo.step (Step.of_below tg b2), by rw [List.append_assoc]; exact HR.out.dk.keepB b2, ?_, ?_, keepRow HR.out.row (fun g hg => b2.block g (World.ownsRow.lt HR.out.row g hg).2), HR.out.st.trans (Step.of_below tg b2)⟩
            · rw [← HR.out.nms, List.append_assoc]; rfl
            · rw [HR.out.rs, List.map_append, List.append_assoc, List.map_cons]
              show _ ++ rst (f.s :: _) _ = _
              conv => lhs; unfold rst
              rw [if_neg (show ¬ f.s.sy < f.s.b.length from HSY.out)]
              rfl
          clear b2 hlk e0 hcell
          go_wp2_with fail
          refine ⟨⟨k + 1, q, m, c, by omega, rfl, by go_num, HX.out⟩, ?_⟩
          simp [intOf]; omega
    · have hr : r = [] := by
        have := HR.out.size
        exact List.eq_nil_of_length_eq_zero (by omega)
      subst hr
      have hd := HR.out.dk
      obtain ⟨e0, e1, e2, e3⟩ := c4 hd.cell
      have f1 := fz hd.cell 1
      have h1 := setB (i := 1) hd.cell (.bool false)
      have f2 := fz h1 2
      obtain ⟨-, -, g2, -⟩ := c4 h1
      have h2 := setB (i := 2) h1 (.bool false)
      have f3 := fz h2 3
      obtain ⟨-, -, -, g3⟩ := c4 h2
      have h3 := setB (i := 3) h2 (.int .i64 0)
      have hk3 : Kp (· = pb) wr (((wr.setCell ⟨pb, 1, none⟩ (.bool false)).setCell ⟨pb, 2, none⟩ (.bool false)).setCell ⟨pb, 3, none⟩ (.int .i64 0)) :=
        ((Kp.of_set (S := (· = pb)) wr ⟨pb, 1, none⟩ (.bool false) rfl).trans (Kp.of_set (S := (· = pb)) _ ⟨pb, 2, none⟩ (.bool false) rfl) fun _ _ h => h).trans (Kp.of_set (S := (· = pb)) _ ⟨pb, 3, none⟩ (.int .i64 0) rfl) fun _ _ h => h
      have HD : Hid (Dsk (((wr.setCell ⟨pb, 1, none⟩ (.bool false)).setCell ⟨pb, 2, none⟩ (.bool false)).setCell ⟨pb, 3, none⟩ (.int .i64 0)) tg pb (restartD D ch)) := by
        refine ⟨_, _, 0, hd.turn h3 hk3 ?_ nofun⟩
        show rst D.fs ch = _
        rw [HR.out.rs, List.append_nil]
        show _ ++ rst [] _ = _
        unfold rst
        rw [List.append_nil]
      have HS : Hid (Step tg tg w (((wr.setCell ⟨pb, 1, none⟩ (.bool false)).setCell ⟨pb, 2, none⟩ (.bool false)).setCell ⟨pb, 3, none⟩ (.int .i64 0))) := HR.out.st.trans (Step.of_kp (by rw [h.out.tp]; exact nofun) hk3)
      clear h1 h2 h3 hk3 hd
      go_wp2_with fail
      go_end0
      exact ⟨rfl, HD.out, HS.out⟩
theorem restart_any {w : World} {tg : Nat → Tg} {pb : Nat} {D : DK} (h : Dsk w tg pb D) (ch : List UInt8) (q : Option Addr) (m c : Nat) (hm : ch.length = m) (hc : m ≤ c) (hL : LiesOff w tg q ch) :
    Calls Try.prog 15 #[.pointer (some ⟨pb, 0, none⟩), .slice q m c] w fun e w' => e = .returned (.tuple #[]) ∧ Dsk w' tg pb (restartD D ch) ∧ Step tg tg w w' := by
  obtain ⟨mb, l, z, h⟩ := h
  exact restart_at h ch q m c hm hc hL
end Go.Proofs.Ytplcpjngpkghmaa
