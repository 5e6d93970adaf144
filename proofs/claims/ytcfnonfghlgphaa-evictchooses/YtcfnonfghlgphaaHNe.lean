/-
  Keys and their order; New, Len; cmp.Compare; before. before: which of two entries comes out first from below. The heap in memory: its line, its entries; end, outward, put, swap. put, swap; turn. The line's entries moved: swap, turn.
-/
import Derived.Test.YtcfnonfghlgphaaHHb
import Derived.Carry
import Derived.Deep.CutBlock
import Derived.Deep.CutRange
import Derived.Deep.DeepCutAuto
import Derived.Deep.RegionHeld3
namespace Go.Proofs.Ytcfnonfghlgphaa.Hp
open Go.RowKit Go.Maps

structure K where
  a : Int
  b : Int
  c : Int
abbrev i64 (x : Int) : Prop := -9223372036854775808 ≤ x ∧ x < 9223372036854775808
structure K.ok (k : K) : Prop where
  a : i64 k.a
  b : i64 k.b
  c : i64 k.c
/-- an entry as one number -/
def enc (k : K) (h : Nat) : Int := ((k.a * 18446744073709551616 + k.b) * 18446744073709551616 + k.c) * 1048576 + h
def ltB (k : K) (h : Nat) (k' : K) (h' : Nat) : Bool := decide (enc k h < enc k' h')
section
variable {k k' : K} {h h' : Nat}
theorem lt_a (o : k.ok) (o' : k'.ok) (hh : h < 1048576) (hh' : h' < 1048576) (e : k.a ≠ k'.a) : ltB k h k' h' = decide (k.a < k'.a) := by
  have h1 := o.b
  have h2 := o.c
  have h3 := o'.b
  have h4 := o'.c
  unfold ltB enc
  by_cases q : k.a < k'.a
  · rw [decide_eq_true q, decide_eq_true (by omega)]
  · rw [decide_eq_false q, decide_eq_false (by omega)]
theorem lt_b (o : k.ok) (o' : k'.ok) (hh : h < 1048576) (hh' : h' < 1048576) (e0 : k.a = k'.a) (e : k.b ≠ k'.b) : ltB k h k' h' = decide (k.b < k'.b) := by
  have h2 := o.c
  have h4 := o'.c
  unfold ltB enc
  rw [e0]
  by_cases q : k.b < k'.b
  · rw [decide_eq_true q, decide_eq_true (by omega)]
  · rw [decide_eq_false q, decide_eq_false (by omega)]
theorem lt_c (hh : h < 1048576) (hh' : h' < 1048576) (e0 : k.a = k'.a) (e1 : k.b = k'.b) (e : k.c ≠ k'.c) : ltB k h k' h' = decide (k.c < k'.c) := by
  unfold ltB enc
  rw [e0, e1]
  by_cases q : k.c < k'.c
  · rw [decide_eq_true q, decide_eq_true (by omega)]
  · rw [decide_eq_false q, decide_eq_false (by omega)]
theorem lt_h (e0 : k.a = k'.a) (e1 : k.b = k'.b) (e2 : k.c = k'.c) : ltB k h k' h' = decide ((h : Int) < h') := by
  unfold ltB enc
  rw [e0, e1, e2]
  by_cases q : (h : Int) < h'
  · rw [decide_eq_true q, decide_eq_true (by omega)]
  · rw [decide_eq_false q, decide_eq_false (by omega)]
end
def ktup (k : K) : Value := .agg #[.int .i64 k.a, .int .i64 k.b, .int .i64 k.c]
def kz : K := ⟨0, 0, 0⟩

theorem law3 : Keyed Try.prog 3 := int_keyed Try.underlying3
theorem key3 (x : Nat) (hx : x < 9223372036854775808) : keyOf Try.prog 3 (.int .i64 x) = some (.int .i64 x) := keyOf_int_mk Try.underlying3 (by simp [Lit.wf, IntKind.min, IntKind.max, IntKind.bits, IntKind.signed]; omega)
def m0 : DataW Nat := .map []
theorem c3 {w : World} {g : Nat} {a b c : Value} {t : TypeId} (h : w.heap[g]? = some (.cells #[a, b, c] t (0, 0))) : w.cell? ⟨g, 0, none⟩ = some a ∧ w.cell? ⟨g, 1, none⟩ = some b ∧ w.cell? ⟨g, 2, none⟩ = some c := by
  unfold World.cell?
  rw [h]
  simp
theorem f3 {w : World} {g : Nat} {cs : Array Value} {t : TypeId} (h : w.heap[g]? = some (.cells cs t (0, 0))) : w.frozen? ⟨g, 0, none⟩ = false ∧ w.frozen? ⟨g, 1, none⟩ = false ∧ w.frozen? ⟨g, 2, none⟩ = false := ⟨fz h 0, fz h 1, fz h 2⟩
theorem at_alloc {w : World} {g : Nat} {o o' : Obj} (h : w.heap[g]? = some o) : (w.alloc o').heap[g]? = some o := (Below.heap_alloc w o' g (Array.getElem?_eq_some_iff.1 h).1).trans h
theorem blk_alloc {w : World} {b t n : Nat} {f : Nat → Value} (h : Blk w b t n f) (o : Obj) : Blk (w.alloc o) b t n f := at_alloc h
theorem results_tct {fn : Func} {t p u : Tmp} {ty : TypeId} (h : fn.results = #[.tmp t, .cell p ty, .tmp u]) (tmps : Array Value) (P : Program) (w : World) :
    (results fn tmps).run P w = ((asAddr (tmps.getD p undef)).run P w).andThen fun a w₁ => ((loadVar ty a).run P w₁).andThen fun v w₂ => .ok (.tuple #[tmps.getD t undef, v, tmps.getD u undef]) w₂ := by
  simp only [results, h]
  simp [Sem.run_bind, Result.andThen]

def nS : Value := .slice none 0 0
def zH : Nat → Value := fun i => if i = 0 then .int .i64 0 else if i = 1 then .map none else nS
def zeroH : Array Value := #[.int .i64 0, .map none, nS]
theorem zeroH_eq : zeroH = Array.ofFn (n := 3) fun i => zH i.val := rfl
set_option maxHeartbeats 400000 in
theorem new_at (w : World) : Calls Try.prog 40 #[] w fun e w' => e = .returned (ptr w.heap.size) ∧ w' = w.alloc (.cells zeroH 114) := by
  go_enter Try.func40, Try.ntmps40
  go_wp2_with fail
  go_ret
  exact ⟨rfl, rfl⟩
theorem new_blk (w : World) : Blk (w.alloc (.cells zeroH 114)) w.heap.size 114 3 zH := by
  unfold Blk
  rw [← zeroH_eq]
  exact new0
set_option maxHeartbeats 400000 in
theorem len_nil (w : World) : Calls Try.prog 80 #[.pointer none] w fun e w' => e = .returned (.int .i64 0) ∧ w' = w := by
  go_enter Try.func80, Try.ntmps80
  go_wp2_with fail
  go_ret
  exact ⟨rfl, rfl⟩
set_option maxHeartbeats 400000 in
theorem len_at (w : World) (hb n c : Nat) (a : Option Addr) (c2 : w.cell? ⟨hb, 2, none⟩ = some (.slice a n c)) : Calls Try.prog 80 #[ptr hb] w fun e w' => e = .returned (.int .i64 n) ∧ w' = w := by
  unfold ptr
  go_enter Try.func80, Try.ntmps80
  go_wp2_with fail
  go_ret
  exact ⟨rfl, rfl⟩
set_option maxHeartbeats 400000 in
theorem nan_any (x : Int) (w : World) : Calls Try.prog 81 #[.int .i64 x] w fun e w' => e = .returned (.bool false) ∧ w' = w := by
  go_enter Try.func81, Try.ntmps81
  go_wp2_with fail
  go_ret
  exact ⟨by simp, rfl⟩
def cmI (x y : Int) : Int := if x < y then -1 else if y < x then 1 else 0
theorem ret_int {k : IntKind} {a b : Int} (h : a = b) : Ending.returned (.int k a) = .returned (.int k b) := by rw [h]
set_option maxHeartbeats 400000 in
theorem cmp_any (x y : Int) (w : World) : Calls Try.prog 72 #[.int .i64 x, .int .i64 y] w fun e w' => e = .returned (.int .i64 (cmI x y)) ∧ w' = w := by
  have H47 : Hid (∀ x w, Calls Try.prog 81 #[.int .i64 x] w fun e w' => e = .returned (.bool false) ∧ w' = w) := nan_any
  go_enter Try.func72, Try.ntmps72
  by_cases h1 : x < y
  · go_wp2_with (go_at_call 81; refine (H47.out _ _).mono ?_; rintro e w1 ⟨rfl, rfl⟩)
    go_ret
    exact ⟨ret_int (by unfold cmI; rw [if_pos h1]), rfl⟩
  · by_cases h2 : y < x
    · go_wp2_with (go_at_call 81; refine (H47.out _ _).mono ?_; rintro e w1 ⟨rfl, rfl⟩)
      go_ret
      exact ⟨ret_int (by unfold cmI; rw [if_neg (by omega), if_pos h2]), rfl⟩
    · go_wp2_with (go_at_call 81; refine (H47.out _ _).mono ?_; rintro e w1 ⟨rfl, rfl⟩)
      go_ret
      exact ⟨ret_int (by unfold cmI; rw [if_neg (by omega), if_neg (by omega)]), rfl⟩
end Go.Proofs.Ytcfnonfghlgphaa.Hp

namespace Go.Proofs.Ytcfnonfghlgphaa.Hp
open Go.RowKit Go.Maps

/-- an entry's key and handle, as they lie -/
structure En (w : World) (x : Nat) (k : K) (h : Nat) : Prop where
  h : w.cell? ⟨x, 0, none⟩ = some (.int .i64 h)
  a : w.cell? ⟨x, 1, none⟩ = some (.int .i64 k.a)
  b : w.cell? ⟨x, 2, none⟩ = some (.int .i64 k.b)
  c : w.cell? ⟨x, 3, none⟩ = some (.int .i64 k.c)
theorem En.drew {w : World} {x h m : Nat} {k : K} (e : En w x k h) : En (w.drewN m) x k h := ⟨e.h, e.a, e.b, e.c⟩
theorem drew2 {w : World} (m n : Nat) : ∃ k, (w.drewN m).drewN n = w.drewN k := ⟨m + n, by simp [World.drewN, Nat.add_assoc]⟩
def Pre (k k' : K) (i : Int) : Prop := (1 ≤ i → k.a = k'.a) ∧ (2 ≤ i → k.b = k'.b) ∧ (3 ≤ i → k.c = k'.c)
theorem cm_ne {x y : Int} (h : x ≠ y) : cmI x y ≠ 0 ∧ decide (cmI x y < 0) = decide (x < y) := by
  unfold cmI
  split
  · rename_i q; exact ⟨by omega, by simp [q]⟩
  · rename_i q; rw [if_pos (by omega)]; exact ⟨by omega, by simp [q]⟩
theorem cm_eq (x : Int) : cmI x x = 0 := by unfold cmI; rw [if_neg (by omega), if_neg (by omega)]
set_option maxHeartbeats 1000000 in
theorem before_any (w : World) (x y h h' : Nat) (k k' : K) (E : Hid (En w x k h)) (E' : Hid (En w y k' h')) (o : k.ok) (o' : k'.ok) (hh : h < 1048576) (hh' : h' < 1048576) :
    Calls Try.prog 88 #[ptr x, ptr y] w fun e w' => e = .returned (.bool (ltB k h k' h')) ∧ ∃ m, w' = w.drewN m := by
  have La : Hid (k.a ≠ k'.a → ltB k h k' h' = decide (k.a < k'.a)) := lt_a o o' hh hh'
  have Lb : Hid (k.a = k'.a → k.b ≠ k'.b → ltB k h k' h' = decide (k.b < k'.b)) := lt_b o o' hh hh'
  have Lc : Hid (k.a = k'.a → k.b = k'.b → k.c ≠ k'.c → ltB k h k' h' = decide (k.c < k'.c)) := lt_c hh hh'
  have Lh : Hid (k.a = k'.a → k.b = k'.b → k.c = k'.c → ltB k h k' h' = decide ((h : Int) < h')) := lt_h
  have H46 : Hid (∀ x y w, Calls Try.prog 72 #[.int .i64 x, .int .i64 y] w fun e w' => e = .returned (.int .i64 (cmI x y)) ∧ w' = w) := cmp_any
  clear o o' hh hh'
  generalize ltB k h k' h' = B at *
  unfold ptr
  go_enter Try.func88, Try.ntmps88
  go_wp2_with fail
  go_loopw [7] (fun t wr => ∃ i : Int, 0 ≤ i ∧ i ≤ 3 ∧ t = .int .i64 i ∧ Hid (Pre k k' i) ∧ ∃ m, wr = w.drewN m) (fun t _ => (3 - intOf t).toNat)
  case atStart => exact ⟨0, by omega, by omega, rfl, ⟨fun q => by omega, fun q => by omega, fun q => by omega⟩, 0, rfl⟩
  case round =>
    obtain ⟨i, hi0, hi, rfl, HP, m, rfl⟩ := hrel
    obtain ⟨h0, a0, b0, c0⟩ := E.out.drew (m := m)
    obtain ⟨h1, a1, b1, c1⟩ := E'.out.drew (m := m)
    have HW : Hid (∀ n, ∃ k, (w.drewN m).drewN n = w.drewN k) := drew2 m
    generalize w.drewN m = W at *
    clear E E'
    rcases (by omega : i = 0 ∨ i = 1 ∨ i = 2 ∨ i = 3) with rfl | rfl | rfl | rfl
    · by_cases hc : k.a = k'.a
      · have HA : Hid (k.a = k'.a) := hc
        have e0 : cmI k.a k'.a = 0 := by rw [hc]; exact cm_eq _
        clear hc
        go_upto_region 4 with fail
        go_quiet ((go_at_call 72; exact Calls.quiet_of_same (H46.out _ _ _)))
        go_wp2_with fail
        exact ⟨⟨1, by omega, by omega, rfl, ⟨fun _ => HA.out, fun q => by omega, fun q => by omega⟩, HW.out _⟩, by simp [intOf]⟩
      · obtain ⟨e0, e1⟩ := cm_ne hc
        have HB : Hid (B = decide (k.a < k'.a)) := La.out hc
        have HE : Hid (decide (cmI k.a k'.a < 0) = decide (k.a < k'.a)) := e1
        clear hc e1
        go_upto_region 4 with fail
        go_quiet ((go_at_call 72; exact Calls.quiet_of_same (H46.out _ _ _)))
        go_wp2_with fail
        go_ret
        exact ⟨ret_b (HE.out.trans HB.out.symm), HW.out _⟩
    · have HA : Hid (k.a = k'.a) := HP.out.1 (by omega)
      by_cases hc : k.b = k'.b
      · have HC : Hid (k.b = k'.b) := hc
        have e0 : cmI k.b k'.b = 0 := by rw [hc]; exact cm_eq _
        clear hc
        go_upto_region 4 with fail
        go_quiet ((go_at_call 72; exact Calls.quiet_of_same (H46.out _ _ _)))
        go_wp2_with fail
        exact ⟨⟨2, by omega, by omega, rfl, ⟨fun _ => HA.out, fun q => HC.out, fun q => by omega⟩, HW.out _⟩, by simp [intOf]⟩
      · obtain ⟨e0, e1⟩ := cm_ne hc
        have HB : Hid (B = decide (k.b < k'.b)) := Lb.out HA.out hc
        have HE : Hid (decide (cmI k.b k'.b < 0) = decide (k.b < k'.b)) := e1
        clear hc e1
        go_upto_region 4 with fail
        go_quiet ((go_at_call 72; exact Calls.quiet_of_same (H46.out _ _ _)))
        go_wp2_with fail
        go_ret
        exact ⟨ret_b (HE.out.trans HB.out.symm), HW.out _⟩
    · have HA : Hid (k.a = k'.a) := HP.out.1 (by omega)
      have HC : Hid (k.b = k'.b) := HP.out.2.1 (by omega)
      by_cases hc : k.c = k'.c
      · have HD : Hid (k.c = k'.c) := hc
        have e0 : cmI k.c k'.c = 0 := by rw [hc]; exact cm_eq _
        clear hc
        go_upto_region 4 with fail
        go_quiet ((go_at_call 72; exact Calls.quiet_of_same (H46.out _ _ _)))
        go_wp2_with fail
        exact ⟨⟨3, by omega, by omega, rfl, ⟨fun _ => HA.out, fun q => HC.out, fun q => HD.out⟩, HW.out _⟩, by simp [intOf]⟩
      · obtain ⟨e0, e1⟩ := cm_ne hc
        have HB : Hid (B = decide (k.c < k'.c)) := Lc.out HA.out HC.out hc
        have HE : Hid (decide (cmI k.c k'.c < 0) = decide (k.c < k'.c)) := e1
        clear hc e1
        go_upto_region 4 with fail
        go_quiet ((go_at_call 72; exact Calls.quiet_of_same (H46.out _ _ _)))
        go_wp2_with fail
        go_ret
        exact ⟨ret_b (HE.out.trans HB.out.symm), HW.out _⟩
    · have HB : Hid (B = decide ((h : Int) < h')) := Lh.out (HP.out.1 (by omega)) (HP.out.2.1 (by omega)) (HP.out.2.2 (by omega))
      go_upto_region 8 with fail
      go_quiet (fail)
      go_wp2_with fail
      go_ret
      exact ⟨ret_b (by rw [HB.out]; by_cases q : h < h' <;> simp [q]), HW.out _⟩
end Go.Proofs.Ytcfnonfghlgphaa.Hp

namespace Go.Proofs.Ytcfnonfghlgphaa.Hp
open Go.RowKit Go.Maps

theorem info67 : (Try.prog.info? 115).map (fun i => (i.zero, i.size, i.bytes)) = some (some (.pointer none), 1, 8) := by kernel_rfl
theorem blk_keep {w w1 : World} {b t n : Nat} {f : Nat → Value} (h : Blk w b t n f) {S : Nat → Prop} (k : Kp S w w1) (hS : ¬ S b) : Blk w1 b t n f := h.at (k.block b h.lt hS)
/-- the entries of a line, as its row has them -/
def Fam (w : World) (v : Value) (l : List Nat) : Prop := w.ownsRow 0 115 1 v l.length (l.map ptr)
theorem Fam.nil (w : World) : Fam w (.slice none 0 0) [] := World.ownsRow_nil w 0 115 1
theorem Fam.shape {w : World} {v : Value} {l : List Nat} (h : Fam w v l) : ∃ a c, v = .slice a l.length c := by
  rcases h.2 with ⟨rfl, h0⟩ | ⟨g, cap, cur, rfl, _⟩
  · exact ⟨none, 0, by rw [h0]⟩
  · exact ⟨_, _, rfl⟩
theorem Fam.lt {w : World} {v : Value} {l : List Nat} (h : Fam w v l) {g : Nat} (e : v.ownBlock = some g) : g < w.heap.size := (World.ownsRow.lt h g e).2
theorem Fam.ne {w : World} {v : Value} {l : List Nat} (h : Fam w v l) {b t n : Nat} {f : Nat → Value} (hb : Blk w b t n f) (ht : t ≠ 115) : v.ownBlock ≠ some b := fun e => by
  rcases h.2 with ⟨rfl, _⟩ | ⟨g1, cap, cur, rfl, hb', hgg, rest⟩
  · cases e
  · have e1 : g1 = b := by simpa [Value.ownBlock] using e
    subst e1
    unfold Blk at hb
    rw [hgg] at hb
    cases hb
    exact ht rfl
theorem Fam.keep {w w1 : World} {v : Value} {l : List Nat} (h : Fam w v l) (b : ∀ g, v.ownBlock = some g → w1.heap[g]? = w.heap[g]?) : Fam w1 v l := ownsKeep h b
theorem Fam.row {w : World} {v : Value} {l : List Nat} (h : Fam w v l) (hl : l ≠ []) : ∃ g c, v = .slice (some ⟨g, 0, none⟩) l.length c := by
  rcases h.2 with ⟨rfl, h0⟩ | ⟨g, cap, cur, rfl, _⟩
  · exact absurd (List.eq_nil_of_length_eq_zero h0) hl
  · exact ⟨g, cap, rfl⟩
theorem Fam.cell {w : World} {g n c : Nat} {l : List Nat} (h : Fam w (.slice (some ⟨g, 0, none⟩) n c) l) {k b : Nat} (hk : l[k]? = some b) : w.cell? ⟨g, k, none⟩ = some (ptr b) ∧ w.frozen? ⟨g, k, none⟩ = false := by
  refine ⟨?_, ?_⟩
  · have := World.ownsRow.cells h (g := g) rfl k (ptr b) (by rw [List.getElem?_map, hk]; rfl)
    rw [Addr.add_lit, Nat.zero_add] at this
    exact this
  · rcases h.2 with ⟨e, _⟩ | ⟨g', cap, cur, e, hb, hgg, _⟩
    · cases e
    · cases e
      exact fz hgg k
theorem Fam.set {w : World} {g n c : Nat} {l : List Nat} (h : Fam w (.slice (some ⟨g, 0, none⟩) n c) l) (k b : Nat) : Fam (w.setCell ⟨g, k, none⟩ (ptr b)) (.slice (some ⟨g, 0, none⟩) n c) (l.set k b) := by
  refine ⟨by rw [List.length_map, Nat.mul_one], ?_⟩
  rcases h.2 with ⟨e, _⟩ | ⟨g', cap, cur, e, hb, hgg, h1, h2, h3, h4⟩
  · cases e
  · cases e
    refine .inr ⟨g, c, cur.setIfInBounds k (ptr b), by rw [List.length_set], hb, setB hgg _, by rw [List.length_set]; exact h1, h2, by rw [Array.size_setIfInBounds]; exact h3, ?_⟩
    rw [List.length_set, Array.toList_setIfInBounds, List.take_set, h4, List.map_set]
theorem Fam.drop {w : World} {g n c : Nat} {l : List Nat} (h : Fam w (.slice (some ⟨g, 0, none⟩) n c) l) (m : Nat) (hm : l.length = m + 1) : Fam (w.setCell ⟨g, m, none⟩ (.pointer none)) (.slice (some ⟨g, 0, none⟩) m c) l.dropLast := by
  have hl : l.dropLast.length = m := by rw [List.length_dropLast]; omega
  refine ⟨by rw [List.length_map, Nat.mul_one], ?_⟩
  rcases h.2 with ⟨e, _⟩ | ⟨g', cap, cur, e, hb, hgg, h1, h2, h3, h4⟩
  · cases e
  · cases e
    refine .inr ⟨g, c, cur.setIfInBounds m (.pointer none), by rw [hl], hb, setB hgg _, by omega, h2, by rw [Array.size_setIfInBounds]; exact h3, ?_⟩
    rw [Nat.mul_one] at h4 ⊢
    rw [hl, Array.toList_setIfInBounds, List.take_set_of_le (Nat.le_refl _), List.dropLast_eq_take, List.map_take, ← h4, List.take_take]
    congr 1
    omega
theorem Fam.cap {w : World} {g n c : Nat} {l : List Nat} (h : Fam w (.slice (some ⟨g, 0, none⟩) n c) l) : l.length ≤ c ∧ n = l.length := by
  rcases h.2 with ⟨e, _⟩ | ⟨g', cap, cur, e, hb, hgg, h1, _⟩
  · cases e
  · cases e
    exact ⟨h1, rfl⟩
theorem elem56 : Try.prog.underlying 112 = some (.slice (Try.prog.elem 112)) := by kernel_rfl
theorem size56 : ∀ w, (sizeOf (Try.prog.elem 112)).run Try.prog w = .ok 1 w := fun w => by kernel_rfl
theorem slice_h (g n c m : Nat) (h : m ≤ c) (hc : 0 < c) : ∀ w, (Instr.sliceAt 112 (.slice (some ⟨g, 0, none⟩) n c) none (some (.int .i64 m)) none).run Try.prog w = .ok (.slice (some ⟨g, 0, none⟩) m c) w := fun w => by
  rw [run_sliceAt_slice (h := elem56), run_slice_h (ht := elem56) (h0 := by omega) (h2 := by omega), size56]
  simp only [Result.andThen, Int.toNat_natCast]
  unfold sliced
  rw [if_neg (by omega)]
  rfl

/-- a heap as plain data -/
structure HS where
  gv : Nat
  mb : Option Nat
  lv : Value
  l : List Nat
  hd : Nat → Nat
  ky : Nat → K
def HS.hpC (S : HS) : Nat → Value := fun i => if i = 0 then .int .i64 S.gv else if i = 1 then .map S.mb else S.lv
def HS.ndC (S : HS) (b i : Nat) : Nat → Value := fun j => if j = 0 then .int .i64 (S.hd b) else if j = 1 then .int .i64 (S.ky b).a else if j = 2 then .int .i64 (S.ky b).b else if j = 3 then .int .i64 (S.ky b).c else .int .i64 i
def HS.en (S : HS) (b : Nat) : Int := enc (S.ky b) (S.hd b)
/-- the line's numbers, by place -/
def HS.v (S : HS) : Nat → Int := fun i => S.en (S.l.getD i 0)
def HS.wl (S : HS) (l : List Nat) : HS := { S with l := l }
structure Mem (w : World) (hb : Nat) (S : HS) : Prop where
  hp : Blk w hb 114 3 S.hpC
  nd : ∀ (i b : Nat), S.l[i]? = some b → Blk w b 117 5 (S.ndC b i)
  fm : Fam w S.lv S.l
  no : S.l.Nodup
  ok : ∀ b ∈ S.l, (S.ky b).ok ∧ S.hd b < 1048576
  sm : S.l.length ≤ 1048576
/-- the heap's blocks -/
def Fp (hb : Nat) (S : HS) (k : Nat) : Prop := k = hb ∨ k ∈ S.l ∨ S.lv.ownBlock = some k ∨ S.mb = some k
/-- a change of the heap's blocks alone -/
structure Chg (hb : Nat) (S S' : HS) (w w' : World) : Prop where
  kp : Kp (Fp hb S) w w'
  fp : ∀ k, Fp hb S' k → Fp hb S k ∨ w.heap.size ≤ k
section
variable {w w' w1 w2 : World} {hb : Nat} {S S' S1 S2 : HS}
theorem Chg.refl (hb : Nat) (S : HS) (w : World) : Chg hb S S w w := ⟨Kp.refl _ w, fun _ h => .inl h⟩
theorem Chg.trans (h : Chg hb S S1 w w1) (k : Chg hb S1 S2 w1 w2) : Chg hb S S2 w w2 :=
  ⟨h.kp.trans k.kp fun i hi q => (h.fp i q).elim id fun q => absurd hi (by omega), fun i q => (k.fp i q).elim (fun q => h.fp i q) fun q => .inr (Nat.le_trans h.kp.size q)⟩
theorem Mem.keep (h : Mem w hb S) (b : ∀ k, Fp hb S k → w'.heap[k]? = w.heap[k]?) : Mem w' hb S :=
  ⟨h.hp.at (b hb (.inl rfl)), fun i x hx => (h.nd i x hx).at (b x (.inr (.inl (List.mem_of_getElem? hx)))), h.fm.keep fun g hg => b g (.inr (.inr (.inl hg))), h.no, h.ok, h.sm⟩
theorem Mem.lt (h : Mem w hb S) (k : Nat) (hk : k = hb ∨ k ∈ S.l ∨ S.lv.ownBlock = some k) : k < w.heap.size := by
  rcases hk with rfl | hk | hk
  · exact h.hp.lt
  · obtain ⟨i, hi⟩ := List.getElem?_of_mem hk
    exact (h.nd i k hi).lt
  · exact h.fm.lt hk
theorem Mem.below (h : Mem w hb S) (b : Below w.heap.size w w') : Mem w' hb S := by
  refine ⟨h.hp.at (b.block _ h.hp.lt), fun i x hx => (h.nd i x hx).at (b.block _ (h.nd i x hx).lt), h.fm.keep fun g hg => b.block g (h.fm.lt hg), h.no, h.ok, h.sm⟩
theorem Mem.drew (h : Mem w hb S) (m : Nat) : Mem (w.drewN m) hb S := ⟨h.hp, h.nd, h.fm, h.no, h.ok, h.sm⟩
theorem Mem.en (h : Mem w hb S) {i b : Nat} (hb' : S.l[i]? = some b) : En w b (S.ky b) (S.hd b) := by
  have := h.nd i b hb'
  exact ⟨this.cell 0 (by decide), this.cell 1 (by decide), this.cell 2 (by decide), this.cell 3 (by decide)⟩
theorem getD_of {l : List Nat} {i b : Nat} (h : l[i]? = some b) : l.getD i 0 = b := by rw [List.getD_eq_getElem?_getD, h]; rfl
theorem some_of {l : List Nat} {i : Nat} (h : i < l.length) : l[i]? = some (l.getD i 0) := by rw [List.getD_eq_getElem?_getD, List.getElem?_eq_getElem h]; rfl
end

set_option maxHeartbeats 400000 in
theorem end_raw (w : World) (hb n p s : Nat) (a : Option Addr) (c : Nat) (c2 : w.cell? ⟨hb, 2, none⟩ = some (.slice a n c)) (hn : n ≤ 1048576) (hp : p ≤ 1048576) (hs : s ≤ 1) (hn1 : 1 ≤ n) :
    Calls Try.prog 78 #[.pointer (some ⟨hb, 0, none⟩), .int .i64 p, .int .i64 s] w fun e w' => e = .returned (.int .i64 (P n s p)) ∧ w' = w := by
  go_enter Try.func78, Try.ntmps78
  by_cases h : 2 * (p : Int) + (s : Int) ≤ (n : Int) - 1
  all_goals go_wp2_with fail
  all_goals go_ret
  all_goals exact ⟨ret_int (by unfold P; omega), rfl⟩
section
variable {w w' w1 w2 : World} {hb : Nat} {S S' S1 S2 : HS}
theorem Mem.c2 (h : Mem w hb S) : w.cell? ⟨hb, 2, none⟩ = some S.lv := h.hp.cell 2 (by decide)
theorem end_S (h : Mem w hb S) {p s : Nat} (hp : 2 * p < S.l.length) (hs : s ≤ 1) :
    Calls Try.prog 78 #[.pointer (some ⟨hb, 0, none⟩), .int .i64 p, .int .i64 s] w fun e w' => e = .returned (.int .i64 (P S.l.length s p)) ∧ w' = w := by
  obtain ⟨a, c, e⟩ := h.fm.shape
  have := h.sm
  exact end_raw w hb _ p s a c (by rw [h.c2, e]) (by omega) (by omega) hs (by omega)
end

set_option maxHeartbeats 1000000 in
theorem out_raw (w : World) (hb g n c i j x y : Nat) (s : Nat) (B : Bool) (c2 : w.cell? ⟨hb, 2, none⟩ = some (.slice (some ⟨g, 0, none⟩) n c)) (hi : i < n) (hj : j < n) (ci : w.cell? ⟨g, i, none⟩ = some (.pointer (some ⟨x, 0, none⟩))) (cj : w.cell? ⟨g, j, none⟩ = some (.pointer (some ⟨y, 0, none⟩))) (hs : s ≤ 1)
    (H0 : Hid (s = 0 → ∀ m, Calls Try.prog 88 #[.pointer (some ⟨x, 0, none⟩), .pointer (some ⟨y, 0, none⟩)] (w.drewN m) fun e w' => e = .returned (.bool B) ∧ ∃ m', w' = (w.drewN m).drewN m'))
    (H1 : Hid (s = 1 → ∀ m, Calls Try.prog 88 #[.pointer (some ⟨y, 0, none⟩), .pointer (some ⟨x, 0, none⟩)] (w.drewN m) fun e w' => e = .returned (.bool B) ∧ ∃ m', w' = (w.drewN m).drewN m')) :
    Calls Try.prog 84 #[.pointer (some ⟨hb, 0, none⟩), .int .i64 i, .int .i64 j, .int .i64 s] w fun e w' => e = .returned (.bool B) ∧ ∃ m, w' = w.drewN m := by
  have hi' : (i : Int) < (n : Int) := by omega
  have hj' : (j : Int) < (n : Int) := by omega
  rcases (by omega : s = 0 ∨ s = 1) with e | e
  · have HH : Hid (∀ m, Calls Try.prog 88 #[.pointer (some ⟨x, 0, none⟩), .pointer (some ⟨y, 0, none⟩)] (w.drewN m) fun e w' => e = .returned (.bool B) ∧ ∃ m', w' = (w.drewN m).drewN m') := H0.out e
    subst e
    clear H0 H1 hs
    go_enter Try.func84, Try.ntmps84
    go_upto_region 3 with fail
    go_quiet ((go_at_call 88; exact Calls.quiet_of (HH.out _)))
    go_wp2_with fail
    go_ret
    exact ⟨rfl, _, rfl⟩
  · have HH : Hid (∀ m, Calls Try.prog 88 #[.pointer (some ⟨y, 0, none⟩), .pointer (some ⟨x, 0, none⟩)] (w.drewN m) fun e w' => e = .returned (.bool B) ∧ ∃ m', w' = (w.drewN m).drewN m') := H1.out e
    subst e
    clear H0 H1 hs
    go_enter Try.func84, Try.ntmps84
    go_upto_region 3 with fail
    go_quiet ((go_at_call 88; exact Calls.quiet_of (HH.out _)))
    go_wp2_with fail
    go_ret
    exact ⟨rfl, _, rfl⟩
section
variable {w w' w1 w2 : World} {hb : Nat} {S S' S1 S2 : HS}
/-- does the entry at i come out ahead of the one at j? -/
def outB (S : HS) (s i j : Nat) : Bool := decide (sg s (S.v i) < sg s (S.v j))
theorem out_S (h : Mem w hb S) {i j s : Nat} (hi : i < S.l.length) (hj : j < S.l.length) (hs : s ≤ 1) :
    Calls Try.prog 84 #[.pointer (some ⟨hb, 0, none⟩), .int .i64 i, .int .i64 j, .int .i64 s] w fun e w' => e = .returned (.bool (outB S s i j)) ∧ ∃ m, w' = w.drewN m := by
  obtain ⟨g, c, e⟩ := h.fm.row (by rintro q; rw [q] at hi; simp at hi)
  have hF := h.fm
  rw [e] at hF
  have si := some_of hi
  have sj := some_of hj
  have oi := h.ok _ (List.mem_of_getElem? si)
  have oj := h.ok _ (List.mem_of_getElem? sj)
  refine out_raw w hb g S.l.length c i j (S.l.getD i 0) (S.l.getD j 0) s _ (by rw [h.c2, e]) hi hj (hF.cell si).1 (hF.cell sj).1 hs (fun q m => ?_) (fun q m => ?_)
  · subst q
    exact before_any (w.drewN m) _ _ _ _ _ _ (h.en si).drew (h.en sj).drew oi.1 oj.1 oi.2 oj.2
  · subst q
    have := before_any (w.drewN m) _ _ _ _ _ _ (h.en sj).drew (h.en si).drew oj.1 oi.1 oj.2 oi.2
    have e1 : ltB (S.ky (S.l.getD j 0)) (S.hd (S.l.getD j 0)) (S.ky (S.l.getD i 0)) (S.hd (S.l.getD i 0)) = outB S 1 i j := by
      unfold ltB outB sg HS.v HS.en
      rw [if_neg (by decide), if_neg (by decide)]
      congr 1
      exact propext (by omega)
    rw [e1] at this
    exact this
end
end Go.Proofs.Ytcfnonfghlgphaa.Hp

namespace Go.Proofs.Ytcfnonfghlgphaa.Hp
open Go.RowKit Go.Maps

theorem blk_type {w : World} {b t t' n n' : Nat} {f f' : Nat → Value} (h : Blk w b t n f) (h' : Blk w b t' n' f') : t = t' := by
  unfold Blk at *
  rw [h] at h'
  have := Option.some.inj h'
  injection this
theorem blk_ne {w : World} {b b' t t' n n' : Nat} {f f' : Nat → Value} (h : Blk w b t n f) (h' : Blk w b' t' n' f') (ht : t ≠ t') : b ≠ b' := fun e => by
  subst e
  exact ht (blk_type h h')
def putW (w : World) (g x i : Nat) : World := (w.setCell ⟨g, i, none⟩ (.pointer (some ⟨x, 0, none⟩))).setCell ⟨x, 4, none⟩ (.int .i64 i)
set_option maxHeartbeats 400000 in
theorem put_raw (w : World) (hb g n c i x : Nat) (z : Value) (c2 : w.cell? ⟨hb, 2, none⟩ = some (.slice (some ⟨g, 0, none⟩) n c)) (hi : i < n) (ci : w.cell? ⟨g, i, none⟩ = some z) (fi : w.frozen? ⟨g, i, none⟩ = false) (f : Nat → Value) (hx : Blk w x 117 5 f) (hg : x ≠ g) :
    Calls Try.prog 86 #[.pointer (some ⟨hb, 0, none⟩), .pointer (some ⟨x, 0, none⟩), .int .i64 i] w fun e w' => e = .returned (.tuple #[]) ∧ w' = putW w g x i := by
  have hi' : (i : Int) < (n : Int) := by omega
  have B1 : Hid (Blk (w.setCell ⟨g, i, none⟩ (.pointer (some ⟨x, 0, none⟩))) x 117 5 f) := hx.other _ _ (fun e => hg e.symm)
  have x4 := B1.out.cell 4 (by decide)
  have f4 := B1.out.fz 4
  clear hx hg
  go_enter Try.func86, Try.ntmps86
  go_wp2_with fail
  go_end0
  exact ⟨rfl, rfl⟩
set_option maxHeartbeats 400000 in
theorem swap_raw (w : World) (hb g n c i j x y : Nat) (f : Nat → Value) (h : Nat → Value) (k : Nat → Value) (hB : Hid (Blk w hb 114 3 k)) (hk : k 2 = .slice (some ⟨g, 0, none⟩) n c) (hi : i < n) (hj : j < n) (ci : w.cell? ⟨g, i, none⟩ = some (.pointer (some ⟨x, 0, none⟩))) (cj : w.cell? ⟨g, j, none⟩ = some (.pointer (some ⟨y, 0, none⟩))) (fi : w.frozen? ⟨g, i, none⟩ = false) (fj : w.frozen? ⟨g, j, none⟩ = false)
    (hx : Hid (Blk w x 117 5 f)) (hy : Hid (Blk w y 117 5 h)) (gg : Hid (∃ cs, w.heap[g]? = some (.cells cs 115 (0, 0)))) :
    Calls Try.prog 82 #[.pointer (some ⟨hb, 0, none⟩), .int .i64 i, .int .i64 j] w fun e w' => e = .returned (.tuple #[]) ∧ ∃ m, w' = putW (putW (w.drewN m) g x j) g y i := by
  have c2 := hB.out.cell 2 (by decide)
  rw [hk] at c2
  have hi' : (i : Int) < (n : Int) := by omega
  have hj' : (j : Int) < (n : Int) := by omega
  have nx : Hid (x ≠ g) := by
    rintro rfl
    obtain ⟨cs, h1⟩ := gg.out
    have h2 := hx.out
    unfold Blk at h2
    rw [h1] at h2
    cases h2
  have ny : Hid (y ≠ g) := by
    rintro rfl
    obtain ⟨cs, h1⟩ := gg.out
    have h2 := hy.out
    unfold Blk at h2
    rw [h1] at h2
    cases h2
  have nh : Hid (hb ≠ g) := by
    rintro rfl
    obtain ⟨cs, h1⟩ := gg.out
    have h2 := hB.out
    unfold Blk at h2
    rw [h1] at h2
    cases h2
  have nhx : Hid (hb ≠ x) := blk_ne hB.out hx.out (by decide)
  have H1 : Hid (∀ m, Calls Try.prog 86 #[.pointer (some ⟨hb, 0, none⟩), .pointer (some ⟨x, 0, none⟩), .int .i64 j] (w.drewN m) fun e w' => e = .returned (.tuple #[]) ∧ w' = putW (w.drewN m) g x j) := fun m => put_raw (w.drewN m) hb g n c j x _ c2 hj cj fj f hx.out nx.out
  have H2 : Hid (∀ m, Calls Try.prog 86 #[.pointer (some ⟨hb, 0, none⟩), .pointer (some ⟨y, 0, none⟩), .int .i64 i] (putW (w.drewN m) g x j) fun e w' => e = .returned (.tuple #[]) ∧ w' = putW (putW (w.drewN m) g x j) g y i) := fun m => by
    have hB1 : Blk (putW (w.drewN m) g x j) hb 114 3 k := ((show Blk (w.drewN m) hb 114 3 k from hB.out).other _ _ (fun e => nh.out e.symm)).other _ _ (fun e => nhx.out e.symm)
    have e2 := hB1.cell 2 (by decide)
    rw [hk] at e2
    have hy1 : ∃ f', Blk (putW (w.drewN m) g x j) y 117 5 f' := by
      have b1 : Blk ((w.drewN m).setCell ⟨g, j, none⟩ (.pointer (some ⟨x, 0, none⟩))) y 117 5 h := (show Blk (w.drewN m) y 117 5 h from hy.out).other _ _ (fun e => ny.out e.symm)
      by_cases e : x = y
      · subst e
        exact ⟨_, b1.set 4 _⟩
      · exact ⟨_, b1.other _ _ e⟩
    obtain ⟨f', hy1⟩ := hy1
    obtain ⟨cs, hg⟩ := gg.out
    have g1 : (putW (w.drewN m) g x j).heap[g]? = some (.cells (cs.setIfInBounds j (.pointer (some ⟨x, 0, none⟩))) 115 (0, 0)) :=
      (Below.heap_setCell _ _ _ _ (fun e => nx.out e.symm)).trans (setB (show (w.drewN m).heap[g]? = _ from hg) _)
    have hsz : i < cs.size := by
      have := ci
      unfold World.cell? at this
      rw [hg] at this
      simp at this
      exact (Array.getElem?_eq_some_iff.1 this).1
    have hc : ∃ z, (putW (w.drewN m) g x j).cell? ⟨g, i, none⟩ = some z := by
      unfold World.cell?
      rw [g1]
      simp [hsz]
    obtain ⟨z, hz⟩ := hc
    exact put_raw _ hb g n c i y z e2 hi hz (fz g1 i) f' hy1 ny.out
  clear hB hx hy gg nx ny nh nhx
  go_enter Try.func82, Try.ntmps82
  go_upto_region 0 with fail
  go_quiet (fail)
  go_wp2_with (first | (go_at_call_of 86 (Value.pointer (some ⟨x, 0, none⟩)); refine (H1.out _).mono ?_; rintro e w1 ⟨rfl, rfl⟩) | (go_at_call_of 86 (Value.pointer (some ⟨y, 0, none⟩)); refine (H2.out _).mono ?_; rintro e w1 ⟨rfl, rfl⟩))
  go_end0
  exact ⟨rfl, _, rfl⟩
end Go.Proofs.Ytcfnonfghlgphaa.Hp

namespace Go.Proofs.Ytcfnonfghlgphaa.Hp
open Go.RowKit Go.Maps

def lsw (l : List Nat) (i j : Nat) : List Nat := (l.set j (l.getD i 0)).set i (l.getD j 0)
section
variable {l : List Nat} {i j : Nat}
theorem getD_get (hi : i < l.length) : l.getD i 0 = l[i] := by rw [List.getD_eq_getElem?_getD, List.getElem?_eq_getElem hi]; rfl
theorem lsw_perm (hi : i < l.length) (hj : j < l.length) : (lsw l i j).Perm l := by
  unfold lsw
  have := List.set_set_perm hj hi
  rw [getD_get hi, getD_get hj]
  exact this
theorem lsw_length : (lsw l i j).length = l.length := by unfold lsw; simp
theorem lsw_getD (hi : i < l.length) (hj : j < l.length) (k : Nat) : (lsw l i j).getD k 0 = if k = i then l.getD j 0 else if k = j then l.getD i 0 else l.getD k 0 := by
  unfold lsw
  simp only [List.getD_eq_getElem?_getD]
  by_cases h1 : k = i
  · subst h1
    rw [List.getElem?_set_self (by simpa using hi), if_pos rfl]; rfl
  · rw [List.getElem?_set_ne (fun e => h1 e.symm), if_neg h1]
    by_cases h2 : k = j
    · subst h2
      rw [List.getElem?_set_self hj, if_pos rfl]; rfl
    · rw [List.getElem?_set_ne (fun e => h2 e.symm), if_neg h2]
theorem lsw_v (S : HS) (hi : i < S.l.length) (hj : j < S.l.length) : (S.wl (lsw S.l i j)).v = sw S.v i j := by
  funext k
  unfold HS.v sw
  show S.en ((lsw S.l i j).getD k 0) = _
  rw [lsw_getD hi hj]
  split
  · rfl
  · split <;> rfl
theorem nodup_get {a b : Nat} (h : l.Nodup) (ha : a < l.length) (hb : b < l.length) (e : l.getD a 0 = l.getD b 0) : a = b := by
  exact (List.getElem?_inj ha h).1 (by rw [some_of ha, some_of hb, e])
end
/-- the line and the entries -/
def Fl (S : HS) (k : Nat) : Prop := k ∈ S.l ∨ S.lv.ownBlock = some k
structure Mv (w w' : World) (hb : Nat) (S : HS) (l' : List Nat) : Prop where
  m : Mem w' hb (S.wl l')
  p : l'.Perm S.l
  k : Kp (Fl S) w w'
section
variable {w w' w1 w2 : World} {hb : Nat} {S S' S1 S2 : HS} {l1 l2 : List Nat}
theorem Mv.refl (h : Mem w hb S) : Mv w w hb S S.l := ⟨h, List.Perm.refl _, Kp.refl _ _⟩
theorem Mv.drew (h : Mv w w' hb S l1) (m : Nat) : Mv w (w'.drewN m) hb S l1 := ⟨h.m.drew m, h.p, h.k.drew m⟩
theorem Mv.trans (h : Mv w w1 hb S l1) (k : Mv w1 w2 hb (S.wl l1) l2) : Mv w w2 hb S l2 :=
  ⟨k.m, k.p.trans h.p, h.k.trans k.k fun _ _ q => q.imp (fun q => h.p.mem_iff.1 q) id⟩
theorem Mv.len (h : Mv w w' hb S l1) : l1.length = S.l.length := h.p.length_eq
theorem ndC_set (b i j : Nat) (k : Nat) (hk : k < 5) : fset (S.ndC b i) 4 (.int .i64 j) k = S.ndC b j k := by
  unfold fset HS.ndC
  by_cases e : k = 4
  · subst e; rfl
  · rcases (by omega : k = 0 ∨ k = 1 ∨ k = 2 ∨ k = 3) with rfl | rfl | rfl | rfl <;> rfl
theorem ndC_set2 (b i j n : Nat) (k : Nat) (hk : k < 5) : fset (fset (S.ndC b i) 4 (.int .i64 n)) 4 (.int .i64 j) k = S.ndC b j k := by
  unfold fset HS.ndC
  by_cases e : k = 4
  · subst e; rfl
  · rcases (by omega : k = 0 ∨ k = 1 ∨ k = 2 ∨ k = 3) with rfl | rfl | rfl | rfl <;> rfl
theorem Fam.gg {w : World} {g n c : Nat} {l : List Nat} (h : Fam w (.slice (some ⟨g, 0, none⟩) n c) l) : ∃ cs, w.heap[g]? = some (.cells cs 115 (0, 0)) := by
  rcases h.2 with ⟨e, _⟩ | ⟨g', cap, cur, e, hb, hgg, _⟩
  · cases e
  · cases e
    exact ⟨_, hgg⟩
theorem fam_other {w : World} {v : Value} {l : List Nat} (h : Fam w v l) (p : Addr) (u : Value) (hp : v.ownBlock ≠ some p.block) : Fam (w.setCell p u) v l := h.keep fun k hk => Below.heap_setCell w p u k fun e => hp (by rw [← e]; exact hk)
theorem swap_S (h : Mem w hb S) {i j : Nat} (hi : i < S.l.length) (hj : j < S.l.length) :
    Calls Try.prog 82 #[.pointer (some ⟨hb, 0, none⟩), .int .i64 i, .int .i64 j] w fun e w' => e = .returned (.tuple #[]) ∧ Mv w w' hb S (lsw S.l i j) := by
  obtain ⟨g, c, e⟩ := h.fm.row (by rintro q; rw [q] at hi; simp at hi)
  have hF := h.fm
  rw [e] at hF
  have si := some_of hi
  have sj := some_of hj
  have ni := h.nd _ _ si
  have nj := h.nd _ _ sj
  have hgi : S.l.getD i 0 ≠ g := fun q => hF.ne ni (by decide) (by rw [q]; rfl)
  have hgj : S.l.getD j 0 ≠ g := fun q => hF.ne nj (by decide) (by rw [q]; rfl)
  have hgh : hb ≠ g := fun q => hF.ne h.hp (by decide) (by rw [q]; rfl)
  have hhi : hb ≠ S.l.getD i 0 := blk_ne h.hp ni (by decide)
  have hhj : hb ≠ S.l.getD j 0 := blk_ne h.hp nj (by decide)
  refine (swap_raw w hb g S.l.length c i j (S.l.getD i 0) (S.l.getD j 0) _ _ S.hpC h.hp (by show S.lv = _; exact e) hi hj (hF.cell si).1 (hF.cell sj).1 (hF.cell si).2 (hF.cell sj).2 ni nj hF.gg).mono ?_
  rintro q w' ⟨rfl, m, rfl⟩
  refine ⟨rfl, ?_⟩
  have hm := h.drew m
  have kd : Kp (Fl S) w (w.drewN m) := (Kp.refl _ w).drew m
  generalize w.drewN m = W at *
  have hp := lsw_perm hi hj
  refine ⟨⟨?_, fun k z hz => ?_, ?_, hp.nodup_iff.2 h.no, fun b hb' => h.ok b (hp.mem_iff.1 hb'), by rw [show (S.wl (lsw S.l i j)).l = lsw S.l i j from rfl, lsw_length]; exact h.sm⟩, hp, ?_⟩
  · exact (((hm.hp.other ⟨g, j, none⟩ _ (fun q => hgh q.symm)).other ⟨S.l.getD i 0, 4, none⟩ _ (fun q => hhi q.symm)).other ⟨g, i, none⟩ _ (fun q => hgh q.symm)).other ⟨S.l.getD j 0, 4, none⟩ _ (fun q => hhj q.symm)
  · have hk : k < S.l.length := by
      have := (List.getElem?_eq_some_iff.1 hz).1
      rwa [show (S.wl (lsw S.l i j)).l = lsw S.l i j from rfl, lsw_length] at this
    have hzv : (lsw S.l i j).getD k 0 = z := getD_of hz
    rw [lsw_getD hi hj] at hzv
    have nij : S.l.getD i 0 = S.l.getD j 0 → i = j := nodup_get h.no hi hj
    show Blk _ z 117 5 (S.ndC z k)
    by_cases e1 : k = i
    · rw [if_pos e1] at hzv
      subst e1
      subst hzv
      have b1 := (hm.nd _ _ sj).other ⟨g, j, none⟩ (.pointer (some ⟨S.l.getD k 0, 0, none⟩)) (fun q => hgj q.symm)
      by_cases e2 : S.l.getD k 0 = S.l.getD j 0
      · have e3 := nij e2
        subst e3
        exact (((b1.set 4 (.int .i64 k)).other ⟨g, k, none⟩ _ (fun q => hgj q.symm)).set 4 _).same fun r hr => ndC_set2 _ _ _ _ r hr
      · exact (((b1.other ⟨S.l.getD k 0, 4, none⟩ _ e2).other ⟨g, k, none⟩ _ (fun q => hgj q.symm)).set 4 _).same fun r hr => ndC_set _ _ _ r hr
    · rw [if_neg e1] at hzv
      by_cases e2 : k = j
      · rw [if_pos e2] at hzv
        subst e2
        subst hzv
        have b1 := (hm.nd _ _ si).other ⟨g, k, none⟩ (.pointer (some ⟨S.l.getD i 0, 0, none⟩)) (fun q => hgi q.symm)
        have ne : S.l.getD k 0 ≠ S.l.getD i 0 := fun q => e1 (nij q.symm).symm
        exact (((b1.set 4 (.int .i64 k)).other ⟨g, i, none⟩ _ (fun q => hgi q.symm)).other ⟨S.l.getD k 0, 4, none⟩ _ ne).same fun r hr => ndC_set _ _ _ r hr
      · rw [if_neg e2] at hzv
        subst hzv
        have sk := some_of hk
        have hgk : S.l.getD k 0 ≠ g := fun q => hF.ne (h.nd _ _ sk) (by decide) (by rw [q]; rfl)
        have n1 : S.l.getD i 0 ≠ S.l.getD k 0 := fun q => e1 (nodup_get h.no hi hk q).symm
        have n2 : S.l.getD j 0 ≠ S.l.getD k 0 := fun q => e2 (nodup_get h.no hj hk q).symm
        exact ((((hm.nd _ _ sk).other ⟨g, j, none⟩ _ (fun q => hgk q.symm)).other ⟨S.l.getD i 0, 4, none⟩ _ n1).other ⟨g, i, none⟩ _ (fun q => hgk q.symm)).other ⟨S.l.getD j 0, 4, none⟩ _ n2
  · have hF' := hm.fm
    rw [e] at hF'
    have o1 : ∀ x, x ≠ g → (Value.slice (some ⟨g, 0, none⟩) S.l.length c).ownBlock ≠ some x := fun x hx q => hx (by simpa [Value.ownBlock] using q.symm)
    show Fam _ S.lv (lsw S.l i j)
    rw [e]
    exact fam_other ((fam_other (hF'.set j (S.l.getD i 0)) ⟨S.l.getD i 0, 4, none⟩ _ (o1 _ hgi)).set i (S.l.getD j 0)) ⟨S.l.getD j 0, 4, none⟩ _ (o1 _ hgj)
  · have f1 : Fl S g := .inr (by rw [e]; rfl)
    have f2 : Fl S (S.l.getD i 0) := .inl (List.mem_of_getElem? si)
    have f3 : Fl S (S.l.getD j 0) := .inl (List.mem_of_getElem? sj)
    exact (((kd.trans (Kp.of_set (S := Fl S) _ ⟨g, j, none⟩ _ f1) fun _ _ h => h).trans (Kp.of_set (S := Fl S) _ ⟨S.l.getD i 0, 4, none⟩ _ f2) fun _ _ h => h).trans (Kp.of_set (S := Fl S) _ ⟨g, i, none⟩ _ f1) fun _ _ h => h).trans (Kp.of_set (S := Fl S) _ ⟨S.l.getD j 0, 4, none⟩ _ f3) fun _ _ h => h
end

set_option maxHeartbeats 400000 in
theorem turn_raw (w : World) (hb p i j : Nat) (B : Bool) (R : World → Prop) (H39 : Hid (Calls Try.prog 78 #[.pointer (some ⟨hb, 0, none⟩), .int .i64 p, .int .i64 0] w fun e w' => e = .returned (.int .i64 i) ∧ w' = w)) (H39b : Hid (Calls Try.prog 78 #[.pointer (some ⟨hb, 0, none⟩), .int .i64 p, .int .i64 1] w fun e w' => e = .returned (.int .i64 j) ∧ w' = w))
    (H42 : Hid (Calls Try.prog 84 #[.pointer (some ⟨hb, 0, none⟩), .int .i64 j, .int .i64 i, .int .i64 0] w fun e w' => e = .returned (.bool B) ∧ ∃ m, w' = w.drewN m))
    (H41 : Hid (B = true → ∀ m, Calls Try.prog 82 #[.pointer (some ⟨hb, 0, none⟩), .int .i64 i, .int .i64 j] (w.drewN m) fun e w' => e = .returned (.tuple #[]) ∧ Hid (R w'))) (HN : Hid (B = false → ∀ m, R (w.drewN m))) :
    Calls Try.prog 76 #[.pointer (some ⟨hb, 0, none⟩), .int .i64 p] w fun e w' => e = .returned (.tuple #[]) ∧ R w' := by
  go_enter Try.func76, Try.ntmps76
  go_upto_region 1 with (first | (go_at_call_of 78 (Value.int .i64 1); refine H39b.out.mono ?_; rintro e w1 ⟨rfl, rfl⟩) | (go_at_call 78; refine H39.out.mono ?_; rintro e w1 ⟨rfl, rfl⟩))
  cases B with
  | true =>
    have H := H41.out rfl
    go_wp2_with (first | (go_at_call 84; refine H42.out.mono ?_; rintro e w2 ⟨rfl, m, rfl⟩) | (go_at_call 82; refine (H _).mono ?_; rintro e w2 ⟨rfl, R2⟩))
    go_end0
    exact ⟨rfl, R2.out⟩
  | false =>
    have H : Hid _ := HN.out rfl
    go_wp2_with (go_at_call 84; refine H42.out.mono ?_; rintro e w2 ⟨rfl, m, rfl⟩)
    go_end0
    exact ⟨rfl, H.out _⟩
section
variable {w w' w1 w2 : World} {hb : Nat} {S S' S1 S2 : HS} {l1 l2 : List Nat}
theorem turn_S (h : Mem w hb S) {p : Nat} (hp : 2 * p < S.l.length) :
    Calls Try.prog 76 #[.pointer (some ⟨hb, 0, none⟩), .int .i64 p] w fun e w' => e = .returned (.tuple #[]) ∧ ∃ l', Mv w w' hb S l' ∧ (S.wl l').v = tn S.l.length S.v p := by
  have p0 : P S.l.length 0 p < S.l.length := P_lt hp
  have p1 : P S.l.length 1 p < S.l.length := P_lt hp
  refine turn_raw w hb p (P S.l.length 0 p) (P S.l.length 1 p) (outB S 0 (P S.l.length 1 p) (P S.l.length 0 p)) (fun w' => ∃ l', Mv w w' hb S l' ∧ (S.wl l').v = tn S.l.length S.v p) (end_S h hp (by decide)) (end_S h hp (by decide)) (out_S h p1 p0 (by decide)) (fun q m => ?_) (fun q m => ?_)
  · refine (swap_S (h.drew m) p0 p1).mono ?_
    rintro e w1 ⟨rfl, M⟩
    refine ⟨rfl, _, ⟨M.m, M.p, ((Kp.refl _ w).drew m).trans M.k fun _ _ h => h⟩, ?_⟩
    rw [lsw_v S p0 p1]
    unfold tn
    rw [if_pos (show S.v (P S.l.length 1 p) < S.v (P S.l.length 0 p) from of_decide_eq_true q)]
  · refine ⟨S.l, (Mv.refl h).drew m, ?_⟩
    unfold tn
    rw [if_neg (show ¬ S.v (P S.l.length 1 p) < S.v (P S.l.length 0 p) from of_decide_eq_false q)]
    rfl
end
end Go.Proofs.Ytcfnonfghlgphaa.Hp
