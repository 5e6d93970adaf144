/-
  Parents, Free, Done.
-/
import Derived.Test.YtodldfgoieikcaaMi
namespace Go.Proofs.Ytodldfgoieikcaa
open Go.RowKit Go.Maps

/-- a call that answers numbers: what it answers, what is there behind it -/
def OutP (w w' : World) (gb : Nat) (R : List Int → Int → GS → Prop) (v : Value) (n : Nat) (er : Int) : Prop := ∃ E g', R E er g' ∧ n = E.length ∧ IRow w.heap.size w' v E ∧ Gr w' gb g' ∧ Kp (fun k => k = gb) w w'
inductive ParR (g : GS) (x : Int) : List Int → Int → GS → Prop
  | none : hasB g x = false → ParR g x [] 3 g
  | ok (i : Nat) : x = i → 1 ≤ i → i < 101 → g.st i ≠ 0 → ParR g x (lsI (g.ps i)) 0 g
theorem hasB_nat {g : GS} {x : Int} (h : hasB g x = true) : ∃ i : Nat, x = i ∧ 1 ≤ i ∧ i < 101 ∧ g.st i ≠ 0 := hasB_iff.1 h
set_option maxHeartbeats 1000000 in
set_option maxRecDepth 100000 in
theorem par_any {w : World} {gb : Nat} {g : GS} (h : Gr w gb g) (x : Int) :
    Calls Try.prog 16 #[.pointer (some ⟨gb, 0, none⟩), .int .i64 x] w fun e w' => ∃ (p : Option Addr) (n c : Nat) (er : Int), e = .returned (.tuple #[.slice p n c, .int .i64 er]) ∧ n ≤ 101 ∧ Hid (OutP w w' gb (ParR g x) (.slice p n c) n er) := by
  have H25 : Hid (∀ w, Gr w gb g → Calls Try.prog 25 #[.pointer (some ⟨gb, 0, none⟩), .int .i64 x] w fun e w' => e = .returned (.bool (hasB g x)) ∧ w' = w) := fun w h => has_any h x
  have HG : Hid (Gr w gb g) := h
  clear h
  cases hx : hasB g x
  · have HX : Hid (hasB g x = false) := hx
    go_enter Try.func16, Try.ntmps16
    go_wp2_with (go_at_call 25; refine (H25.out _ HG.out).mono ?_; rintro e w1 ⟨rfl, rfl⟩; rw [hx])
    go_ret2
    exact ⟨none, 0, 0, 3, rfl, by omega, [], g, .none HX.out, rfl, IRow.nil _ _, HG.out, Kp.refl _ _⟩
  · obtain ⟨i, rfl, h1, h2, h3⟩ := hasB_nat hx
    have H32 : Hid (Calls Try.prog 32 #[.agg (sA (g.ps i))] w fun e w' => ∃ (p : Option Addr) (n c : Nat), e = .returned (.slice p n c) ∧ n ≤ 101 ∧ Hid (n = (lsI (g.ps i)).length ∧ IRow w.heap.size w' (.slice p n c) (lsI (g.ps i)) ∧ Below w.heap.size w w')) := list_any w _
    have HR : Hid (w.rangeAt gb (i * 102 + 1) (sL (g.ps i))) := HG.out.range i h2
    have HA : Hid (1 ≤ i ∧ i < 101 ∧ g.st i ≠ 0) := ⟨h1, h2, h3⟩
    have hi' : (i : Int) < 101 := by omega
    clear h3
    go_enter Try.func16, Try.ntmps16
    go_upto_region 3 with (go_at_call 25; refine (H25.out _ HG.out).mono ?_; rintro e w1 ⟨rfl, rfl⟩; rw [hx])
    go_wp2_with (first
      | (refine wpList_load_mid rfl 49 _ rfl gb (i * 102 + 1) rfl (sL (g.ps i)) _ HR.out Try.underlying49 rfl (size49L _) ?_; rw [sA_list])
      | (go_at_call 32; refine H32.out.mono ?_; rintro e w2 ⟨p, n, c, rfl, hn, h2⟩))
    go_ret2
    exact ⟨p, n, c, 0, rfl, hn, _, g, .ok i rfl HA.out.1 HA.out.2.1 HA.out.2.2, h2.out.1, h2.out.2.1, HG.out.grow h2.out.2.2, Kp.of_below h2.out.2.2⟩
set_option maxHeartbeats 400000 in
theorem par_nil (x : Int) (w : World) : Calls Try.prog 16 #[.pointer none, .int .i64 x] w fun e w' => e = .returned (.tuple #[.slice none 0 0, .int .i64 3]) ∧ w' = w := by
  have H25 : Hid (∀ w, Calls Try.prog 25 #[.pointer none, .int .i64 x] w fun e w' => e = .returned (.bool false) ∧ w' = w) := has_nil x
  go_enter Try.func16, Try.ntmps16
  go_wp2_with (go_at_call 25; refine (H25.out _).mono ?_; rintro e w1 ⟨rfl, rfl⟩)
  go_ret2
  exact ⟨rfl, rfl⟩

/-- Free's answer -/
def freeB (g : GS) (x : Int) : Bool := hasB g x && frB g x.toNat
set_option maxHeartbeats 1000000 in
set_option maxRecDepth 100000 in
theorem free_any {w : World} {gb : Nat} {g : GS} (h : Gr w gb g) (x : Int) : Calls Try.prog 13 #[.pointer (some ⟨gb, 0, none⟩), .int .i64 x] w fun e w' => e = .returned (.bool (freeB g x)) ∧ w' = w := by
  have H25 : Hid (∀ w, Gr w gb g → Calls Try.prog 25 #[.pointer (some ⟨gb, 0, none⟩), .int .i64 x] w fun e w' => e = .returned (.bool (hasB g x)) ∧ w' = w) := fun w h => has_any h x
  have HG : Hid (Gr w gb g) := h
  clear h
  cases hx : hasB g x
  · have HX : Hid (hasB g x = false) := hx
    go_enter Try.func13, Try.ntmps13
    go_wp2_with (go_at_call 25; refine (H25.out _ HG.out).mono ?_; rintro e w1 ⟨rfl, rfl⟩; rw [hx])
    go_ret
    exact ⟨by unfold freeB; rw [HX.out]; rfl, rfl⟩
  · have HX : Hid (hasB g x = true) := hx
    obtain ⟨i, rfl, h1, h2, h3⟩ := hasB_nat hx
    have H26 : Hid (∀ w, Gr w gb g → Calls Try.prog 26 #[.pointer (some ⟨gb, 0, none⟩), .int .i64 i] w fun e w' => e = .returned (.bool (frB g i)) ∧ w' = w) := fun w h => isfree_any h i h2
    clear h3
    go_enter Try.func13, Try.ntmps13
    go_wp2_with (first | (go_at_call 25; refine (H25.out _ HG.out).mono ?_; rintro e w1 ⟨rfl, rfl⟩; rw [hx]) | (go_at_call 26; refine (H26.out _ HG.out).mono ?_; rintro e w1 ⟨rfl, rfl⟩))
    go_ret
    exact ⟨by unfold freeB; rw [HX.out]; simp, rfl⟩
set_option maxHeartbeats 400000 in
theorem free_nil (x : Int) (w : World) : Calls Try.prog 13 #[.pointer none, .int .i64 x] w fun e w' => e = .returned (.bool false) ∧ w' = w := by
  have H25 : Hid (∀ w, Calls Try.prog 25 #[.pointer none, .int .i64 x] w fun e w' => e = .returned (.bool false) ∧ w' = w) := has_nil x
  go_enter Try.func13, Try.ntmps13
  go_wp2_with (go_at_call 25; refine (H25.out _).mono ?_; rintro e w1 ⟨rfl, rfl⟩)
  go_ret
  exact ⟨rfl, rfl⟩

/-- the children of a job that are free -/
def fdS (g : GS) (i : Nat) : Nat → Bool := fun j => g.ps j i && frB g j
def fdK (g : GS) (i k : Nat) : Nat → Bool := fun j => decide (j < k) && fdS g i j
theorem fdK_zero (g : GS) (i : Nat) : fdK g i 0 = s0 := by funext j; simp [fdK, s0]
theorem fdK_succ (g : GS) (i k : Nat) : sset (fdK g i k) k (fdS g i k) = fdK g i (k + 1) := by
  funext j
  unfold sset fdK
  by_cases e : j = k
  · subst e; simp
  · rw [if_neg e]
    congr 1
    exact decide_eq_decide.2 (by omega)
theorem fdK_all (g : GS) (i : Nat) : sA (fdK g i 101) = sA (fdS g i) := sA_same fun j hj => by simp [fdK, hj]
set_option maxHeartbeats 1000000 in
set_option maxRecDepth 100000 in
theorem freed_any {w : World} {gb : Nat} {g : GS} (h : Gr w gb g) (i : Nat) (hi : i < 101) : Calls Try.prog 33 #[.pointer (some ⟨gb, 0, none⟩), .int .i64 i] w fun e w' => e = .returned (.agg (sA (fdS g i))) ∧ Below w.heap.size w w' := by
  have HG : Hid (Gr w gb g) := h
  have hlt := h.lt
  have hi' : (i : Int) < 101 := by omega
  clear h
  have hz := zero49
  have R1 : Hid (Sx ((w.alloc (.cells (sA s0) 49)).alloc (.cells (sA s0) 49)) w.heap.size s0 ∧ Sx ((w.alloc (.cells (sA s0) 49)).alloc (.cells (sA s0) 49)) (w.heap.size + 1) s0 ∧ Below w.heap.size w ((w.alloc (.cells (sA s0) 49)).alloc (.cells (sA s0) 49))) := ⟨(sx_new w _ _ rfl).alloc _, sx_new _ _ _ (by simp), by go_grown⟩
  go_enter Try.func33, Try.ntmps33
  go_upto_region 2 with fail
  generalize (w.alloc (.cells (sA s0) 49)).alloc (.cells (sA s0) 49) = W at *
  clear hz
  go_wp2_with fail
  go_loopw [7] (fun t wr => ∃ k : Nat, t = .int .i64 k ∧ k ≤ 101 ∧ Hid (Sx wr w.heap.size s0 ∧ Sx wr (w.heap.size + 1) (fdK g i k) ∧ Below w.heap.size w wr)) (fun t _ => 101 - (intOf t).toNat)
  case atStart => exact ⟨0, rfl, Nat.zero_le _, R1.out.1, by rw [fdK_zero]; exact R1.out.2.1, R1.out.2.2⟩
  case round =>
    clear R1
    obtain ⟨k, rfl, hk1, HK⟩ := hrel
    by_cases hk : k < 101
    · have hk' : (k : Int) < 101 := by omega
      have hgr := HG.out.below HK.out.2.2 hlt
      have cp := hgr.p k i hk hi
      have c0 := HK.out.2.1.cell k hk
      have f0 := HK.out.2.1.fz k
      have H26 : Hid (∀ w', w' = wr → Calls Try.prog 26 #[.pointer (some ⟨gb, 0, none⟩), .int .i64 k] w' fun e w' => e = .returned (.bool (frB g k)) ∧ w' = wr) := fun w' e => by rw [e]; exact isfree_any hgr k hk
      have HN : Hid (∀ b, b = fdS g i k → Sx (wr.setCell ⟨w.heap.size + 1, k, none⟩ (.bool b)) w.heap.size s0 ∧ Sx (wr.setCell ⟨w.heap.size + 1, k, none⟩ (.bool b)) (w.heap.size + 1) (fdK g i (k + 1)) ∧ Below w.heap.size w (wr.setCell ⟨w.heap.size + 1, k, none⟩ (.bool b))) := fun b hb => by
        refine ⟨HK.out.1.other _ _ (by simp), ?_, HK.out.2.2.setCell (by simp) _⟩
        rw [← fdK_succ, ← hb]
        exact HK.out.2.1.set k b
      cases hp : g.ps k i
      · rw [hp] at cp
        have HP : Hid (false = fdS g i k) := by show false = fdS g i k; unfold fdS; rw [hp]; rfl
        clear hgr HK
        go_wp2_with fail
        refine ⟨⟨k + 1, by simp, by omega, HN.out _ HP.out⟩, ?_⟩
        simp [intOf]
        omega
      · rw [hp] at cp
        have HP : Hid (frB g k = fdS g i k) := by show frB g k = fdS g i k; unfold fdS; rw [hp]; simp
        clear hgr HK
        go_wp2_with (go_at_call 26; refine (H26.out _ rfl).mono ?_; rintro e w1 ⟨rfl, rfl⟩)
        refine ⟨⟨k + 1, by simp, by omega, HN.out _ HP.out⟩, ?_⟩
        simp [intOf]
        omega
    · have hk' : ¬ (k : Int) < 101 := by omega
      have hke : k = 101 := by omega
      have HS := HK.out.1
      have HS1 := HK.out.2.1
      rw [hke] at HS1
      unfold Sx at HS1
      rw [fdK_all] at HS1
      have HB : Hid (Below w.heap.size w wr) := HK.out.2.2
      have HS2 : Hid (Sx (wr.setRow w.heap.size (sA (fdS g i))) w.heap.size (fdS g i)) := HS.setRow
      have hsz : (sA s0).size = (sA (fdS g i)).size := by rw [sA_size, sA_size]
      clear hke HK
      go_upto_region 7 with fail
      go_wp2_with (first
          | refine wpList_load_row rfl 49 _ rfl (w.heap.size + 1) rfl 49 (sA (fdS g i)) (0, 0) _ HS1 Try.underlying49 rfl (size49 _) ?_
          | refine wpList_store_row rfl 49 _ _ rfl w.heap.size (sA (fdS g i)) rfl rfl 49 (sA s0) HS (size49 _) hsz (sA_one _) ?_)
      refine bodyPost_ret (results_cell_row Try.results33 _ _ w.heap.size 49 (sA (fdS g i)) (0, 0) _ rfl HS2.out Try.underlying49 rfl (size49 _)) rfl ?_
      exact ⟨rfl, below_setRow HB.out (by omega)⟩

inductive DoneR (g : GS) (x : Int) : List Int → Int → GS → Prop
  | none : hasB g x = false → DoneR g x [] 3 g
  | state (i : Nat) : x = i → 1 ≤ i → i < 101 → g.st i ≠ 0 → frB g i = false → DoneR g x [] 10 g
  | ok (i : Nat) : x = i → 1 ≤ i → i < 101 → frB g i = true → DoneR g x (lsI (fdS (g.sett i 2) i)) 0 (g.sett i 2)
set_option maxHeartbeats 1000000 in
set_option maxRecDepth 100000 in
theorem done_any {w : World} {gb : Nat} {g : GS} (h : Gr w gb g) (x : Int) :
    Calls Try.prog 18 #[.pointer (some ⟨gb, 0, none⟩), .int .i64 x] w fun e w' => ∃ (p : Option Addr) (n c : Nat) (er : Int), e = .returned (.tuple #[.slice p n c, .int .i64 er]) ∧ n ≤ 101 ∧ Hid (OutP w w' gb (DoneR g x) (.slice p n c) n er) := by
  have H25 : Hid (∀ w, Gr w gb g → Calls Try.prog 25 #[.pointer (some ⟨gb, 0, none⟩), .int .i64 x] w fun e w' => e = .returned (.bool (hasB g x)) ∧ w' = w) := fun w h => has_any h x
  have HG : Hid (Gr w gb g) := h
  clear h
  cases hx : hasB g x
  · have HX : Hid (hasB g x = false) := hx
    go_enter Try.func18, Try.ntmps18
    go_wp2_with (go_at_call 25; refine (H25.out _ HG.out).mono ?_; rintro e w1 ⟨rfl, rfl⟩; rw [hx])
    go_ret2
    exact ⟨none, 0, 0, 3, rfl, by omega, [], g, .none HX.out, rfl, IRow.nil _ _, HG.out, Kp.refl _ _⟩
  · obtain ⟨i, rfl, h1, h2, h3⟩ := hasB_nat hx
    have HA : Hid (1 ≤ i ∧ i < 101 ∧ g.st i ≠ 0) := ⟨h1, h2, h3⟩
    have hi' : (i : Int) < 101 := by omega
    have H26 : Hid (∀ w, Gr w gb g → Calls Try.prog 26 #[.pointer (some ⟨gb, 0, none⟩), .int .i64 i] w fun e w' => e = .returned (.bool (frB g i)) ∧ w' = w) := fun w h => isfree_any h i h2
    cases hf : frB g i
    · have HF : Hid (frB g i = false) := hf
      clear h3
      go_enter Try.func18, Try.ntmps18
      go_wp2_with (first | (go_at_call 25; refine (H25.out _ HG.out).mono ?_; rintro e w1 ⟨rfl, rfl⟩; rw [hx]) | (go_at_call 26; refine (H26.out _ HG.out).mono ?_; rintro e w1 ⟨rfl, rfl⟩; rw [hf]))
      go_ret2
      exact ⟨none, 0, 0, 10, rfl, by omega, [], g, .state i rfl HA.out.1 HA.out.2.1 HA.out.2.2 HF.out, rfl, IRow.nil _ _, HG.out, Kp.refl _ _⟩
    · have HF : Hid (frB g i = true) := hf
      have c0 := HG.out.s i h2
      have f0 := HG.out.fz (i * 102)
      have hg2 : Gr (w.setCell ⟨gb, i * 102, none⟩ (.int .u8 2)) gb (g.sett i 2) := HG.out.setst i 2 h2
      have hb2 : (w.setCell ⟨gb, i * 102, none⟩ (.int .u8 2)).heap.size = w.heap.size := by simp [World.setCell]
      have H33 : Hid (Calls Try.prog 33 #[.pointer (some ⟨gb, 0, none⟩), .int .i64 i] (w.setCell ⟨gb, i * 102, none⟩ (.int .u8 2)) fun e w' => e = .returned (.agg (sA (fdS (g.sett i 2) i))) ∧ Hid (Calls Try.prog 32 #[.agg (sA (fdS (g.sett i 2) i))] w' fun e w' => ∃ (p : Option Addr) (n c : Nat), e = .returned (.slice p n c) ∧ n ≤ 101 ∧ Hid (OutP w w' gb (DoneR g i) (.slice p n c) n 0))) := by
        refine (freed_any hg2 i h2).mono ?_
        rintro e w1 ⟨rfl, b1⟩
        refine ⟨rfl, (list_any w1 _).mono ?_⟩
        rintro e w2 ⟨p, n, c, rfl, hn, h5⟩
        have b2 := b1.trans (h5.out.2.2.mono b1.size)
        refine ⟨p, n, c, rfl, hn, _, _, .ok i rfl h1 h2 HF.out, h5.out.1, h5.out.2.1.mono (by have := b1.size; omega), hg2.grow b2, (Kp.of_set (S := fun k => k = gb) w _ _ rfl).trans (Kp.of_below b2) fun k _ h => h⟩
      clear h3 hg2 hb2
      go_enter Try.func18, Try.ntmps18
      go_upto_region 6 with (first | (go_at_call 25; refine (H25.out _ HG.out).mono ?_; rintro e w1 ⟨rfl, rfl⟩; rw [hx]) | (go_at_call 26; refine (H26.out _ HG.out).mono ?_; rintro e w1 ⟨rfl, rfl⟩; rw [hf]))
      go_wp2_with (first | (go_at_call 33; refine H33.out.mono ?_; rintro e w2 ⟨rfl, h2⟩) | (go_at_call 32; refine h2.out.mono ?_; rintro e w3 ⟨p, n, c, rfl, hn, h3⟩))
      go_ret2
      exact ⟨p, n, c, 0, rfl, hn, h3.out⟩
set_option maxHeartbeats 400000 in
theorem done_nil (x : Int) (w : World) : Calls Try.prog 18 #[.pointer none, .int .i64 x] w fun e w' => e = .returned (.tuple #[.slice none 0 0, .int .i64 3]) ∧ w' = w := by
  have H25 : Hid (∀ w, Calls Try.prog 25 #[.pointer none, .int .i64 x] w fun e w' => e = .returned (.bool false) ∧ w' = w) := has_nil x
  go_enter Try.func18, Try.ntmps18
  go_wp2_with (go_at_call 25; refine (H25.out _).mono ?_; rintro e w1 ⟨rfl, rfl⟩)
  go_ret2
  exact ⟨rfl, rfl⟩
end Go.Proofs.Ytodldfgoieikcaa
