/-
  The walk of the law RatioParts: it returns true and writes nothing that was there.
-/
import Derived.Test.YtfcegoibelokpaaLawB
import Derived.Test.YtfcegoibelokpaaLawO
namespace Go.Proofs.Ytfcegoibelokpaa
open Go.RowKit

set_option maxHeartbeats 8000000 in
theorem parts_at (a b c d f h x y e1 px py e2 xx xy e3 yx yy e4 zx zy e5 : Nat) (w : World)
    (A1 : Hid (∀ w, Calls Try.prog 15 #[.agg #[.int .u64 a, .int .u64 b], .agg #[.int .u64 c, .int .u64 d]] w fun e w' => e = .returned (.tuple #[.agg #[.int .u64 x, .int .u64 y], .int .i64 (e1 : Nat)]) ∧ Below w.heap.size w w'))
    (M1 : Hid (∀ w, Calls Try.prog 19 #[.agg #[.int .u64 x, .int .u64 y], .agg #[.int .u64 f, .int .u64 h]] w fun e w' => e = .returned (.tuple #[.agg #[.int .u64 px, .int .u64 py], .int .i64 (e2 : Nat)]) ∧ Below w.heap.size w w'))
    (M2 : Hid (∀ w, Calls Try.prog 19 #[.agg #[.int .u64 a, .int .u64 b], .agg #[.int .u64 f, .int .u64 h]] w fun e w' => e = .returned (.tuple #[.agg #[.int .u64 xx, .int .u64 xy], .int .i64 (e3 : Nat)]) ∧ Below w.heap.size w w'))
    (M3 : Hid (∀ w, Calls Try.prog 19 #[.agg #[.int .u64 c, .int .u64 d], .agg #[.int .u64 f, .int .u64 h]] w fun e w' => e = .returned (.tuple #[.agg #[.int .u64 yx, .int .u64 yy], .int .i64 (e4 : Nat)]) ∧ Below w.heap.size w w'))
    (A2 : Hid (∀ w, Calls Try.prog 15 #[.agg #[.int .u64 xx, .int .u64 xy], .agg #[.int .u64 yx, .int .u64 yy]] w fun e w' => e = .returned (.tuple #[.agg #[.int .u64 zx, .int .u64 zy], .int .i64 (e5 : Nat)]) ∧ Below w.heap.size w w'))
    (M4 : Hid (e1 = 0 ∧ e2 = 0 ∧ f ≠ 0 ∧ h ≠ 0 → ∀ w, Calls Try.prog 19 #[.agg #[.int .u64 px, .int .u64 py], .agg #[.int .u64 h, .int .u64 f]] w fun e w' => e = .returned (.tuple #[.agg #[.int .u64 x, .int .u64 y], .int .i64 0]) ∧ Below w.heap.size w w'))
    (hcase : (e1 ≠ 0) ∨ (e1 = 0 ∧ e2 ≠ 0) ∨ (e1 = 0 ∧ e2 = 0 ∧ e3 ≠ 0) ∨ (e1 = 0 ∧ e2 = 0 ∧ e3 = 0 ∧ e4 ≠ 0) ∨ (e1 = 0 ∧ e2 = 0 ∧ e3 = 0 ∧ e4 = 0 ∧ e5 ≠ 0) ∨ (e1 = 0 ∧ e2 = 0 ∧ e3 = 0 ∧ e4 = 0 ∧ e5 = 0 ∧ zx = px ∧ zy = py ∧ f = 0 ∧ px = 0 ∧ py = 1) ∨ (e1 = 0 ∧ e2 = 0 ∧ e3 = 0 ∧ e4 = 0 ∧ e5 = 0 ∧ zx = px ∧ zy = py ∧ f ≠ 0 ∧ h ≠ 0)) :
    Calls Try.prog 7 #[.agg #[.int .u64 a, .int .u64 b, .int .u64 c, .int .u64 d, .int .u64 f, .int .u64 h]] w fun e w' => e = .returned (.bool true) ∧ Below w.heap.size w w' := by
  have HK : Hid ((e1 ≠ 0) ∨ (e1 = 0 ∧ e2 ≠ 0) ∨ (e1 = 0 ∧ e2 = 0 ∧ e3 ≠ 0) ∨ (e1 = 0 ∧ e2 = 0 ∧ e3 = 0 ∧ e4 ≠ 0) ∨ (e1 = 0 ∧ e2 = 0 ∧ e3 = 0 ∧ e4 = 0 ∧ e5 ≠ 0) ∨ (e1 = 0 ∧ e2 = 0 ∧ e3 = 0 ∧ e4 = 0 ∧ e5 = 0 ∧ zx = px ∧ zy = py ∧ f = 0 ∧ px = 0 ∧ py = 1) ∨ (e1 = 0 ∧ e2 = 0 ∧ e3 = 0 ∧ e4 = 0 ∧ e5 = 0 ∧ zx = px ∧ zy = py ∧ f ≠ 0 ∧ h ≠ 0)) := hcase
  clear hcase
  go_enter Try.func7, Try.ntmps7
  go_wp2_with fail
  go_cut [3, 4, 5] from 18 to 23 (fun s5 s6 s7 wx => ∃ g5 g6 g7 : Nat, s5 = .pointer (some ⟨g5, 0, none⟩) ∧ s6 = .pointer (some ⟨g6, 0, none⟩) ∧ s7 = .pointer (some ⟨g7, 0, none⟩) ∧ wx.heap[g5]? = some (.cells #[.int .u64 a, .int .u64 b] 24) ∧ wx.heap[g6]? = some (.cells #[.int .u64 c, .int .u64 d] 24) ∧ wx.heap[g7]? = some (.cells #[.int .u64 f, .int .u64 h] 24) ∧ Hid (Below w.heap.size w wx))
  case first =>
    clear HK A1 M1 M2 M3 A2 M4
    go_region_held3 (fun w' : World => w'.cell? ⟨w.heap.size, 0, none⟩ = some (.int .u64 a) ∧ w'.cell? ⟨w.heap.size, 1, none⟩ = some (.int .u64 b) ∧ w'.cell? ⟨w.heap.size, 2, none⟩ = some (.int .u64 c) ∧ w'.cell? ⟨w.heap.size, 3, none⟩ = some (.int .u64 d) ∧ w'.cell? ⟨w.heap.size, 4, none⟩ = some (.int .u64 f) ∧ w'.cell? ⟨w.heap.size, 5, none⟩ = some (.int .u64 h)) (go_keep) (fail)
    all_goals (go_wp2_with fail; go_meet)
    all_goals (refine ⟨_, _, _, rfl, rfl, rfl, ?_, ?_, ?_, ?_⟩)
    all_goals (repeat' (first | (with_reducible refine at_drew ?_) | (with_reducible refine newN ?_; (simp; done)) | (with_reducible refine at_alloc ?_) | (unfold Hid; go_grown; done)))
  case rest =>
    obtain ⟨g5, g6, g7, rfl, rfl, rfl, p5, p6, p7, hbl⟩ := hcut
    go_upto_region 4 with (go_at_call 8; refine (awake_any _).mono ?_; rintro e w1 ⟨rfl, b1⟩; have y1 : Hid (Below w.heap.size w w1) := below_from hbl.out b1 hbl.out.size; have zka := keep2 b1 p5; have zkb := keep2 b1 p6; have zkc := keep2 b1 p7)
    obtain ⟨ka0, ka1, ka2, -, -, ka3, ka4⟩ := zka
    obtain ⟨kb0, kb1, kb2, -, -, kb3, kb4⟩ := zkb
    obtain ⟨kc0, kc1, kc2, -, -, kc3, kc4⟩ := zkc
    clear b1 hbl p5 p6 p7
    go_upto_region 5 with (go_at_call 15; refine (A1.out _).mono ?_; rintro e w2 ⟨rfl, b2⟩; have y2 : Hid (Below w.heap.size w w2) := below_from y1.out b2 y1.out.size; have zka := keep2 b2 (ka0); have zkb := keep2 b2 (kb0); have zkc := keep2 b2 (kc0))
    clear ka0 ka1 ka2 ka3 ka4 kb0 kb1 kb2 kb3 kb4 kc0 kc1 kc2 kc3 kc4
    obtain ⟨ka0, ka1, ka2, -, -, ka3, ka4⟩ := zka
    obtain ⟨kb0, kb1, kb2, -, -, kb3, kb4⟩ := zkb
    obtain ⟨kc0, kc1, kc2, -, -, kc3, kc4⟩ := zkc
    clear b2 y1
    go_upto_region 6 with (go_at_call 19; refine (M1.out _).mono ?_; rintro e w3 ⟨rfl, b3⟩; have y3 : Hid (Below w.heap.size w w3) := below_from (y2.out.alloc y2.out.size _) b3 (by have := y2.out.size; simp; omega); have zka := keep2 b3 (at_alloc ka0); have zkb := keep2 b3 (at_alloc kb0); have zkc := keep2 b3 (at_alloc kc0); have zks := keep2 b3 new0)
    clear ka0 ka1 ka2 ka3 ka4 kb0 kb1 kb2 kb3 kb4 kc0 kc1 kc2 kc3 kc4
    obtain ⟨ka0, ka1, ka2, -, -, ka3, ka4⟩ := zka
    obtain ⟨kb0, kb1, kb2, -, -, kb3, kb4⟩ := zkb
    obtain ⟨kc0, kc1, kc2, -, -, kc3, kc4⟩ := zkc
    obtain ⟨ks0, ks1, ks2, -, -, ks3, ks4⟩ := zks
    clear b3 y2
    go_upto_region 7 with (go_at_call 19; refine (M2.out _).mono ?_; rintro e w4 ⟨rfl, b4⟩; have y4 : Hid (Below w.heap.size w w4) := below_from (y3.out.alloc y3.out.size _) b4 (by have := y3.out.size; simp; omega); have zka := keep2 b4 (at_alloc ka0); have zkb := keep2 b4 (at_alloc kb0); have zkc := keep2 b4 (at_alloc kc0); have zks := keep2 b4 (at_alloc ks0); have zkp := keep2 b4 new0)
    clear ka0 ka1 ka2 ka3 ka4 kb0 kb1 kb2 kb3 kb4 kc0 kc1 kc2 kc3 kc4 ks0 ks1 ks2 ks3 ks4
    obtain ⟨ka0, ka1, ka2, -, -, ka3, ka4⟩ := zka
    obtain ⟨kb0, kb1, kb2, -, -, kb3, kb4⟩ := zkb
    obtain ⟨kc0, kc1, kc2, -, -, kc3, kc4⟩ := zkc
    obtain ⟨ks0, ks1, ks2, -, -, ks3, ks4⟩ := zks
    obtain ⟨kp0, kp1, kp2, -, -, kp3, kp4⟩ := zkp
    clear b4 y3
    go_upto_region 8 with (go_at_call 19; refine (M3.out _).mono ?_; rintro e w5 ⟨rfl, b5⟩; have y5 : Hid (Below w.heap.size w w5) := below_from (y4.out.alloc y4.out.size _) b5 (by have := y4.out.size; simp; omega); have zka := keep2 b5 (at_alloc ka0); have zkb := keep2 b5 (at_alloc kb0); have zkc := keep2 b5 (at_alloc kc0); have zks := keep2 b5 (at_alloc ks0); have zkp := keep2 b5 (at_alloc kp0); have zkx := keep2 b5 new0)
    clear ka0 ka1 ka2 ka3 ka4 kb0 kb1 kb2 kb3 kb4 kc0 kc1 kc2 kc3 kc4 ks0 ks1 ks2 ks3 ks4 kp0 kp1 kp2 kp3 kp4
    obtain ⟨ka0, ka1, ka2, -, -, ka3, ka4⟩ := zka
    obtain ⟨kb0, kb1, kb2, -, -, kb3, kb4⟩ := zkb
    obtain ⟨kc0, kc1, kc2, -, -, kc3, kc4⟩ := zkc
    obtain ⟨ks0, ks1, ks2, -, -, ks3, ks4⟩ := zks
    obtain ⟨kp0, kp1, kp2, -, -, kp3, kp4⟩ := zkp
    obtain ⟨kx0, kx1, kx2, -, -, kx3, kx4⟩ := zkx
    clear b5 y4
    go_upto_region 9 with (go_at_call 15; refine (A2.out _).mono ?_; rintro e w6 ⟨rfl, b6⟩; have y6 : Hid (Below w.heap.size w w6) := below_from (y5.out.alloc y5.out.size _) b6 (by have := y5.out.size; simp; omega); have zka := keep2 b6 (at_alloc ka0); have zkb := keep2 b6 (at_alloc kb0); have zkc := keep2 b6 (at_alloc kc0); have zks := keep2 b6 (at_alloc ks0); have zkp := keep2 b6 (at_alloc kp0); have zkx := keep2 b6 (at_alloc kx0); have zky := keep2 b6 new0)
    clear ka0 ka1 ka2 ka3 ka4 kb0 kb1 kb2 kb3 kb4 kc0 kc1 kc2 kc3 kc4 ks0 ks1 ks2 ks3 ks4 kp0 kp1 kp2 kp3 kp4 kx0 kx1 kx2 kx3 kx4
    obtain ⟨ka0, ka1, ka2, -, -, ka3, ka4⟩ := zka
    obtain ⟨kb0, kb1, kb2, -, -, kb3, kb4⟩ := zkb
    obtain ⟨kc0, kc1, kc2, -, -, kc3, kc4⟩ := zkc
    obtain ⟨ks0, ks1, ks2, -, -, ks3, ks4⟩ := zks
    obtain ⟨kp0, kp1, kp2, -, -, kp3, kp4⟩ := zkp
    obtain ⟨kx0, kx1, kx2, -, -, kx3, kx4⟩ := zkx
    obtain ⟨ky0, ky1, ky2, -, -, ky3, ky4⟩ := zky
    clear b6 y5
    clear A1 M1 M2 M3 A2
    rcases HK.out with hne | ⟨rfl, hne⟩ | ⟨rfl, rfl, hne⟩ | ⟨rfl, rfl, rfl, hne⟩ | ⟨rfl, rfl, rfl, rfl, hne⟩ | ⟨rfl, rfl, rfl, rfl, rfl, rfl, rfl, rfl, rfl, rfl⟩ | ⟨rfl, rfl, rfl, rfl, rfl, rfl, rfl, hf, hh⟩
    · clear HK M4
      have hne' : ((e1 : Int) != 0) = true := by simp; omega
      go_wp2_with fail
      go_ret
      exact ⟨rfl, y6.out.alloc y6.out.size _⟩
    · clear HK M4
      have hne' : ((e2 : Int) != 0) = true := by simp; omega
      go_wp2_with fail
      go_ret
      exact ⟨rfl, y6.out.alloc y6.out.size _⟩
    · clear HK M4
      have hne' : ((e3 : Int) != 0) = true := by simp; omega
      go_wp2_with fail
      go_ret
      exact ⟨rfl, y6.out.alloc y6.out.size _⟩
    · clear HK M4
      have hne' : ((e4 : Int) != 0) = true := by simp; omega
      go_wp2_with fail
      go_ret
      exact ⟨rfl, y6.out.alloc y6.out.size _⟩
    · clear HK M4
      have hne' : ((e5 : Int) != 0) = true := by simp; omega
      go_wp2_with fail
      go_ret
      exact ⟨rfl, y6.out.alloc y6.out.size _⟩
    · clear HK M4
      go_wp2_with fail
      go_ret
      exact ⟨rfl, y6.out.alloc y6.out.size _⟩
    · have H4 : Hid (∀ w, Calls Try.prog 19 #[.agg #[.int .u64 zx, .int .u64 zy], .agg #[.int .u64 h, .int .u64 f]] w fun e w' => e = .returned (.tuple #[.agg #[.int .u64 x, .int .u64 y], .int .i64 0]) ∧ Below w.heap.size w w') := M4.out ⟨rfl, rfl, hf, hh⟩
      have hf' : ((f : Int) == 0) = false := by simp; omega
      have hh' : ((h : Int) == 0) = false := by simp; omega
      clear HK M4
      go_upto_region 16 with (go_at_call 19; refine (H4.out _).mono ?_; rintro e w7 ⟨rfl, b7⟩; have y7 : Hid (Below w.heap.size w w7) := below_from (y6.out.alloc y6.out.size _) b7 (by have := y6.out.size; simp; omega); have zks := keep2 b7 (at_alloc ks0))
      clear ka0 ka1 ka2 ka3 ka4 kb0 kb1 kb2 kb3 kb4 kc0 kc1 kc2 kc3 kc4 ks0 ks1 ks2 ks3 ks4 kp0 kp1 kp2 kp3 kp4 kx0 kx1 kx2 kx3 kx4 ky0 ky1 ky2 ky3 ky4
      obtain ⟨ks0, ks1, ks2, -, -, ks3, ks4⟩ := zks
      go_wp2_with fail
      go_ret
      exact ⟨rfl, y7.out.alloc y7.out.size _⟩

end Go.Proofs.Ytfcegoibelokpaa
