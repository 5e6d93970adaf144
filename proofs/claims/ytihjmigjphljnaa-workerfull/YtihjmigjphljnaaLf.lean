/-
  WorkerFull's law.
-/
import Derived.Test.YtihjmigjphljnaaTc
namespace Go.Proofs.Ytihjmigjphljnaa
open Go.RowKit Go.Maps Go.WideMaps
open Tk

theorem conv1i (w : World) (x : Int) : (convert 50 9 (.slice (some ⟨w.heap.size, 0, none⟩) 1 1)).run Try.prog (w.alloc (.cells #[.int .u8 x] 5)) = .ok (.string (strOfNums [x])) (w.alloc (.cells #[.int .u8 x] 5)) := by
  refine run_convert_bytes_arg _ 50 5 Try.underlying50 Try.underlying5 w.heap.size 0 1 1 [x] rfl (fun i hi => ?_) 9 Try.underlying9
  rw [cell_of new0]
  match i, hi with
  | 0, _ => rfl
set_option maxHeartbeats 8000000 in
set_option maxRecDepth 100000 in
theorem full_law (y : Nat) (hy : y < 256) (v : V) (w : World) :
    Calls Try.prog 7 #[.int .u8 y, .agg #[.int .i64 v.a, .int .i64 v.b, .int .i64 v.c, .int .i64 v.d]] w fun e w' => e = .returned (.bool true) ∧ Below w.heap.size w w' := by
  have HA : Hid (∀ W, Calls Try.prog 9 #[] W fun e w' => e = .returned (.bool true) ∧ Hid (Below W.heap.size W w')) := awake_any
  have HV : Hid (Below w.heap.size w (w.alloc (vB v)) ∧ ∀ k o, XS NX w.heap.size (vB v) k = some o → (w.alloc (vB v)).heap[k]? = some o) := ⟨(Below.refl _ w).alloc (Nat.le_refl _) _, kept_add (kept_none w) ((Below.refl _ w).alloc (Nat.le_refl _) _) new0⟩
  have HC : Hid (∀ W : World, (∀ k o, XS NX w.heap.size (vB v) k = some o → W.heap[k]? = some o) → W.cell? ⟨w.heap.size, 0, none⟩ = some (.int .i64 v.a) ∧ W.cell? ⟨w.heap.size, 1, none⟩ = some (.int .i64 v.b) ∧ W.cell? ⟨w.heap.size, 2, none⟩ = some (.int .i64 v.c) ∧ W.cell? ⟨w.heap.size, 3, none⟩ = some (.int .i64 v.d)) := fun W h => by
    obtain ⟨d0, d1, d2, d3, -⟩ := cells4 (h w.heap.size (vB v) (if_pos rfl))
    exact ⟨d0, d1, d2, d3⟩
  have HS : Hid (∀ W pb rb (o : Opr), o.nm.size ≤ 281474976710656 → P2 w W (XS NX w.heap.size (vB v)) pb rb → Calls Try.prog 11 #[.pointer (some ⟨pb, 0, none⟩), .pointer (some ⟨rb, 0, none⟩), .agg #[.int .i64 o.k, .string o.nm, .int .i64 o.ep, .int .i64 o.now, .int .i64 o.v.a, .int .i64 o.v.b, .int .i64 o.v.c, .int .i64 o.v.d]] W fun e w' => e = .returned (.bool true) ∧ Hid (P2 w w' (XS NX w.heap.size (vB v)) pb rb)) := fun W pb rb o ho h => step_any h o ho
  obtain ⟨m, hm⟩ : ∃ m : Nat, m = y % 5 := ⟨_, rfl⟩
  have hm1 : (y : Int).tmod 5 = (m : Int) := by rw [Int.tmod_eq_emod_of_nonneg (by omega)]; omega
  have hm2 : (y : Int) % 5 = (m : Int) := by omega
  have hm3 : IntKind.i64.wrap (m : Int) = (m : Int) := by rw [IntKind.wrap_i64]; omega
  have hm4 : IntKind.i64.wrap (10 + (m : Int)) = 10 + (m : Int) := by rw [IntKind.wrap_i64]; omega
  have hm5 : m < 5 := by omega
  clear hm hy
  go_enter Try.func7, Try.ntmps7
  go_upto_region 1 with fail
  unfold vB at HV HC HS
  generalize w.alloc (.cells #[.int .i64 v.a, .int .i64 v.b, .int .i64 v.c, .int .i64 v.d] 32) = W0 at *
  go_upto_region 3 with (go_at_call 9; refine (HA.out _).mono ?_; rintro e w1 ⟨rfl, b1⟩)
  have V1 : Hid (Below w.heap.size w w1 ∧ ∀ k o, XS NX w.heap.size (.cells #[.int .i64 v.a, .int .i64 v.b, .int .i64 v.c, .int .i64 v.d] 32 (0, 0)) k = some o → w1.heap[k]? = some o) := ⟨below_from HV.out.1 b1.out HV.out.1.size, kept_below HV.out.2 b1.out⟩
  clear HA b1 HV
  go_upto_region 5 with (go_at_call 10; refine (new_any _).mono ?_; rintro e w2 ⟨rfl, rfl⟩)
  have L0 : Hid (P2 w ((w1.alloc (.cells #[.map none, .slice none 0 0, .map none] 63 (0, 0))).alloc (.cells #[.slice none 0 0] 29 (0, 0))) (XS NX w.heap.size (.cells #[.int .i64 v.a, .int .i64 v.b, .int .i64 v.c, .int .i64 v.d] 32 (0, 0))) w1.heap.size (w1.heap.size + 1)) := ⟨[], l2_new V1.out.1 V1.out.2⟩
  clear V1
  generalize (w1.alloc (.cells #[.map none, .slice none 0 0, .map none] 63)).alloc (.cells #[.slice none 0 0] 29) = W2 at *
  generalize w1.heap.size + 1 = rb at *
  generalize w1.heap.size = pb at *
  go_wp2_with fail
  go_loopw [7] (fun t wr => ∃ i : Nat, t = .int .i64 (i : Nat) ∧ Hid (i ≤ 10 + m ∧ P2 w wr (XS NX w.heap.size (.cells #[.int .i64 v.a, .int .i64 v.b, .int .i64 v.c, .int .i64 v.d] 32 (0, 0))) pb rb)) (fun t _ => 10 + m - (intOf t).toNat)
  case atStart => exact ⟨0, rfl, Nat.zero_le _, L0.out⟩
  case round =>
    obtain ⟨i, rfl, HI⟩ := hrel
    clear L0
    by_cases hlt : i < 10 + m
    · have hii : (i : Int) < 10 + (m : Int) := by omega
      obtain ⟨d0, d1, d2, d3⟩ := HC.out _ HI.out.2.kept
      have b1 : IntKind.i64.wrap (97 + (i : Int)) = 97 + (i : Int) := by rw [IntKind.wrap_i64]; omega
      have b2 : IntKind.u8.wrap (97 + (i : Int)) = 97 + (i : Int) := by rw [IntKind.wrap_u8]; omega
      have b3 : IntKind.i64.wrap ((i : Int) + 1) = (i : Int) + 1 := by rw [IntKind.wrap_i64]; omega
      have hcv := conv1i wr (97 + (i : Int))
      have HN : Hid ((strOfNums [97 + (i : Int)]).size ≤ 281474976710656) := by
        show (strOfNums _).size ≤ _
        rw [strOfNums_size]
        simp
      have HI1 : Hid (i + 1 ≤ 10 + m) := by show i + 1 ≤ 10 + m; omega
      generalize strOfNums [97 + (i : Int)] = nm at *
      have P1 : Hid (P2 w ((wr.alloc (.cells #[.int .u8 (97 + (i : Int))] 5)).alloc (.cells #[.int .i64 1, .string nm, .int .i64 ((i : Int) + 1), .int .i64 (i : Int), .int .i64 v.a, .int .i64 v.b, .int .i64 v.c, .int .i64 v.d] 34)) (XS NX w.heap.size (.cells #[.int .i64 v.a, .int .i64 v.b, .int .i64 v.c, .int .i64 v.d] 32 (0, 0))) pb rb) := HI.out.2.below (((Below.refl _ wr).alloc (Nat.le_refl _) _).alloc (by simp) _)
      have e1 : (wr.alloc (.cells #[.int .u8 (97 + (i : Int))] 5)).cell? ⟨w.heap.size, 0, none⟩ = some (.int .i64 v.a) := cell_below d0 ((Below.refl _ wr).alloc (Nat.le_refl _) _)
      have e2 : (wr.alloc (.cells #[.int .u8 (97 + (i : Int))] 5)).cell? ⟨w.heap.size, 1, none⟩ = some (.int .i64 v.b) := cell_below d1 ((Below.refl _ wr).alloc (Nat.le_refl _) _)
      have e3 : (wr.alloc (.cells #[.int .u8 (97 + (i : Int))] 5)).cell? ⟨w.heap.size, 2, none⟩ = some (.int .i64 v.c) := cell_below d2 ((Below.refl _ wr).alloc (Nat.le_refl _) _)
      have e4 : (wr.alloc (.cells #[.int .u8 (97 + (i : Int))] 5)).cell? ⟨w.heap.size, 3, none⟩ = some (.int .i64 v.d) := cell_below d3 ((Below.refl _ wr).alloc (Nat.le_refl _) _)
      have SS : Hid (∀ W, P2 w W (XS NX w.heap.size (.cells #[.int .i64 v.a, .int .i64 v.b, .int .i64 v.c, .int .i64 v.d] 32 (0, 0))) pb rb → Calls Try.prog 11 #[.pointer (some ⟨pb, 0, none⟩), .pointer (some ⟨rb, 0, none⟩), .agg #[.int .i64 1, .string nm, .int .i64 ((i : Int) + 1), .int .i64 (i : Int), .int .i64 v.a, .int .i64 v.b, .int .i64 v.c, .int .i64 v.d]] W fun e w' => e = .returned (.bool true) ∧ Hid (P2 w w' (XS NX w.heap.size (.cells #[.int .i64 v.a, .int .i64 v.b, .int .i64 v.c, .int .i64 v.d] 32 (0, 0))) pb rb)) := fun W h => HS.out W pb rb ⟨1, nm, (i : Int) + 1, i, v⟩ HN.out h
      clear HI HN
      go_upto_region 9 with fail
      clear d0 d1 d2 d3 e1 e2 e3 e4 hcv
      have z := new1 (w := wr) (A := .cells #[.int .u8 (97 + (i : Int))] 5) (B := .cells #[.int .i64 1, .string nm, .int .i64 ((i : Int) + 1), .int .i64 (i : Int), .int .i64 v.a, .int .i64 v.b, .int .i64 v.c, .int .i64 v.d] 34)
      generalize (wr.alloc (.cells #[.int .u8 (97 + (i : Int))] 5)).alloc (.cells #[.int .i64 1, .string nm, .int .i64 ((i : Int) + 1), .int .i64 (i : Int), .int .i64 v.a, .int .i64 v.b, .int .i64 v.c, .int .i64 v.d] 34) = W5 at *
      generalize wr.heap.size + 1 = g5 at *
      obtain ⟨d0, d1, d2, d3, d4, d5, d6, d7⟩ := oB_cells (o := ⟨1, nm, (i : Int) + 1, i, v⟩) z
      simp only at d0 d1 d2 d3 d4 d5 d6 d7
      clear z HC HS
      go_wp2_with (first
        | (go_at_call 11; refine (SS.out _ P1.out).mono ?_; rintro e wB ⟨rfl, hB⟩; obtain ⟨a1, a2, a3, a4, KW⟩ := p2_whole hB.out; have q1 : ∀ w, (Op.equalIn 10000 32 (.agg #[.int .i64 a1, .int .i64 a2, .int .i64 a3, .int .i64 a4]) (.agg #[.int .i64 a1, .int .i64 a2, .int .i64 a3, .int .i64 a4])).run Try.prog w = .ok true w := fun w => (eq4 a1 a2 a3 a4 a1 a2 a3 a4 w).trans (by simp))
        | (go_at_call 16; refine KW.out.mono ?_; rintro e wG ⟨rfl, hG⟩)
        | (go_at_call 17; refine (hG.out.2 _ (Below.refl _ _)).mono ?_; rintro e wH ⟨rfl, hH⟩))
      exact ⟨⟨i + 1, by simp, HI1.out, hH.out⟩, by simp [intOf]; omega⟩
    · have hii : ¬ (i : Int) < 10 + (m : Int) := by omega
      have S1 : Hid (Calls Try.prog 11 #[.pointer (some ⟨pb, 0, none⟩), .pointer (some ⟨rb, 0, none⟩), .agg #[.int .i64 1, .string ⟨#[97]⟩, .int .i64 99, .int .i64 20, .int .i64 1, .int .i64 0, .int .i64 0, .int .i64 0]] wr fun e w' => e = .returned (.bool true) ∧ Hid (P2 w w' (XS NX w.heap.size (.cells #[.int .i64 v.a, .int .i64 v.b, .int .i64 v.c, .int .i64 v.d] 32 (0, 0))) pb rb)) := HS.out wr pb rb ⟨1, nA, 99, 20, ⟨1, 0, 0, 0⟩⟩ (by decide) HI.out.2
      have S2 : Hid (∀ W, P2 w W (XS NX w.heap.size (.cells #[.int .i64 v.a, .int .i64 v.b, .int .i64 v.c, .int .i64 v.d] 32 (0, 0))) pb rb → Calls Try.prog 11 #[.pointer (some ⟨pb, 0, none⟩), .pointer (some ⟨rb, 0, none⟩), .agg #[.int .i64 3, .string ⟨#[]⟩, .int .i64 0, .int .i64 15, .int .i64 0, .int .i64 0, .int .i64 0, .int .i64 0]] W fun e w' => e = .returned (.bool true) ∧ Hid (P2 w w' (XS NX w.heap.size (.cells #[.int .i64 v.a, .int .i64 v.b, .int .i64 v.c, .int .i64 v.d] 32 (0, 0))) pb rb)) := fun W h => HS.out W pb rb ⟨3, ⟨#[]⟩, 0, 15, ⟨0, 0, 0, 0⟩⟩ (by decide) h
      clear HI HC HS
      go_wp2_with (first
        | (go_at_call 11; refine S1.out.mono ?_; rintro e wA ⟨rfl, hA⟩; clear S1)
        | (go_at_call 11; refine (S2.out _ hA.out).mono ?_; rintro e wB ⟨rfl, hB⟩; obtain ⟨a1, a2, a3, a4, KW⟩ := p2_whole hB.out; have q1 : ∀ w, (Op.equalIn 10000 32 (.agg #[.int .i64 a1, .int .i64 a2, .int .i64 a3, .int .i64 a4]) (.agg #[.int .i64 a1, .int .i64 a2, .int .i64 a3, .int .i64 a4])).run Try.prog w = .ok true w := fun w => (eq4 a1 a2 a3 a4 a1 a2 a3 a4 w).trans (by simp))
        | (go_at_call 16; refine KW.out.mono ?_; rintro e wG ⟨rfl, hG⟩)
        | (go_at_call 17; refine (hG.out.2 _ (Below.refl _ _)).mono ?_; rintro e wH ⟨rfl, hH⟩)
        | (go_at_call 14; refine (p2_live hH.out).mono ?_; rintro e wD ⟨pD, mD, cD, rfl, hD⟩)
        | (go_at_call 15; refine (hD.out.2 _ (Below.refl _ _)).mono ?_; rintro e wE ⟨pE, cE, rfl, hE⟩)
        | (go_at_call 12; refine (hE.out.2 _ (Below.refl _ _)).mono ?_; rintro e wF ⟨rfl, hF⟩))
      go_ret
      exact ⟨rfl, hF.out.bel⟩
end Go.Proofs.Ytihjmigjphljnaa
