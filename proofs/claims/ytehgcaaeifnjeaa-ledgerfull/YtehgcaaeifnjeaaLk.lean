/-
  LedgerFull's law.
-/
import Derived.Test.YtehgcaaeifnjeaaTc
namespace Go.Proofs.Ytehgcaaeifnjeaa
open Go.RowKit Go.Maps Go.WideMaps

theorem conv2i (w : World) (x y : Int) : (convert 53 9 (.slice (some ⟨w.heap.size, 0, none⟩) 2 2)).run Try.prog (w.alloc (.cells #[.int .u8 x, .int .u8 y] 5)) = .ok (.string (strOfNums [x, y])) (w.alloc (.cells #[.int .u8 x, .int .u8 y] 5)) := by
  refine run_convert_bytes_arg _ 53 5 Try.underlying53 Try.underlying5 w.heap.size 0 2 2 [x, y] rfl (fun i hi => ?_) 9 Try.underlying9
  rw [cell_of new0]
  match i, hi with
  | 0, _ => rfl
  | 1, _ => rfl
theorem wr8 (a : Nat) (h : a < 256) : IntKind.u8.wrap (a : Int) = (a : Int) := by rw [IntKind.wrap_u8]; omega
theorem wr64 (a : Nat) (h : a < 1000) : wrap64 (a : Int) = (a : Int) := by unfold wrap64; omega
theorem wrk (k : Nat) (h : k < 1000) : wrap64 ((k : Int) + 1) = (k : Int) + 1 := by unfold wrap64; omega
theorem rnd_end {P : Prop} (m k : Nat) (h : k < 60 + m) (hm : m < 8) (hP : P) : (∃ k_1 : Nat, Value.int .i64 (wrap64 ((k : Int) + 1)) = Value.int .i64 (k_1 : Int) ∧ Hid (k_1 ≤ 60 + m ∧ P)) ∧ 60 + m - (intOf (Value.int .i64 (wrap64 ((k : Int) + 1)))).toNat < 60 + m - (intOf (Value.int .i64 (k : Int))).toNat := by
  have hw := wrk k (by omega)
  rw [hw]
  clear hw
  refine ⟨⟨k + 1, by simp, by omega, hP⟩, ?_⟩
  simp [intOf]
  omega
theorem nm_facts (k : Nat) (hk : k < 100) : ∃ a d a' d' : Nat, ((k : Int).tmod 26 = (a : Int) ∧ (k : Int) % 26 = (a : Int) ∧ 97 + (a : Int) = (a' : Int) ∧ IntKind.u8.wrap (a' : Int) = (a' : Int) ∧ wrap64 (a' : Int) = (a' : Int)) ∧ ((k : Int).tdiv 26 = (d : Int) ∧ (k : Int) / 26 = (d : Int) ∧ 97 + (d : Int) = (d' : Int) ∧ IntKind.u8.wrap (d' : Int) = (d' : Int) ∧ wrap64 (d' : Int) = (d' : Int)) := by
  refine ⟨k % 26, k / 26, 97 + k % 26, 97 + k / 26, ⟨?_, by omega, by omega, wr8 _ (by omega), wr64 _ (by omega)⟩, ⟨?_, by omega, by omega, wr8 _ (by omega), wr64 _ (by omega)⟩⟩
  · rw [Int.tmod_eq_emod_of_nonneg (by omega)]; omega
  · rw [Int.tdiv_eq_ediv_of_nonneg (by omega)]; omega
set_option maxHeartbeats 4000000 in
set_option maxRecDepth 100000 in
theorem full_law (y : Nat) (hy : y < 256) (v : V) (w : World) :
    Calls Try.prog 7 #[.int .u8 y, .agg #[.int .i64 v.a, .int .i64 v.b, .int .i64 v.c, .int .i64 v.d]] w fun e w' => e = .returned (.bool true) ∧ Below w.heap.size w w' := by
  obtain ⟨W, hW⟩ : ∃ W, W = w.alloc (vB v) := ⟨_, rfl⟩
  have hBW : Below w.heap.size w W := by rw [hW]; exact (Below.refl _ w).alloc (Nat.le_refl _) _
  obtain ⟨X, hX⟩ : ∃ X, X = XS NX w.heap.size (vB v) := ⟨_, rfl⟩
  have hbx : ∀ k o, X k = some o → W.heap[k]? = some o := fun k o hk => by
    rw [hX] at hk
    unfold XS NX at hk
    split at hk
    · rename_i e
      rw [e, ← Option.some.inj hk, hW]
      exact new0
    · cases hk
  have HA0 : Hid (Calls Try.prog 9 #[] W fun e w' => e = .returned (.bool true) ∧ Hid (Below w.heap.size w w' ∧ ∀ k o, X k = some o → w'.heap[k]? = some o)) := awake_any w W _ hBW hbx
  have X3 : Hid (X w.heap.size = some (.cells #[.int .i64 v.a, .int .i64 v.b, .int .i64 v.c, .int .i64 v.d] 33 (0, 0))) := by
    show X w.heap.size = _
    rw [hX]
    exact if_pos rfl
  rw [hW] at HA0
  unfold vB at HA0
  clear hW hBW hbx hX
  have HN : Hid (∀ W, Calls Try.prog 11 #[] W fun e w' => e = .returned (.pointer (some ⟨W.heap.size, 0, none⟩)) ∧ w' = W.alloc (.cells #[.map none] 61 (0, 0))) := new_any
  obtain ⟨m, hm⟩ : ∃ m : Nat, m = y % 8 := ⟨_, rfl⟩
  have hm1 : (y : Int).tmod 8 = (m : Int) := by rw [Int.tmod_eq_emod_of_nonneg (by omega)]; omega
  have hm2 : (y : Int) % 8 = (m : Int) := by omega
  have hm3 : (m : Int) < 8 := by omega
  have hy2 : (y : Int) < 256 := by omega
  have Hm : Hid (m < 8) := by show m < 8; omega
  clear hm
  go_enter Try.func7, Try.ntmps7
  go_upto_region 3 with (go_at_call 9; refine HA0.out.mono ?_; rintro e w1 ⟨rfl, h1⟩)
  go_upto_region 5 with (go_at_call 11; refine (HN.out _).mono ?_; rintro e w2 ⟨rfl, rfl⟩)
  have hP : Hid (P0 w ((w1.alloc (.cells #[.map none] 61 (0, 0))).alloc (.cells #[.slice none 0 0] 30 (0, 0))) X w1.heap.size (w1.heap.size + 1)) := p0_new h1.out.1 h1.out.2
  generalize (w1.alloc (.cells #[.map none] 61 (0, 0))).alloc (.cells #[.slice none 0 0] 30 (0, 0)) = W0 at *
  generalize w1.heap.size + 1 = rb at *
  generalize w1.heap.size = pb at *
  clear h1 HA0 HN
  have SS : Hid (∀ W : World, (∀ k o, X k = some o → W.heap[k]? = some o) → W.cell? ⟨w.heap.size, 0, none⟩ = some (.int .i64 v.a) ∧ W.cell? ⟨w.heap.size, 1, none⟩ = some (.int .i64 v.b) ∧ W.cell? ⟨w.heap.size, 2, none⟩ = some (.int .i64 v.c) ∧ W.cell? ⟨w.heap.size, 3, none⟩ = some (.int .i64 v.d)) := fun W h => by
    obtain ⟨d0, d1, d2, d3, -⟩ := cells4 (h _ _ X3.out)
    exact ⟨d0, d1, d2, d3⟩
  go_wp2_with fail
  go_loopw [7] (fun t wr => ∃ k : Nat, t = .int .i64 k ∧ Hid (k ≤ 60 + m ∧ P0 w wr X pb rb)) (fun t _ => 60 + m - (intOf t).toNat)
  case atStart => exact ⟨0, rfl, Nat.zero_le _, hP.out⟩
  case round =>
    clear hP
    obtain ⟨k, rfl, HK⟩ := hrel
    by_cases hk : k < 60 + m
    · have hk' : (k : Int) < 60 + (m : Int) := by omega
      obtain ⟨a, d, a', d', ⟨a1, a2, a3, a4, a5⟩, d1, d2, d3, d4, d5⟩ := nm_facts k (by omega)
      clear a2 d2 a5 d5 a4 d4 d3
      have hcv := conv2i wr (wrap64 (a' : Int) % 256) (wrap64 (97 + wrap64 (d : Int)) % 256)
      have Hk : Hid (k < 60 + m ∧ m < 8) := ⟨hk, Hm.out⟩
      have hP0 : Hid (P0 w (wr.alloc (.cells #[.int .u8 (wrap64 (a' : Int) % 256), .int .u8 (wrap64 (97 + wrap64 (d : Int)) % 256)] 5)) X pb rb) := HK.out.2.below ((Below.refl _ _).alloc (Nat.le_refl _) _)
      have hs : Hid ((strOfNums [wrap64 (a' : Int) % 256, wrap64 (97 + wrap64 (d : Int)) % 256]).size ≤ 281474976710656) := by
        show (strOfNums _).size ≤ _
        rw [strOfNums_size]
        simp
      generalize strOfNums [wrap64 (a' : Int) % 256, wrap64 (97 + wrap64 (d : Int)) % 256] = nm at *
      clear hk HK
      go_upto_region 9 with fail
      generalize wr.alloc (.cells #[.int .u8 (wrap64 (a' : Int) % 256), .int .u8 (wrap64 (97 + wrap64 (d : Int)) % 256)] 5) = V0 at *
      clear a1 a3 d1 hcv hk'
      have HO : Hid (∀ W, Below V0.heap.size V0 W → Calls Try.prog 18 #[.pointer (some ⟨pb, 0, none⟩), .string nm, .agg #[.int .i64 v.a, .int .i64 v.b, .int .i64 v.c, .int .i64 v.d]] W fun e w' => ∃ r, e = .returned (.int .i64 r) ∧ Hid (P1 w w' X pb rb V0.heap.size (fun D => openD D nm.data.toList v) r)) := fun W b => (p_open hP0.out b nm hs.out v).mono fun e w' ⟨r, he, h⟩ => ⟨r, he, h.out.1⟩
      have HR : Hid (∀ W r, P1 w W X pb rb V0.heap.size (fun D => openD D nm.data.toList v) r → Calls Try.prog 23 #[.pointer (some ⟨rb, 0, none⟩), .string nm, .agg #[.int .i64 v.a, .int .i64 v.b, .int .i64 v.c, .int .i64 v.d]] W fun e w' => e = .returned (.int .i64 r) ∧ Hid (P0 w w' X pb rb)) := fun W r h => r_open nm v h (Below.refl _ _)
      have hz1 : ∀ e ∈ [(⟨nm, v⟩ : E)], e.nm.size ≤ 281474976710656 := fun e he => by rw [List.mem_singleton.1 he]; exact hs.out
      have HT : Hid (∀ (W0 W : World) (g : Nat), P0 w W0 X pb rb → Below W0.heap.size W0 W → W.heap[g]? = some (.cells #[.string nm, .int .i64 v.a, .int .i64 v.b, .int .i64 v.c, .int .i64 v.d] 50 (0, 0)) → Calls Try.prog 19 #[.pointer (some ⟨pb, 0, none⟩), .slice (some ⟨g, 0, none⟩) 1 1] W fun e w' => ∃ r, e = .returned (.int .i64 r) ∧ Hid (P1 w w' X pb rb W0.heap.size (fun D => takeD D [⟨nm, v⟩]) r ∧ W.heap.size ≤ w'.heap.size ∧ ∀ k o, W0.heap.size ≤ k → W.heap[k]? = some o → w'.heap[k]? = some o)) := fun W0 W g h b hg => p_take h b (some ⟨g, 0, none⟩) [⟨nm, v⟩] 1 (by simp) (erow1 hg) hz1
      have HU : Hid (∀ (W0 W : World) (m g : Nat) (r : Int), P1 w W0 X pb rb m (fun D => takeD D [⟨nm, v⟩]) r → Below W0.heap.size W0 W → m ≤ g → W.heap[g]? = some (.cells #[.string nm, .int .i64 v.a, .int .i64 v.b, .int .i64 v.c, .int .i64 v.d] 55 (0, 0)) → Calls Try.prog 24 #[.pointer (some ⟨rb, 0, none⟩), .slice (some ⟨g, 0, none⟩) 1 1] W fun e w' => e = .returned (.int .i64 r) ∧ Hid (P0 w w' X pb rb)) := fun W0 W m g r h b hm hg => r_take h b (some ⟨g, 0, none⟩) 1 (by simp) (erow1 hg) (fun g' o e => by injection e with e; injection e with e; omega)
      have zz := SS.out _ hP0.out.kept
      have zd := SS.out _ (hP0.out.below (below_drewN (Below.refl _ _) 1)).kept
      have PK : Hid (∀ W m f r, P1 w W X pb rb m f r → ∀ k o, X k = some o → W.heap[k]? = some o) := fun W m f r h => h.kept
      have PL : Hid (∀ W : World, (∀ k o, X k = some o → W.heap[k]? = some o) → w.heap.size < W.heap.size) := fun W h => (Array.getElem?_eq_some_iff.1 (h _ _ X3.out)).1
      clear hz1
      go_region_held3 (fun W : World => W.cell? ⟨w.heap.size, 0, none⟩ = some (.int .i64 v.a) ∧ W.cell? ⟨w.heap.size, 1, none⟩ = some (.int .i64 v.b) ∧ W.cell? ⟨w.heap.size, 2, none⟩ = some (.int .i64 v.c) ∧ W.cell? ⟨w.heap.size, 3, none⟩ = some (.int .i64 v.d)) (first | (with_reducible assumption) | (with_reducible exact zd) | (exact zd) | (exact zz) | go_keep) (first
        | (go_at_call 18; refine (HO.out _ (below_drewN (Below.refl _ _) 1)).mono ?_; rintro e wA ⟨r1, rfl, hA⟩; have zz := SS.out _ (PK.out _ _ _ _ hA.out); have ns := PL.out _ (PK.out _ _ _ _ hA.out))
        | (go_at_call 23; refine (HR.out _ _ hA.out).mono ?_; rintro e wB ⟨rfl, hB⟩; have zz := SS.out _ hB.out.kept; have ns := PL.out _ hB.out.kept)
        | (go_at_call 19; refine (HT.out wB _ _ hB.out (by first | exact (Below.refl _ _).alloc (Nat.le_refl _) _ | exact ((Below.refl _ _).alloc (Nat.le_refl _) _).alloc (by simp) _) (by first | exact new0 | exact new1 | exact at_alloc new0)).mono ?_; rintro e wC ⟨r2, rfl, hC⟩; have zz := SS.out _ (PK.out _ _ _ _ hC.out.1); have ns := PL.out _ (PK.out _ _ _ _ hC.out.1))
        | (go_at_call 24; refine (HU.out wC _ _ _ _ hC.out.1 (by first | exact Below.refl _ _ | exact (Below.refl _ _).alloc (Nat.le_refl _) _) (by have := hC.out.2.1; simp at this; omega) (by first | exact new0 | exact hC.out.2.2 _ _ (by omega) new1 | exact hC.out.2.2 _ _ (by omega) (at_alloc new0))).mono ?_; rintro e wD ⟨rfl, hD⟩; have zz := SS.out _ hD.out.kept; have ns := PL.out _ hD.out.kept))
      all_goals go_wp2_with fail
      all_goals exact rnd_end m k Hk.out.1 Hk.out.2 hD.out
    · have hk' : ¬ (k : Int) < 60 + (m : Int) := by omega
      have hk2 : decide ((k : Int) < 60 + (m : Int)) = false := decide_eq_false hk'
      have hP0 : Hid (P0 w wr X pb rb) := HK.out.2
      have HO : Hid (∀ W, P0 w W X pb rb → Calls Try.prog 18 #[.pointer (some ⟨pb, 0, none⟩), .string ⟨#[97, 97]⟩, .agg #[.int .i64 0, .int .i64 0, .int .i64 0, .int .i64 0]] W fun e w' => ∃ r, e = .returned (.int .i64 r) ∧ Hid (Calls Try.prog 23 #[.pointer (some ⟨rb, 0, none⟩), .string ⟨#[97, 97]⟩, .agg #[.int .i64 0, .int .i64 0, .int .i64 0, .int .i64 0]] w' fun e w' => e = .returned (.int .i64 r) ∧ Hid (P0 w w' X pb rb))) := fun W h => (p_open h (Below.refl _ _) ⟨#[97, 97]⟩ (by decide) V.nil).mono fun e w' ⟨r, he, h⟩ => ⟨r, he, r_open ⟨#[97, 97]⟩ V.nil h.out.1 (Below.refl _ _)⟩
      have HC : Hid (∀ W, P0 w W X pb rb → Calls Try.prog 25 #[.pointer (some ⟨pb, 0, none⟩), .string ⟨#[97, 97]⟩] W fun e w' => ∃ r, e = .returned (.int .i64 r) ∧ Hid (Calls Try.prog 26 #[.pointer (some ⟨rb, 0, none⟩), .string ⟨#[97, 97]⟩] w' fun e w' => e = .returned (.int .i64 r) ∧ Hid (P0 w w' X pb rb))) := fun W h => (p_close h (Below.refl _ _) ⟨#[97, 97]⟩ (by decide)).mono fun e w' ⟨r, he, h⟩ => ⟨r, he, r_close ⟨#[97, 97]⟩ h.out.1 (Below.refl _ _)⟩
      have hz1 : ∀ e ∈ [(⟨⟨#[97, 97]⟩, V.nil⟩ : E)], e.nm.size ≤ 281474976710656 := fun e he => by rw [List.mem_singleton.1 he]; decide
      have HT : Hid (∀ (W : World), P0 w W X pb rb → Calls Try.prog 19 #[.pointer (some ⟨pb, 0, none⟩), .slice (some ⟨W.heap.size, 0, none⟩) 1 1] (W.alloc (.cells #[.string ⟨#[97, 97]⟩, .int .i64 0, .int .i64 0, .int .i64 0, .int .i64 0] 50 (0, 0))) fun e w' => ∃ r, e = .returned (.int .i64 r) ∧ Hid (Calls Try.prog 24 #[.pointer (some ⟨rb, 0, none⟩), .slice (some ⟨w'.heap.size, 0, none⟩) 1 1] (w'.alloc (.cells #[.string ⟨#[97, 97]⟩, .int .i64 0, .int .i64 0, .int .i64 0, .int .i64 0] 55 (0, 0))) fun e w' => e = .returned (.int .i64 r) ∧ Hid (P0 w w' X pb rb))) := fun W h => by
        refine (p_take h ((Below.refl _ _).alloc (Nat.le_refl _) _) (some ⟨W.heap.size, 0, none⟩) [⟨⟨#[97, 97]⟩, V.nil⟩] 1 (by simp) (erow1 new0) hz1).mono ?_
        rintro e w' ⟨r, he, h'⟩
        refine ⟨r, he, ?_⟩
        have hsz := h'.out.2.1
        rw [World.size_alloc] at hsz
        exact r_take h'.out.1 ((Below.refl _ _).alloc (Nat.le_refl _) _) (some ⟨w'.heap.size, 0, none⟩) 1 (by simp) (erow1 new0) (fun g' o e => by injection e with e; injection e with e; omega)
      have HL : Hid (∀ W, P0 w W X pb rb → ∃ (x : V) (n : Int), Calls Try.prog 27 #[.pointer (some ⟨pb, 0, none⟩), .string ⟨#[97, 97]⟩] W fun e w' => e = .returned (.tuple #[.agg #[.int .i64 x.a, .int .i64 x.b, .int .i64 x.c, .int .i64 x.d], .int .i64 n]) ∧ Hid (Below w.heap.size w w' ∧ ∀ W1, Below w'.heap.size w' W1 → Calls Try.prog 28 #[.pointer (some ⟨rb, 0, none⟩), .string ⟨#[97, 97]⟩] W1 fun e w2 => e = .returned (.tuple #[.agg #[.int .i64 x.a, .int .i64 x.b, .int .i64 x.c, .int .i64 x.d], .int .i64 n]) ∧ Hid (Below W1.heap.size W1 w2))) := fun W h => by
        obtain ⟨D, hD⟩ := h
        refine ⟨(leftD D [97, 97]).1, (leftD D [97, 97]).2, (l2_left hD ⟨#[97, 97]⟩ (by decide)).mono ?_⟩
        rintro e w' ⟨he, h'⟩
        refine ⟨he, h'.out.bel, fun W1 b1 => ?_⟩
        obtain ⟨S, T, -, h2, -⟩ := (h'.out.below b1).both
        exact rleft_any h2 [97, 97]
      clear HK hk hz1 SS X3
      go_upto_region 13 with (first
        | (go_at_call 18; refine (HO.out _ hP0.out).mono ?_; rintro e wA ⟨r1, rfl, hA⟩)
        | (go_at_call 23; refine hA.out.mono ?_; rintro e wB ⟨rfl, hB⟩)
        | (go_at_call 19; refine (HT.out _ hB.out).mono ?_; rintro e wC ⟨r2, rfl, hC⟩)
        | (go_at_call 24; refine hC.out.mono ?_; rintro e wD ⟨rfl, hD⟩)
        | (go_at_call 25; refine (HC.out _ hD.out).mono ?_; rintro e wE ⟨r3, rfl, hE⟩)
        | (go_at_call 26; refine hE.out.mono ?_; rintro e wF ⟨rfl, hF⟩))
      obtain ⟨x, n, hL⟩ := HL.out _ hF.out
      obtain ⟨xa, xb, xc, xd⟩ := x
      simp only [] at hL
      have q1 : ∀ w, (Op.equalIn 10000 33 (.agg #[.int .i64 xa, .int .i64 xb, .int .i64 xc, .int .i64 xd]) (.agg #[.int .i64 xa, .int .i64 xb, .int .i64 xc, .int .i64 xd])).run Try.prog w = .ok true w := fun w => (eq4 xa xb xc xd xa xb xc xd w).trans (by simp)
      clear HO HC HT HL hA hB hC hD hE
      go_upto_region 14 with (go_at_call 27; refine hL.mono ?_; rintro e wG ⟨rfl, hG⟩)
      have hG2 := hG.out.2 _ ((Below.refl _ _).alloc (Nat.le_refl _) (.cells #[.int .i64 xa, .int .i64 xb, .int .i64 xc, .int .i64 xd] 33 (0, 0)))
      have hGb : Hid (Below w.heap.size w (wG.alloc (.cells #[.int .i64 xa, .int .i64 xb, .int .i64 xc, .int .i64 xd] 33 (0, 0)))) := hG.out.1.alloc hG.out.1.size _
      go_upto_region 15 with (go_at_call 28; refine hG2.mono ?_; rintro e wH ⟨rfl, hH⟩)
      have hq := at_below hH.out (Nat.le_refl _) new0
      have hlt := (Array.getElem?_eq_some_iff.1 hq).1
      obtain ⟨c0, c1, c2, c3, -⟩ := cells4 hq
      have hHb : Below w.heap.size w wH := hGb.out.trans (hH.out.mono hGb.out.size)
      go_wp2_with fail
      go_ret
      exact ⟨rfl, hHb.alloc hHb.size _⟩
end Go.Proofs.Ytehgcaaeifnjeaa
