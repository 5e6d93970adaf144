/-
  weighed, walked.
-/
import Derived.Test.YtcgaekaollhmpaaGreatSb
import Derived.BigQuiet
namespace Go.Proofs.YtcgaekaollhmpaaGreat
open Go.RowKit Go.Maps

theorem c2b {w : World} {g : Nat} {a b : Value} {t : TypeId} (h : w.heap[g]? = some (.cells #[a, b] t (0, 0))) : w.cell? ⟨g, 0, none⟩ = some a ∧ w.cell? ⟨g, 1, none⟩ = some b := ⟨Lib.cell_of_heap h 0, Lib.cell_of_heap h 1⟩
theorem c4b {w : World} {g : Nat} {a b c d : Value} {t : TypeId} (h : w.heap[g]? = some (.cells #[a, b, c, d] t (0, 0))) : w.cell? ⟨g, 0, none⟩ = some a ∧ w.cell? ⟨g, 1, none⟩ = some b ∧ w.cell? ⟨g, 2, none⟩ = some c ∧ w.cell? ⟨g, 3, none⟩ = some d := ⟨Lib.cell_of_heap h 0, Lib.cell_of_heap h 1, Lib.cell_of_heap h 2, Lib.cell_of_heap h 3⟩
theorem c6b {w : World} {g : Nat} {a b c d e f : Value} {t : TypeId} (h : w.heap[g]? = some (.cells #[a, b, c, d, e, f] t (0, 0))) : w.cell? ⟨g, 0, none⟩ = some a ∧ w.cell? ⟨g, 1, none⟩ = some b ∧ w.cell? ⟨g, 2, none⟩ = some c ∧ w.cell? ⟨g, 3, none⟩ = some d ∧ w.cell? ⟨g, 4, none⟩ = some e ∧ w.cell? ⟨g, 5, none⟩ = some f := ⟨Lib.cell_of_heap h 0, Lib.cell_of_heap h 1, Lib.cell_of_heap h 2, Lib.cell_of_heap h 3, Lib.cell_of_heap h 4, Lib.cell_of_heap h 5⟩
set_option maxHeartbeats 4000000 in
set_option maxRecDepth 100000 in
theorem weighed_any (all : Vs.V) (q : Option Addr) (n c : Nat) (L : List U) (w : World) (hn : n = L.length) (hr : UArg w q L) (hm : n ≤ 1000) :
    Calls Tryz.prog 9 #[.agg #[.int .i64 all.a, .int .i64 all.b, .int .i64 all.c, .int .i64 all.d], .slice q n c] w (WgP w all L) := by
  have HR : Hid (UArg w q L ∧ n = L.length) := ⟨hr, hn⟩
  clear hr hn
  go_enter Tryz.func9, Tryz.ntmps9
  go_upto_region 1 with fail
  have G0 : Hid ((w.alloc (.cells #[.int .i64 all.a, .int .i64 all.b, .int .i64 all.c, .int .i64 all.d] 23)).heap[w.heap.size]? = some (.cells #[.int .i64 all.a, .int .i64 all.b, .int .i64 all.c, .int .i64 all.d] 23 (0, 0)) ∧ Below w.heap.size w (w.alloc (.cells #[.int .i64 all.a, .int .i64 all.b, .int .i64 all.c, .int .i64 all.d] 23))) := ⟨new0, (Below.refl _ w).alloc (Nat.le_refl _) _⟩
  generalize w.alloc (.cells #[.int .i64 all.a, .int .i64 all.b, .int .i64 all.c, .int .i64 all.d] 23) = W1 at *
  obtain ⟨W2, hmk, hrow2, hb2⟩ := make44 W1 n (by omega)
  have G2 : Hid (W2.heap[w.heap.size]? = some (.cells #[.int .i64 all.a, .int .i64 all.b, .int .i64 all.c, .int .i64 all.d] 23 (0, 0)) ∧ Below w.heap.size w W2 ∧ w.heap.size + 1 ≤ W1.heap.size ∧ GRow 51 3 tC (w.heap.size + 1) W2 (.slice (some ⟨W1.heap.size, 0, none⟩) 0 n) []) := by
    have hs := G0.out.2.size
    have hs1 := (Array.getElem?_eq_some_iff.1 G0.out.1).1
    refine ⟨at_below hb2 (Nat.le_refl _) G0.out.1, G0.out.2.trans (hb2.mono hs), hs1, hrow2.1, ?_⟩
    rcases hrow2.2 with x | ⟨g, cap, cur, e1, e2, e3⟩
    · exact .inl x
    · exact .inr ⟨g, cap, cur, e1, by omega, e3⟩
  obtain ⟨g0, hg0⟩ : ∃ g0, g0 = W1.heap.size := ⟨_, rfl⟩
  rw [← hg0] at hmk G2
  clear hrow2 hb2 G0 hg0
  go_upto_region 2 with fail
  clear hmk
  go_wp2_with fail
  obtain ⟨B0, hB0⟩ : ∃ B0, B0 = w.heap.size + 1 := ⟨_, rfl⟩
  have HB : Hid (B0 = w.heap.size + 1 ∧ B0 ≤ W2.heap.size) := ⟨hB0, by have := (Array.getElem?_eq_some_iff.1 G2.out.1).1; omega⟩
  rw [← hB0] at G2
  clear hB0
  obtain ⟨a0, a1, a2, a3⟩ := all
  simp only [] at G2 ⊢
  go_loopw [6, 17] (fun y x wr => ∃ (k g cc : Nat), y = .slice (some ⟨g, 0, none⟩) k cc ∧ x = .int .i64 k ∧ k ≤ n ∧ Hid (GRow 51 3 tC B0 wr (.slice (some ⟨g, 0, none⟩) k cc) ((L.take k).map (ten ⟨a0, a1, a2, a3⟩)) ∧ (∀ i v, i < k → L[i]? = some v → er ⟨a0, a1, a2, a3⟩ v = 0) ∧ B0 ≤ wr.heap.size ∧ wr.heap[w.heap.size]? = some (.cells #[.int .i64 a0, .int .i64 a1, .int .i64 a2, .int .i64 a3] 23 (0, 0)) ∧ Below w.heap.size w wr)) (fun _ x _ => n - (intOf x).toNat)
  case atStart => exact ⟨0, g0, n, rfl, rfl, Nat.zero_le _, G2.out.2.2.2, fun i v hi => by omega, HB.out.2, G2.out.1, G2.out.2.1⟩
  case round =>
    obtain ⟨k, g, cc, rfl, rfl, hk, HI⟩ := hrel
    clear G2
    by_cases hkn : k < n
    · have k1 : (k : Int) < (n : Int) := by omega
      have k2 : decide ((k : Int) < (n : Int)) = true := decide_eq_true k1
      obtain ⟨u, hu⟩ : ∃ u, L[k]? = some u := ⟨_, List.getElem?_eq_getElem (by have := HR.out.2; omega)⟩
      obtain ⟨ga, fa, rfl, h0, h1, h2, h3, h4, h5⟩ := (HR.out.1.below (HI.out.2.2.2.2)).c k u hu
      obtain ⟨sn, sd, se, hsh⟩ : ∃ sn sd se, sh ⟨a0, a1, a2, a3⟩ u = (sn, sd, se) := ⟨_, _, _, rfl⟩
      have HS : Hid (sh ⟨a0, a1, a2, a3⟩ u = (sn, sd, se) ∧ L[k]? = some u) := ⟨hsh, hu⟩
      have H23 : Hid (∀ W, Calls Tryz.prog 15 #[.agg #[.int .i64 u.v.a, .int .i64 u.v.b, .int .i64 u.v.c, .int .i64 u.v.d], .agg #[.int .i64 a0, .int .i64 a1, .int .i64 a2, .int .i64 a3], .int .i64 u.wt] W fun e w' => e = .returned (.tuple #[.agg #[.int .u64 sn, .int .u64 sd], .int .i64 se]) ∧ Hid (Below W.heap.size W w')) := fun W => by
        have := Vs.share_any u.v ⟨a0, a1, a2, a3⟩ u.wt W
        unfold sh at hsh
        rw [hsh] at this
        exact this
      clear hsh hu
      obtain ⟨un, uw, ⟨ua, ub, uc, ud⟩⟩ := u
      simp only [] at h0 h1 h2 h3 h4 h5 H23
      go_upto_region 5 with fail
      have B3 : Hid (Below wr.heap.size wr (wr.alloc (.cells #[.string ⟨⟨un⟩⟩, .int .i64 uw, .int .i64 ua, .int .i64 ub, .int .i64 uc, .int .i64 ud] 37))) := (Below.refl _ wr).alloc (Nat.le_refl _) _
      have N3 : Hid ((wr.alloc (.cells #[.string ⟨⟨un⟩⟩, .int .i64 uw, .int .i64 ua, .int .i64 ub, .int .i64 uc, .int .i64 ud] 37)).heap[wr.heap.size]? = some (.cells #[.string ⟨⟨un⟩⟩, .int .i64 uw, .int .i64 ua, .int .i64 ub, .int .i64 uc, .int .i64 ud] 37 (0, 0))) := new0
      obtain ⟨d0, d1, d2, d3, d4, d5⟩ := c6b N3.out
      have A3 : Hid ((wr.alloc (.cells #[.string ⟨⟨un⟩⟩, .int .i64 uw, .int .i64 ua, .int .i64 ub, .int .i64 uc, .int .i64 ud] 37)).heap[w.heap.size]? = some (.cells #[.int .i64 a0, .int .i64 a1, .int .i64 a2, .int .i64 a3] 23 (0, 0))) := at_below B3.out (Nat.le_refl _) HI.out.2.2.2.1
      obtain ⟨e0, e1, e2, e3⟩ := c4b A3.out
      clear h0 h1 h2 h3 h4 h5
      obtain ⟨bu, hbu⟩ : ∃ bu, bu = wr.heap.size := ⟨_, rfl⟩
      rw [← hbu] at N3 d0 d1 d2 d3 d4 d5 ⊢
      clear hbu
      generalize wr.alloc (.cells #[.string ⟨⟨un⟩⟩, .int .i64 uw, .int .i64 ua, .int .i64 ub, .int .i64 uc, .int .i64 ud] 37) = W3 at *
      go_upto_region 6 with (go_at_call 15; refine (H23.out _).mono ?_; rintro e w4 ⟨rfl, b4⟩)
      have B5 : Hid (Below W3.heap.size W3 (w4.alloc (.cells #[.int .u64 sn, .int .u64 sd] 49))) := b4.out.alloc b4.out.size _
      have N5 : Hid ((w4.alloc (.cells #[.int .u64 sn, .int .u64 sd] 49)).heap[w4.heap.size]? = some (.cells #[.int .u64 sn, .int .u64 sd] 49 (0, 0))) := new0
      clear d0 d1 d2 d3 d4 d5 e0 e1 e2 e3 b4 H23
      generalize w4.alloc (.cells #[.int .u64 sn, .int .u64 sd] 49) = W5 at *
      generalize w4.heap.size = br at *
      by_cases hse : se = 0
      · have s1 : decide ((se : Int) = 0) = true := decide_eq_true (by omega)
        obtain rfl : se = 0 := hse
        obtain ⟨c0, c1⟩ := c2b N5.out
        have N6 := at_below B5.out (Nat.le_refl _) N3.out
        obtain ⟨d0, d1, d2, d3, d4, d5⟩ := c6b N6
        have hl5 := (Array.getElem?_eq_some_iff.1 N5.out).1
        have hl6 := (Array.getElem?_eq_some_iff.1 N6).1
        have BW : Hid (Below wr.heap.size wr W5) := B3.out.trans (B5.out.mono B3.out.size)
        have BX : Hid (Below wr.heap.size wr (W5.alloc (.cells #[.string ⟨⟨un⟩⟩, .int .u64 sn, .int .u64 sd] 51))) := BW.out.alloc BW.out.size _
        have O1 : Hid (GRow 51 3 tC B0 (W5.alloc (.cells #[.string ⟨⟨un⟩⟩, .int .u64 sn, .int .u64 sd] 51)) (.slice (some ⟨g, 0, none⟩) k cc) ((L.take k).map (ten ⟨a0, a1, a2, a3⟩))) := HI.out.1.below BX.out
        have Z1 : Hid (B0 ≤ (W5.alloc (.cells #[.string ⟨⟨un⟩⟩, .int .u64 sn, .int .u64 sd] 51)).heap.size) := Nat.le_trans HI.out.2.2.1 BX.out.size
        have R1 : Hid (RowV (W5.alloc (.cells #[.string ⟨⟨un⟩⟩, .int .u64 sn, .int .u64 sd] 51)) W5.heap.size 0 ([(⟨un, sn, sd⟩ : Tn)].flatMap tC)) := row_one new0 rfl
        have e9 : Hid (k + 1 ≤ maxLen) := by show _ ≤ _; unfold maxLen; omega
        have e8 : Hid ((k + 1) * 32 ≤ 140737488355328) := by show _ ≤ _; omega
        have HT : Hid ((L.take k).map (ten ⟨a0, a1, a2, a3⟩) ++ [(⟨un, sn, sd⟩ : Tn)] = (L.take (k + 1)).map (ten ⟨a0, a1, a2, a3⟩)) := by
          show _ = _
          rw [List.take_add_one, HS.out.2]
          simp [ten, HS.out.1]
        have HX : Hid (∀ w3, Below B0 (W5.alloc (.cells #[.string ⟨⟨un⟩⟩, .int .u64 sn, .int .u64 sd] 51)) w3 → B0 ≤ w3.heap.size ∧ w3.heap[w.heap.size]? = some (.cells #[.int .i64 a0, .int .i64 a1, .int .i64 a2, .int .i64 a3] 23 (0, 0)) ∧ Below w.heap.size w w3) := fun w3 hb3 => by
          have q1 := at_below BX.out (Nat.le_refl _) HI.out.2.2.2.1
          have q2 := HB.out.1
          have q3 : w.heap.size ≤ wr.heap.size := HI.out.2.2.2.2.size
          exact ⟨Nat.le_trans Z1.out hb3.size, (hb3.block _ (by omega)).trans q1, (HI.out.2.2.2.2.trans (BX.out.mono q3)).trans (hb3.mono (by omega))⟩
        have HA : Hid (∀ i v, i < k + 1 → L[i]? = some v → er ⟨a0, a1, a2, a3⟩ v = 0) := fun i v hi hv => by
          by_cases q : i < k
          · exact HI.out.2.1 i v q hv
          · obtain rfl : i = k := by omega
            rw [HS.out.2] at hv
            cases hv
            unfold er
            rw [HS.out.1]
        clear N6
        go_wp2_with (first
          | (at_builtin; refine append_g (B := B0) tC_len tC_one Tryz.underlying38 info56 rfl (by decide) rfl _ _ rfl (some ⟨g, 0, none⟩) k cc _ rfl O1.out Z1.out W5.heap.size 0 1 1 [⟨un, sn, sd⟩] rfl rfl R1.out e9.out e8.out ?_; intro p3 c3 w3 hr3 hb3))
        rw [HT.out] at hr3
        obtain ⟨g3, rfl⟩ : ∃ g3, p3 = some ⟨g3, 0, none⟩ := by
          rcases hr3.2 with ⟨_, x⟩ | ⟨g', cap, cur, e1, _⟩
          · rw [List.length_map, List.length_take] at x
            have := HR.out.2
            omega
          · injection e1 with e2; exact ⟨g', e2⟩
        obtain ⟨q1, q2, q3⟩ := HX.out w3 hb3
        exact ⟨⟨k + 1, g3, c3, rfl, by simp, hkn, hr3, HA.out, q1, q2, q3⟩, by simp [intOf]; omega⟩
      · have s1 : ¬ (se : Int) = 0 := by omega
        have s2 : ((se : Int) == 0) = false := by simpa using hse
        have s3 : decide ((se : Int) = 0) = false := decide_eq_false s1
        have HF : Hid (WgR ⟨a0, a1, a2, a3⟩ L se [] ∧ Below w.heap.size w W5) := by
          refine ⟨.inl ⟨?_, hse, rfl⟩, HI.out.2.2.2.2.trans ((B3.out.trans (B5.out.mono B3.out.size)).mono HI.out.2.2.2.2.size)⟩
          have e1 : er ⟨a0, a1, a2, a3⟩ ⟨un, uw, ⟨ua, ub, uc, ud⟩⟩ = se := by unfold er; rw [HS.out.1]
          rw [fstE_at HS.out.2 HI.out.2.1 (by rw [e1]; exact hse), e1]
        clear HI HR HS HB B3 B5 N3 N5 A3
        go_wp2_with fail
        go_ret2
        exact ⟨none, 0, 0, se, [], rfl, rfl, HF.out.1, fun e => absurd e hse, HF.out.2⟩
    · have k1 : ¬ (k : Int) < (n : Int) := by omega
      have k2 : decide ((k : Int) < (n : Int)) = false := decide_eq_false k1
      obtain rfl : k = n := by omega
      have HE : Hid (fstE ⟨a0, a1, a2, a3⟩ L = 0) := fstE_zero.2 fun u hu => by
        obtain ⟨i, hi, e⟩ := List.getElem_of_mem hu
        exact HI.out.2.1 i u (by have := HR.out.2; omega) (by rw [List.getElem?_eq_getElem hi, e])
      have hTk : L.take k = L := List.take_of_length_le (by have := HR.out.2; omega)
      obtain ⟨t1, t2, t3⟩ := HI.out.1.tr
      have HCP : Hid (k ≤ cc ∧ cc ≤ maxLen) := HI.out.1.cap
      rw [hTk] at t1
      have hkl : (L.map (ten ⟨a0, a1, a2, a3⟩)).length = k := by rw [List.length_map]; exact HR.out.2.symm
      have H24 : Hid (Calls Tryz.prog 16 #[.slice (some ⟨g, 0, none⟩) k cc, .func (.func 17) #[] #[]] wr fun e w' => e = .returned (.tuple #[]) ∧ Hid (∃ S' : List Tn, S'.length = k ∧ S'.Perm (L.map (ten ⟨a0, a1, a2, a3⟩)) ∧ (S'.Pairwise fun a b => bytesBefore b.nm a.nm = false) ∧ Tr w' g S' ∧ Below w.heap.size w w' ∧ w.heap.size ≤ g ∧ g < w'.heap.size)) := by
        have := sortT_any wr (L.map (ten ⟨a0, a1, a2, a3⟩)) g cc t3 (by rw [hkl]; omega) t1
        rw [hkl] at this
        refine this.mono ?_
        rintro e w' ⟨rfl, S', p1, p2, p3, p4⟩
        have q2 := HB.out.1
        exact ⟨rfl, S', by rw [p1.length_eq, hkl], p1, p2, p3, HI.out.2.2.2.2.trans ((p4.below HI.out.2.2.2.2.size fun j hj e => by subst e; omega)), by omega, Nat.lt_of_lt_of_le t3 p4.size⟩
      clear t1 t2 t3 hTk hkl HI HR HB
      go_upto_region 11 with (go_at_call 16; refine H24.out.mono ?_; rintro e W6 ⟨rfl, h6⟩)
      obtain ⟨S, hS1, hS2, hS3, hS4, hS5, hS6⟩ := h6.out
      have H6 : Hid (S.length = k ∧ S.Perm (L.map (ten ⟨a0, a1, a2, a3⟩)) ∧ (S.Pairwise fun a b => bytesBefore b.nm a.nm = false) ∧ Tr W6 g S ∧ Below w.heap.size w W6 ∧ w.heap.size ≤ g ∧ g < W6.heap.size) := ⟨hS1, hS2, hS3, hS4, hS5, hS6⟩
      clear h6 hS1 hS2 hS3 hS4 hS5 hS6 H24
      go_wp2_with fail
      go_loopw [11] (fun x wr => ∃ (i : Nat), x = .int .i64 i ∧ 1 ≤ i ∧ i ≤ k + 1 ∧ Hid ((∀ j a b, j + 1 < i → S[j]? = some a → S[j + 1]? = some b → a.nm ≠ b.nm) ∧ Below W6.heap.size W6 wr)) (fun x _ => k + 1 - (intOf x).toNat)
      case atStart => exact ⟨1, rfl, by omega, by omega, fun j a b hj => by omega, Below.refl _ _⟩
      case round =>
        obtain ⟨i, rfl, hi1, hi2, HI⟩ := hrel
        by_cases hik : i < k
        · obtain ⟨i', hi'⟩ : ∃ i', i = i' + 1 := ⟨i - 1, by omega⟩
          obtain ⟨a, ha⟩ : ∃ a, S[i']? = some a := ⟨_, List.getElem?_eq_getElem (by have := H6.out.1; omega)⟩
          obtain ⟨b, hb⟩ : ∃ b, S[i]? = some b := ⟨_, List.getElem?_eq_getElem (by have := H6.out.1; omega)⟩
          obtain ⟨x0, -, -⟩ := H6.out.2.2.2.1.at ha
          obtain ⟨y0, -, -⟩ := H6.out.2.2.2.1.at hb
          have HAB : Hid (S[i']? = some a ∧ S[i]? = some b ∧ i = i' + 1) := ⟨ha, hb, hi'⟩
          have i1 : (i : Int) < (k : Int) := by omega
          have i2 : decide ((i : Int) < (k : Int)) = true := decide_eq_true i1
          have i3 : (i : Int) - 1 = (i' : Int) := by omega
          have i4 : (i' : Int) < (k : Int) := by omega
          have i5 : i' < k := by omega
          have i6 : IntKind.i64.wrap (i' : Int) = (i' : Int) := by simp [IntKind.wrap, IntKind.bits, IntKind.signed]; omega
          have i7 : (i : Int) ≤ 1000 := by omega
          clear ha hb hi'
          obtain ⟨an, aa, ab⟩ := a
          obtain ⟨bn, ba, bb⟩ := b
          simp only [] at x0 y0
          have x1 : wr.cell? ⟨g, i' * 3, none⟩ = some (.string ⟨⟨an⟩⟩) := keep1c' HI.out.2 x0
          have y1 : wr.cell? ⟨g, i * 3, none⟩ = some (.string ⟨⟨bn⟩⟩) := keep1c' HI.out.2 y0
          clear x0 y0
          by_cases e : bn = an
          · subst e
            have HF : Hid (WgR ⟨a0, a1, a2, a3⟩ L 5 [] ∧ Below w.heap.size w wr) := by
              obtain ⟨s1, s2, s3, s4, s5, s6, s7⟩ := H6.out
              obtain ⟨f1, f2, f3⟩ := HAB.out
              exact ⟨.inr (.inl ⟨HE.out, not_nd (b := ⟨bn, ba, bb⟩) s2 f1 (by rw [← f3]; exact f2) rfl, rfl, rfl⟩), s5.trans (HI.out.2.mono s5.size)⟩
            clear HI H6 HAB HE
            go_upto_region 14 with fail
            go_quiet (fail)
            go_wp2_with fail
            go_ret2
            exact ⟨none, 0, 0, 5, [], rfl, rfl, HF.out.1, fun e => by omega, below_drewN HF.out.2 _⟩
          · have e1 : (bn == an) = false := by simpa using e
            have HBW := HI.out.2
            have HN : Hid (∀ j a b, j + 1 < i + 1 → S[j]? = some a → S[j + 1]? = some b → a.nm ≠ b.nm) := fun j a b hj ha hb => by
              by_cases q : j + 1 < i
              · exact HI.out.1 j a b q ha hb
              · obtain ⟨f1, f2, f3⟩ := HAB.out
                obtain rfl : j = i' := by omega
                rw [f1] at ha
                rw [← f3, f2] at hb
                cases ha
                cases hb
                exact fun q => e q.symm
            have HBX : Hid (Below W6.heap.size W6 wr) := HBW
            clear HI HAB HBW
            go_upto_region 14 with fail
            go_quiet (fail)
            go_wp2_with fail
            exact ⟨⟨i + 1, by simp, by omega, by omega, HN.out, below_drewN HBX.out _⟩, by simp [intOf]; omega⟩
        · have i1 : ¬ (i : Int) < (k : Int) := by omega
          have i2 : decide ((i : Int) < (k : Int)) = false := decide_eq_false i1
          have HF : Hid (WgR ⟨a0, a1, a2, a3⟩ L 0 S ∧ k = S.length ∧ Tr wr g S ∧ Below w.heap.size w wr ∧ w.heap.size ≤ g ∧ g < wr.heap.size) := by
            obtain ⟨s1, s2, s3, s4, s5, s6, s7⟩ := H6.out
            have hst := adj_strict s3 fun j a b ha hb => HI.out.1 j a b (by have := (List.getElem?_eq_some_iff.1 hb).1; omega) ha hb
            exact ⟨.inr (.inr ⟨HE.out, nd_of s2 hst, rfl, s2, hst⟩), s1.symm, s4.keep (HI.out.2.block g s7), s5.trans (HI.out.2.mono s5.size), s6, Nat.lt_of_lt_of_le s7 HI.out.2.size⟩
          clear HI H6 HE
          go_wp2_with fail
          go_ret2
          obtain ⟨f1, f2, f3, f4, f5, f6⟩ := HF.out
          exact ⟨some ⟨g, 0, none⟩, k, cc, 0, S, rfl, f2, f1, fun _ => ⟨g, rfl, f5, f6, f3, HCP.out.1, HCP.out.2⟩, f4⟩
end Go.Proofs.YtcgaekaollhmpaaGreat
