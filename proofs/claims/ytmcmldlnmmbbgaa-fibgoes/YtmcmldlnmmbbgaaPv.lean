/-
  The law of a heap whose keys are made less again and again.
-/
import Derived.Test.YtmcmldlnmmbbgaaPu
import Derived.Test.YtmcmldlnmmbbgaaPq
namespace Go.Proofs.Ytmcmldlnmmbbgaa
open Go.RowKit Go.Maps

/-- numbers that came in -/
structure Tns (w : World) (q : Option Addr) (ts : List Nat) : Prop where
  row : ts = [] ∨ ∃ g o, q = some ⟨g, o, none⟩ ∧ RowV w g o (ts.map fun (t : Nat) => .int .u16 (t : Int))
  each : ∀ t ∈ ts, t < 65536
theorem Tns.at {w : World} {q : Option Addr} {ts : List Nat} (h : Tns w q ts) {k : Nat} (hk : k < ts.length) : ∃ t g f, q = some ⟨g, f, none⟩ ∧ t < 65536 ∧ w.cell? ⟨g, f + k, none⟩ = some (.int .u16 (t : Nat)) := by
  have hne : ts ≠ [] := by rintro rfl; simp at hk
  obtain ⟨g, f, rfl, hrow⟩ := h.row.resolve_left hne
  exact ⟨ts[k], g, f, rfl, h.each _ (List.getElem_mem _), hrow k _ (by rw [List.getElem?_map, List.getElem?_eq_getElem hk]; rfl)⟩
theorem half_le (k : K) : ¬ kl k ⟨k.n / 2, k.d, k.t⟩ := by
  rintro (h | ⟨_, h⟩)
  · have h : k.n * k.d < k.n / 2 * k.d := h
    have : k.n / 2 * k.d ≤ k.n * k.d := Nat.mul_le_mul_right _ (Nat.div_le_self _ _)
    omega
  · exact absurd h (Int.lt_irrefl _)
theorem min_le {C : Ct} {x y : Nat} {k k' : K} (hm : C.min y k') (hx : C x = some k) (h1 : k.d ≠ 0) (h2 : k'.d ≠ 0) : ¬ (0 : Int) < rc k' k := by
  rw [rc_kc h2 h1]
  rcases hm.2 x k hx with e | e
  · have : k' = k := by have h3 := hm.1; rw [← e, hx] at h3; exact (Option.some.inj h3).symm
    rw [this, kc_zero.2 (ke.refl k)]
    omega
  · rcases e with e | ⟨e, _⟩
    · have := kc_lt.2 e; omega
    · rw [kc_zero.2 e]; omega
set_option maxHeartbeats 8000000 in
set_option maxRecDepth 100000 in
theorem goes_law (q q' : Option Addr) (m m' c c' : Nat) (ks : List K) (ts : List Nat) (w : World) (hl : Hid (ks.length = m)) (hl' : Hid (ts.length = m')) (hK : Hid (Kys w q ks)) (hT : Hid (Tns w q' ts)) :
    Calls Try.prog 5 #[.slice q m c, .slice q' m' c'] w fun e w' => e = .returned (.bool true) ∧ Below w.heap.size w w' := by
  have H8 : Hid (∀ w, Calls Try.prog 8 #[] w fun e w' => e = .returned (.bool true) ∧ Below w.heap.size w w') := fun w => awake_any w
  go_enter Try.func5, Try.ntmps5
  go_wp2_with (go_at_call 8; refine (H8.out _).mono ?_)
  rintro e w1 ⟨rfl, b1⟩
  have y1 : Hid (Below w.heap.size w w1) := b1
  clear b1
  by_cases hbig : (200 : Int) < (m : Int)
  · go_wp2_with (go_at_call 8; refine (H8.out _).mono ?_)
    rintro e w3 ⟨rfl, b3⟩
    go_wp2_with fail
    go_ret
    exact ⟨rfl, below_from y1.out b3 y1.out.size⟩
  have hm2 : (m : Int) ≤ 200 := by omega
  clear hbig
  by_cases hbig : (300 : Int) < (m' : Int)
  · go_wp2_with (go_at_call 8; refine (H8.out _).mono ?_)
    rintro e w3 ⟨rfl, b3⟩
    go_wp2_with fail
    go_ret
    exact ⟨rfl, below_from y1.out b3 y1.out.size⟩
  have hm3 : (m' : Int) ≤ 300 := by omega
  clear hbig
  have H9 : Hid (Calls Try.prog 9 #[] w1 fun e w' => e = .returned (.pointer (some ⟨w1.heap.size, 0, none⟩)) ∧ Lw w w' w1.heap.size Ct.nil 0 0 (fun _ => False)) := lw_new y1.out
  go_wp2_with (go_at_call 9; refine H9.out.mono ?_)
  first | rintro e w2 rfl h2 | rintro e w2 ⟨rfl, h2⟩
  generalize w1.heap.size = hb at *
  have L2 : Hid (Lw w w2 hb Ct.nil 0 0 NoT) := h2
  clear h2 H9 y1 H8
  go_wp2_with fail
  go_loopw [6] (fun iv wr => ∃ (i : Nat) (C : Ct), i ≤ m ∧ iv = .int .i64 i ∧ Lw w wr hb C i i NoT) (fun iv _ => m - (intOf iv).toNat)
  case atStart => exact ⟨0, Ct.nil, Nat.zero_le _, rfl, L2.out⟩
  case round =>
    obtain ⟨i, C, him, rfl, hL⟩ := hrel
    have L3 : Hid (Lw w wr hb C i i NoT) := hL
    clear hL L2
    by_cases hi : i < m
    · have hi' : (i : Int) < (m : Int) := by omega
      obtain ⟨k, g, f, hk0, rfl, hin, z0, z1, z2⟩ := hK.out.at (k := i) (by have := hl.out; omega)
      have x0 := keep1c' L3.out.below z0
      have x1 := keep1c' L3.out.below z1
      have x2 := keep1c' L3.out.below z2
      clear hk0 z0 z1 z2
      have q3 : IntKind.u64.wrap (IntKind.u64.wrap ((k.d : Int) / 2) + 1) = ((k.d / 2 + 1 : Nat) : Int) := by have := hin.d; rw [IntKind.wrap_u64, IntKind.wrap_u64]; omega
      have hok : (⟨k.n, k.d / 2 + 1, k.t⟩ : K).ok := ⟨hin.n, by have := hin.d; show k.d / 2 + 1 < _; omega, by show k.d / 2 + 1 ≠ 0; omega⟩
      have HIN : Hid k.in := hin
      have HQ : Hid (IntKind.u64.wrap (IntKind.u64.wrap ((k.d : Int) / 2) + 1) = ((k.d / 2 + 1 : Nat) : Int)) := q3
      have H14 : Hid (Calls Try.prog 14 #[.pointer (some ⟨hb, 0, none⟩), .agg #[.int .u64 k.n, .int .u64 ((k.d / 2 + 1 : Nat) : Int), .int .i64 k.t]] (wr.alloc (.cells #[.int .u64 k.n, .int .u64 ((k.d / 2 + 1 : Nat) : Int), .int .i64 k.t] 37)) fun e w' => e = .returned (.tuple #[.int .i64 i, .int .i64 0]) ∧ Hid (Lw w w' hb (C.put i ⟨k.n, k.d / 2 + 1, k.t⟩) (i + 1) (i + 1) NoT)) := by
        refine (lw_insert (L3.out.keep ((Below.refl _ wr).alloc (Nat.le_refl _) _)) ⟨k.n, k.d / 2 + 1, k.t⟩ hok (by omega) (by omega)).mono ?_
        rintro e w' ⟨rfl, h1, _⟩
        exact ⟨rfl, h1⟩
      obtain ⟨b0, b1, b2⟩ := c3 (w := wr.alloc (.cells #[.int .u64 k.n, .int .u64 ((k.d / 2 + 1 : Nat) : Int), .int .i64 k.t] 37)) (g := wr.heap.size) new0
      clear hin q3 hok
      go_upto_region 9 with fail
      rw [HQ.out]
      generalize wr.alloc (.cells #[.int .u64 k.n, .int .u64 ((k.d / 2 + 1 : Nat) : Int), .int .i64 k.t] 37) = W4 at *
      clear x0 x1 x2
      go_wp2_with (go_at_call 14; refine H14.out.mono ?_)
      first | rintro e w5 rfl L5 | rintro e w5 ⟨rfl, L5⟩
      go_wp2_with fail
      exact ⟨⟨i + 1, _, by omega, by go_num, L5.out⟩, by simp [intOf]; omega⟩
    · have hi' : ¬ (i : Int) < (m : Int) := by omega
      have him' : i = m := by omega
      subst him'
      clear hi
      go_wp2_with fail
      go_loopw [8] (fun iv wr => ∃ (j n : Nat) (C : Ct), j ≤ m' ∧ n ≤ i ∧ iv = .int .i64 j ∧ Lw w wr hb C i n NoT) (fun iv _ => m' - (intOf iv).toNat)
      case atStart => exact ⟨0, i, C, Nat.zero_le _, Nat.le_refl _, rfl, L3.out⟩
      case round =>
        obtain ⟨j, n, C2, hj, hni, rfl, hL⟩ := hrel
        have L4 : Hid (Lw w wr hb C2 i n NoT) := hL
        clear hL L3
        by_cases hjm : j < m'
        · have hj' : (j : Int) < (m' : Int) := by omega
          obtain ⟨t, g, f, rfl, ht, z0⟩ := hT.out.at (k := j) (by have := hl'.out; omega)
          have x0 := keep1c' L4.out.below z0
          have Z0 : Hid (w.cell? ⟨g, f + j, none⟩ = some (.int .u16 (t : Nat))) := z0
          clear z0
          by_cases h5 : t % 5 = 0
          · have e5 : (((t : Int)).tmod 5 == 0) = true := by rw [Int.tmod_eq_emod_of_nonneg (by omega)]; simp; omega
            have e5' : (((t : Int)) % 5 == 0) = true := by simp; omega
            clear h5
            have H15 : Hid (Calls Try.prog 15 #[.pointer (some ⟨hb, 0, none⟩)] wr fun e w' => ∃ v, e = .returned v ∧ Hid (∃ n' C', n' ≤ i ∧ Lw w w' hb C' i n' NoT)) := by
              by_cases hn : n = 0
              · subst hn
                refine (lw_pop0 L4.out).mono ?_
                rintro e w' ⟨rfl, b⟩
                exact ⟨_, rfl, 0, C2, hni, L4.out.keep b⟩
              · obtain ⟨x, k, hmin, hok, hpop⟩ := lw_pop L4.out hn (by omega)
                refine hpop.mono ?_
                rintro e w' ⟨rfl, h1, _⟩
                exact ⟨_, rfl, n - 1, _, by omega, h1⟩
            go_wp2_with (go_at_call 15; refine H15.out.mono ?_)
            first | rintro e w5 v5 rfl L5 | rintro e w5 ⟨v5, rfl, L5⟩
            go_wp2_with fail
            obtain ⟨n', C', h1, h2⟩ := L5.out
            exact ⟨⟨j + 1, n', C', by omega, h1, by go_num, h2⟩, by simp [intOf]; omega⟩
          · have e5 : (((t : Int)).tmod 5 == 0) = false := by rw [Int.tmod_eq_emod_of_nonneg (by omega)]; simp; omega
            have e5' : (((t : Int)) % 5 == 0) = false := by simp; omega
            clear h5
            obtain ⟨x, hx, hx1⟩ : ∃ x : Nat, ((t : Int)).tmod ((i : Int) + 1) = (x : Int) ∧ x ≤ i := ⟨t % (i + 1), by rw [Int.tmod_eq_emod_of_nonneg (by omega)]; exact (Int.natCast_emod t (i + 1)).symm, by have := Nat.mod_lt t (show 0 < i + 1 by omega); omega⟩
            have hi0 : ¬ ((i : Int) + 1) = 0 := by omega
            have HG := lw_get L4.out (x : Int) (wf_nat (by omega))
            cases hC : C2 (x : Int) with
            | none =>
              rw [hC] at HG
              have H18 : Hid (Calls Try.prog 18 #[.pointer (some ⟨hb, 0, none⟩), .int .i64 x] wr fun e w' => e = .returned (.tuple #[.agg #[.int .u64 0, .int .u64 0, .int .i64 0], .int .i64 3]) ∧ Hid (Below wr.heap.size wr w')) := HG
              clear HG hC
              go_upto_region 17 with (go_at_call 18; refine H18.out.mono ?_; first | rintro e w5 rfl B5 | rintro e w5 ⟨rfl, B5⟩)
              have L5 : Hid (Lw w (w5.alloc (.cells #[.int .u64 0, .int .u64 0, .int .i64 0] 37)) hb C2 i n NoT) := (L4.out.keep B5.out).keep ((Below.refl _ w5).alloc (Nat.le_refl _) _)
              clear L4
              go_wp2_with fail
              exact ⟨⟨j + 1, n, C2, by omega, hni, by go_num, L5.out⟩, by simp [intOf]; omega⟩
            | some old =>
              rw [hC] at HG
              have H18 : Hid (Calls Try.prog 18 #[.pointer (some ⟨hb, 0, none⟩), .int .i64 x] wr fun e w' => e = .returned (.tuple #[.agg #[.int .u64 old.n, .int .u64 old.d, .int .i64 old.t], .int .i64 0]) ∧ Hid (Below wr.heap.size wr w')) := HG
              obtain ⟨hn0, hok, -⟩ := L4.out.some hC
              have HC : Hid (C2 (x : Int) = some old) := hC
              have HO : Hid (old.ok ∧ n ≠ 0) := ⟨hok, hn0⟩
              have HQ : Hid (IntKind.u64.wrap ((old.n : Int) / 2) = ((old.n / 2 : Nat) : Int)) := by have := hok.n; show IntKind.u64.wrap _ = _; rw [IntKind.wrap_u64]; omega
              clear HG hC hok hn0
              go_upto_region 19 with (go_at_call 18; refine H18.out.mono ?_; first | rintro e w5 rfl B5 | rintro e w5 ⟨rfl, B5⟩)
              rw [HQ.out]
              have L5 : Hid (Lw w (w5.alloc (.cells #[.int .u64 ((old.n / 2 : Nat) : Int), .int .u64 old.d, .int .i64 old.t] 37)) hb C2 i n (· = w5.heap.size)) := ((L4.out.keep B5.out).box _).less fun k hk => .inr hk
              have X5 : Hid ((w5.alloc (.cells #[.int .u64 ((old.n / 2 : Nat) : Int), .int .u64 old.d, .int .i64 old.t] 37)).heap[w5.heap.size]? = some (.cells #[.int .u64 ((old.n / 2 : Nat) : Int), .int .u64 old.d, .int .i64 old.t] 37 (0, 0))) := new0
              generalize w5.alloc (.cells #[.int .u64 ((old.n / 2 : Nat) : Int), .int .u64 old.d, .int .i64 old.t] 37) = W5 at *
              generalize w5.heap.size = bx at *
              obtain ⟨k', hk'⟩ : ∃ k' : K, k' = ⟨old.n / 2, old.d, old.t⟩ := ⟨_, rfl⟩
              have HK : Hid (k'.ok ∧ ¬ kl old k') := by rw [hk']; exact ⟨⟨by have := HO.out.1.n; show old.n / 2 < _; omega, HO.out.1.d, HO.out.1.z⟩, half_le old⟩
              have ek1 : (old.n / 2) = k'.n := by rw [hk']
              have ek2 : old.d = k'.d := by rw [hk']
              have ek3 : old.t = k'.t := by rw [hk']
              rw [ek1, ek2, ek3] at X5
              rw [ek1, ek2, ek3]
              have H19 : Hid (Calls Try.prog 19 #[.pointer (some ⟨hb, 0, none⟩), .int .i64 x, .agg #[.int .u64 k'.n, .int .u64 k'.d, .int .i64 k'.t]] W5 fun e w' => e = .returned (.int .i64 0) ∧ Hid (Lw w w' hb (C2.put x k') i n (· = bx) ∧ w'.heap[bx]? = some (.cells #[.int .u64 k'.n, .int .u64 k'.d, .int .i64 k'.t] 37 (0, 0)))) := by
                refine (lw_dec L5.out HC.out HK.out.1 HK.out.2 (by omega)).mono ?_
                rintro e w' ⟨rfl, h1, h2⟩
                exact ⟨rfl, h1, (h2 bx rfl).trans X5.out⟩
              obtain ⟨p0, p1, p2⟩ := c3 X5.out
              clear ek1 ek2 ek3 hk' H18 HQ L5 X5 x0
              go_upto_region 21 with (go_at_call 19; refine H19.out.mono ?_; first | rintro e w6 rfl H6 | rintro e w6 ⟨rfl, H6⟩)
              clear p0 p1 p2 H19
              obtain ⟨y, km, hmin, hokm, hy, hmn⟩ := lw_min H6.out.1 HO.out.2
              have H20 : Hid (Calls Try.prog 20 #[.pointer (some ⟨hb, 0, none⟩)] w6 fun e w' => e = .returned (.tuple #[.int .i64 y, .agg #[.int .u64 km.n, .int .u64 km.d, .int .i64 km.t], .int .i64 0]) ∧ Hid (Below w6.heap.size w6 w')) := hmn
              have HM : Hid ((C2.put x k').min y km ∧ km.ok) := ⟨hmin, hokm⟩
              clear hmn hmin hokm
              go_upto_region 22 with (go_at_call 20; refine H20.out.mono ?_; first | rintro e w7 rfl B7 | rintro e w7 ⟨rfl, B7⟩)
              have L8 : Hid (Lw w (w7.alloc (.cells #[.int .u64 km.n, .int .u64 km.d, .int .i64 km.t] 37)) hb (C2.put x k') i n NoT) := ((H6.out.1.keep B7.out).keep ((Below.refl _ w7).alloc (Nat.le_refl _) _)).less nofun
              have X8 : Hid ((w7.alloc (.cells #[.int .u64 km.n, .int .u64 km.d, .int .i64 km.t] 37)).heap[bx]? = some (.cells #[.int .u64 k'.n, .int .u64 k'.d, .int .i64 k'.t] 37 (0, 0))) := at_alloc (at_below B7.out (Nat.le_refl _) H6.out.2)
              have Y8 : Hid ((w7.alloc (.cells #[.int .u64 km.n, .int .u64 km.d, .int .i64 km.t] 37)).heap[w7.heap.size]? = some (.cells #[.int .u64 km.n, .int .u64 km.d, .int .i64 km.t] 37 (0, 0))) := new0
              generalize w7.alloc (.cells #[.int .u64 km.n, .int .u64 km.d, .int .i64 km.t] 37) = W8 at *
              generalize w7.heap.size = by8 at *
              have hc6 : C6 W8 by8 bx km k' := by
                obtain ⟨a0, a1, a2⟩ := c3 X8.out
                obtain ⟨b0, b1, b2⟩ := c3 Y8.out
                exact ⟨b0, b1, b2, a0, a1, a2⟩
              have H16 : Hid (∀ w, Calls Try.prog 16 #[.agg #[.int .u64 km.n, .int .u64 km.d, .int .i64 km.t], .agg #[.int .u64 k'.n, .int .u64 k'.d, .int .i64 k'.t]] w fun e w' => e = .returned (.int .i64 (rc km k')) ∧ Below w.heap.size w w') := fun w => rcompare_any km k' w HM.out.2.n HM.out.2.d HK.out.1.n HK.out.1.d
              have hcmp : ¬ (0 : Int) < rc km k' := min_le HM.out.1 (show (C2.put x k') (x : Int) = some k' from if_pos rfl) HK.out.1.z HM.out.2.z
              have HG2 : Hid (∀ w9, Below W8.heap.size W8 w9 → Calls Try.prog 18 #[.pointer (some ⟨hb, 0, none⟩), .int .i64 y] w9 fun e w' => e = .returned (.tuple #[.agg #[.int .u64 km.n, .int .u64 km.d, .int .i64 km.t], .int .i64 0]) ∧ Below w9.heap.size w9 w') := fun w9 b9 => by
                have := lw_get (L8.out.keep b9) (y : Int) (wf_nat (by omega))
                rw [HM.out.1.1] at this
                exact this
              generalize rc km k' = cmp at *
              unfold C6 at hc6
              clear H6 H20 B7 hy
              go_region_held3 (fun w' : World => w'.cell? ⟨by8, 0, none⟩ = some (.int .u64 km.n) ∧ w'.cell? ⟨by8, 1, none⟩ = some (.int .u64 km.d) ∧ w'.cell? ⟨by8, 2, none⟩ = some (.int .i64 km.t) ∧ w'.cell? ⟨bx, 0, none⟩ = some (.int .u64 k'.n) ∧ w'.cell? ⟨bx, 1, none⟩ = some (.int .u64 k'.d) ∧ w'.cell? ⟨bx, 2, none⟩ = some (.int .i64 k'.t)) (repeat' (first | (with_reducible assumption) | (with_reducible refine keep6 b1 ?_) | (with_reducible refine keep6 b2 ?_) | (with_reducible refine keep6 b3 ?_) | (with_reducible refine keep1c' b1 ?_) | (with_reducible refine keep1c' b2 ?_) | (with_reducible refine keep1c' b3 ?_) | go_keep)) (first | (go_at_call_of 17 (Value.agg #[.int .u64 km.n, .int .u64 km.d, .int .i64 km.t]); refine (plain_any km.n km.d km.t _).mono ?_; rintro e w9 ⟨rfl, b1⟩) | (go_at_call_of 17 (Value.agg #[.int .u64 k'.n, .int .u64 k'.d, .int .i64 k'.t]); refine (plain_any k'.n k'.d k'.t _).mono ?_; rintro e w10 ⟨rfl, b2⟩) | (go_at_call 16; refine (H16.out _).mono ?_; rintro e w11 ⟨rfl, b3⟩))
              have y9 : Below W8.heap.size W8 w9 := (below_dr W8).trans b1
              have y10 : Below W8.heap.size W8 w10 := y9.trans (b2.mono y9.size)
              have y11 : Hid (Below W8.heap.size W8 w11) := y10.trans (b3.mono y10.size)
              have H18b := HG2.out w11 y11.out
              have Y11 : Hid (w11.heap[by8]? = some (.cells #[.int .u64 km.n, .int .u64 km.d, .int .i64 km.t] 37 (0, 0))) := at_below y11.out (Nat.le_refl _) Y8.out
              clear hc6 b1 b2 b3 y9 y10 HG2 H16 X8 Y8
              go_upto_region 25 with (go_at_call 18; refine H18b.mono ?_; first | rintro e w12 rfl b12 | rintro e w12 ⟨rfl, b12⟩)
              have L13 : Hid (Lw w (w12.alloc (.cells #[.int .u64 km.n, .int .u64 km.d, .int .i64 km.t] 37)) hb (C2.put x k') i n NoT) := ((L8.out.keep y11.out).keep b12).keep ((Below.refl _ w12).alloc (Nat.le_refl _) _)
              have Y13 : (w12.alloc (.cells #[.int .u64 km.n, .int .u64 km.d, .int .i64 km.t] 37)).heap[by8]? = some (.cells #[.int .u64 km.n, .int .u64 km.d, .int .i64 km.t] 37 (0, 0)) := at_alloc (at_below b12 (Nat.le_refl _) Y11.out)
              have Z13 : (w12.alloc (.cells #[.int .u64 km.n, .int .u64 km.d, .int .i64 km.t] 37)).heap[w12.heap.size]? = some (.cells #[.int .u64 km.n, .int .u64 km.d, .int .i64 km.t] 37 (0, 0)) := new0
              generalize w12.alloc (.cells #[.int .u64 km.n, .int .u64 km.d, .int .i64 km.t] 37) = W13 at *
              generalize w12.heap.size = bz at *
              obtain ⟨a0, a1, a2⟩ := c3 Y13
              obtain ⟨b0, b1, b2⟩ := c3 Z13
              clear Y13 Z13 b12 H18b Y11 y11 L8
              go_wp2_with fail
              exact ⟨⟨j + 1, n, _, by omega, hni, by go_num, L13.out⟩, by simp [intOf]; omega⟩
        · have hj' : ¬ (j : Int) < (m' : Int) := by omega
          go_wp2_with fail
          go_ret
          exact ⟨rfl, L4.out.below⟩
end Go.Proofs.Ytmcmldlnmmbbgaa
