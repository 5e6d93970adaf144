/-
  slices.Grow of no row, slices.Concat of runs and one more. Plain mathematics: a run's number and its rows' places do not matter; what Admit answers. After; startsAt. Admit.
-/
import Derived.Test.YtjgibngnjlciaaaGreatEa
import Derived.Test.YtjgibngnjlciaaaGreatPd
import Derived.Lib.AppendZeros
import Derived.Lib.SliceRun
import Derived.Test.YtjgibngnjlciaaaGreatFn
import Derived.Test.YtjgibngnjlciaaaGreatMb
namespace Go.Proofs.YtjgibngnjlciaaaGreat
open Go.RowKit Go.Maps

theorem info44r : (Tryz.prog.info? 42).map (fun i => (i.zero, i.size, i.bytes)) = some (some (.agg #[.int .i64 0, .int .i64 0, .slice none 0 0, .slice none 0 0]), 4, 64) := by kernel_rfl
/-- an owned row of runs -/
abbrev PR (b : Nat) (w : World) (v : Value) (L : List Vi) : Prop := GRow 42 4 viC b w v L
theorem grow_run (w : World) (n : Nat) (h0 : 0 < n) (hn : n ≤ 1000000) : ∃ W c, (∀ ty, (Builtin.append_ #[25, 3] ty #[.slice none 0 0, .int .i64 (n : Int)]).run Tryz.prog w = .ok (.slice (some ⟨w.heap.size, 0, none⟩) n c) W) ∧ n ≤ c ∧ PR w.heap.size W (.slice (some ⟨w.heap.size, 0, none⟩) 0 c) [] ∧ Below w.heap.size w W := by
  obtain ⟨i0, hi, hz0, hz1, hz2⟩ := info_parts info44r
  refine ⟨_, _, fun ty => Lib.run_append_nil_zeros w 25 3 ty 42 i0 _ .i64 .i64 Tryz.underlying25 Tryz.underlying3 hi hz0 n h0 (by omega) (by omega) (by rw [hz2]; omega), by simpa using grownCap_ge w n 0 42, ?_, ((Below.refl _ w).drew).alloc (Nat.le_refl _) _⟩
  have hm : grownCap w n 0 42 ≤ maxLen := by simpa using grownCap_le_maxLen w n 0 42 (by unfold maxLen; omega)
  have hg : n ≤ grownCap w n 0 42 := by simpa using grownCap_ge w n 0 42
  refine ⟨rfl, .inr ⟨w.heap.size, grownCap w n 0 42, _, rfl, Nat.le_refl _, new0 (w := w.drew), Nat.zero_le _, hm, ?_, rfl⟩⟩
  simp [Builtin.zeroCells, Value.cells]
  omega
set_option maxHeartbeats 1000000 in
theorem grow72 (w : World) (n : Nat) (h0 : 0 < n) (hn : n ≤ 1000000) :
    Calls Tryz.prog 56 #[.slice none 0 0, .int .i64 (n : Int)] w fun e w' => ∃ g c, e = .returned (.slice (some ⟨g, 0, none⟩) 0 c) ∧ Hid (PR w.heap.size w' (.slice (some ⟨g, 0, none⟩) 0 c) [] ∧ Below w.heap.size w w') := by
  obtain ⟨W, c, hr, hc, hp, hb⟩ := grow_run w n h0 hn
  have HR : Hid (PR w.heap.size W (.slice (some ⟨w.heap.size, 0, none⟩) 0 c) [] ∧ Below w.heap.size w W) := ⟨hp, hb⟩
  have hpos : (0 : Int) < (n : Int) := by omega
  have hneg : ¬ (n : Int) < 0 := by omega
  clear hp hb
  go_enter Tryz.func56, Tryz.ntmps56
  go_wp2_with (first
    | (at_builtin; refine Lib.wpList_append_run _ rfl _ _ _ _ rfl _ _ rfl rfl _ _ (hr _) ?_)
    | go_in)
  go_ret
  exact ⟨_, c, rfl, HR⟩
set_option maxHeartbeats 4000000 in
set_option maxRecDepth 100000 in
theorem concat_any (R : List Vi) (v : Vi) (q : Option Addr) (n c sb rb : Nat) (w : World) (hR : Hid (VA w q R)) (hn : Hid (R.length = n)) (n1 : n ≤ 1000) (hq : Hid (q = none → c = 0)) (hv : Hid (VA w (some ⟨rb, 0, none⟩) [v])) (s0 : w.cell? ⟨sb, 0, none⟩ = some (.slice q n c)) (s1 : w.cell? ⟨sb, 1, none⟩ = some (.slice (some ⟨rb, 0, none⟩) 1 1)) :
    Calls Tryz.prog 29 #[.slice (some ⟨sb, 0, none⟩) 2 2] w fun e w' => ∃ g c', e = .returned (.slice (some ⟨g, 0, none⟩) (n + 1) c') ∧ Hid (PR w.heap.size w' (.slice (some ⟨g, 0, none⟩) (n + 1) c') (R ++ [v]) ∧ Below w.heap.size w w') := by
  have H72 : Hid (∀ w1, Calls Tryz.prog 56 #[.slice none 0 0, .int .i64 ((n : Int) + 1)] w1 fun e w' => ∃ g c, e = .returned (.slice (some ⟨g, 0, none⟩) 0 c) ∧ Hid (PR w1.heap.size w' (.slice (some ⟨g, 0, none⟩) 0 c) [] ∧ Below w1.heap.size w1 w')) := fun w1 => grow72 w1 (n + 1) (by omega) (by omega)
  go_enter Tryz.func29, Tryz.ntmps29
  go_upto_region 2 with fail
  go_wp2_with fail
  refine wp_loop_rounds 3 ?_
  rw [rounds_succ]
  go_wp2_with fail
  rw [rounds_succ]
  go_wp2_with fail
  rw [rounds_succ]
  go_wp2_with (go_at_call 56; refine (H72.out _).mono ?_; rintro e w1 ⟨g, c1, rfl, h1⟩)
  have S0 : Hid (∀ W, Below w.heap.size w W → W.cell? ⟨sb, 0, none⟩ = some (.slice q n c) ∧ W.cell? ⟨sb, 1, none⟩ = some (.slice (some ⟨rb, 0, none⟩) 1 1)) := fun W b => ⟨cell_below s0 b, cell_below s1 b⟩
  clear s0 s1 H72
  have z0 := (S0.out w1 h1.out.2).1
  have hrow := h1.out.1
  have hga := hR.out.below h1.out.2
  refine wp_loop_rounds 3 ?_
  rw [rounds_succ]
  go_wp2_with (first
    | (at_builtin; refine append_ga (wr := w1) viC_len viC_one Tryz.underlying25 info44r rfl (by decide) rfl _ _ rfl (some ⟨g, 0, none⟩) 0 c1 [] rfl hrow h1.out.2.size q n c R rfl hn.out hga hq.out (by unfold maxLen; omega) (by omega) ?_; intro p2 c2 w2 hr2 hb2)
    | go_in)
  have b2 : Below w.heap.size w w2 := h1.out.2.trans hb2
  have z1 := (S0.out w2 b2).2
  rw [List.nil_append, Nat.zero_add] at hr2
  have hgv := hv.out.below b2
  have B2 : Hid (w.heap.size ≤ w2.heap.size) := b2.size
  have B3 : Hid (Below w.heap.size w w2) := b2
  clear hrow hga z0 h1 hb2 b2 hR
  rw [rounds_succ]
  go_wp2_with (first
    | (at_builtin; refine append_ga (wr := w2) viC_len viC_one Tryz.underlying25 info44r rfl (by decide) rfl _ _ rfl p2 n c2 R rfl hr2 B2.out (some ⟨rb, 0, none⟩) 1 1 [v] rfl rfl hgv nofun (by unfold maxLen; omega) (by omega) ?_; intro p3 c3 w3 hr3 hb3)
    | go_in)
  rw [rounds_succ]
  go_wp2_with fail
  go_ret
  have h4 : PR w.heap.size w3 (.slice p3 (n + 1) c3) (R ++ [v]) := hr3
  obtain ⟨g3, rfl, -⟩ := GRow.at viC_len h4 (i := R.length) (o := v) (by simp)
  exact ⟨g3, c3, rfl, h4, B3.out.trans hb3⟩
end Go.Proofs.YtjgibngnjlciaaaGreat

namespace Go.Proofs.YtjgibngnjlciaaaGreat

/-- a run without its number and its rows' places -/
def zr (v : Vi) : Vi := ⟨0, v.p, none, 0, 0, none, 0, 0, v.T, v.N⟩
theorem zr_gv : ∀ (R : List Vi) (S : List Sl), gvG (R.map zr) S = gvG R S
  | [], S => rfl
  | v :: r, S => by
    show (if (movR addR v.T v.N S).1 = 0 then gvG (r.map zr) (movR addR v.T v.N S).2 else _) = if (movR addR v.T v.N S).1 = 0 then gvG r (movR addR v.T v.N S).2 else _
    rw [zr_gv r]
    rfl
theorem zr_totL (R : List Vi) (nm : List UInt8) : totL (R.map zr) nm = totL R nm := by
  unfold totL
  rw [List.flatMap_map]
  rfl
theorem zr_stA (now : Int) (R : List Vi) (S : List Sl) (t : Int) : stA now (R.map zr) S t = stA now R S t := by
  unfold stA slA
  refine List.map_congr_left fun s _ => ?_
  have e : (R.map zr).filter (fun r => decide (en now r ≤ t)) = (R.filter fun r => decide (en now r ≤ t)).map zr := by
    rw [List.filter_map]
    rfl
  rw [e, zr_totL]
theorem zr_wthn (now : Int) (R : List Vi) : wthn now (R.map zr) = wthn now R := by
  unfold wthn
  rw [List.length_map, List.any_map]
  rfl
theorem zr_cand (now : Int) (R : List Vi) : cand now (R.map zr) = cand now R := by
  unfold cand
  rw [List.map_map]
  rfl
theorem zr_sta (now : Int) (T : List V) (R : List Vi) (S : List Sl) : staN now T (R.map zr) S = staN now T R S := by
  unfold staN
  rw [zr_cand]
  congr 1
  refine List.filter_congr fun t _ => ?_
  rw [Bool.eq_iff_iff, decide_eq_true_iff, decide_eq_true_iff]
  unfold fitT
  rw [zr_stA]
theorem zr_start (now : Int) (T : List V) (R : List Vi) (S : List Sl) : startR now T (R.map zr) S = startR now T R S := by
  unfold startR
  rw [zr_wthn, zr_gv, zr_sta]
  simp only [zr_stA]
theorem start_last (now : Int) (T : List V) (R : List Vi) (S : List Sl) {v u : Vi} (h1 : v.p = u.p) (h2 : v.T = u.T) (h3 : v.N = u.N) : startR now T (R ++ [v]) S = startR now T (R ++ [u]) S := by
  rw [← zr_start now T (R ++ [v]), ← zr_start now T (R ++ [u]), List.map_append, List.map_append]
  have : zr v = zr u := by unfold zr; rw [h1, h2, h3]
  rw [List.map_singleton, List.map_singleton, this]
/-- who goes ahead, as a run -/
def ahV (now rt : Int) (U : List V) (N : List (List UInt8)) : Vi := ⟨0, now + rt, none, 0, 0, none, 0, 0, U, N⟩
/-- what Start answers with one who goes ahead -/
def withR (now rt : Int) (T U : List V) (N : List (List UInt8)) (R : List Vi) (S : List Sl) : Int × List (List UInt8) × Nat := startR now T (R ++ [ahV now rt U N]) (movR subR U N S).2
/-- what Admit answers -/
def admitR (now rt : Int) (T U : List V) (R : List Vi) (S : List Sl) : List (List UInt8) × Bool × Nat :=
  if rt < 1 ∨ 1000 < rt ∨ 1099511627776 - rt < now then ([], false, 2) else
  if ¬ ((startR now T R S).2.2 = 0 ∨ (startR now T R S).2.2 = 6) then ([], false, (startR now T R S).2.2) else
  if (fitR U S).1 = 6 then ([], false, 0) else if (fitR U S).1 ≠ 0 then ([], false, (fitR U S).1) else
  if (startR now T R S).2.2 = 0 ∧ ¬ ((withR now rt T U (fitR U S).2 R S).2.2 = 0 ∧ (withR now rt T U (fitR U S).2 R S).1 = (startR now T R S).1) then ([], false, 0) else ((fitR U S).2, true, 0)
theorem admit_yes {now rt : Int} {T U : List V} {R : List Vi} {S : List Sl} (h : (admitR now rt T U R S).2.1 = true) : (fitR U S).1 = 0 ∧ admitR now rt T U R S = ((fitR U S).2, true, 0) ∧ ((startR now T R S).2.2 = 0 ∨ (startR now T R S).2.2 = 6) ∧ ((startR now T R S).2.2 = 0 → (withR now rt T U (fitR U S).2 R S).2.2 = 0 ∧ (withR now rt T U (fitR U S).2 R S).1 = (startR now T R S).1) ∧ 1 ≤ rt ∧ rt ≤ 1000 ∧ now ≤ 1099511627776 - rt := by
  unfold admitR at h ⊢
  by_cases h1 : rt < 1 ∨ 1000 < rt ∨ 1099511627776 - rt < now
  · rw [if_pos h1] at h; cases h
  · rw [if_neg h1] at h ⊢
    by_cases h2 : ¬ ((startR now T R S).2.2 = 0 ∨ (startR now T R S).2.2 = 6)
    · rw [if_pos h2] at h; cases h
    · rw [if_neg h2] at h ⊢
      by_cases h3 : (fitR U S).1 = 6
      · rw [if_pos h3] at h; cases h
      · rw [if_neg h3] at h ⊢
        by_cases h4 : (fitR U S).1 ≠ 0
        · rw [if_pos h4] at h; cases h
        · rw [if_neg h4] at h ⊢
          by_cases h5 : (startR now T R S).2.2 = 0 ∧ ¬ ((withR now rt T U (fitR U S).2 R S).2.2 = 0 ∧ (withR now rt T U (fitR U S).2 R S).1 = (startR now T R S).1)
          · rw [if_pos h5] at h; cases h
          · rw [if_neg h5]
            refine ⟨by omega, rfl, Decidable.not_not.1 h2, fun h6 => Decidable.byContradiction fun q => h5 ⟨h6, q⟩, by omega, by omega, by omega⟩
theorem admit_err {now rt : Int} {T U : List V} {R : List Vi} {S : List Sl} (h : (admitR now rt T U R S).2.1 = true) : (admitR now rt T U R S).2.2 = 0 := by
  rw [(admit_yes h).2.1]
theorem admit_range {now rt : Int} {T U : List V} {R : List Vi} {S : List Sl} (h : rt < 1 ∨ 1000 < rt ∨ 1099511627776 - rt < now) : admitR now rt T U R S = ([], false, 2) := by unfold admitR; rw [if_pos h]
theorem admit_start {now rt : Int} {T U : List V} {R : List Vi} {S : List Sl} (h : ¬ (rt < 1 ∨ 1000 < rt ∨ 1099511627776 - rt < now)) (h2 : ¬ ((startR now T R S).2.2 = 0 ∨ (startR now T R S).2.2 = 6)) : admitR now rt T U R S = ([], false, (startR now T R S).2.2) := by unfold admitR; rw [if_neg h, if_pos h2]
theorem admit_full {now rt : Int} {T U : List V} {R : List Vi} {S : List Sl} (h : ¬ (rt < 1 ∨ 1000 < rt ∨ 1099511627776 - rt < now)) (h2 : (startR now T R S).2.2 = 0 ∨ (startR now T R S).2.2 = 6) (h3 : (fitR U S).1 = 6) : admitR now rt T U R S = ([], false, 0) := by unfold admitR; rw [if_neg h, if_neg (fun q => q h2), if_pos h3]
theorem admit_fit {now rt : Int} {T U : List V} {R : List Vi} {S : List Sl} (h : ¬ (rt < 1 ∨ 1000 < rt ∨ 1099511627776 - rt < now)) (h2 : (startR now T R S).2.2 = 0 ∨ (startR now T R S).2.2 = 6) (h3 : ¬ (fitR U S).1 = 6) (h4 : (fitR U S).1 ≠ 0) : admitR now rt T U R S = ([], false, (fitR U S).1) := by unfold admitR; rw [if_neg h, if_neg (fun q => q h2), if_neg h3, if_pos h4]
theorem admit_last {now rt : Int} {T U : List V} {R : List Vi} {S : List Sl} (h : ¬ (rt < 1 ∨ 1000 < rt ∨ 1099511627776 - rt < now)) (h2 : (startR now T R S).2.2 = 0 ∨ (startR now T R S).2.2 = 6) (h4 : (fitR U S).1 = 0) : admitR now rt T U R S = if (startR now T R S).2.2 = 0 ∧ ¬ ((withR now rt T U (fitR U S).2 R S).2.2 = 0 ∧ (withR now rt T U (fitR U S).2 R S).1 = (startR now T R S).1) then ([], false, 0) else ((fitR U S).2, true, 0) := by unfold admitR; rw [if_neg h, if_neg (fun q => q h2), if_neg (by omega), if_neg (by omega)]
theorem admit_no {now rt : Int} {T U : List V} {R : List Vi} {S : List Sl} (h : (admitR now rt T U R S).2.1 = false) : (admitR now rt T U R S).1 = [] := by
  by_cases h1 : rt < 1 ∨ 1000 < rt ∨ 1099511627776 - rt < now
  · rw [admit_range h1]
  · by_cases h2 : (startR now T R S).2.2 = 0 ∨ (startR now T R S).2.2 = 6
    · by_cases h3 : (fitR U S).1 = 6
      · rw [admit_full h1 h2 h3]
      · by_cases h4 : (fitR U S).1 = 0
        · rw [admit_last h1 h2 h4] at h ⊢
          by_cases h5 : (startR now T R S).2.2 = 0 ∧ ¬ ((withR now rt T U (fitR U S).2 R S).2.2 = 0 ∧ (withR now rt T U (fitR U S).2 R S).1 = (startR now T R S).1)
          · rw [if_pos h5]
          · rw [if_neg h5] at h; cases h
        · rw [admit_fit h1 h2 h3 h4]
    · rw [admit_start h1 h2]
end Go.Proofs.YtjgibngnjlciaaaGreat

namespace Go.Proofs.YtjgibngnjlciaaaGreat
open Go.RowKit Go.Maps

theorem after_any (T : List V) (N : List (List UInt8)) (S : List Sl) (q q2 r : Option Addr) (n c n2 c2 m d : Nat) (w : World) (hA : Arg w q r n c m d T S) (hN : NA w q2 N) (hNs : ∀ s ∈ N, s.length ≤ 281474976710656) (hn2 : N.length = n2) (n1 : n ≤ 1000000) (m1 : m ≤ 1000000) (k1 : n2 ≤ 1000000) :
    Calls Tryz.prog 28 #[.slice q n c, .slice q2 n2 c2, .slice r m d] w (MovP subR w T N S) := by
  have H31 : Hid (Calls Tryz.prog 55 #[.func (.func 26) #[] #[], .slice q n c, .slice q2 n2 c2, .slice r m d] w (MovP subR w T N S)) := reckS T N S q q2 r n c n2 c2 m d w hA hN hNs hn2 n1 m1 k1
  clear hA hN hNs hn2
  go_enter Tryz.func28, Tryz.ntmps28
  go_wp2_with (go_at_call 55; refine H31.out.mono ?_; rintro e w1 ⟨p, k, c', rfl, hk, h1⟩)
  go_ret2
  exact ⟨p, k, c', rfl, hk, h1⟩
theorem movG_nm (f : V → V → V × Nat) : ∀ (l : List (V × List UInt8)) (S S' : List Sl), movG f l S = some S' → S'.map Sl.nm = S.map Sl.nm
  | [], S, S', h => by cases h; rfl
  | x :: r, S, S', h => by
    have h' : (stepM f x S).bind (movG f r) = some S' := h
    obtain ⟨S1, e1, e2⟩ := Option.bind_eq_some_iff.1 h'
    rw [movG_nm f r S1 S' e2]
    unfold stepM at e1
    cases hk : plc x.2 S with
    | none => rw [hk] at e1; cases e1
    | some k =>
      rw [hk] at e1
      obtain ⟨u, hu, _⟩ := plc_some hk
      have eg : S.getD k default = u := by rw [List.getD_eq_getElem?_getD, hu]; rfl
      simp only [eg] at e1
      split at e1
      · cases e1; exact set_nm hu _
      · cases e1
theorem movS_nm {T : List V} {N : List (List UInt8)} {S : List Sl} (h : (movR subR T N S).1 = 0) : (movR subR T N S).2.map Sl.nm = S.map Sl.nm := by
  unfold movR at h ⊢
  by_cases h1 : chk T S = 0
  · rw [if_pos h1] at h ⊢
    by_cases h2 : N.length = T.length
    · rw [if_pos h2] at h ⊢
      by_cases h3 : knB N S = true
      · rw [if_pos h3] at h ⊢
        cases hg : movG subR (T.zip N) S with
        | none => rw [hg] at h; cases h
        | some S' => exact movG_nm _ _ _ _ hg
      · rw [if_neg h3] at h; cases h
    · rw [if_neg h2] at h; cases h
  · rw [if_neg h1] at h; exact absurd h h1
/-- the slots without what a gang takes, as they are handed on -/
theorem after_sl {w : World} {v : Vi} {S : List Sl} {r : Option Addr} {m d : Nat} (o : v.ok w) (h : SlS w r m d S) (h0 : (movR subR v.T v.N S).1 = 0) (m1 : m ≤ 1000000) : Calls Tryz.prog 28 #[.slice v.qT v.nT v.cT, .slice v.qN v.nN v.cN, .slice r m d] w fun e w' => ∃ p c, e = .returned (.tuple #[.slice p m c, .int .i64 0]) ∧ Hid (SlS w' p m c (movR subR v.T v.N S).2 ∧ Below w.heap.size w w') := by
  refine (after_any v.T v.N S v.qT v.qN r v.nT v.cT v.nN v.cN m d w (h.arg o) o.n o.sn o.ln o.mt m1 o.mn).mono ?_
  rintro e w' ⟨p, k, c, rfl, hk, h1⟩
  have hl : (movR subR v.T v.N S).2.length = m := by
    have := congrArg List.length (movS_nm h0)
    rw [List.length_map, List.length_map] at this
    rw [this, h.m]
  obtain rfl : m = k := hl.symm.trans hk
  exact ⟨p, c, by rw [h0]; rfl, ⟨h1.out.1.ga slC_len, short_nm h.h (movS_nm h0), fun e => by subst e; exact h1.out.1.nilc, hl⟩, h1.out.2⟩
/-- the very start, with one who goes ahead -/
def atB (start now : Int) (T : List V) (R : List Vi) (v : Vi) (S : List Sl) : Bool := decide ((startR now T (R ++ [v]) (movR subR v.T v.N S).2).2.2 = 0 ∧ (startR now T (R ++ [v]) (movR subR v.T v.N S).2).1 = start)
set_option maxHeartbeats 4000000 in
set_option maxRecDepth 100000 in
theorem startsAt_any (start now : Int) (qT q r : Option Addr) (nT cT n c m d : Nat) (T : List V) (R : List Vi) (S : List Sl) (v : Vi) (w : World) (h : Hid (StG w qT nT cT q n r m d T R S)) (hv : Hid (v.ok w)) (n1 : n ≤ 1000) (hq : Hid (q = none → c = 0)) (h0 : Hid ((movR subR v.T v.N S).1 = 0)) :
    Calls Tryz.prog 13 #[.int .i64 start, .int .i64 now, .slice qT nT cT, .agg #[.int .i64 v.j, .int .i64 v.p, .slice v.qT v.nT v.cT, .slice v.qN v.nN v.cN], .slice q n c, .slice r m d] w fun e w' => e = .returned (.bool (atB start now T R v S)) ∧ Hid (Below w.heap.size w w') := by
  obtain ⟨t, ht⟩ : ∃ t, (startR now T (R ++ [v]) (movR subR v.T v.N S).2).1 = t := ⟨_, rfl⟩
  obtain ⟨x, hx⟩ : ∃ x, (startR now T (R ++ [v]) (movR subR v.T v.N S).2).2.2 = x := ⟨_, rfl⟩
  have HB : Hid (atB start now T R v S = decide (x = 0 ∧ t = start)) := by
    show _ = _
    unfold atB
    rw [ht, hx]
  have H15 : Hid (∀ w1, Below w.heap.size w w1 → Calls Tryz.prog 28 #[.slice v.qT v.nT v.cT, .slice v.qN v.nN v.cN, .slice r m d] w1 fun e w' => ∃ p c, e = .returned (.tuple #[.slice p m c, .int .i64 0]) ∧ Hid (SlS w' p m c (movR subR v.T v.N S).2 ∧ Below w1.heap.size w1 w')) := fun w1 b => after_sl (hv.out.below b) (h.out.s.below b) h0.out (by have := h.out.n3; omega)
  have H49 : Hid (∀ w1 sb rb, Below w.heap.size w w1 → w1.heap[rb]? = some (.cells #[.int .i64 v.j, .int .i64 v.p, .slice v.qT v.nT v.cT, .slice v.qN v.nN v.cN] 42 (0, 0)) → w1.heap[sb]? = some (.cells #[.slice q n c, .slice (some ⟨rb, 0, none⟩) 1 1] 25 (0, 0)) → Calls Tryz.prog 29 #[.slice (some ⟨sb, 0, none⟩) 2 2] w1 fun e w' => ∃ g c', e = .returned (.slice (some ⟨g, 0, none⟩) (n + 1) c') ∧ Hid (PR w1.heap.size w' (.slice (some ⟨g, 0, none⟩) (n + 1) c') (R ++ [v]) ∧ Below w1.heap.size w1 w')) := fun w1 sb rb b hr hs => by
    refine concat_any R v q n c sb rb w1 (h.out.v.below b) h.out.lr n1 hq (fun i a ha => ?_) (Lib.cell_of_heap hs 0) (Lib.cell_of_heap hs 1)
    match i, ha with
    | 0, ha =>
      cases ha
      refine ⟨rb, 0, rfl, fun j u hu => ?_⟩
      match j, hu with
      | 0, hu => cases hu; exact Lib.cell_of_heap hr 0
      | 1, hu => cases hu; exact Lib.cell_of_heap hr 1
      | 2, hu => cases hu; exact Lib.cell_of_heap hr 2
      | 3, hu => cases hu; exact Lib.cell_of_heap hr 3
  have H9 : Hid (∀ w1 g c' p c2, Below w.heap.size w w1 → VA w1 (some ⟨g, 0, none⟩) (R ++ [v]) → SlS w1 p m c2 (movR subR v.T v.N S).2 → Calls Tryz.prog 11 #[.int .i64 now, .slice qT nT cT, .slice (some ⟨g, 0, none⟩) (n + 1) c', .slice p m c2] w1 fun e w' => ∃ p k c, e = .returned (.tuple #[.int .i64 t, .slice p k c, .int .i64 (x : Nat)]) ∧ Hid (Below w1.heap.size w1 w')) := fun w1 g c' p c2 b hva hs => by
    have g0 := h.out.below b
    refine (start_any now qT (some ⟨g, 0, none⟩) p nT cT (n + 1) c' m c2 T (R ++ [v]) _ w1 ⟨g0.t, g0.lt, hs, hva, fun u hu => ?_, by rw [List.length_append, g0.lr]; rfl, g0.n1, by omega, g0.n3, g0.ct⟩).mono ?_
    · rcases List.mem_append.1 hu with q | q
      · exact g0.o u q
      · rw [List.mem_singleton.1 q]; exact hv.out.below b
    · rintro e w' ⟨p, k, c, e1, _, _, h4⟩
      rw [ht, hx] at e1
      exact ⟨p, k, c, e1, h4.out.2⟩
  have B0 : Hid (Below w.heap.size w (w.alloc (.cells #[.int .i64 v.j, .int .i64 v.p, .slice v.qT v.nT v.cT, .slice v.qN v.nN v.cN] 42))) := (Below.refl _ w).alloc (Nat.le_refl _) _
  have HN : Hid ((w.alloc (.cells #[.int .i64 v.j, .int .i64 v.p, .slice v.qT v.nT v.cT, .slice v.qN v.nN v.cN] 42)).heap[w.heap.size]? = some (.cells #[.int .i64 v.j, .int .i64 v.p, .slice v.qT v.nT v.cT, .slice v.qN v.nN v.cN] 42)) := new0
  clear h hv ht hx h0 hq
  generalize v.j = vj at *
  generalize v.p = vp at *
  generalize v.qT = uqT at *
  generalize v.nT = unT at *
  generalize v.cT = ucT at *
  generalize v.qN = uqN at *
  generalize v.nN = unN at *
  generalize v.cN = ucN at *
  go_enter Tryz.func13, Tryz.ntmps13
  go_upto_region 1 with fail
  generalize w.alloc (.cells #[.int .i64 vj, .int .i64 vp, .slice uqT unT ucT, .slice uqN unN ucN] 42) = W at *
  have c0 := Lib.cell_of_heap HN.out 0
  have c1 := Lib.cell_of_heap HN.out 1
  have c2 := Lib.cell_of_heap HN.out 2
  have c3 := Lib.cell_of_heap HN.out 3
  go_upto_region 2 with (go_at_call 28; refine (H15.out _ B0.out).mono ?_; rintro e w1 ⟨p1, c1', rfl, h1⟩)
  have B1 : Hid (Below w.heap.size w w1 ∧ w1.heap[w.heap.size]? = some (.cells #[.int .i64 vj, .int .i64 vp, .slice uqT unT ucT, .slice uqN unN ucN] 42) ∧ SlS w1 p1 m c1' (movR subR v.T v.N S).2) := ⟨below_from B0.out h1.out.2 B0.out.size, at_below h1.out.2 (Nat.le_refl _) HN.out, h1.out.1⟩
  clear c0 c1 c2 c3 h1 HN B0 H15
  have c0 := Lib.cell_of_heap B1.out.2.1 0
  have c1 := Lib.cell_of_heap B1.out.2.1 1
  have c2 := Lib.cell_of_heap B1.out.2.1 2
  have c3 := Lib.cell_of_heap B1.out.2.1 3
  have B2 : Hid (Below w1.heap.size w1 ((w1.alloc (.cells #[.int .i64 vj, .int .i64 vp, .slice uqT unT ucT, .slice uqN unN ucN] 42)).alloc (.cells #[.slice q n c, .slice (some ⟨w1.heap.size, 0, none⟩) 1 1] 25))) := ((Below.refl _ _).alloc (Nat.le_refl _) _).alloc (by simp) _
  have hlt := (Array.getElem?_eq_some_iff.1 B1.out.2.1).1
  go_upto_region 3 with (go_at_call 29; refine (H49.out _ _ _ (below_from B1.out.1 B2.out B1.out.1.size) first0 first1).mono ?_; rintro e w3 ⟨g3, c3', rfl, h3⟩)
  have B3 : Hid (Below w.heap.size w w3 ∧ SlS w3 p1 m c1' (movR subR v.T v.N S).2 ∧ VA w3 (some ⟨g3, 0, none⟩) (R ++ [v])) := by
    have b := below_from B2.out h3.out.2 B2.out.size
    exact ⟨below_from B1.out.1 b B1.out.1.size, B1.out.2.2.below b, h3.out.1.ga viC_len⟩
  clear c0 c1 c2 c3 h3 B2 B1 H49 hlt
  by_cases hx0 : x = 0
  · subst hx0
    by_cases hts : t = start
    · subst hts
      go_wp2_with (go_at_call 11; refine (H9.out _ _ _ _ _ B3.out.1 B3.out.2.2 B3.out.2.1).mono ?_; rintro e w5 ⟨p5, k5, c5, rfl, b5⟩)
      go_ret
      exact ⟨by rw [HB.out]; simp, below_from B3.out.1 b5.out B3.out.1.size⟩
    · have e1 : (t == start) = false := by simpa using hts
      go_wp2_with (go_at_call 11; refine (H9.out _ _ _ _ _ B3.out.1 B3.out.2.2 B3.out.2.1).mono ?_; rintro e w5 ⟨p5, k5, c5, rfl, b5⟩)
      go_ret
      exact ⟨by rw [HB.out]; simp [hts], below_from B3.out.1 b5.out B3.out.1.size⟩
  · have e0 : ¬ (x : Int) = 0 := by omega
    have e1 : ((x : Int) == 0) = false := by simpa using e0
    go_wp2_with (go_at_call 11; refine (H9.out _ _ _ _ _ B3.out.1 B3.out.2.2 B3.out.2.1).mono ?_; rintro e w5 ⟨p5, k5, c5, rfl, b5⟩)
    go_ret
    exact ⟨by rw [HB.out]; simp [hx0], below_from B3.out.1 b5.out B3.out.1.size⟩
end Go.Proofs.YtjgibngnjlciaaaGreat

namespace Go.Proofs.YtjgibngnjlciaaaGreat
open Go.RowKit Go.Maps

/-- what Admit answers, in memory -/
def AdP (w : World) (σ : List (List UInt8) × Bool × Nat) (e : Ending) (w' : World) : Prop := ∃ p k c, e = .returned (.tuple #[.slice p k c, .bool σ.2.1, .int .i64 (σ.2.2 : Nat)]) ∧ σ.1.length = k ∧ (p = none → c = 0) ∧ Hid (NA w' p σ.1 ∧ Below w.heap.size w w')
theorem ad_no {w w' : World} {σ : List (List UInt8) × Bool × Nat} {f : Nat} (h : σ = ([], false, f)) (b : Below w.heap.size w w') : AdP w σ (.returned (.tuple #[.slice none 0 0, .bool false, .int .i64 (f : Nat)])) w' := by
  subst h
  exact ⟨none, 0, 0, rfl, rfl, fun _ => rfl, fun i a hi => by simp at hi, b⟩
theorem fit_short {T : List V} {S : List Sl} (hs : Short S) (h : (fitR T S).1 = 0) : ∀ s ∈ (fitR T S).2, s.length ≤ 281474976710656 := fun s hsm => by
  obtain ⟨_, _, hk, _⟩ := fit_room h
  have hp : (plc s S).isSome = true := List.all_eq_true.1 hk s hsm
  obtain ⟨i, hi⟩ := Option.isSome_iff_exists.1 hp
  obtain ⟨u, hu, e⟩ := plc_some hi
  rw [← e]
  exact hs u (List.mem_of_getElem? hu)
set_option maxHeartbeats 4000000 in
set_option maxRecDepth 100000 in
theorem admit_any (now rt : Int) (qT qU q r : Option Addr) (nT cT nU cU n c m d : Nat) (T U : List V) (R : List Vi) (S : List Sl) (w : World) (h : Hid (StG w qT nT cT q n r m d T R S)) (hU : Hid (TA w qU U ∧ U.length = nU ∧ nU ≤ 1000000 ∧ (qU = none → cU = 0))) (hn : n ≤ 1000) (hq : Hid (q = none → c = 0)) (h1 : in64 now) :
    Calls Tryz.prog 6 #[.int .i64 now, .slice qT nT cT, .slice qU nU cU, .int .i64 rt, .slice q n c, .slice r m d] w (AdP w (admitR now rt T U R S)) := by
  have hn1 : -9223372036854775808 ≤ now := h1.1
  have hn2 : now < 9223372036854775808 := h1.2
  by_cases a1 : rt < 1
  · have HS : Hid (admitR now rt T U R S = ([], false, 2)) := admit_range (.inl a1)
    go_enter Tryz.func6, Tryz.ntmps6
    go_wp2_with fail
    go_ret3
    exact ad_no HS.out (Below.refl _ _)
  by_cases a2 : 1000 < rt
  · have HS : Hid (admitR now rt T U R S = ([], false, 2)) := admit_range (.inr (.inl a2))
    go_enter Tryz.func6, Tryz.ntmps6
    go_wp2_with fail
    go_ret3
    exact ad_no HS.out (Below.refl _ _)
  by_cases a3 : 1099511627776 - rt < now
  · have HS : Hid (admitR now rt T U R S = ([], false, 2)) := admit_range (.inr (.inr a3))
    go_enter Tryz.func6, Tryz.ntmps6
    go_wp2_with fail
    go_ret3
    exact ad_no HS.out (Below.refl _ _)
  have ha : ¬ (rt < 1 ∨ 1000 < rt ∨ 1099511627776 - rt < now) := by omega
  obtain ⟨t, ht⟩ : ∃ t, (startR now T R S).1 = t := ⟨_, rfl⟩
  obtain ⟨x, hx⟩ : ∃ x, (startR now T R S).2.2 = x := ⟨_, rfl⟩
  obtain ⟨f, hf⟩ : ∃ f, (fitR U S).1 = f := ⟨_, rfl⟩
  obtain ⟨M, hM⟩ : ∃ M, (fitR U S).2 = M := ⟨_, rfl⟩
  have H9 : Hid (Calls Tryz.prog 11 #[.int .i64 now, .slice qT nT cT, .slice q n c, .slice r m d] w fun e w' => ∃ p k c, e = .returned (.tuple #[.int .i64 t, .slice p k c, .int .i64 (x : Nat)]) ∧ Hid (Below w.heap.size w w')) := (start_any now qT q r nT cT n c m d T R S w h.out).mono fun e w' ⟨p, k, c, e1, _, _, e4⟩ => by
    rw [ht, hx] at e1; exact ⟨p, k, c, e1, e4.out.2⟩
  have H16 : Hid (∀ w1, Below w.heap.size w w1 → Calls Tryz.prog 12 #[.slice qU nU cU, .slice r m d] w1 fun e w' => ∃ p k c, e = .returned (.tuple #[.slice p k c, .int .i64 (f : Nat)]) ∧ M.length = k ∧ (p = none → c = 0) ∧ Hid (NA w' p M ∧ Below w1.heap.size w1 w')) := fun w1 b => by
    have g := h.out.below b
    refine (fit_any U S qU r nU cU m d w1 (hU.out.1.below b) g.s.s g.s.h g.s.d hU.out.2.1 g.s.m hU.out.2.2.1 (by have := g.n3; omega)).mono ?_
    rintro e w' ⟨p, k, c, e1, e2, e3, e4⟩
    rw [hf] at e1; rw [hM] at e2 e4
    exact ⟨p, k, c, e1, e2, e3, e4⟩
  have m1 := fun q => admit_start (now := now) (rt := rt) (T := T) (U := U) (R := R) (S := S) ha q
  have m2 := fun q => admit_full (now := now) (rt := rt) (T := T) (U := U) (R := R) (S := S) ha q
  have m3 := fun q => admit_fit (now := now) (rt := rt) (T := T) (U := U) (R := R) (S := S) ha q
  have m4 := fun q => admit_last (now := now) (rt := rt) (T := T) (U := U) (R := R) (S := S) ha q
  by_cases hx6 : x = 0 ∨ x = 6
  · have hs6 : (startR now T R S).2.2 = 0 ∨ (startR now T R S).2.2 = 6 := by rw [hx]; exact hx6
    by_cases hf6 : f = 6
    · have HS : Hid (admitR now rt T U R S = ([], false, 0)) := m2 hs6 (hf.trans hf6)
      subst hf6
      clear m1 m2 m3 m4 hs6 hf hM ht hx
      rcases hx6 with rfl | rfl
      all_goals
        go_enter Tryz.func6, Tryz.ntmps6
        go_wp2_with (first
          | (go_at_call 11; refine H9.out.mono ?_; rintro e w1 ⟨p1, k1, c1, rfl, b1⟩; clear H9)
          | (go_at_call 12; refine (H16.out _ b1.out).mono ?_; rintro e w2 ⟨p2, k2, c2, rfl, e2, e3, h2⟩; clear H16))
        go_ret3
        exact ad_no HS.out (below_from b1.out h2.out.2 b1.out.size)
    · have g6 : ¬ (f : Int) = 6 := by omega
      have g6' : ((f : Int) == 6) = false := by simpa using g6
      by_cases hf0 : f = 0
      · have hff : (fitR U S).1 = 0 := hf.trans hf0
        have HL := m4 hs6 hff
        obtain ⟨hw, -⟩ : wthn now R = true ∧ True := by
          refine ⟨?_, trivial⟩
          by_cases hw : wthn now R = true
          · exact hw
          · have := startR_range (T := T) (S := S) (Bool.eq_false_iff.2 hw)
            rw [this] at hs6
            exact absurd hs6 (by decide)
        obtain ⟨wa, wb, -, -⟩ := wthn_true hw
        have hback := fit_back hff
        have hshort := fit_short h.out.s.h hff
        have hlen : M.length = U.length := by
          rw [← hM]
          exact (fit_room hff).2.1
        rw [hM] at HL hback hshort
        have HV : Hid (∀ w1 p k c, Below w.heap.size w w1 → NA w1 p M → M.length = k → (p = none → c = 0) → (⟨0, now + rt, qU, nU, cU, p, k, c, U, M⟩ : Vi).ok w1) := fun w1 p k c b hN hk hc => by
          obtain ⟨u1, u2, u3, u4⟩ := hU.out
          refine ⟨(by show in64 0; decide), (by show in64 (now + rt); unfold in64; omega), u1.below b, u4, u2, hN, hc, hk, hshort, u3, ?_⟩
          show k ≤ 1000000
          omega
        obtain ⟨bb, hbb⟩ : ∃ bb, decide ((withR now rt T U M R S).2.2 = 0 ∧ (withR now rt T U M R S).1 = t) = bb := ⟨_, rfl⟩
        have H26 : Hid (∀ w1 p k c', Below w.heap.size w w1 → NA w1 p M → M.length = k → (p = none → c' = 0) → Calls Tryz.prog 13 #[.int .i64 t, .int .i64 now, .slice qT nT cT, .agg #[.int .i64 0, .int .i64 (now + rt), .slice qU nU cU, .slice p k c'], .slice q n c, .slice r m d] w1 fun e w' => e = .returned (.bool bb) ∧ Hid (Below w1.heap.size w1 w')) := fun w1 p k c' b hN hk hc => by
          have := startsAt_any t now qT q r nT cT n c m d T R S ⟨0, now + rt, qU, nU, cU, p, k, c', U, M⟩ w1 (h.out.below b) (HV.out w1 p k c' b hN hk hc) hn hq hback.1
          have e1 : atB t now T R ⟨0, now + rt, qU, nU, cU, p, k, c', U, M⟩ S = bb := by
            rw [← hbb]
            unfold atB withR
            rw [start_last now T R (movR subR U M S).2 (v := ⟨0, now + rt, qU, nU, cU, p, k, c', U, M⟩) (u := ahV now rt U M) rfl rfl rfl]
          rw [e1] at this
          exact this
        subst hf0
        rw [hx, ht] at HL
        have HL' : Hid (admitR now rt T U R S = if x = 0 ∧ ¬ bb = true then ([], false, 0) else (M, true, 0)) := by
          show _ = _
          rw [HL, ← hbb]
          simp only [decide_eq_true_eq]
        clear m1 m2 m3 m4 hs6 hf hM ht hx HL hback hshort hlen hff hbb HV hw
        rcases hx6 with rfl | rfl
        · cases bb with
          | true =>
            have HS : Hid (admitR now rt T U R S = (M, true, 0)) := by rw [if_neg (by simp)] at HL'; exact HL'
            clear HL'
            go_enter Tryz.func6, Tryz.ntmps6
            go_wp2_with (first
              | (go_at_call 11; refine H9.out.mono ?_; rintro e w1 ⟨p1, k1, c1, rfl, b1⟩; clear H9)
              | (go_at_call 12; refine (H16.out _ b1.out).mono ?_; rintro e w2 ⟨p2, k2, c2, rfl, e2, e3, h2⟩; clear H16; have B3 : Hid (Below w.heap.size w (w2.alloc (.cells #[.int .i64 0, .int .i64 (now + rt), .slice qU nU cU, .slice p2 k2 c2] 42)) ∧ NA (w2.alloc (.cells #[.int .i64 0, .int .i64 (now + rt), .slice qU nU cU, .slice p2 k2 c2] 42)) p2 M) := ⟨(below_from b1.out h2.out.2 b1.out.size).alloc (Nat.le_trans b1.out.size h2.out.2.size) _, h2.out.1.below ((Below.refl _ _).alloc (Nat.le_refl _) _)⟩)
              | (go_at_call 13; refine (H26.out _ _ _ _ B3.out.1 B3.out.2 e2 e3).mono ?_; rintro e w4 ⟨rfl, b4⟩; clear H26))
            go_ret3
            exact ⟨p2, k2, c2, by rw [HS.out]; rfl, by rw [HS.out]; exact e2, e3, by rw [HS.out]; exact B3.out.2.below b4.out, below_from B3.out.1 b4.out B3.out.1.size⟩
          | false =>
            have HS : Hid (admitR now rt T U R S = ([], false, 0)) := by rw [if_pos (by simp)] at HL'; exact HL'
            clear HL'
            go_enter Tryz.func6, Tryz.ntmps6
            go_wp2_with (first
              | (go_at_call 11; refine H9.out.mono ?_; rintro e w1 ⟨p1, k1, c1, rfl, b1⟩; clear H9)
              | (go_at_call 12; refine (H16.out _ b1.out).mono ?_; rintro e w2 ⟨p2, k2, c2, rfl, e2, e3, h2⟩; clear H16; have B3 : Hid (Below w.heap.size w (w2.alloc (.cells #[.int .i64 0, .int .i64 (now + rt), .slice qU nU cU, .slice p2 k2 c2] 42)) ∧ NA (w2.alloc (.cells #[.int .i64 0, .int .i64 (now + rt), .slice qU nU cU, .slice p2 k2 c2] 42)) p2 M) := ⟨(below_from b1.out h2.out.2 b1.out.size).alloc (Nat.le_trans b1.out.size h2.out.2.size) _, h2.out.1.below ((Below.refl _ _).alloc (Nat.le_refl _) _)⟩)
              | (go_at_call 13; refine (H26.out _ _ _ _ B3.out.1 B3.out.2 e2 e3).mono ?_; rintro e w4 ⟨rfl, b4⟩; clear H26))
            go_ret3
            exact ad_no HS.out (below_from B3.out.1 b4.out B3.out.1.size)
        · have HS : Hid (admitR now rt T U R S = (M, true, 0)) := by rw [if_neg (by simp)] at HL'; exact HL'
          clear HL' H26
          go_enter Tryz.func6, Tryz.ntmps6
          go_wp2_with (first
            | (go_at_call 11; refine H9.out.mono ?_; rintro e w1 ⟨p1, k1, c1, rfl, b1⟩; clear H9)
            | (go_at_call 12; refine (H16.out _ b1.out).mono ?_; rintro e w2 ⟨p2, k2, c2, rfl, e2, e3, h2⟩; clear H16; have B3 : Hid (Below w.heap.size w (w2.alloc (.cells #[.int .i64 0, .int .i64 (now + rt), .slice qU nU cU, .slice p2 k2 c2] 42)) ∧ NA (w2.alloc (.cells #[.int .i64 0, .int .i64 (now + rt), .slice qU nU cU, .slice p2 k2 c2] 42)) p2 M) := ⟨(below_from b1.out h2.out.2 b1.out.size).alloc (Nat.le_trans b1.out.size h2.out.2.size) _, h2.out.1.below ((Below.refl _ _).alloc (Nat.le_refl _) _)⟩))
          go_ret3
          exact ⟨p2, k2, c2, by rw [HS.out]; rfl, by rw [HS.out]; exact e2, e3, by rw [HS.out]; exact B3.out.2, B3.out.1⟩
      · have HS : Hid (admitR now rt T U R S = ([], false, f)) := by
          have := m3 hs6 (by rw [hf]; exact hf6) (by rw [hf]; exact hf0)
          rw [hf] at this
          exact this
        have g0 : ¬ (f : Int) = 0 := by omega
        have g0' : ((f : Int) == 0) = false := by simpa using g0
        have g0n : ((f : Int) != 0) = true := i64_ne g0
        clear m1 m2 m3 m4 hs6 hf hM ht hx
        rcases hx6 with rfl | rfl
        all_goals
          go_enter Tryz.func6, Tryz.ntmps6
          go_wp2_with (first
            | (go_at_call 11; refine H9.out.mono ?_; rintro e w1 ⟨p1, k1, c1, rfl, b1⟩; clear H9)
            | (go_at_call 12; refine (H16.out _ b1.out).mono ?_; rintro e w2 ⟨p2, k2, c2, rfl, e2, e3, h2⟩; clear H16))
          go_ret3
          exact ad_no HS.out (below_from b1.out h2.out.2 b1.out.size)
  · have HS : Hid (admitR now rt T U R S = ([], false, x)) := by
      have := m1 (by rw [hx]; exact hx6)
      rw [hx] at this
      exact this
    have f0 : ¬ (x : Int) = 0 := by omega
    have f6 : ¬ (x : Int) = 6 := by omega
    have f0' : ((x : Int) == 0) = false := by simpa using f0
    have f6' : ((x : Int) == 6) = false := by simpa using f6
    have f0n : ((x : Int) != 0) = true := i64_ne f0
    have f6n : ((x : Int) != 6) = true := i64_ne f6
    clear m1 m2 m3 m4 hf hM ht hx
    go_enter Tryz.func6, Tryz.ntmps6
    go_wp2_with (go_at_call 11; refine H9.out.mono ?_; rintro e w1 ⟨p1, k1, c1, rfl, b1⟩; clear H9)
    go_ret3
    exact ad_no HS.out b1.out
end Go.Proofs.YtjgibngnjlciaaaGreat
