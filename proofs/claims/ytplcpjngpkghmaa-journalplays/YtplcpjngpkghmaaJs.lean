/-
  The journal's decode.
-/
import Derived.Test.YtplcpjngpkghmaaJr
namespace Go.Proofs.Ytplcpjngpkghmaa
open Go.RowKit Go.Maps

theorem encB_lo (first : Nat) (recs : List (List UInt8)) (t : List UInt8) : recs.length ≤ (encB first recs ++ t).length := by
  have : ∀ rs : List (List UInt8), rs.length ≤ (rs.flatMap Crc.frame).length := fun rs => by
    induction rs with
    | nil => exact Nat.zero_le _
    | cons p rs ih =>
      rw [List.flatMap_cons, List.length_append, Crc.frame_length, List.length_cons]
      omega
  have h := this recs
  unfold encB
  rw [List.length_append, List.length_append]
  omega
def InJ (w : World) (first : Nat) (recs : List (List UInt8)) (gh ch : Nat) (k : Nat) (v : Value) (wr : World) : Prop :=
  ∃ l : List RC, k ≤ recs.length ∧ PsOwn wr w.heap.size v l ∧ l.map RC.b = recs.take k ∧ Own wr w.heap.size (.slice (some ⟨gh, 0, none⟩) 8 ch) (num8 first) ∧ Below w.heap.size w wr
set_option maxHeartbeats 4000000 in
set_option maxRecDepth 100000 in
theorem decode_any (first : Nat) (recs : List (List UInt8)) (t : List UInt8) (hn : first < 9223372036854775808) (hp : Hid (∀ p ∈ recs, p.length ≤ 4080)) (ht : Hid (Torn t)) (g o c m : Nat) (w : World) (hm : Hid ((encB first recs ++ t).length = m)) (hr : Hid (Row w g o (encB first recs ++ t))) (hc : Hid (m ≤ c)) (hc2 : Hid (c ≤ 9223372036854775807)) (hl : m ≤ 1048576) :
    Calls Try.prog 62 #[.slice (some ⟨g, o, none⟩) m c] w fun e w' => ∃ v l, e = .returned (.tuple #[.int .i64 first, v, .int .i64 (encB first recs).length]) ∧ PsOwn w' w.heap.size v l ∧ l.map RC.b = recs ∧ Below w.heap.size w w' := by
  have N8 : (num8 first).length = 8 := rfl
  have H1 : Hid (Calls Try.prog 70 #[.slice (some ⟨g, o, none⟩) m c] w fun e w' => ∃ gh ch, e = .returned (.tuple #[.slice (some ⟨gh, 0, none⟩) 8 ch, .int .i64 16]) ∧ Own w' w.heap.size (.slice (some ⟨gh, 0, none⟩) 8 ch) (num8 first) ∧ Below w.heap.size w w') := by
    have e : encB first recs ++ t = Crc.frame (num8 first) ++ (recs.flatMap Crc.frame ++ t) := by unfold encB; rw [List.append_assoc]
    have h0 := open70_any (encB first recs ++ t) (some ⟨g, o, none⟩) c w (.inr ⟨g, o, rfl, hr.out⟩) nofun (by rw [hm.out]; exact hc.out) hc2.out (by rw [hm.out]; omega)
    rw [hm.out] at h0
    have ho : ojD (encB first recs ++ t) = (num8 first, 16) := by rw [e, oj_frame _ _ (by rw [N8]; omega), N8]
    rw [ho] at h0
    refine h0.mono ?_
    rintro e' w' ⟨q, c', rfl, o1, b1⟩
    obtain ⟨gh, cap, e2, h3, h4⟩ := o1.posn (by rw [N8]; omega)
    rw [N8] at e2
    cases e2
    exact ⟨gh, c', rfl, o1, b1⟩
  go_enter Try.func62, Try.ntmps62
  go_wp2_with (go_at_call 70; refine H1.out.mono ?_)
  rintro e w1 ⟨gh, ch, rfl, o1, b1⟩
  have O1 : Hid (Own w1 w.heap.size (.slice (some ⟨gh, 0, none⟩) 8 ch) (num8 first)) := o1
  have B1 : Hid (Below w.heap.size w w1) := b1
  clear o1 b1 H1
  have W0 : Hid ((encB first (recs.take 0)).length = 16) := by
    refine (?_ : (encB first (recs.take 0)).length = 16)
    rw [List.take_zero, enc1_len]
  go_wp2_with fail
  go_loopw [3, 4] (fun v z wr => ∃ (k : Nat) (q : Option Addr) (n' c' : Nat), v = .slice q n' c' ∧ z = .int .i64 (encB first (recs.take k)).length ∧ InJ w first recs gh ch k (.slice q n' c') wr) (fun _ z _ => m + 1 - (intOf z).toNat)
  case atStart => exact ⟨0, none, 0, 0, rfl, by rw [W0.out]; rfl, [], Nat.zero_le _, PsOwn.nil _ _, by simp, O1.out, B1.out⟩
  case round =>
    obtain ⟨k, q7, n7, c7, rfl, rfl, hi⟩ := hrel
    obtain ⟨l, hk, hP, hmap, ho, hb⟩ := hi
    obtain ⟨hlen, hcall⟩ := open_rest first recs t g o c m k w wr hm.out hr.out hc.out hc2.out (by omega) hb
    have HP : Hid (PsOwn wr w.heap.size (.slice q7 n7 c7) l) := hP
    have HM : Hid (l.map RC.b = recs.take k) := hmap
    have HO : Hid (Own wr w.heap.size (.slice (some ⟨gh, 0, none⟩) 8 ch) (num8 first)) := ho
    have HB : Hid (Below w.heap.size w wr) := hb
    have hcc := hc.out
    have s1 := slice_l (some ⟨g, o, none⟩) m c (encB first (recs.take k)).length .i64 ((encB first (recs.take k)).length : Int) rfl (by omega)
    clear hP hmap ho hb
    by_cases hlt : k < recs.length
    · have hp0 : recs[k]? = some recs[k] := List.getElem?_eq_getElem _
      have hp1 := hp.out recs[k] (List.getElem_mem _)
      have hws := wh_succ (first := first) hp0
      have hre := restJ_at (t := t) hp0
      have htk : Hid (recs.take (k + 1) = recs.take k ++ [recs[k]]) := List.take_succ_eq_append_getElem hlt
      generalize hpk : recs[k] = p at *
      rw [hre, oj_frame p _ hp1] at hcall
      have hlt2 : (encB first (recs.take k)).length + (p.length + 8) ≤ m := by
        have := congrArg List.length hre
        rw [List.length_append, Crc.frame_length] at this
        omega
      generalize hwh : (encB first (recs.take k)).length = wh at *
      have HC : Hid (Calls Try.prog 70 #[.slice (cutA (some ⟨g, o, none⟩) c wh) (m - wh) (c - wh)] wr fun e w' => ∃ q c', e = .returned (.tuple #[.slice q p.length c', .int .i64 (p.length + 8 : Nat)]) ∧ Own w' wr.heap.size (.slice q p.length c') p ∧ Below wr.heap.size wr w') := hcall
      have HWS : Hid ((encB first (recs.take (k + 1))).length = wh + (p.length + 8)) := hws
      clear hcall hws hre hp0 hpk hwh
      have hz : (((p.length + 8 : Nat) : Int) == 0) = false := by simp; omega
      go_wp2_with (go_at_call 70; refine HC.out.mono ?_)
      first | rintro e w3 q3 c3 rfl o3 b3 | rintro e w3 ⟨q3, c3, rfl, o3, b3⟩
      have O3 : Hid (Own w3 w.heap.size (.slice q3 p.length c3) p) := o3.low HB.out.size
      have P3 : Hid (PsOwn w3 w.heap.size (.slice q7 n7 c7) l) := HP.out.keep b3
      have B3 : Hid (Below w.heap.size w w3) := below_from HB.out b3 HB.out.size
      have W3 : Hid (Own w3 w.heap.size (.slice (some ⟨gh, 0, none⟩) 8 ch) (num8 first)) := HO.out.keep b3
      have A3 : Hid ((w3.alloc (.cells #[.slice q3 p.length c3] 31)).ownsRow w.heap.size 31 1 (.slice q7 n7 c7) l.length (l.map RC.v)) := ownsKeep P3.out.row fun g hg => ((Below.refl _ w3).alloc (Nat.le_refl _) _).block g (World.ownsRow.lt P3.out.row g hg).2
      have hll : l.length ≤ 1048576 := by
        have h1 := congrArg List.length HM.out
        rw [List.length_map, List.length_take] at h1
        have h2 := encB_lo first recs t
        rw [hm.out] at h2
        omega
      clear o3 b3 HC HB HP HO
      go_wp2_with (at_builtin; refine append_vals (w := w3.alloc (.cells #[.slice q3 p.length c3] 31)) Try.underlying38 info31 rfl (by decide) rfl _ _ rfl w.heap.size (.slice q7 n7 c7) l.length (l.map RC.v) rfl A3.out w3.heap.size 0 1 1 [.slice q3 p.length c3] rfl rfl row_one (fun u hu => by simp at hu; subst hu; rfl) (by unfold maxLen; omega) (by omega) (by have := B3.out.size; simp; omega) ?_; intro v' w4 h1 h2)
      obtain ⟨q5, c5, rfl⟩ := sl_own h1
      have hb4 : Below w.heap.size w w4 := (B3.out.alloc B3.out.size _).grown h2 (by have := B3.out.size; simp; omega) fun k hk => (World.ownsRow.lt A3.out k hk).1
      have hb5 : Own w4 w.heap.size (.slice (some ⟨gh, 0, none⟩) 8 ch) (num8 first) := W3.out.keepAt fun g hg => by
        have hlt := (World.ownsRow.lt W3.out g hg).2
        rw [h2.block g (by simp; omega) (fun e => owns_ne (w := w3) W3.out P3.out.row (by decide) hg e.symm)]
        exact ((Below.refl _ w3).alloc (Nat.le_refl _) _).block g hlt
      have hP4 := PsOwn.snoc (r := ⟨p, q3, c3⟩) P3.out O3.out ((Below.refl _ w3).alloc (Nat.le_refl _) _) h1 h2
      go_wp2_with fail
      refine ⟨⟨k + 1, q5, _, c5, rfl, by rw [HWS.out]; go_num, _, by omega, hP4, by rw [List.map_append, HM.out, htk.out]; rfl, hb5, hb4⟩, ?_⟩
      simp [intOf]; omega
    · have hkr : k = recs.length := by omega
      have hre := restJ_end recs t k (by omega)
      rw [hre, oj_torn ht.out] at hcall
      have hmp : Hid (l.map RC.b = recs) := by
        refine (?_ : l.map RC.b = recs)
        rw [HM.out, hkr, List.take_length]
      have hwh : (encB first (recs.take k)).length = (encB first recs).length := by rw [hkr, List.take_length]
      rw [hwh] at hcall s1 ⊢
      generalize hwq : (encB first recs).length = wh at *
      have HC : Hid (Calls Try.prog 70 #[.slice (cutA (some ⟨g, o, none⟩) c wh) (m - wh) (c - wh)] wr fun e w' => ∃ q c', e = .returned (.tuple #[.slice q 0 c', .int .i64 0]) ∧ Own w' wr.heap.size (.slice q 0 c') [] ∧ Below wr.heap.size wr w') := hcall
      have HWQ : Hid ((encB first recs).length = wh) := hwq
      clear hcall hwh hre hwq
      go_wp2_with (go_at_call 70; refine HC.out.mono ?_)
      first | rintro e w3 q3 c3 rfl o3 b3 | rintro e w3 ⟨q3, c3, rfl, o3, b3⟩
      have B3 : Hid (Below w.heap.size w w3) := below_from HB.out b3 HB.out.size
      have P3 : Hid (PsOwn w3 w.heap.size (.slice q7 n7 c7) l) := HP.out.keep b3
      have N3 : Hid (Calls Try.prog 71 #[.slice (some ⟨gh, 0, none⟩) 8 ch] w3 fun e w' => e = .returned (.int .i64 (first : Int)) ∧ w' = w3) := by
        refine num8_back hn gh 0 ch w3 ?_
        obtain ⟨hL, -, -⟩ := own_parts (HO.out.keep b3)
        rcases hL with h0 | ⟨g', o', e3, hr'⟩
        · cases h0
        · cases e3; exact hr'
      clear o3 b3 HC
      go_wp2_with (go_at_call 71; refine N3.out.mono ?_)
      first | rintro e w4 rfl rfl | rintro e w4 ⟨rfl, rfl⟩
      go_wp2_with fail
      go_ret3
      exact ⟨_, l, by rw [HWQ.out]; rfl, P3.out, hmp.out, B3.out⟩
end Go.Proofs.Ytplcpjngpkghmaa
