/-
  The law on what was synced: its mathematics.
-/
import Derived.Test.YtnohidalomjfmaaLr
namespace Go.Proofs.Ytnohidalomjfmaa
open Go.RowKit Go.Maps Go.WideMaps Go.Sort

def s1 (l : List UInt8) (s : Nat) : DK := ⟨[⟨[102], l, s⟩], false, none⟩
theorem sy_append (l : List UInt8) (h : l.length ≤ 1048576) : appendD DK.new [102] l = (0, s1 l 0) := by
  have e1 : okN [102] = true := by decide
  have e2 : fnd Fil.nm [102] DK.new.fs = none := rfl
  unfold appendD
  rw [e1, e2]
  have e3 : ¬ 1048576 < l.length := by omega
  simp [DK.new, e3, burn, ins, s1]
theorem sy_sync (l : List UInt8) : syncD (s1 l 0) [102] = (0, s1 l l.length) := rfl
theorem sy_append2 (a b : List UInt8) (h : a.length + b.length ≤ 1048576) : appendD (s1 a a.length) [102] b = (0, s1 (a ++ b) a.length) := by
  have e1 : okN [102] = true := by decide
  have e2 : fnd Fil.nm [102] (s1 a a.length).fs = some ⟨[102], a, a.length⟩ := rfl
  unfold appendD
  rw [e1, e2]
  have e3 : ¬ 1048576 < a.length + b.length := by omega
  simp [s1, e3, burn, upd]
/-- what the crash leaves -/
def sx (a b : List UInt8) (ch : List UInt8) : List UInt8 := if a.length < (a ++ b).length then crashB (a ++ b) a.length (ch.headD 0) else a ++ b
theorem sy_restart (a b ch : List UInt8) : restartD (s1 (a ++ b) a.length) ch = s1 (sx a b ch) (sx a b ch).length := by
  unfold restartD s1 sx
  simp only
  unfold rst
  by_cases h : a.length < (a ++ b).length
  · rw [if_pos h, if_pos h]
    rfl
  · rw [if_neg h, if_neg h]
    have : (a ++ b).length = a.length := by rw [List.length_append] at *; omega
    rw [this]
    rfl
theorem sy_again (l ch : List UInt8) : restartD (s1 l l.length) ch = s1 l l.length := by
  unfold restartD s1
  simp only
  unfold rst
  rw [if_neg (Nat.lt_irrefl _)]
  rfl
theorem sy_read (l : List UInt8) (s : Nat) : readD (s1 l s) [102] = (0, l) := rfl
theorem sx_len (a b ch : List UInt8) : a.length ≤ (sx a b ch).length ∧ (sx a b ch).length ≤ a.length + b.length := by
  unfold sx
  split
  · rename_i h
    rw [crashB_length _ _ _ (by omega)]
    have := kp_le (a ++ b) a.length (ch.headD 0) (by omega)
    rw [List.length_append] at *
    omega
  · rw [List.length_append]; omega
theorem sx_get (a b ch : List UInt8) (i : Nat) (u v : UInt8) (hu : (sx a b ch)[i]? = some u) (hv : (a ++ b)[i]? = some v) : u = v ∨ (i + 1 = (sx a b ch).length ∧ a.length ≤ i ∧ u = 255 - v) := by
  unfold sx at *
  split at hu
  · rename_i h
    rw [if_pos h]
    have hlen := crashB_length (a ++ b) a.length (ch.headD 0) (by omega)
    rw [hlen]
    unfold crashB at hu
    split at hu
    · rename_i hf
      rw [List.getElem?_set] at hu
      split at hu
      · rename_i he
        split at hu
        · cases hu
          refine .inr ⟨by omega, by omega, ?_⟩
          rw [he, List.getD_eq_getElem?_getD, hv]
          rfl
        · cases hu
      · rw [List.getElem?_take] at hu
        split at hu
        · rw [hv] at hu; cases hu; exact .inl rfl
        · cases hu
    · rw [List.getElem?_take] at hu
      split at hu
      · rw [hv] at hu; cases hu; exact .inl rfl
      · cases hu
  · rw [hv] at hu; cases hu; exact .inl rfl

theorem read_law2 {pb : Nat} {w0 w : World} {D : DK} {tg : Nat → Tg} (h : At w0.heap.size pb w0 w D tg) (s : ByteArray) (hs : s.size ≤ maxLen) (nm : List UInt8) (hnm : s.data.toList = nm) (code : Int) (l : List UInt8) (n : Nat) (hn : l.length = n) (hA : readD D nm = (code, l)) :
    Calls Try.prog 19 #[.pointer (some ⟨pb, 0, none⟩), .string s] w fun e w' => ∃ a c, e = .returned (.tuple #[.slice a n c, .int .i64 code]) ∧ LiesOff w' tg a l ∧ Below w.heap.size w w' ∧ At w0.heap.size pb w0 w' D tg := by
  have := read_any h.1 s hs
  rw [hnm, hA] at this
  refine this.mono ?_
  rintro e w' ⟨v, rfl, ho, hb⟩
  obtain ⟨a, c, rfl, -⟩ := ho.shape
  exact ⟨a, c, by rw [hn], lo_own ho (fun g hg => by obtain ⟨_, _, _, hd⟩ := h.1; exact new_no hd.lt hg), hb, h.keep (Nat.le_refl _) hb⟩
theorem restart_law2 {pb : Nat} {w0 w : World} {D : DK} {tg : Nat → Tg} (h : At w0.heap.size pb w0 w D tg) (ch : List UInt8) (q : Option Addr) (m c : Nat) (hm : ch.length = m) (hc : m ≤ c) (hL : LiesOff w tg q ch) :
    Calls Try.prog 18 #[.pointer (some ⟨pb, 0, none⟩), .slice q m c] w fun e w' => e = .returned (.tuple #[]) ∧ At w0.heap.size pb w0 w' (restartD D ch) tg ∧ Step tg tg w w' := by
  refine (restart_any h.1 ch q m c hm hc hL).mono ?_
  rintro e w' ⟨rfl, d, st⟩
  exact ⟨rfl, h.step (Nat.le_refl _) d st, st⟩

set_option maxHeartbeats 4000000 in
set_option maxRecDepth 100000 in
theorem law_synced (l m ch cd : List UInt8) (q r u v : Option Addr) (n k c d x y cu cv : Nat) (w : World) (hl : Hid (l.length = n)) (hm : Hid (m.length = k)) (hx : Hid (ch.length = x)) (hy : Hid (cd.length = y)) (hL : Hid (Lies w q l)) (hM : Hid (Lies w r m)) (hU : Hid (Lies w u ch)) (hV : Hid (Lies w v cd)) (hq : Hid (q = none → c = 0)) (hr : Hid (r = none → d = 0)) (hcu : Hid (x ≤ cu)) (hcv : Hid (y ≤ cv)) :
    Calls Try.prog 4 #[.agg #[.slice q n c, .slice r k d], .agg #[.slice u x cu, .slice v y cv]] w fun e w' => e = .returned (.bool true) ∧ Below w.heap.size w w' := by
  have H9 : Hid (∀ w, Calls Try.prog 9 #[] w fun e w' => e = .returned (.bool true) ∧ Below w.heap.size w w') := fun w => awake_any w
  go_enter Try.func4, Try.ntmps4
  go_upto_region 1 with fail
  have p1 : ((w.alloc (.cells #[.slice q n c, .slice r k d] 37)).alloc (.cells #[.slice u x cu, .slice v y cv] 37)).heap[w.heap.size]? = some (.cells #[.slice q n c, .slice r k d] 37 (0, 0)) := (Below.heap_alloc _ _ _ (by simp)).trans new0
  have p2 : ((w.alloc (.cells #[.slice q n c, .slice r k d] 37)).alloc (.cells #[.slice u x cu, .slice v y cv] 37)).heap[w.heap.size + 1]? = some (.cells #[.slice u x cu, .slice v y cv] 37 (0, 0)) := by
    have := new0 (w := w.alloc (.cells #[.slice q n c, .slice r k d] 37)) (o := .cells #[.slice u x cu, .slice v y cv] 37)
    simpa using this
  have yy : Hid (Below w.heap.size w ((w.alloc (.cells #[.slice q n c, .slice r k d] 37)).alloc (.cells #[.slice u x cu, .slice v y cv] 37))) := Joins.below_alloc2 w _ _
  obtain ⟨f0, f1⟩ := c2 p1
  obtain ⟨f2, f3⟩ := c2 p2
  clear p1 p2
  generalize (w.alloc (.cells #[.slice q n c, .slice r k d] 37)).alloc (.cells #[.slice u x cu, .slice v y cv] 37) = W at *
  go_wp2_with fail
  go_quiet (fail)
  go_wp2_with (go_at_call 9; refine (H9.out _).mono ?_)
  rintro e w1 ⟨rfl, b1⟩
  have y1 : Hid (Below w.heap.size w w1) := below_from (below_drewN yy.out _) b1 yy.out.size
  clear b1 f0 f1 f2 f3 yy
  by_cases hbig : (10000 : Int) < (n : Int)
  · go_wp2_with (go_at_call 9; refine (H9.out _).mono ?_)
    rintro e w2 ⟨rfl, b2⟩
    go_wp2_with fail
    go_ret
    exact ⟨rfl, below_from y1.out b2 y1.out.size⟩
  by_cases hbig2 : (10000 : Int) < (k : Int)
  · go_wp2_with (go_at_call 9; refine (H9.out _).mono ?_)
    rintro e w2 ⟨rfl, b2⟩
    go_wp2_with fail
    go_ret
    exact ⟨rfl, below_from y1.out b2 y1.out.size⟩
  go_wp2_with (go_at_call 11; refine (new_law w w1 y1.out).mono ?_)
  rintro e w2 ⟨pb, rfl, tg2, a2⟩
  have A2 : Hid (At w.heap.size pb w w2 DK.new tg2) := a2
  clear a2 H9
  go_wp2_with (go_at_call 16; refine (append_law A2.out ⟨#[102]⟩ (by decide) q n c l (by omega) hl.out hq.out hL.out [102] rfl 0 _ (sy_append l (by have := hl.out; omega))).mono ?_)
  rintro e w3 ⟨rfl, tg3, a3⟩
  have A3 : Hid (At w.heap.size pb w w3 (s1 l 0) tg3) := a3
  clear a3
  go_wp2_with (go_at_call 17; refine (sync_law A3.out ⟨#[102]⟩ (by decide) [102] rfl _ _ (sy_sync l)).mono ?_)
  rintro e w4 ⟨rfl, tg4, a4⟩
  have A4 : Hid (At w.heap.size pb w w4 (s1 l l.length) tg4) := a4
  clear a4
  go_wp2_with (go_at_call 16; refine (append_law A4.out ⟨#[102]⟩ (by decide) r k d m (by omega) hm.out hr.out hM.out [102] rfl 0 _ (sy_append2 l m (by have := hl.out; have := hm.out; omega))).mono ?_)
  rintro e w5 ⟨rfl, tg5, a5⟩
  have A5 : Hid (At w.heap.size pb w w5 (s1 (l ++ m) l.length) tg5) := a5
  clear a5
  go_wp2_with (go_at_call 18; refine (restart_law A5.out ch u x cu hx.out hcu.out (lo_arg hU.out A5.out.2.2 A5.out.2.1)).mono ?_)
  rintro e w6 ⟨rfl, a6⟩
  rw [sy_restart] at a6
  have hsl := sx_len l m ch
  have HG : Hid (∀ i a b, (sx l m ch)[i]? = some a → (l ++ m)[i]? = some b → a = b ∨ (i + 1 = (sx l m ch).length ∧ l.length ≤ i ∧ a = 255 - b)) := fun i a b => sx_get l m ch i a b
  generalize sx l m ch = z at *
  obtain ⟨t, ht⟩ : ∃ t, z.length = t := ⟨_, rfl⟩
  rw [ht, hl.out, hm.out] at hsl
  obtain ⟨ht1, ht2⟩ := hsl
  have HT : Hid (z.length = t) := ht
  have A6 : Hid (At w.heap.size pb w w6 (s1 z z.length) tg5) := a6
  clear a6 ht A2 A3 A4 A5
  go_wp2_with (go_at_call 19; refine (read_law2 A6.out ⟨#[102]⟩ (by decide) [102] rfl _ _ t HT.out (sy_read z _)).mono ?_)
  rintro e w7 ⟨qx, cx, rfl, hLx, -, a7⟩
  have A7 : Hid (At w.heap.size pb w w7 (s1 z z.length) tg5) := a7
  have LX7 : Hid (LiesOff w7 tg5 qx z) := hLx
  clear hLx a7 A6
  go_wp2_with (go_at_call 18; refine (restart_law2 A7.out cd v y cv hy.out hcv.out (lo_arg hV.out A7.out.2.2 A7.out.2.1)).mono ?_)
  rintro e w8 ⟨rfl, a8, st8⟩
  rw [sy_again] at a8
  have A8 : Hid (At w.heap.size pb w w8 (s1 z z.length) tg5) := a8
  have LX8 : Hid (LiesOff w8 tg5 qx z) := LX7.out.step st8
  clear a8 st8 A7 LX7
  go_wp2_with (go_at_call 19; refine (read_law2 A8.out ⟨#[102]⟩ (by decide) [102] rfl _ _ t HT.out (sy_read z _)).mono ?_)
  rintro e w9 ⟨qy, cy, rfl, hLy, hb9, a9⟩
  have A9 : Hid (At w.heap.size pb w w9 (s1 z z.length) tg5) := a9
  have LX9 : Hid (Lies w9 qx z) := LX8.out.lies.keep hb9 (Nat.le_refl _)
  have H20 : Hid (Calls Try.prog 20 #[.slice qx t cx, .slice qy t cy] w9 fun e w' => e = .returned (.bool true) ∧ Below w9.heap.size w9 w') := by
    have := same_any z z qx qy cx cy w9 (by have := HT.out; omega) LX9.out hLy.lies
    rw [decide_eq_true rfl, HT.out] at this
    exact this
  clear hLy hb9 a9 A8 LX8
  go_wp2_with (go_at_call 20; refine H20.out.mono ?_)
  rintro e w10 ⟨rfl, b10⟩
  have LX10 : Hid (Lies w10 qx z) := LX9.out.keep b10 (Nat.le_refl _)
  have Y10 : Hid (Below w.heap.size w w10) := below_from A9.out.2.2 b10 A9.out.2.2.size
  clear b10 A9 LX9 H20
  go_wp2_with (at_builtin; refine append_bytes rfl _ _ rfl w10.heap.size _ _ l rfl (Own.nil _ _) q c n rfl hl.out hq.out ?_ ?_ (Nat.le_refl _) ?_)
  · exact hL.out.keep Y10.out (Nat.le_refl _)
  · have := hl.out
    simp only [List.length_nil]
    omega
  intro v1 w11 ho11 hb11
  have ho11' : Own w11 w10.heap.size v1 l := by simpa using ho11
  have OW : Hid (Own w11 w10.heap.size v1 l) := ho11'
  have B11 : Hid (Below w10.heap.size w10 w11) := hb11
  clear ho11 hb11 ho11'
  go_wp2_with (at_builtin; refine append_bytes rfl _ _ rfl w10.heap.size _ _ m rfl OW.out r d k rfl hm.out hr.out ?_ ?_ B11.out.size ?_)
  · exact hM.out.keep (below_from Y10.out B11.out Y10.out.size) (Nat.le_refl _)
  · have := hl.out; have := hm.out
    omega
  intro v2 w12 ho12 hb12
  have B12 : Hid (Below w10.heap.size w10 w12) := B11.out.trans hb12
  obtain ⟨a2, c2', hv2, hL2, -⟩ := ho12.shape
  obtain ⟨t2, ht2'⟩ : ∃ t2, (l ++ m).length = t2 := ⟨_, rfl⟩
  rw [ht2'] at hv2
  subst hv2
  have HT2 : Hid ((l ++ m).length = t2) := ht2'
  have ht3 : t ≤ t2 := by rw [← ht2', List.length_append, hl.out, hm.out]; exact ht2
  have LW : Hid (Lies w12 a2 (l ++ m)) := hL2
  have LX : Hid (Lies w12 qx z) := LX10.out.keep B12.out (Nat.le_refl _)
  have Y12 : Hid (Below w.heap.size w w12) := below_from Y10.out B12.out Y10.out.size
  clear hL2 ho12 hb12 OW B11 B12 LX10 ht2'
  have ht20 : t2 ≤ 20000 := by have := HT2.out; rw [List.length_append] at this; have := hl.out; have := hm.out; omega
  go_wp2_with fail
  go_loopw [15] (fun iv wr => ∃ i : Nat, i ≤ t ∧ iv = .int .i64 i ∧ Below w12.heap.size w12 wr) (fun iv _ => t - (intOf iv).toNat)
  case atStart => exact ⟨0, Nat.zero_le _, rfl, Below.refl _ _⟩
  case round =>
    obtain ⟨i, hi, rfl, yr⟩ := hrel
    have YR : Hid (Below w12.heap.size w12 wr) := yr
    clear yr
    by_cases hlt : i < t
    · obtain ⟨a, ha⟩ : ∃ a, z[i]? = some a := ⟨z[i]'(by have := HT.out; omega), List.getElem?_eq_getElem _⟩
      obtain ⟨b, hb⟩ : ∃ b, (l ++ m)[i]? = some b := ⟨(l ++ m)[i]'(by have := HT2.out; omega), List.getElem?_eq_getElem _⟩
      rcases LX.out with e | ⟨gx, ox, rfl, rx⟩
      · rw [e] at ha; cases ha
      rcases LW.out with e | ⟨gw, ow, rfl, rw'⟩
      · rw [e] at hb; cases hb
      have e0 := rx.keep YR.out (Nat.le_refl _) i a ha
      have e1 := rw'.keep YR.out (Nat.le_refl _) i b hb
      have hg := HG.out i a b ha hb
      have hi2 : (i : Int) < (t : Int) := by omega
      clear ha hb rx rw'
      by_cases hab : a = b
      · subst hab
        clear hg
        by_cases hlast : i + 1 = t
        · subst hlast
          by_cases hni : (n : Int) ≤ (i : Int)
          · go_wp2_with fail
            go_quiet (fail)
            go_wp2_with fail
            refine ⟨⟨i + 1, by omega, by go_num, below_drewN YR.out _⟩, ?_⟩
            simp [intOf]
          · have hni2 : (i : Int) < (n : Int) := by omega
            clear hni
            go_wp2_with fail
            go_quiet (fail)
            go_wp2_with fail
            refine ⟨⟨i + 1, by omega, by go_num, below_drewN YR.out _⟩, ?_⟩
            simp [intOf]
        · have hl1 : ((i : Int) == (t : Int) - 1) = false := by simp; omega
          clear hlast
          go_wp2_with fail
          go_quiet (fail)
          go_wp2_with fail
          refine ⟨⟨i + 1, by omega, by go_num, below_drewN YR.out _⟩, ?_⟩
          simp [intOf]; omega
      · obtain ⟨h1, h2, h3⟩ := hg.resolve_left hab
        rw [HT.out] at h1
        rw [hl.out] at h2
        have hl2 : (n : Int) ≤ (i : Int) := by omega
        have h4 : (a.toNat : Int) = 255 - (b.toNat : Int) := by rw [h3, ← inv_byte b]
        have hne : ((a.toNat : Int) != (b.toNat : Int)) = true := by
          simp only [bne_iff_ne, ne_eq, Int.natCast_inj]
          exact fun e => hab (UInt8.toNat_inj.1 e)
        have hq1 : ((a.toNat : Int) == (255 - (b.toNat : Int)) % 256) = true := by
          have := a.toNat_lt
          rw [← h4]
          simp
          omega
        subst h1
        clear h2 h3 h4 hab hg
        go_wp2_with fail
        go_quiet (fail)
        go_wp2_with fail
        refine ⟨⟨i + 1, by omega, by go_num, below_drewN YR.out _⟩, ?_⟩
        simp [intOf]
    · go_wp2_with fail
      go_ret
      exact ⟨rfl, below_from Y12.out YR.out Y12.out.size⟩
end Go.Proofs.Ytnohidalomjfmaa
