/-
  The law on renames.
-/
import Derived.Test.YtnohidalomjfmaaRn
import Derived.Test.YtnohidalomjfmaaFz
namespace Go.Proofs.Ytnohidalomjfmaa
open Go.RowKit Go.Maps Go.WideMaps Go.Sort

theorem lo_arg {w w' : World} {tg : Nat → Tg} {q : Option Addr} {l : List UInt8} (h : Lies w q l) (b : Below w.heap.size w w') (T : ∀ kk, tg kk ≠ .no → w.heap.size ≤ kk) : LiesOff w' tg q l := by
  rcases h with h | ⟨g, o, e, h⟩
  · exact .inl h
  · by_cases h0 : l = []
    · exact .inl h0
    · obtain ⟨x, t, rfl⟩ := List.exists_cons_of_ne_nil h0
      have hlt : g < w.heap.size := block_lt_of_cell (h 0 x rfl)
      refine .inr ⟨g, o, e, h.keepAt (b.block g hlt), Nat.lt_of_lt_of_le hlt b.size, ?_⟩
      by_cases h1 : tg g = .no
      · exact h1
      · have := T g h1; omega

def r2 (a b : List UInt8) (s : Nat) : DK := ⟨[⟨[97], a, 0⟩, ⟨[98], b, s⟩], false, none⟩
def r1 (a : List UInt8) : DK := ⟨[⟨[98], a, 0⟩], false, none⟩
theorem rn_append (a b : List UInt8) (h : b.length ≤ 1048576) : (appendD (DK.one a) [98] b).2 = r2 a b 0 := by
  have e1 : okN [98] = true := by decide
  have e2 : fnd Fil.nm [98] (DK.one a).fs = none := rfl
  unfold appendD
  rw [e1, e2]
  have e3 : ¬ 1048576 < b.length := by omega
  simp [DK.one, e3, burn, r2, ins, bytesBefore]
theorem rn_sync (a b : List UInt8) : (syncD (r2 a b 0) [98]).2 = r2 a b b.length := rfl
theorem rn_ren (a b : List UInt8) (s : Nat) : renameD (r2 a b s) [97] [98] = (0, r1 a) := by rfl
theorem rn_ren2 (a : List UInt8) : renameD (r1 a) [97] [98] = (3, r1 a) := by rfl
theorem rn_ren3 (a : List UInt8) : renameD (r1 a) [98] [98] = (0, r1 a) := by rfl
theorem rn_ren4 (a : List UInt8) : renameD (r1 a) [98] [66] = (4, r1 a) := by rfl
theorem rn_read (a : List UInt8) : readD (r1 a) [98] = (0, a) := rfl
theorem rn_list (a : List UInt8) : listD (r1 a) = [[98]] := rfl
theorem rn_back (a : List UInt8) (c : UInt8) (hc : c.toNat < 128) : readD (restartD (r1 a) [c]) [98] = (0, a.take (c.toNat % (a.length + 1))) := by
  unfold restartD r1
  simp only
  unfold rst
  by_cases h : 0 < a.length
  · rw [if_pos h]
    have e : crashB a 0 c = a.take (c.toNat % (a.length + 1)) := by
      unfold crashB
      rw [if_neg (by omega), Nat.zero_add, Nat.sub_zero]
    show (0, crashB a 0 c) = _
    rw [e]
  · rw [if_neg h]
    have : a = [] := List.eq_nil_of_length_eq_zero (by omega)
    subst this
    simp [rst, readD, fnd]

theorem lies_take {w : World} {q : Option Addr} {l : List UInt8} (h : Lies w q l) (t : Nat) : Lies w q (l.take t) := by
  rcases h with rfl | ⟨g, o, e, h⟩
  · exact .inl (by simp)
  · refine .inr ⟨g, o, e, fun k x hx => h k x ?_⟩
    rw [List.getElem?_take] at hx
    split at hx
    · exact hx
    · cases hx
/-- a disk in a law: its tags lie from B on -/
def At (B pb : Nat) (w0 w : World) (D : DK) (tg : Nat → Tg) : Prop := Dsk w tg pb D ∧ (∀ kk, tg kk ≠ .no → B ≤ kk) ∧ Below B w0 w
theorem At.step {B pb : Nat} {w0 w w' : World} {D D' : DK} {tg tg' : Nat → Tg} (h : At B pb w0 w D tg) (hB : B ≤ w0.heap.size) (d : Dsk w' tg' pb D') (st : Step tg tg' w w') : At B pb w0 w' D' tg' := by
  have bt := st.below (Nat.le_trans hB h.2.2.size) h.2.1
  exact ⟨d, bt.2, h.2.2.trans bt.1⟩
theorem At.keep {B pb : Nat} {w0 w w' : World} {D : DK} {tg : Nat → Tg} (h : At B pb w0 w D tg) (hB : B ≤ w0.heap.size) (b : Below w.heap.size w w') : At B pb w0 w' D tg :=
  ⟨h.1.keepB b, h.2.1, below_from h.2.2 b (Nat.le_trans hB h.2.2.size)⟩
theorem append_law {pb : Nat} {w0 w : World} {D : DK} {tg : Nat → Tg} (h : At w0.heap.size pb w0 w D tg) (s : ByteArray) (hs : s.size ≤ 281474976710656) (q : Option Addr) (n c : Nat) (m : List UInt8) (hn : n < 1152921504606846976) (hm : m.length = n) (hq : q = none → c = 0) (hL : Lies w0 q m) (nm : List UInt8) (hnm : s.data.toList = nm) (code : Int) (D' : DK) (hA : appendD D nm m = (code, D')) :
    Calls Try.prog 16 #[.pointer (some ⟨pb, 0, none⟩), .string s, .slice q n c] w fun e w' => e = .returned (.int .i64 code) ∧ ∃ tg', At w0.heap.size pb w0 w' D' tg' := by
  have := append_any h.1 s hs q n c m hn hm hq (lo_arg hL h.2.2 h.2.1)
  rw [hnm, hA] at this
  refine this.mono ?_
  rintro e w' ⟨rfl, tg', d, st⟩
  exact ⟨rfl, tg', h.step (Nat.le_refl _) d st⟩
theorem sync_law {pb : Nat} {w0 w : World} {D : DK} {tg : Nat → Tg} (h : At w0.heap.size pb w0 w D tg) (s : ByteArray) (hs : s.size ≤ maxLen) (nm : List UInt8) (hnm : s.data.toList = nm) (code : Int) (D' : DK) (hA : syncD D nm = (code, D')) :
    Calls Try.prog 17 #[.pointer (some ⟨pb, 0, none⟩), .string s] w fun e w' => e = .returned (.int .i64 code) ∧ ∃ tg', At w0.heap.size pb w0 w' D' tg' := by
  have := sync_any h.1 s hs
  rw [hnm, hA] at this
  refine this.mono ?_
  rintro e w' ⟨rfl, d, st⟩
  exact ⟨rfl, tg, h.step (Nat.le_refl _) d st⟩
theorem rename_law {pb : Nat} {w0 w : World} {D : DK} {tg : Nat → Tg} (h : At w0.heap.size pb w0 w D tg) (s t : ByteArray) (hs : s.size ≤ maxLen) (ht : t.size ≤ 281474976710656) (nm tm : List UInt8) (hnm : s.data.toList = nm) (htm : t.data.toList = tm) (code : Int) (D' : DK) (hA : renameD D nm tm = (code, D')) :
    Calls Try.prog 23 #[.pointer (some ⟨pb, 0, none⟩), .string s, .string t] w fun e w' => e = .returned (.int .i64 code) ∧ ∃ tg', At w0.heap.size pb w0 w' D' tg' := by
  have := rename_any h.1 s t hs ht
  rw [hnm, htm, hA] at this
  refine this.mono ?_
  rintro e w' ⟨rfl, tg', d, st⟩
  exact ⟨rfl, tg', h.step (Nat.le_refl _) d st⟩
theorem read_law {pb : Nat} {w0 w : World} {D : DK} {tg : Nat → Tg} (h : At w0.heap.size pb w0 w D tg) (s : ByteArray) (hs : s.size ≤ maxLen) (nm : List UInt8) (hnm : s.data.toList = nm) (code : Int) (l : List UInt8) (n : Nat) (hn : l.length = n) (hA : readD D nm = (code, l)) :
    Calls Try.prog 19 #[.pointer (some ⟨pb, 0, none⟩), .string s] w fun e w' => ∃ a c, e = .returned (.tuple #[.slice a n c, .int .i64 code]) ∧ Lies w' a l ∧ (a = none → c = 0) ∧ At w0.heap.size pb w0 w' D tg ∧ w.heap.size ≤ w'.heap.size := by
  have := read_any h.1 s hs
  rw [hnm, hA] at this
  refine this.mono ?_
  rintro e w' ⟨v, rfl, ho, hb⟩
  obtain ⟨a, c, rfl, hL, hz, -⟩ := ho.shape
  exact ⟨a, c, by rw [hn], hL, hz, h.keep (Nat.le_refl _) hb, hb.size⟩
theorem list_law {pb : Nat} {w0 w : World} {D : DK} {tg : Nat → Tg} (h : At w0.heap.size pb w0 w D tg) (n : Nat) (hn : (listD D).length = n) :
    Calls Try.prog 22 #[.pointer (some ⟨pb, 0, none⟩)] w fun e w' => ∃ a c, e = .returned (.slice a n c) ∧ At w0.heap.size pb w0 w' D tg := by
  refine (list_any h.1).mono ?_
  rintro e w' ⟨v, rfl, ho, hb⟩
  obtain ⟨a, c, rfl⟩ := ho.shape
  exact ⟨a, c, by rw [hn], h.keep (Nat.le_refl _) hb⟩
theorem new_law (w0 w : World) (y : Below w0.heap.size w0 w) : Calls Try.prog 11 #[] w fun e w' => ∃ pb, e = .returned (.pointer (some ⟨pb, 0, none⟩)) ∧ ∃ tg, At w0.heap.size pb w0 w' DK.new tg := by
  refine (new_at w).mono ?_
  rintro e w' ⟨rfl, e2⟩
  exact ⟨_, rfl, _, dsk_new w w' e2, fun kk h => by rw [tgN_new h]; exact y.size, by rw [e2]; exact below_from y ((Below.refl _ w).alloc (Nat.le_refl _) _) y.size⟩
theorem restart_law {pb : Nat} {w0 w : World} {D : DK} {tg : Nat → Tg} (h : At w0.heap.size pb w0 w D tg) (ch : List UInt8) (q : Option Addr) (m c : Nat) (hm : ch.length = m) (hc : m ≤ c) (hL : LiesOff w tg q ch) :
    Calls Try.prog 18 #[.pointer (some ⟨pb, 0, none⟩), .slice q m c] w fun e w' => e = .returned (.tuple #[]) ∧ At w0.heap.size pb w0 w' (restartD D ch) tg := by
  refine (restart_any h.1 ch q m c hm hc hL).mono ?_
  rintro e w' ⟨rfl, d, st⟩
  exact ⟨rfl, h.step (Nat.le_refl _) d st⟩

set_option maxHeartbeats 2000000 in
set_option maxRecDepth 100000 in
theorem law_renames (l m : List UInt8) (q r : Option Addr) (n k c d x : Nat) (w : World) (hx : x ≤ 255) (hl : Hid (l.length = n)) (hm : Hid (m.length = k)) (hL : Hid (Lies w q l)) (hM : Hid (Lies w r m)) (hq : Hid (q = none → c = 0)) (hr : Hid (r = none → d = 0)) (hn : n < 1152921504606846976) (hk : k < 1152921504606846976) (hc : n ≤ c) (hc2 : c ≤ 9223372036854775807) :
    Calls Try.prog 6 #[.slice q n c, .slice r k d, .int .u8 x] w fun e w' => e = .returned (.bool true) ∧ Below w.heap.size w w' := by
  have H9 : Hid (∀ w, Calls Try.prog 9 #[] w fun e w' => e = .returned (.bool true) ∧ Below w.heap.size w w') := fun w => awake_any w
  go_enter Try.func6, Try.ntmps6
  go_wp2_with (go_at_call 9; refine (H9.out _).mono ?_)
  rintro e w1 ⟨rfl, b1⟩
  have y1 : Hid (Below w.heap.size w w1) := b1
  clear b1
  by_cases hbig : (10000 : Int) < (n : Int)
  · go_wp2_with (go_at_call 9; refine (H9.out _).mono ?_)
    rintro e w2 ⟨rfl, b2⟩
    go_wp2_with fail
    go_ret
    exact ⟨rfl, below_from y1.out b2 y1.out.size⟩
  by_cases hbig2 : (10000 : Int) < (k : Int)
  · go_wp2_with (go_at_call 9; refine (H9.out _).mono ?_)
    rintro e w2 ⟨rfl, b2⟩
    go_wp2_with fail
    go_ret
    exact ⟨rfl, below_from y1.out b2 y1.out.size⟩
  go_wp2_with (go_at_call 11; refine (new_law w w1 y1.out).mono ?_)
  rintro e w2 ⟨pb, rfl, tg2, a2⟩
  have A2 : Hid (At w.heap.size pb w w2 DK.new tg2) := a2
  clear a2 H9
  go_wp2_with (go_at_call 16; refine (append_law A2.out ⟨#[97]⟩ (by decide) q n c l hn hl.out hq.out hL.out [97] rfl 0 (DK.one l) (one_append l (by have := hl.out; omega))).mono ?_)
  rintro e w3 ⟨rfl, tg3, a3⟩
  have A3 : Hid (At w.heap.size pb w w3 (DK.one l) tg3) := a3
  clear a3
  go_wp2_with (go_at_call 16; refine (append_law A3.out ⟨#[98]⟩ (by decide) r k d m hk hm.out hr.out hM.out [98] rfl _ (r2 l m 0) (Prod.ext rfl (rn_append l m (by have := hm.out; omega)))).mono ?_)
  rintro e w4 ⟨rfl, tg4, a4⟩
  have A4 : Hid (At w.heap.size pb w w4 (r2 l m 0) tg4) := a4
  clear a4
  go_wp2_with (go_at_call 17; refine (sync_law A4.out ⟨#[98]⟩ (by decide) [98] rfl _ (r2 l m m.length) (Prod.ext rfl (rn_sync l m))).mono ?_)
  rintro e w5 ⟨rfl, tg5, a5⟩
  have A5 : Hid (At w.heap.size pb w w5 (r2 l m m.length) tg5) := a5
  clear a5
  go_wp2_with (go_at_call 23; refine (rename_law A5.out ⟨#[97]⟩ ⟨#[98]⟩ (by decide) (by decide) [97] [98] rfl rfl _ _ (rn_ren l m _)).mono ?_)
  rintro e w6 ⟨rfl, tg6, a6⟩
  have A6 : Hid (At w.heap.size pb w w6 (r1 l) tg6) := a6
  clear a6
  go_wp2_with (go_at_call 23; refine (rename_law A6.out ⟨#[97]⟩ ⟨#[98]⟩ (by decide) (by decide) [97] [98] rfl rfl _ _ (rn_ren2 l)).mono ?_)
  rintro e w7 ⟨rfl, tg7, a7⟩
  have A7 : Hid (At w.heap.size pb w w7 (r1 l) tg7) := a7
  clear a7
  go_wp2_with (go_at_call 23; refine (rename_law A7.out ⟨#[98]⟩ ⟨#[98]⟩ (by decide) (by decide) [98] [98] rfl rfl _ _ (rn_ren3 l)).mono ?_)
  rintro e w8 ⟨rfl, tg8, a8⟩
  have A8 : Hid (At w.heap.size pb w w8 (r1 l) tg8) := a8
  clear a8
  go_wp2_with (go_at_call 23; refine (rename_law A8.out ⟨#[98]⟩ ⟨#[66]⟩ (by decide) (by decide) [98] [66] rfl rfl _ _ (rn_ren4 l)).mono ?_)
  rintro e w9 ⟨rfl, tg9, a9⟩
  have A9 : Hid (At w.heap.size pb w w9 (r1 l) tg9) := a9
  clear a9 A2 A3 A4 A5 A6 A7 A8
  go_wp2_with (go_at_call 19; refine (read_law A9.out ⟨#[98]⟩ (by decide) [98] rfl _ _ n hl.out (rn_read l)).mono ?_)
  rintro e w10 ⟨qx, cx, rfl, hLx, hzx, a10, hs10⟩
  have A10 : Hid (At w.heap.size pb w w10 (r1 l) tg9) := a10
  have H20 : Hid (Calls Try.prog 20 #[.slice qx n cx, .slice q n c] w10 fun e w' => e = .returned (.bool true) ∧ Below w10.heap.size w10 w') := by
    have := same_any l l qx q cx c w10 (by have := hl.out; omega) hLx (hL.out.keep a10.2.2 (Nat.le_refl _))
    rw [decide_eq_true rfl, hl.out] at this
    exact this
  clear hLx hzx a10 hs10
  go_wp2_with (go_at_call 20; refine H20.out.mono ?_)
  rintro e w11 ⟨rfl, b11⟩
  have A11 : Hid (At w.heap.size pb w w11 (r1 l) tg9) := A10.out.keep (Nat.le_refl _) b11
  clear b11 H20 A10
  go_wp2_with (go_at_call 22; refine (list_law A11.out 1 (by rw [rn_list]; rfl)).mono ?_)
  rintro e w12 ⟨qz, cz, rfl, a12⟩
  have A12 : Hid (At w.heap.size pb w w12 (r1 l) tg9) := a12
  clear a12 A11
  obtain ⟨ch, hch⟩ : ∃ ch : UInt8, (x : Int) % 128 = (ch.toNat : Int) := ⟨UInt8.ofNat (x % 128), by rw [UInt8.toNat_ofNat']; omega⟩
  have hch2 : ch.toNat < 128 := by omega
  have bb : Below w12.heap.size w12 (w12.alloc (.cells #[.int .u8 ch.toNat] 5)) := (Below.refl _ w12).alloc (Nat.le_refl _) _
  have tn : tg9 w12.heap.size = .no := by obtain ⟨_, _, _, h⟩ := A12.out.1; exact new_no h.lt (Nat.le_refl _)
  have H18 : Hid (Calls Try.prog 18 #[.pointer (some ⟨pb, 0, none⟩), .slice (some ⟨w12.heap.size, 0, none⟩) 1 1] (w12.alloc (.cells #[.int .u8 ch.toNat] 5)) fun e w' => e = .returned (.tuple #[]) ∧ At w.heap.size pb w w' (restartD (r1 l) [ch]) tg9) :=
    restart_law (A12.out.keep (Nat.le_refl _) bb) [ch] (some ⟨w12.heap.size, 0, none⟩) 1 1 rfl (Nat.le_refl _) (.inr ⟨_, 0, rfl, row_new (l := [ch]), by simp, tn⟩)
  clear bb tn
  go_wp2_with (go_at_call 18; refine H18.out.mono ?_)
  rintro e w13 ⟨rfl, a13⟩
  have A13 : Hid (At w.heap.size pb w w13 (restartD (r1 l) [ch]) tg9) := a13
  obtain ⟨t, ht⟩ : ∃ t, ch.toNat % (n + 1) = t := ⟨_, rfl⟩
  have htn : t ≤ n := by have := Nat.mod_lt ch.toNat (show 0 < n + 1 by omega); omega
  have hmod : (ch.toNat : Int).tmod ((n : Int) + 1) = (t : Int) := by
    rw [← ht, Int.tmod_eq_emod_of_nonneg (by omega), Int.natCast_emod]
    rfl
  have hlt : (l.take t).length = t := by rw [List.length_take, hl.out]; omega
  have H19 : Hid (Calls Try.prog 19 #[.pointer (some ⟨pb, 0, none⟩), .string ⟨#[98]⟩] w13 fun e w' => ∃ a c, e = .returned (.tuple #[.slice a t c, .int .i64 0]) ∧ Lies w' a (l.take t) ∧ (a = none → c = 0) ∧ At w.heap.size pb w w' (restartD (r1 l) [ch]) tg9 ∧ w13.heap.size ≤ w'.heap.size) :=
    read_law a13 ⟨#[98]⟩ (by decide) [98] rfl _ _ t hlt (by rw [rn_back l ch hch2, hl.out, ht])
  have HLT : Hid ((l.take t).length = t) := hlt
  clear a13 ht hlt H18 A12
  go_wp2_with (go_at_call 19; refine H19.out.mono ?_)
  rintro e w14 ⟨qy, cy, rfl, hLy, hzy, a14, hs14⟩
  have A14 : Hid (At w.heap.size pb w w14 (restartD (r1 l) [ch]) tg9) := a14
  have HQ : Hid (∀ c', Calls Try.prog 20 #[.slice qy t cy, .slice q t c'] w14 fun e w' => e = .returned (.bool true) ∧ Below w14.heap.size w14 w') := fun c' => by
    have := same_any (l.take t) (l.take t) qy q cy c' w14 (by have := HLT.out; omega) hLy (lies_take (hL.out.keep a14.2.2 (Nat.le_refl _)) t)
    rw [decide_eq_true rfl, HLT.out] at this
    exact this
  clear hLy hzy a14 hs14 H19 A13
  cases q with
  | none =>
    have hc0 := hq.out rfl
    have hn0 : n = 0 := by omega
    have ht0 : t = 0 := by omega
    subst hc0 hn0 ht0
    go_wp2_with (go_at_call 20; refine (HQ.out _).mono ?_)
    rintro e w15 ⟨rfl, b15⟩
    go_wp2_with fail
    go_ret
    exact ⟨rfl, below_from A14.out.2.2 b15 A14.out.2.2.size⟩
  | some ad =>
    go_wp2_with (go_at_call 20; refine (HQ.out _).mono ?_)
    rintro e w15 ⟨rfl, b15⟩
    go_wp2_with fail
    go_ret
    exact ⟨rfl, below_from A14.out.2.2 b15 A14.out.2.2.size⟩
end Go.Proofs.Ytnohidalomjfmaa
