/-
  The law on no disk and the zero disk.
-/
import Derived.Test.YtnohidalomjfmaaWh
namespace Go.Proofs.Ytnohidalomjfmaa
open Go.RowKit Go.Maps Go.WideMaps

theorem Own.posn {w : World} {B : Nat} {v : Value} {l : List UInt8} (h : Own w B v l) (hl : 0 < l.length) : ∃ g c, v = .slice (some ⟨g, 0, none⟩) l.length c ∧ B ≤ g ∧ g < w.heap.size := by
  rcases h.2 with ⟨_, h0⟩ | ⟨g, cap, cur, rfl, hb, hgg, _⟩
  · omega
  · exact ⟨g, cap, rfl, hb, (Array.getElem?_eq_some_iff.1 hgg).1⟩
theorem Own.cell {w : World} {B g n c : Nat} {l : List UInt8} (h : Own w B (.slice (some ⟨g, 0, none⟩) n c) l) {k : Nat} {x : UInt8} (hx : l[k]? = some x) : w.cell? ⟨g, k, none⟩ = some (.int .u8 x.toNat) := by
  have hc := World.ownsRow.cells h (g := g) rfl k _ (bv_get hx)
  rwa [Addr.add_lit, Nat.zero_add] at hc
theorem Own.free {w : World} {B g n c : Nat} {l : List UInt8} (h : Own w B (.slice (some ⟨g, 0, none⟩) n c) l) (k : Nat) : w.frozen? ⟨g, k, none⟩ = false := by
  rcases h.2 with ⟨e, _⟩ | ⟨g', cap, cur, e, hb, hgg, _⟩
  · cases e
  · cases e; exact fz hgg k
theorem Own.set {w : World} {B g n c : Nat} {l : List UInt8} (h : Own w B (.slice (some ⟨g, 0, none⟩) n c) l) {k : Nat} (y : UInt8) : Own (w.setCell ⟨g, k, none⟩ (.int .u8 y.toNat)) B (.slice (some ⟨g, 0, none⟩) n c) (l.set k y) := by
  refine ⟨by rw [bv_length, Nat.mul_one], ?_⟩
  rcases h.2 with ⟨e, _⟩ | ⟨g', cap, cur, e, hb, hgg, h1, h2, h3, h4⟩
  · cases e
  · cases e
    refine .inr ⟨g, c, cur.setIfInBounds k (.int .u8 y.toNat), by rw [List.length_set], hb, setB hgg _, by rw [List.length_set]; exact h1, h2, by rw [Array.size_setIfInBounds]; exact h3, ?_⟩
    rw [List.length_set, Array.toList_setIfInBounds, List.take_set, h4]
    unfold bv
    rw [List.map_set]
theorem inv_byte (x : UInt8) : ((255 : Int) - (x.toNat : Int)) = ((255 - x : UInt8).toNat : Int) := by
  have h : x ≤ 255 := by
    rw [UInt8.le_iff_toNat_le]; have := x.toNat_lt; show x.toNat ≤ 255; omega
  have := x.toNat_lt
  rw [UInt8.toNat_sub_of_le _ _ h]
  show (255 : Int) - (x.toNat : Int) = ((255 - x.toNat : Nat) : Int)
  omega

def DK.one (l : List UInt8) : DK := ⟨[⟨[97], l, 0⟩], false, none⟩
theorem one_append (l : List UInt8) (h : l.length ≤ 1048576) : appendD DK.new [97] l = (0, DK.one l) := by
  have e1 : okN [97] = true := by decide
  have e2 : fnd Fil.nm [97] DK.new.fs = none := rfl
  unfold appendD
  rw [e1, e2]
  have e3 : ¬ 1048576 < l.length := by omega
  simp [DK.new, e3, burn, ins, DK.one]
theorem one_read (l : List UInt8) : readD (DK.one l) [97] = (0, l) := by rfl
theorem lo_own {w : World} {tg : Nat → Tg} {B : Nat} {q : Option Addr} {k c : Nat} {l : List UInt8} (h : Own w B (.slice q k c) l) (ht : ∀ g, B ≤ g → tg g = .no) : LiesOff w tg q l := by
  by_cases h0 : l.length = 0
  · exact .inl (List.eq_nil_of_length_eq_zero h0)
  · obtain ⟨g, c', e, h1, h2⟩ := h.posn (by omega)
    cases e
    exact .inr ⟨g, 0, rfl, fun i x hx => by rw [Nat.zero_add]; exact h.cell hx, h2, ht g h1⟩

set_option maxHeartbeats 400000 in
set_option maxRecDepth 100000 in
theorem law_nil (l : List UInt8) (a : Option Addr) (c n : Nat) (w : World) (hl : Hid (l.length = n)) (hlies : Hid (Lies w a l)) (hnone : Hid (a = none → c = 0)) (hlen : n < 1152921504606846976) :
    Calls Try.prog 8 #[.slice a n c] w fun e w' => e = .returned (.bool true) ∧ Below w.heap.size w w' := by
  have H9 : Hid (∀ w, Calls Try.prog 9 #[] w fun e w' => e = .returned (.bool true) ∧ Below w.heap.size w w') := fun w => awake_any w
  have H21 : Hid (∀ w n, Calls Try.prog 21 #[.pointer none, .int .i64 n] w fun e w' => e = .returned (.tuple #[]) ∧ w = w') := fun w n => (setfuse_nil w n).mono fun _ _ h => ⟨h.1, h.2.symm⟩
  have H18 : Hid (∀ w v, Calls Try.prog 18 #[.pointer none, v] w fun e w' => e = .returned (.tuple #[]) ∧ w = w') := fun w v => (restart_nil w v).mono fun _ _ h => ⟨h.1, h.2.symm⟩
  have H19 : Hid (∀ w s, Calls Try.prog 19 #[.pointer none, .string s] w fun e w' => e = .returned (.tuple #[.slice none 0 0, .int .i64 11]) ∧ w = w') := fun w s => (read_nil w s).mono fun _ _ h => ⟨h.1, h.2.symm⟩
  have H14 : Hid (∀ w, Calls Try.prog 14 #[.pointer none] w fun e w' => e = .returned (.bool true) ∧ w = w') := fun w => (down_nil w).mono fun _ _ h => ⟨h.1, h.2.symm⟩
  have H16 : Hid (∀ w s v, Calls Try.prog 16 #[.pointer none, .string s, v] w fun e w' => e = .returned (.int .i64 11) ∧ w = w') := fun w s v => (append_nil w s v).mono fun _ _ h => ⟨h.1, h.2.symm⟩
  have H17 : Hid (∀ w s, Calls Try.prog 17 #[.pointer none, .string s] w fun e w' => e = .returned (.int .i64 11) ∧ w = w') := fun w s => (sync_nil w s).mono fun _ _ h => ⟨h.1, h.2.symm⟩
  have H23 : Hid (∀ w s t, Calls Try.prog 23 #[.pointer none, .string s, .string t] w fun e w' => e = .returned (.int .i64 11) ∧ w = w') := fun w s t => (rename_nil w s t).mono fun _ _ h => ⟨h.1, h.2.symm⟩
  have H28 : Hid (∀ w s, Calls Try.prog 28 #[.pointer none, .string s] w fun e w' => e = .returned (.int .i64 11) ∧ w = w') := fun w s => (remove_nil w s).mono fun _ _ h => ⟨h.1, h.2.symm⟩
  have H25 : Hid (∀ w s n, Calls Try.prog 25 #[.pointer none, .string s, .int .i64 n] w fun e w' => e = .returned (.int .i64 11) ∧ w = w') := fun w s n => (truncate_nil w s n).mono fun _ _ h => ⟨h.1, h.2.symm⟩
  have H22 : Hid (∀ w, Calls Try.prog 22 #[.pointer none] w fun e w' => e = .returned (.slice none 0 0) ∧ w = w') := fun w => (list_nil w).mono fun _ _ h => ⟨h.1, h.2.symm⟩
  go_enter Try.func8, Try.ntmps8
  go_wp2_with (go_at_call 9; refine (H9.out _).mono ?_)
  rintro e w1 ⟨rfl, b1⟩
  have y1 : Hid (Below w.heap.size w w1) := b1
  clear b1
  by_cases hbig : (10000 : Int) < (n : Int)
  · go_wp2_with (go_at_call 9; refine (H9.out _).mono ?_)
    rintro e w2 ⟨rfl, b2⟩
    go_wp2_with fail
    go_ret
    exact ⟨rfl, below_from y1.out b2 y1.out.size⟩
  go_upto_region 11 with (first
    | (go_at_call 21; refine (H21.out _ _).mono ?_; rintro e w' ⟨rfl, rfl⟩)
    | (go_at_call 18; refine (H18.out _ _).mono ?_; rintro e w' ⟨rfl, rfl⟩)
    | (go_at_call 19; refine (H19.out _ _).mono ?_; rintro e w' ⟨rfl, rfl⟩)
    | (go_at_call 14; refine (H14.out _).mono ?_; rintro e w' ⟨rfl, rfl⟩)
    | (go_at_call 16; refine (H16.out _ _ _).mono ?_; rintro e w' ⟨rfl, rfl⟩)
    | (go_at_call 17; refine (H17.out _ _).mono ?_; rintro e w' ⟨rfl, rfl⟩)
    | (go_at_call 23; refine (H23.out _ _ _).mono ?_; rintro e w' ⟨rfl, rfl⟩)
    | (go_at_call 28; refine (H28.out _ _).mono ?_; rintro e w' ⟨rfl, rfl⟩)
    | (go_at_call 25; refine (H25.out _ _ _).mono ?_; rintro e w' ⟨rfl, rfl⟩)
    | (go_at_call 22; refine (H22.out _).mono ?_; rintro e w' ⟨rfl, rfl⟩))
  go_wp2_with (at_builtin; refine append_bytes rfl _ _ rfl (w1.alloc (.cells #[.map none, .bool false, .bool false, .int .i64 0] 55)).heap.size _ _ l rfl (Own.nil _ _) a c n rfl hl.out hnone.out ?_ ?_ (Nat.le_refl _) ?_)
  · exact (hlies.out.keep y1.out (Nat.le_refl _)).keep ((Below.refl _ w1).alloc (Nat.le_refl _) _) (Nat.le_refl _)
  · have := hl.out
    simp only [List.length_nil]
    omega
  intro v' w2 ho hb
  replace ho : Own w2 (w1.heap.size + 1) v' l := by simpa using ho
  replace hb : Below (w1.alloc (.cells #[.map none, .bool false, .bool false, .int .i64 0] 55)).heap.size (w1.alloc (.cells #[.map none, .bool false, .bool false, .int .i64 0] 55)) w2 := by simpa using hb
  have D1 : Dsk (w1.alloc (.cells #[.map none, .bool false, .bool false, .int .i64 0] 55)) (tgN w1.heap.size) w1.heap.size DK.new := dsk_new w1 _ rfl
  have D2 : Hid (Dsk w2 (tgN w1.heap.size) w1.heap.size DK.new) := D1.keepB hb
  have y2 : Hid (Below w.heap.size w w2) := below_from (below_from y1.out ((Below.refl _ w1).alloc (Nat.le_refl _) _) y1.out.size) hb (by have := y1.out.size; simp; omega)
  have hsz : (w1.alloc (.cells #[.map none, .bool false, .bool false, .int .i64 0] 55)).heap.size = w1.heap.size + 1 := by simp
  have S2 : Hid (w1.heap.size < w2.heap.size) := by have := hb.size; rw [hsz] at this; exact this
  obtain ⟨a', c', hv, -, hn', -⟩ := ho.shape
  rw [hl.out] at hv
  subst hv
  have OI : Hid (Own w2 (w1.heap.size + 1) (.slice a' n c') l) := ho
  have HN : Hid (a' = none → c' = 0) := hn'
  clear ho hb D1 hsz hn'
  have HL2 : Hid (LiesOff w2 (tgN w1.heap.size) a' l) := lo_own OI.out fun g hg => by unfold tgN; rw [if_neg (by omega)]
  have H14z : Hid (Calls Try.prog 14 #[.pointer (some ⟨w1.heap.size, 0, none⟩)] w2 fun e w' => e = .returned (.bool false) ∧ w' = w2) := by
    obtain ⟨mb, l, z, h⟩ := D2.out
    exact down_at w2 _ _ _ _ false h.cell
  have H16z : Hid (Calls Try.prog 16 #[.pointer (some ⟨w1.heap.size, 0, none⟩), .string ⟨#[97]⟩, .slice a' n c'] w2 fun e w' => e = .returned (.int .i64 0) ∧ ∃ tg', Dsk w' tg' w1.heap.size (DK.one l) ∧ Step (tgN w1.heap.size) tg' w2 w') := by
    have := append_any D2.out ⟨#[97]⟩ (by decide) a' n c' l hlen hl.out HN.out HL2.out
    rw [show (⟨#[97]⟩ : ByteArray).data.toList = [97] from rfl, one_append l (by have := hl.out; omega)] at this
    exact this
  clear H9 H14 H16 H17 H18 H19 H21 H22 H23 H25 H28
  go_wp2_with (go_at_call 14; refine H14z.out.mono ?_)
  rintro e w2' ⟨rfl, rfl⟩
  go_wp2_with (go_at_call 16; refine H16z.out.mono ?_)
  rintro e w3 ⟨rfl, tg3, d3, st3⟩
  have D3 : Hid (Dsk w3 tg3 w1.heap.size (DK.one l)) := d3
  have y3 : Hid (Below w.heap.size w w3) := y2.out.trans (st3.below y2.out.size (fun k hk => by have := y1.out.size; rw [tgN_new hk]; exact this)).1
  have S3 : Hid (w2'.heap.size ≤ w3.heap.size) := st3.1.size
  have OI3 : Hid (Own w3 (w1.heap.size + 1) (.slice a' n c') l) := OI.out.keepAt fun g hg => st3.1.block g (World.ownsRow.lt OI.out g hg).2 (fun e => by have h1 := tgN_new e; have := (World.ownsRow.lt OI.out g hg).1; omega)
  have T3 : Hid (∀ g, (Value.slice a' n c').ownBlock = some g → g < w3.heap.size ∧ tg3 g = .no) := fun g hg => by
    have h1 := World.ownsRow.lt OI.out g hg
    refine ⟨Nat.lt_of_lt_of_le h1.2 st3.1.size, ?_⟩
    by_cases h3 : tg3 g = .no
    · exact h3
    · rcases st3.2 g h3 with h4 | h4
      · have := tgN_new h4; omega
      · omega
  have H19z : Hid (∀ (V : World), Dsk V tg3 w1.heap.size (DK.one l) → Calls Try.prog 19 #[.pointer (some ⟨w1.heap.size, 0, none⟩), .string ⟨#[97]⟩] V fun e w' => ∃ v, e = .returned (.tuple #[v, .int .i64 0]) ∧ Own w' V.heap.size v l ∧ Below V.heap.size V w') := fun V d => by
    have := read_any d ⟨#[97]⟩ (by decide)
    rw [show (⟨#[97]⟩ : ByteArray).data.toList = [97] from rfl, one_read] at this
    exact this
  clear d3 st3 H14z H16z D2 HL2 OI
  go_wp2_with (go_at_call 19; refine (H19z.out _ D3.out).mono ?_)
  rintro e w4 ⟨v, rfl, ho, b4⟩
  have D4 : Hid (Dsk w4 tg3 w1.heap.size (DK.one l)) := D3.out.keepB b4
  have y4 : Hid (Below w.heap.size w w4) := below_from y3.out b4 y3.out.size
  have OI4 : Hid (Own w4 (w1.heap.size + 1) (.slice a' n c') l) := OI3.out.keep b4
  obtain ⟨a4, c4', hv, -⟩ := ho.shape
  rw [hl.out] at hv
  subst hv
  have OX4 : Hid (Own w4 w3.heap.size (.slice a4 n c4') l) := ho
  have T4 : Hid (∀ g, w3.heap.size ≤ g → tg3 g = .no) := fun g hg => by
    obtain ⟨_, _, _, h⟩ := D3.out
    exact new_no h.lt hg
  have y1s := y1.out.size
  clear ho b4 D3 OI3
  go_wp2_with fail
  go_loopw [10] (fun i wr => ∃ (k : Nat) (l1 l2 : List UInt8), k ≤ n ∧ i = .int .i64 k ∧ l1.length = n ∧ l2.length = n ∧ Own wr w3.heap.size (.slice a4 n c4') l1 ∧ Own wr (w1.heap.size + 1) (.slice a' n c') l2 ∧ Dsk wr tg3 w1.heap.size (DK.one l) ∧ Below w.heap.size w wr) (fun i _ => n - (intOf i).toNat)
  case atStart => exact ⟨0, l, l, Nat.zero_le _, rfl, hl.out, hl.out, OX4.out, OI4.out, D4.out, y4.out⟩
  case round =>
    obtain ⟨k, l1, l2, hk, rfl, hl1, hl2, ox, oi, dr, yr⟩ := hrel
    have YR : Hid _ := yr
    have DR : Hid (Dsk wr tg3 w1.heap.size (DK.one l)) := dr
    by_cases hlt : k < n
    · obtain ⟨gx, cx, ex, hx1, hx2⟩ := ox.posn (by omega)
      obtain ⟨gi, ci, ei, hi1, hi2⟩ := oi.posn (by omega)
      rw [hl1] at ex
      rw [hl2] at ei
      cases ex
      cases ei
      obtain ⟨tl, tn⟩ := T3.out gi rfl
      have tx := T4.out gx hx1
      have hne : gx ≠ gi := by omega
      obtain ⟨x, hx⟩ : ∃ x, l1[k]? = some x := ⟨l1[k]'(by omega), List.getElem?_eq_getElem _⟩
      obtain ⟨u, hu⟩ : ∃ u, l2[k]? = some u := ⟨l2[k]'(by omega), List.getElem?_eq_getElem _⟩
      obtain ⟨x', hx'⟩ : ∃ x' : UInt8, ((255 : Int) - (x.toNat : Int)) % 256 = x'.toNat := ⟨255 - x, by have := inv_byte x; have := (255 - x).toNat_lt; omega⟩
      obtain ⟨u', hu'⟩ : ∃ u' : UInt8, ((255 : Int) - (u.toNat : Int)) % 256 = u'.toNat := ⟨255 - u, by have := inv_byte u; have := (255 - u).toNat_lt; omega⟩
      have e0 := ox.cell hx
      have f0 := ox.free k
      have OX : Own (wr.setCell ⟨gx, k, none⟩ (.int .u8 ((255 - (x.toNat : Int)) % 256))) w3.heap.size (.slice (some ⟨gx, 0, none⟩) n c4') (l1.set k x') := by rw [hx']; exact ox.set _
      have OI : Own (wr.setCell ⟨gx, k, none⟩ (.int .u8 ((255 - (x.toNat : Int)) % 256))) (w1.heap.size + 1) (.slice (some ⟨gi, 0, none⟩) n c') l2 := oi.keepAt fun g hg => Below.heap_setCell _ _ _ _ (fun e => by cases hg; exact hne (by simpa using e.symm))
      have e1 := OI.cell hu
      have f1 := OI.free k
      have OX2 : Own ((wr.setCell ⟨gx, k, none⟩ (.int .u8 ((255 - (x.toNat : Int)) % 256))).setCell ⟨gi, k, none⟩ (.int .u8 ((255 - (u.toNat : Int)) % 256))) w3.heap.size (.slice (some ⟨gx, 0, none⟩) n c4') (l1.set k x') := OX.keepAt fun g hg => Below.heap_setCell _ _ _ _ (fun e => by cases hg; exact hne (by simpa using e))
      have OI2 : Own ((wr.setCell ⟨gx, k, none⟩ (.int .u8 ((255 - (x.toNat : Int)) % 256))).setCell ⟨gi, k, none⟩ (.int .u8 ((255 - (u.toNat : Int)) % 256))) (w1.heap.size + 1) (.slice (some ⟨gi, 0, none⟩) n c') (l2.set k u') := by rw [hu']; exact OI.set _
      have DS2 : Dsk ((wr.setCell ⟨gx, k, none⟩ (.int .u8 ((255 - (x.toNat : Int)) % 256))).setCell ⟨gi, k, none⟩ (.int .u8 ((255 - (u.toNat : Int)) % 256))) tg3 w1.heap.size (DK.one l) :=
        DR.out.keep (fun j hj => (Below.heap_setCell _ _ _ _ (fun e => hj (by rw [e]; exact tn))).trans (Below.heap_setCell _ _ _ _ (fun e => hj (by rw [e]; exact tx)))) (by simp [World.setCell])
      have YR2 : Below w.heap.size w ((wr.setCell ⟨gx, k, none⟩ (.int .u8 ((255 - (x.toNat : Int)) % 256))).setCell ⟨gi, k, none⟩ (.int .u8 ((255 - (u.toNat : Int)) % 256))) := (YR.out.setCell (p := ⟨gx, k, none⟩) (by have := y3.out.size; show w.heap.size ≤ gx; omega) _).setCell (p := ⟨gi, k, none⟩) (by show w.heap.size ≤ gi; omega) _
      have P : Hid _ := And.intro OX2 (And.intro OI2 (And.intro DS2 YR2))
      have q1 : Hid (l1.length = n) := hl1
      have q2 : Hid (l2.length = n) := hl2
      clear OX OI OX2 OI2 DS2 YR2 ox oi dr yr hx hu hl1 hl2 hx1 hx2 hi1 hi2 tl tn tx hx' hu'
      go_wp2_with fail
      refine ⟨⟨k + 1, l1.set k x', l2.set k u', by omega, by go_num, by rw [List.length_set]; exact q1.out, by rw [List.length_set]; exact q2.out, P.out.1, P.out.2.1, P.out.2.2.1, P.out.2.2.2⟩, ?_⟩
      simp [intOf]; omega
    · have h0 : ¬ ((k : Int) < (n : Int)) := by omega
      clear ox oi dr yr
      go_wp2_with (go_at_call 19; refine (H19z.out _ DR.out).mono ?_)
      rintro e w5 v5 rfl ho5 b5
      obtain ⟨a5, c5, hv, hL5, -⟩ := ho5.shape
      subst hv
      have H20 : Hid (Calls Try.prog 20 #[.slice a5 l.length c5, .slice a n c] w5 fun e w' => e = .returned (.bool true) ∧ Below w5.heap.size w5 w') := by
        have := same_any l l a5 a c5 c w5 (by have := hl.out; omega) hL5 (((hlies.out.keep YR.out (Nat.le_refl _))).keep b5 (Nat.le_refl _))
        rw [decide_eq_true rfl] at this
        rw [← hl.out]
        exact this
      have Y5 : Hid (Below w.heap.size w w5) := below_from YR.out b5 YR.out.size
      clear ho5 hL5 b5
      go_wp2_with (go_at_call 20; refine H20.out.mono ?_)
      rintro e w6 ⟨rfl, b6⟩
      go_wp2_with fail
      go_ret
      exact ⟨rfl, below_from Y5.out b6 Y5.out.size⟩
end Go.Proofs.Ytnohidalomjfmaa
