/-
  Both disks in a law, with bytes that lie off both: the calls of each side.
-/
import Derived.Test.YtnohidalomjfmaaSte
import Derived.Test.YtnohidalomjfmaaWh
namespace Go.Proofs.Ytnohidalomjfmaa
open Go.RowKit Go.Maps

/-- both disks, and bytes off both -/
def HB (w0 w : World) (pb rb : Nat) (D E : DK) (q : Option Addr) (l : List UInt8) : Prop := ∃ tg rt, Two w0 w pb rb D E tg rt ∧ LiesOff w tg q l ∧ LiesOff w rt q l
theorem HB.keep {w0 w w' : World} {pb rb : Nat} {D E : DK} {q : Option Addr} {l : List UInt8} (h : HB w0 w pb rb D E q l) (b : Below w.heap.size w w') : HB w0 w' pb rb D E q l := by
  obtain ⟨tg, rt, h, h1, h2⟩ := h
  exact ⟨tg, rt, h.keep b, h1.step (Step.of_below _ b), h2.step (Step.of_below _ b)⟩
theorem HB.left {w0 w w' : World} {pb rb : Nat} {D E D' : DK} {q : Option Addr} {l : List UInt8} {tg rt tg' : Nat → Tg} (h : Two w0 w pb rb D E tg rt) (h1 : LiesOff w tg q l) (h2 : LiesOff w rt q l) (d : Dsk w' tg' pb D') (st : Step tg tg' w w') : HB w0 w' pb rb D' E q l :=
  ⟨tg', rt, h.left d st, h1.step st, off_left h1 h2 st⟩
theorem HB.right {w0 w w' : World} {pb rb : Nat} {D E E' : DK} {q : Option Addr} {l : List UInt8} {tg rt rt' : Nat → Tg} (h : Two w0 w pb rb D E tg rt) (h1 : LiesOff w tg q l) (h2 : LiesOff w rt q l) (d : Ref w' rt' rb E') (st : Step rt rt' w w') : HB w0 w' pb rb D E' q l :=
  ⟨tg, rt', h.right d st, off_left h2 h1 st, h2.step st⟩
theorem HB.below {w0 w : World} {pb rb : Nat} {D E : DK} {q : Option Addr} {l : List UInt8} (h : HB w0 w pb rb D E q l) : Below w0.heap.size w0 w := by obtain ⟨_, _, h, _⟩ := h; exact h.b

theorem ap1 {w0 w : World} {pb rb : Nat} {D E : DK} {q : Option Addr} {l : List UInt8} (h : HB w0 w pb rb D E q l) (s : List UInt8) (hs : s.length ≤ 281474976710656) (q' : Option Addr) (n' c' : Nat) (m : List UInt8) (hn : n' < 1152921504606846976) (hm : m.length = n') (hq : q' = none → c' = 0) (hoff : ∀ tg, LiesOff w tg q l → LiesOff w tg q' m) :
    Calls Try.prog 16 #[.pointer (some ⟨pb, 0, none⟩), .string ⟨⟨s⟩⟩, .slice q' n' c'] w fun e w' => e = .returned (.int .i64 (appendD D s m).1) ∧ HB w0 w' pb rb (appendD D s m).2 E q l := by
  obtain ⟨tg, rt, h, h1, h2⟩ := h
  refine (append_any h.d ⟨⟨s⟩⟩ hs q' n' c' m hn hm hq (hoff _ h1)).mono ?_
  rintro e w' ⟨rfl, tg', d, st⟩
  exact ⟨rfl, HB.left h h1 h2 d st⟩
theorem ap2 {w0 w : World} {pb rb : Nat} {D E : DK} {q : Option Addr} {l : List UInt8} (h : HB w0 w pb rb D E q l) (s : List UInt8) (q' : Option Addr) (n' c' : Nat) (m : List UInt8) (hn : n' < 1152921504606846976) (hm : m.length = n') (hq : q' = none → c' = 0) (hoff : ∀ tg, LiesOff w tg q l → LiesOff w tg q' m) :
    Calls Try.prog 24 #[.pointer (some ⟨rb, 0, none⟩), .string ⟨⟨s⟩⟩, .slice q' n' c'] w fun e w' => e = .returned (.int .i64 (appendD E s m).1) ∧ HB w0 w' pb rb D (appendD E s m).2 q l := by
  obtain ⟨tg, rt, h, h1, h2⟩ := h
  refine (rappend_any h.r s q' n' c' m hn hm hq (hoff _ h2)).mono ?_
  rintro e w' ⟨rfl, rt', d, st⟩
  exact ⟨rfl, HB.right h h1 h2 d st⟩
theorem sy1 {w0 w : World} {pb rb : Nat} {D E : DK} {q : Option Addr} {l : List UInt8} (h : HB w0 w pb rb D E q l) (s : List UInt8) (hs : s.length ≤ 281474976710656) :
    Calls Try.prog 17 #[.pointer (some ⟨pb, 0, none⟩), .string ⟨⟨s⟩⟩] w fun e w' => e = .returned (.int .i64 (syncD D s).1) ∧ HB w0 w' pb rb (syncD D s).2 E q l := by
  obtain ⟨tg, rt, h, h1, h2⟩ := h
  refine (sync_any h.d ⟨⟨s⟩⟩ (sz_le hs)).mono ?_
  rintro e w' ⟨rfl, d, st⟩
  exact ⟨rfl, HB.left h h1 h2 d st⟩
theorem sy2 {w0 w : World} {pb rb : Nat} {D E : DK} {q : Option Addr} {l : List UInt8} (h : HB w0 w pb rb D E q l) (s : List UInt8) :
    Calls Try.prog 27 #[.pointer (some ⟨rb, 0, none⟩), .string ⟨⟨s⟩⟩] w fun e w' => e = .returned (.int .i64 (syncD E s).1) ∧ HB w0 w' pb rb D (syncD E s).2 q l := by
  obtain ⟨tg, rt, h, h1, h2⟩ := h
  refine (rsync_any h.r s).mono ?_
  rintro e w' ⟨rfl, rt', d, st⟩
  exact ⟨rfl, HB.right h h1 h2 d st⟩
theorem tr1 {w0 w : World} {pb rb : Nat} {D E : DK} {q : Option Addr} {l : List UInt8} (h : HB w0 w pb rb D E q l) (s : List UInt8) (hs : s.length ≤ 281474976710656) (n : Int) :
    Calls Try.prog 25 #[.pointer (some ⟨pb, 0, none⟩), .string ⟨⟨s⟩⟩, .int .i64 n] w fun e w' => e = .returned (.int .i64 (truncD D s n).1) ∧ HB w0 w' pb rb (truncD D s n).2 E q l := by
  obtain ⟨tg, rt, h, h1, h2⟩ := h
  refine (trunc_any h.d ⟨⟨s⟩⟩ n (sz_le hs)).mono ?_
  rintro e w' ⟨rfl, d, st⟩
  exact ⟨rfl, HB.left h h1 h2 d st⟩
theorem tr2 {w0 w : World} {pb rb : Nat} {D E : DK} {q : Option Addr} {l : List UInt8} (h : HB w0 w pb rb D E q l) (s : List UInt8) (n : Int) :
    Calls Try.prog 26 #[.pointer (some ⟨rb, 0, none⟩), .string ⟨⟨s⟩⟩, .int .i64 n] w fun e w' => e = .returned (.int .i64 (truncD E s n).1) ∧ HB w0 w' pb rb D (truncD E s n).2 q l := by
  obtain ⟨tg, rt, h, h1, h2⟩ := h
  refine (rtr_any h.r s n).mono ?_
  rintro e w' ⟨rfl, rt', d, st⟩
  exact ⟨rfl, HB.right h h1 h2 d st⟩
theorem fu1 {w0 w : World} {pb rb : Nat} {D E : DK} {q : Option Addr} {l : List UInt8} (h : HB w0 w pb rb D E q l) (n : Int) (hn : n < 9223372036854775808) :
    Calls Try.prog 21 #[.pointer (some ⟨pb, 0, none⟩), .int .i64 n] w fun e w' => e = .returned (.tuple #[]) ∧ HB w0 w' pb rb (setF D n) E q l := by
  obtain ⟨tg, rt, h, h1, h2⟩ := h
  refine (setfuse_any n hn h.d).mono ?_
  rintro e w' ⟨rfl, d, st⟩
  exact ⟨rfl, HB.left h h1 h2 d st⟩
/-- the document's fuse, written -/
theorem fu2 {w0 w : World} {pb rb : Nat} {D E : DK} {q : Option Addr} {l : List UInt8} (h : HB w0 w pb rb D E q l) (n z : Int) (hn : n < 9223372036854775808) (hz : z = max n (-1)) : HB w0 (w.setCell ⟨rb, 1, none⟩ (.int .i64 z)) pb rb D (setF E n) q l := by
  obtain ⟨tg, rt, h, h1, h2⟩ := h
  obtain ⟨v, lr, z0, hr⟩ := h.r
  have hk : Kp (· = rb) w (w.setCell ⟨rb, 1, none⟩ (.int .i64 z)) := Kp.of_set _ _ _ rfl
  refine HB.right h h1 h2 ⟨v, lr, z, hr.turn (D' := setF E n) (setB hr.cell _) hk rfl ?_⟩ (Step.of_kp (by rw [hr.tp]; exact nofun) hk)
  unfold setF fzR
  by_cases h0 : 0 ≤ n
  · simp only [if_pos h0]
    omega
  · simp only [if_neg h0]
    omega
theorem HB.rcell {w0 w : World} {pb rb : Nat} {D E : DK} {q : Option Addr} {l : List UInt8} (h : HB w0 w pb rb D E q l) : ∃ v z, w.heap[rb]? = some (.cells #[v, .int .i64 z, .bool E.down] 35 (0, 0)) := by
  obtain ⟨tg, rt, h, _⟩ := h
  obtain ⟨v, lr, z0, hr⟩ := h.r
  exact ⟨v, z0, hr.cell⟩
theorem dn1 {w0 w : World} {pb rb : Nat} {D E : DK} {q : Option Addr} {l : List UInt8} (h : HB w0 w pb rb D E q l) : Calls Try.prog 14 #[.pointer (some ⟨pb, 0, none⟩)] w fun e w' => e = .returned (.bool D.down) ∧ w' = w := by
  obtain ⟨tg, rt, h, _⟩ := h
  obtain ⟨_, _, _, h⟩ := h.d
  exact down_at w pb _ _ _ _ h.cell
/-- two new disks -/
theorem nw1 (w : World) : Calls Try.prog 11 #[] w fun e w' => e = .returned (.pointer (some ⟨w.heap.size, 0, none⟩)) ∧ Dsk w' (tgN w.heap.size) w.heap.size DK.new ∧ Below w.heap.size w w' ∧ w.heap.size < w'.heap.size := by
  refine (new_at w).mono ?_
  rintro e w' ⟨rfl, e2⟩
  refine ⟨rfl, dsk_new w w' e2, by rw [e2]; exact (Below.refl _ w).alloc (Nat.le_refl _) _, by rw [e2]; simp⟩
theorem nw2 (w0 w w1 : World) (b : Below w0.heap.size w0 w) (hd : Dsk w1 (tgN w.heap.size) w.heap.size DK.new) (b1 : Below w.heap.size w w1) (hlt : w.heap.size < w1.heap.size) : Calls Try.prog 12 #[] w1 fun e w' => e = .returned (.pointer (some ⟨w1.heap.size, 0, none⟩)) ∧ HB w0 w' w.heap.size w1.heap.size DK.new DK.new none [] := by
  refine (rnew_at w1).mono ?_
  rintro e w' ⟨rfl, e2⟩
  have b2 : Below w1.heap.size w1 w' := by rw [e2]; exact (Below.refl _ w1).alloc (Nat.le_refl _) _
  refine ⟨rfl, tgN w.heap.size, tgN w1.heap.size, ⟨hd.keepB b2, ref_new w1 w' e2, fun k hk => ?_, fun k hk => ?_, fun k hk => ?_, ?_⟩, .inl rfl, .inl rfl⟩
  · rw [tgN_new hk]
    unfold tgN
    rw [if_neg (by omega)]
  · rw [tgN_new hk]; exact b.size
  · rw [tgN_new hk]; have := b.size; omega
  · exact below_from (below_from b b1 b.size) b2 (by have := b.size; omega)
end Go.Proofs.Ytnohidalomjfmaa
