/-
  The law of no disk, and of memory.
-/
import Derived.Test.YtoiopplhphllhaaSo
namespace Go.Proofs.Ytoiopplhphllhaa
open Go.RowKit Go.Maps

set_option maxHeartbeats 400000 in
theorem clean_0 (w : World) (p : Value) (H : Hid (Calls Try.prog 13 #[p] w fun e w' => e = .returned (.bool true) ∧ w' = w)) :
    Calls Try.prog 14 #[p] w fun e w' => e = .returned (.int .i64 11) ∧ w' = w := by
  go_enter Try.func14, Try.ntmps14
  go_wp2_with (go_at_call 13; refine H.out.mono ?_)
  rintro e w1 ⟨rfl, rfl⟩
  go_wp2_with fail
  go_ret
  exact ⟨rfl, rfl⟩
theorem clean_nil (w : World) : Calls Try.prog 14 #[.pointer none] w fun e w' => e = .returned (.int .i64 11) ∧ w' = w := clean_0 w _ (down_nil w)
/-- one piece, in a new slice -/
theorem pcs_one {w : World} {q : Option Addr} {n c : Nat} {l : List UInt8} (hn : l.length = n) (hL : Lies w q l) (hz : q = none → c = 0) : Pcs (w.alloc (.cells #[.slice q n c] 30)) (some ⟨w.heap.size, 0, none⟩) [⟨l, q, c⟩] := by
  subst hn
  refine ⟨.inr ⟨_, 0, rfl, row_one⟩, fun r hr => ?_⟩
  simp only [List.mem_singleton] at hr
  subst hr
  exact ⟨hL.keep ((Below.refl _ w).alloc (Nat.le_refl _) _) (Nat.le_refl _), hz⟩
theorem fit_one (l : List UInt8) (n : Nat) (hl : l.length = n) (hn : n ≤ 4096) : fitE 1 [l] = 0 := by
  unfold fitE
  rw [if_neg (by decide), if_neg (by unfold longP; simp; omega), if_neg (by unfold manyP sumL; simp; omega)]
/-- the memory in SnapNil's loop: what was loaded, what was saved, the disk -/
structure NilW (w wr : World) (tg : Nat → Tg) (pb g : Nat) (D : DK) (a : Option Addr) (c : Nat) (a' : Option Addr) (c' n : Nat) (l1 l2 : List UInt8) : Prop where
  x : Own wr w.heap.size (.slice a n c) l1
  i : Own wr w.heap.size (.slice a' n c') l2
  r : wr.cell? ⟨g, 0, none⟩ = some (.slice a n c)
  at_ : At w wr tg pb D
  ap : ∀ b b', (Value.slice a n c).ownBlock = some b → (Value.slice a' n c').ownBlock = some b' → b ≠ b'
  tx : ∀ b, (Value.slice a n c).ownBlock = some b → tg b = .no
  ti : ∀ b, (Value.slice a' n c').ownBlock = some b → tg b = .no
theorem At.set {w0 w : World} {tg : Nat → Tg} {pb : Nat} {D : DK} (h : At w0 w tg pb D) (p : Addr) (u : Value) (hp : tg p.block = .no) (hb : w0.heap.size ≤ p.block) : At w0 (w.setCell p u) tg pb D :=
  ⟨h.d.keep (fun k hk => Below.heap_setCell _ _ _ _ fun e => hk (by rw [e]; exact hp)) (by simp [World.setCell]), h.t, h.b.setCell hb u⟩
theorem At.drewN {w0 w : World} {tg : Nat → Tg} {pb : Nat} {D : DK} (h : At w0 w tg pb D) (n : Nat) : At w0 (w.drewN n) tg pb D := h.keep (below_drewN (Below.refl _ _) n)
theorem own_not {w : World} {B g g' n c : Nat} {l : List UInt8} {a : Option Addr} {m d : Nat} (h : Own w B (.slice (some ⟨g', 0, none⟩) n c) l) (hl : 0 < l.length) (hc : w.cell? ⟨g, 0, none⟩ = some (.slice a m d)) : g ≠ g' := fun e => by
  subst e
  have h0 := h.cell (k := 0) (x := l[0]) (List.getElem?_eq_getElem hl)
  rw [hc] at h0
  cases h0
theorem NilW.keep {w wr : World} {tg : Nat → Tg} {pb g : Nat} {D : DK} {a a' : Option Addr} {c c' n : Nat} {l1 l2 : List UInt8} (h : NilW w wr tg pb g D a c a' c' n l1 l2) (j : Nat) : NilW w (wr.drewN j) tg pb g D a c a' c' n l1 l2 :=
  ⟨h.x.keep (below_drewN (Below.refl _ _) j), h.i.keep (below_drewN (Below.refl _ _) j), h.r, h.at_.drewN j, h.ap, h.tx, h.ti⟩
theorem NilW.turn1 {w wr : World} {tg : Nat → Tg} {pb g gx : Nat} {D : DK} {a' : Option Addr} {c c' n : Nat} {l1 l2 : List UInt8} (h : NilW w wr tg pb g D (some ⟨gx, 0, none⟩) c a' c' n l1 l2) (hl : 0 < l1.length) (k : Nat) (x : UInt8) :
    NilW w (wr.setCell ⟨gx, k, none⟩ (.int .u8 x.toNat)) tg pb g D (some ⟨gx, 0, none⟩) c a' c' n (l1.set k x) l2 := by
  have hg := own_not h.x hl h.r
  have hb := World.ownsRow.lt h.x gx rfl
  refine ⟨h.x.set x, h.i.keepAt fun b e => Below.heap_setCell _ _ _ _ (h.ap gx b rfl e).symm, ?_, h.at_.set _ _ (h.tx gx rfl) hb.1, h.ap, h.tx, h.ti⟩
  rw [World.cell?_of_block (a := ⟨g, 0, none⟩) (Below.heap_setCell _ _ _ _ hg)]
  exact h.r
theorem NilW.turn2 {w wr : World} {tg : Nat → Tg} {pb g gi : Nat} {D : DK} {a : Option Addr} {c c' n : Nat} {l1 l2 : List UInt8} (h : NilW w wr tg pb g D a c (some ⟨gi, 0, none⟩) c' n l1 l2) (hl : 0 < l2.length) (k : Nat) (x : UInt8) :
    NilW w (wr.setCell ⟨gi, k, none⟩ (.int .u8 x.toNat)) tg pb g D a c (some ⟨gi, 0, none⟩) c' n l1 (l2.set k x) := by
  have hg := own_not h.i hl h.r
  have hb := World.ownsRow.lt h.i gi rfl
  refine ⟨h.x.keepAt fun b e => Below.heap_setCell _ _ _ _ (h.ap b gi e rfl), h.i.set x, ?_, h.at_.set _ _ (h.ti gi rfl) hb.1, h.ap, h.tx, h.ti⟩
  rw [World.cell?_of_block (a := ⟨g, 0, none⟩) (Below.heap_setCell _ _ _ _ hg)]
  exact h.r

set_option maxHeartbeats 4000000 in
set_option maxRecDepth 100000 in
theorem nil_law (a : Option Addr) (n c : Nat) (l : List UInt8) (w : World) (hl : Hid (l.length = n)) (hlies : Hid (Lies w a l)) (hnone : Hid (a = none → c = 0)) (hlen : n < 1152921504606846976) :
    Calls Try.prog 7 #[.slice a n c] w fun e w' => e = .returned (.bool true) ∧ Below w.heap.size w w' := by
  have H8 : Hid (∀ w, Calls Try.prog 8 #[] w fun e w' => e = .returned (.bool true) ∧ Below w.heap.size w w') := fun w => awake_any w
  go_enter Try.func7, Try.ntmps7
  go_wp2_with (go_at_call 8; refine (H8.out _).mono ?_)
  rintro e w1 ⟨rfl, b1⟩
  have y1 : Hid (Below w.heap.size w w1) := b1
  clear b1
  by_cases hbig : (4096 : Int) < (n : Int)
  · go_wp2_with (go_at_call 8; refine (H8.out _).mono ?_)
    rintro e w2 ⟨rfl, b2⟩
    go_wp2_with fail
    go_ret
    exact ⟨rfl, below_from y1.out b2 y1.out.size⟩
  go_wp2_with (go_at_call 21; refine (load_nil _).mono ?_)
  rintro e w1' ⟨rfl, rfl⟩
  go_wp2_with (go_at_call 11; refine (save_nil _ _ _).mono ?_)
  rintro e w2 ⟨rfl, rfl⟩
  go_wp2_with (go_at_call 14; refine (clean_nil _).mono ?_)
  rintro e w2 ⟨rfl, rfl⟩
  have y2 : Hid (Below w.heap.size w (w1'.alloc (.cells #[.slice a n c] 30))) := y1.out.alloc y1.out.size _
  generalize w1'.alloc (.cells #[.slice a n c] 30) = w2 at *
  go_wp2_with (go_at_call 10; refine (new_law w w2 y2.out).mono ?_)
  rintro e w3 ⟨pb, rfl, tg3, a3⟩
  have A3 : Hid (At w w3 tg3 pb DK.new) := a3
  clear a3
  go_wp2_with (at_builtin; refine append_bytes rfl _ _ rfl w3.heap.size _ _ l rfl (Own.nil _ _) a c n rfl hl.out hnone.out (hlies.out.keep A3.out.b (Nat.le_refl _)) ?_ (Nat.le_refl _) ?_)
  · have := hl.out
    simp only [List.length_nil]
    omega
  intro v' w4 ho hb
  replace ho : Own w4 w3.heap.size v' l := by simpa using ho
  obtain ⟨a', c', hv, hL', hn', -⟩ := ho.shape
  rw [hl.out] at hv
  subst hv
  have A4 : Hid (At w w4 tg3 pb DK.new) := A3.out.keep hb
  have O4 : Hid (Own w4 w3.heap.size (.slice a' n c') l) := ho
  have H11 : Hid (Calls Try.prog 11 #[.pointer (some ⟨pb, 0, none⟩), .int .i64 1, .slice (some ⟨w4.heap.size, 0, none⟩) 1 1] (w4.alloc (.cells #[.slice a' n c'] 30)) fun e w' => e = .returned (.int .i64 0) ∧ ∃ tg' D', At w w' tg' pb D' ∧ Step tg3 tg' (w4.alloc (.cells #[.slice a' n c'] 30)) w' ∧ D'.down = false ∧ D'.fuse = none ∧ D'.fs = fsN none (fileOf (some (1, [l]))) none) :=
    save_done (o := none) (x := none) (y := none) (A4.out.keep ((Below.refl _ w4).alloc (Nat.le_refl _) _)) 1 [⟨l, a', c'⟩] _ 1 1 rfl (by omega) (pcs_one hl.out hL' hn') rfl rfl rfl (fit_one l n hl.out (by omega))
  have T4 : Hid (∀ g, w3.heap.size ≤ g → tg3 g = .no) := fun g hg => no_of fun e => by have := A3.out.d.lt e; omega
  clear ho hb hL' hn'
  go_wp2_with (go_at_call 11; refine H11.out.mono ?_)
  first | rintro e w5 rfl tg5 D5 a5 st5 d5 f5 n5 | rintro e w5 ⟨rfl, tg5, D5, a5, st5, d5, f5, n5⟩
  have A5 : Hid (At w w5 tg5 pb D5) := a5
  have HH : Hid (Holds D5 (some (1, [l]))) := holds_N n5 (fit_one l n hl.out (by omega))
  have DD : Hid (D5.down = false) := d5
  have O5 : Hid (Own w5 w3.heap.size (.slice a' n c') l ∧ ∀ b, (Value.slice a' n c').ownBlock = some b → tg5 b = .no ∧ b < w5.heap.size) := by
    have hlt := World.ownsRow.lt O4.out
    have O4' := O4.out.keep ((Below.refl _ w4).alloc (Nat.le_refl _) (.cells #[.slice a' n c'] 30))
    refine ⟨O4'.keepAt fun b e => st5.1.block b (World.ownsRow.lt O4' b e).2 fun e2 => e2 (T4.out b (hlt b e).1), fun b e => ⟨?_, ?_⟩⟩
    · refine no_of fun e2 => ?_
      rcases st5.2 b e2 with h1 | h1
      · exact h1 (T4.out b (hlt b e).1)
      · have := (World.ownsRow.lt O4' b e).2; omega
    · exact Nat.lt_of_lt_of_le (World.ownsRow.lt O4' b e).2 st5.1.size
  have hld : ldE D5 (some (1, [l])) = 0 := by unfold ldE; rw [if_neg (by simp [d5])]
  have H21 : Hid (Calls Try.prog 21 #[.pointer (some ⟨pb, 0, none⟩)] w5 fun e w' => ∃ g a c d, e = .returned (.tuple #[.int .i64 1, .slice (some ⟨g, 0, none⟩) 1 d, .int .i64 0]) ∧ NilW w w' tg5 pb g D5 a c a' c' n l l) := by
    have := load_any a5.d (some (1, [l])) HH.out
    rw [hld] at this
    refine this.mono ?_
    rintro e w' ⟨k, v, rfl, l', h1, h2, h3⟩
    have h4 := h3 rfl
    simp only [Option.some.injEq, Prod.mk.injEq] at h4
    obtain ⟨rfl, h4⟩ := h4
    obtain ⟨q, d, rfl⟩ := sl_own h1.row
    obtain ⟨g, a, c, rfl, hone, rfl, h5, h6, h7, h8⟩ := h1.single h4.symm
    simp only [List.length_cons, List.length_nil] at hone ⊢
    rw [hl.out] at h5 h6
    have hx := World.ownsRow.lt h6
    refine ⟨g, a, c, d, rfl, h6.low a5.b.size, (O5.out.1.keep h2).low A3.out.b.size, h5, a5.keep h2, fun b b' e e' => ?_, fun b e => no_of fun e2 => ?_, fun b e => (O5.out.2 b e).1⟩
    · have := (hx b e).1
      have := (O5.out.2 b' e').2
      omega
    · have := (hx b e).1
      have := a5.d.lt e2
      omega
  clear a5 st5 d5 f5 n5 hld H11 O4 A4 A3 O5 T4
  go_wp2_with (go_at_call 21; refine H21.out.mono ?_)
  first | rintro e w6 g6 a6 c6 d6 rfl h6 | rintro e w6 ⟨g6, a6, c6, d6, rfl, h6⟩
  have N6 : Hid (NilW w w6 tg5 pb g6 D5 a6 c6 a' c' n l l) := h6
  clear h6 H21 A5
  go_wp2_with fail
  go_loopw [11] (fun i wr => ∃ (k : Nat) (l1 l2 : List UInt8), k ≤ n ∧ i = .int .i64 k ∧ l1.length = n ∧ l2.length = n ∧ NilW w wr tg5 pb g6 D5 a6 c6 a' c' n l1 l2) (fun i _ => n - (intOf i).toNat)
  case atStart => exact ⟨0, l, l, Nat.zero_le _, rfl, hl.out, hl.out, N6.out⟩
  case round =>
    obtain ⟨k, l1, l2, hk, rfl, hl1, hl2, hN⟩ := hrel
    have HN : Hid (NilW w wr tg5 pb g6 D5 a6 c6 a' c' n l1 l2) := hN
    have hr := hN.r
    by_cases hlt : k < n
    · obtain ⟨gx, cx, ex, hx1, hx2⟩ := hN.x.posn (by omega)
      obtain ⟨gi, ci, ei, hi1, hi2⟩ := hN.i.posn (by omega)
      rw [hl1] at ex
      rw [hl2] at ei
      cases ex
      cases ei
      obtain ⟨x, hx⟩ : ∃ x, l1[k]? = some x := ⟨l1[k]'(by omega), List.getElem?_eq_getElem _⟩
      obtain ⟨u, hu⟩ : ∃ u, l2[k]? = some u := ⟨l2[k]'(by omega), List.getElem?_eq_getElem _⟩
      have e0 := hN.x.cell hx
      have f0 := hN.x.free k
      have hi : (k : Int) < (n : Int) := by omega
      have hinv := inv_byte x
      have hinu := inv_byte u
      have bx := u8_bd x
      have bu := u8_bd u
      have x1 : NilW w ((wr.setCell ⟨gx, k, none⟩ (.int .u8 ((255 - x : UInt8).toNat))).drew) tg5 pb g6 D5 (some ⟨gx, 0, none⟩) c6 (some ⟨gi, 0, none⟩) c' n (l1.set k (255 - x)) l2 := (HN.out.turn1 (by omega) k _).keep 1
      have e1 := x1.i.cell hu
      have f1 := x1.i.free k
      have X2 : Hid (NilW w (((wr.setCell ⟨gx, k, none⟩ (.int .u8 ((255 - x : UInt8).toNat))).drew).setCell ⟨gi, k, none⟩ (.int .u8 ((255 - u : UInt8).toNat))) tg5 pb g6 D5 (some ⟨gx, 0, none⟩) c6 (some ⟨gi, 0, none⟩) c' n (l1.set k (255 - x)) (l2.set k (255 - u))) := x1.turn2 (by omega) k _
      have q1 : Hid (l1.length = n) := hl1
      have q2 : Hid (l2.length = n) := hl2
      clear x1 hu hl1 hl2
      clear hx hN
      go_wp2_with fail
      go_region
      go_wp2_with fail
      refine ⟨⟨k + 1, l1.set k (255 - x), l2.set k (255 - u), by omega, by go_num, by rw [List.length_set]; exact q1.out, by rw [List.length_set]; exact q2.out, X2.out⟩, ?_⟩
      simp [intOf]; omega
    · have h0 : ¬ ((k : Int) < (n : Int)) := by omega
      have H17 : Hid (Calls Try.prog 17 #[.pointer (some ⟨pb, 0, none⟩), .agg #[.bool true, .int .i64 1, .slice (some ⟨wr.heap.size, 0, none⟩) 1 1]] (wr.alloc (.cells #[.slice a n c] 30)) fun e w' => e = .returned (.bool true) ∧ Below (wr.alloc (.cells #[.slice a n c] 30)).heap.size (wr.alloc (.cells #[.slice a n c] 30)) w') := by
        have hA := HN.out.at_.keep ((Below.refl _ wr).alloc (Nat.le_refl _) (.cells #[.slice a n c] 30))
        have := is_any hA.d (some (1, [l])) HH.out true 1 (some ⟨wr.heap.size, 0, none⟩) 1 1 [⟨l, a, c⟩] rfl (pcs_one hl.out (hlies.out.keep HN.out.at_.b (Nat.le_refl _)) hnone.out)
        have hB : isB D5 (some (1, [l])) true 1 [l] = true := by unfold isB; rw [if_neg (by simp [DD.out]), if_pos rfl]; simp
        rw [show [(⟨l, a, c⟩ : RC)].map RC.b = [l] from rfl, hB] at this
        exact this
      have B9 : Hid (Below w.heap.size w (wr.alloc (.cells #[.slice a n c] 30))) := HN.out.at_.b.alloc HN.out.at_.b.size _
      clear hN
      go_wp2_with (go_at_call 17; refine H17.out.mono ?_)
      first | rintro e w9 rfl b9 | rintro e w9 ⟨rfl, b9⟩
      go_wp2_with fail
      go_ret
      exact ⟨rfl, B9.out.trans (b9.mono (by have := B9.out.size; simpa using this))⟩
end Go.Proofs.Ytoiopplhphllhaa
