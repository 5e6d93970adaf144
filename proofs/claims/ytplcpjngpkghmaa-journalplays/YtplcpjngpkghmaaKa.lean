/-
  The journal's Append and Sync that are lost.
-/
import Derived.Test.YtplcpjngpkghmaaJy
namespace Go.Proofs.Ytplcpjngpkghmaa
open Go.RowKit Go.Maps
variable {P : Nat → Obj → Prop}

/-- the log lets go of its disk -/
theorem LJ.over {w0 w : World} {pb lb first : Nat} {D : DK} {pt : Option Addr} {l : List RC} {tg lt : Nat → Tg} (h : LJ P w0 w pb lb D pt first l tg lt) : LJ P w0 (w.setCell ⟨lb, 0, none⟩ (.pointer none)) pb lb D none first l tg lt := by
  obtain ⟨v, hg⟩ := h.g
  have tlb : tg lb = .no := no_of fun e => by have := h.ap lb e; rw [hg.tp] at this; cases this
  have lw : w0.heap.size ≤ lb := h.t2 lb (by rw [hg.tp]; exact nofun)
  have hset : ∀ g, g ≠ lb → (w.setCell ⟨lb, 0, none⟩ (.pointer none)).heap[g]? = w.heap[g]? := fun g hg => Below.heap_setCell _ _ _ _ hg
  have hsz : (w.setCell ⟨lb, 0, none⟩ (.pointer none)).heap.size = w.heap.size := by simp [World.setCell]
  have ho : ∀ g, v.ownBlock = some g → g ≠ lb := fun g e e2 => by have := hg.tm g e; rw [e2, hg.tp] at this; cases this
  have hl : LgAt (w.setCell ⟨lb, 0, none⟩ (.pointer none)) lt lb none first v l := by
    refine ⟨setB hg.cell _, hg.tp, ownsKeep hg.own fun g e => hset g (ho g e), hg.tm, fun r hr => (hg.fl r hr).keep (fun k hk => hset k fun e2 => ?_) (fun _ hk => hk), hg.len, hg.bd, fun k hk => ?_⟩
    · rw [e2, hg.tp] at hk; cases hk
    · rw [hsz]; exact hg.lt_ k hk
  refine ⟨h.d.keep (fun k e => hset k fun e2 => e (by rw [e2]; exact tlb)) (by omega), ⟨v, hl⟩, h.ap, h.t1, h.t2, h.b.setCell (p := ⟨lb, 0, none⟩) lw _, fun g o hp => ?_⟩
  obtain ⟨p1, p2, p3⟩ := h.pr g o hp
  exact ⟨(hset g fun e => by rw [e, hg.tp] at p3; cases p3).trans p1, p2, p3⟩
set_option maxHeartbeats 1000000 in
theorem lsy_lost {w0 w : World} {pb lb first : Nat} {D : DK} {l : List RC} {tg lt : Nat → Tg} (h : Hid (LJ P w0 w pb lb D (some ⟨pb, 0, none⟩) first l tg lt)) (D' : DK) (hA : Hid (syncD D nmL = (11, D'))) :
    Calls Try.prog 26 #[.pointer (some ⟨lb, 0, none⟩)] w fun e w' => e = .returned (.int .i64 11) ∧ LJ P w0 w' pb lb D' none first l tg lt := by
  obtain ⟨v, hg⟩ := h.out.g
  obtain ⟨e0, e1, e2⟩ := k3 hg.cell
  have H42 : Hid (Calls Try.prog 42 #[.pointer (some ⟨lb, 0, none⟩)] w fun e w' => e = .returned (.bool false) ∧ w' = w) := over_no w lb _ _ _ hg.cell
  have H29 : Hid (Calls Try.prog 29 #[.pointer (some ⟨pb, 0, none⟩), .string ⟨#[108, 111, 103]⟩] w fun e w' => e = .returned (.int .i64 11) ∧ LJ P w0 w' pb lb D' (some ⟨pb, 0, none⟩) first l tg lt) := by
    have := sync_any h.out.d ⟨⟨nmL⟩⟩ (by decide)
    have hA' : syncD D (⟨⟨nmL⟩⟩ : ByteArray).data.toList = (11, D') := hA.out
    rw [hA'] at this
    refine this.mono ?_
    rintro e w' ⟨rfl, d, st⟩
    exact ⟨rfl, h.out.left d st⟩
  clear hg
  go_enter Try.func26, Try.ntmps26
  go_wp2_with (go_at_call 42; refine H42.out.mono ?_)
  rintro e w1 ⟨rfl, rfl⟩
  go_wp2_with (go_at_call 29; refine H29.out.mono ?_)
  rintro e w2 ⟨rfl, h2⟩
  have H2 : Hid (LJ P w0 w2 pb lb D' (some ⟨pb, 0, none⟩) first l tg lt) := h2
  obtain ⟨v2, hg2⟩ := h2.g
  have H44 : Hid (Calls Try.prog 44 #[.pointer (some ⟨lb, 0, none⟩), .int .i64 11] w2 fun e w' => e = .returned (.int .i64 11) ∧ w' = w2.setCell ⟨lb, 0, none⟩ (.pointer none)) := opr_lost w2 lb _ _ _ 11 rfl rfl rfl hg2.cell
  clear h2 hg2
  go_wp2_with (go_at_call 44; refine H44.out.mono ?_)
  rintro e w3 ⟨rfl, rfl⟩
  go_wp2_with fail
  go_ret
  exact ⟨rfl, H2.out.over⟩
set_option maxHeartbeats 1000000 in
theorem ltr_first_lost {w0 w : World} {pb lb first : Nat} {D : DK} {l : List RC} {tg lt : Nat → Tg} (h : Hid (LJ P w0 w pb lb D (some ⟨pb, 0, none⟩) first l tg lt)) (D' : DK) (hA : Hid (syncD D nmL = (11, D'))) :
    Calls Try.prog 25 #[.pointer (some ⟨lb, 0, none⟩), .int .i64 first] w fun e w' => e = .returned (.int .i64 11) ∧ LJ P w0 w' pb lb D' none first l tg lt := by
  obtain ⟨v, hg⟩ := h.out.g
  obtain ⟨q, c, rfl⟩ := lg_slice hg
  have H42 : Hid (Calls Try.prog 42 #[.pointer (some ⟨lb, 0, none⟩)] w fun e w' => e = .returned (.bool false) ∧ w' = w) := over_no w lb _ _ _ hg.cell
  have H21 : Hid (Calls Try.prog 21 #[.pointer (some ⟨lb, 0, none⟩)] w fun e w' => e = .returned (.int .i64 first) ∧ w' = w) := first_at w lb _ _ _ hg.cell
  have H22 : Hid (Calls Try.prog 22 #[.pointer (some ⟨lb, 0, none⟩)] w fun e w' => e = .returned (.int .i64 ((first : Int) + l.length)) ∧ Below w.heap.size w w') := next_at w lb _ _ _ _ _ (by omega) (by have := hg.bd; omega) hg.cell
  have HC : Hid (w.heap[lb]? = some (.cells #[.pointer (some ⟨pb, 0, none⟩), .int .i64 first, .slice q l.length c] 77 (0, 0))) := hg.cell
  clear hg
  have g2 : (first : Int) ≤ (first : Int) + l.length := by omega
  go_enter Try.func25, Try.ntmps25
  go_wp2_with (go_at_call 42; refine H42.out.mono ?_)
  rintro e w1 ⟨rfl, rfl⟩
  go_wp2_with (first | (go_at_call 21; refine H21.out.mono ?_; rintro e w2 ⟨rfl, rfl⟩) | (go_at_call 22; refine H22.out.mono ?_))
  first | rintro e w3 rfl b3 | rintro e w3 ⟨rfl, b3⟩
  obtain ⟨e0, e1, e2⟩ := k3 (at_below b3 (Nat.le_refl _) HC.out)
  have H26 : Hid (Calls Try.prog 26 #[.pointer (some ⟨lb, 0, none⟩)] w3 fun e w' => e = .returned (.int .i64 11) ∧ LJ P w0 w' pb lb D' none first l tg lt) := lsy_lost (h.out.keep b3) D' hA
  clear b3
  go_wp2_with (go_at_call 26; refine H26.out.mono ?_)
  first | rintro e w4 rfl h4 | rintro e w4 ⟨rfl, h4⟩
  go_wp2_with fail
  go_ret
  exact ⟨rfl, h4⟩
set_option maxHeartbeats 2000000 in
theorem lap_lost {w0 w : World} {pb lb first : Nat} {D : DK} {l : List RC} {tg lt : Nat → Tg} (h : Hid (LJ P w0 w pb lb D (some ⟨pb, 0, none⟩) first l tg lt)) (b : List UInt8) (q : Option Addr) (n c : Nat) (hn : n ≤ 4080) (hb : Hid (b.length = n)) (hz : Hid (q = none → c = 0)) (hL : Hid (LiesOff w tg q b)) (D' : DK) (hA : Hid (appendD D nmL (Crc.frame b) = (11, D'))) :
    Calls Try.prog 20 #[.pointer (some ⟨lb, 0, none⟩), .slice q n c] w fun e w' => e = .returned (.tuple #[.int .i64 0, .int .i64 11]) ∧ ∃ tg', LJ P w0 w' pb lb D' none first l tg' lt := by
  obtain ⟨v, hg⟩ := h.out.g
  have H42 : Hid (Calls Try.prog 42 #[.pointer (some ⟨lb, 0, none⟩)] w fun e w' => e = .returned (.bool false) ∧ w' = w) := over_no w lb _ _ _ hg.cell
  have H43 : Hid (Calls Try.prog 43 #[.slice q n c] w fun e w' => ∃ q' c', e = .returned (.tuple #[.slice q' (n + 8 : Nat) c', .int .i64 0]) ∧ Own w' w.heap.size (.slice q' (n + 8 : Nat) c') (Crc.frame b) ∧ Below w.heap.size w w') := by
    have := frame_any b q c w (by rw [hb.out]; omega) hL.out.lies hz.out
    rw [hb.out] at this
    exact this
  clear hg
  have hn1 : (n : Int) ≤ 4080 := by omega
  go_enter Try.func20, Try.ntmps20
  go_wp2_with (go_at_call 42; refine H42.out.mono ?_)
  rintro e w1 ⟨rfl, rfl⟩
  go_wp2_with (go_at_call 43; refine H43.out.mono ?_)
  first | rintro e w2 q2 c2 rfl o2 b2 | rintro e w2 ⟨q2, c2, rfl, o2, b2⟩
  have H2 : Hid (LJ P w0 w2 pb lb D (some ⟨pb, 0, none⟩) first l tg lt) := h.out.keep b2
  have H28 : Hid (Calls Try.prog 28 #[.pointer (some ⟨pb, 0, none⟩), .string ⟨#[108, 111, 103]⟩, .slice q2 (n + 8) c2] w2 fun e w' => e = .returned (.int .i64 11) ∧ ∃ tg', LJ P w0 w' pb lb D' (some ⟨pb, 0, none⟩) first l tg' lt) := by
    obtain ⟨h1, h2, h3⟩ := own_parts o2
    have hoff : LiesOff w2 tg q2 (Crc.frame b) := lo_own o2 fun g hg => no_of fun e => by have := h.out.d.lt e; omega
    have := append_any H2.out.d ⟨⟨nmL⟩⟩ (by decide) q2 (n + 8) c2 (Crc.frame b) (by omega) h3 h2 hoff
    have hA' : appendD D (⟨⟨nmL⟩⟩ : ByteArray).data.toList (Crc.frame b) = (11, D') := hA.out
    rw [hA'] at this
    refine this.mono ?_
    rintro e w' ⟨rfl, tg', d, st⟩
    exact ⟨rfl, tg', H2.out.left d st⟩
  obtain ⟨v2, hg2⟩ := H2.out.g
  obtain ⟨e0, e1, e2⟩ := k3 hg2.cell
  clear hg2 o2 b2 H43 H42
  go_wp2_with (go_at_call 28; refine H28.out.mono ?_)
  first | rintro e w3 rfl tg3 h3 | rintro e w3 ⟨rfl, tg3, h3⟩
  have H3 : Hid (LJ P w0 w3 pb lb D' (some ⟨pb, 0, none⟩) first l tg3 lt) := h3
  obtain ⟨v3, hg3⟩ := h3.g
  have H44 : Hid (Calls Try.prog 44 #[.pointer (some ⟨lb, 0, none⟩), .int .i64 11] w3 fun e w' => e = .returned (.int .i64 11) ∧ w' = w3.setCell ⟨lb, 0, none⟩ (.pointer none)) := opr_lost w3 lb _ _ _ 11 rfl rfl rfl hg3.cell
  clear h3 hg3 H28 e0 e1 e2
  go_wp2_with (go_at_call 44; refine H44.out.mono ?_)
  first | rintro e w4 rfl rfl | rintro e w4 ⟨rfl, rfl⟩
  go_wp2_with fail
  go_ret2
  exact ⟨rfl, tg3, H3.out.over⟩
end Go.Proofs.Ytplcpjngpkghmaa
