/-
  The journal's load and Open of a disk with a log's file, without a fuse.
-/
import Derived.Test.YtplcpjngpkghmaaJt
namespace Go.Proofs.Ytplcpjngpkghmaa
open Go.RowKit Go.Maps
variable {P : Nat → Obj → Prop}

open Classical in
/-- what each block of a log is that was loaded -/
noncomputable def tgM2 (lb : Nat) (v : Value) (l : List RC) : Nat → Tg := fun k => if k = lb then .dk else if v.ownBlock = some k then .mp else if ∃ r ∈ l, r.v.ownBlock = some k then .rw [] else .no
theorem tgM2_ne {lb : Nat} {v : Value} {l : List RC} {k : Nat} (h : tgM2 lb v l k ≠ .no) : k = lb ∨ v.ownBlock = some k ∨ ∃ r ∈ l, r.v.ownBlock = some k := by
  unfold tgM2 at h
  split at h
  · exact .inl (by assumption)
  · split at h
    · exact .inr (.inl (by assumption))
    · split at h
      · exact .inr (.inr (by assumption))
      · exact absurd rfl h
/-- a log is given what was decoded -/
theorem LJ.take {w0 wa w : World} {pb lb : Nat} {D : DK} {tg lt : Nat → Tg} (h : LJ P w0 wa pb lb D (some ⟨pb, 0, none⟩) 0 [] tg lt) (b : Below wa.heap.size wa w) (first : Nat) (v : Value) (l : List RC) (hP : PsOwn w wa.heap.size v l) (h80 : ∀ r ∈ l, r.b.length ≤ 4080) (hl : l.length ≤ 1048576) (hf : first + l.length < 4611686018427387904) :
    LJ P w0 ((w.setCell ⟨lb, 1, none⟩ (.int .i64 first)).setCell ⟨lb, 2, none⟩ v) pb lb D (some ⟨pb, 0, none⟩) first l tg (tgM2 lb v l) := by
  obtain ⟨v0, hg⟩ := h.g
  have hlb : lb < wa.heap.size := hg.lt_ lb (by rw [hg.tp]; exact nofun)
  have tlb : tg lb = .no := no_of fun e => by have := h.ap lb e; rw [hg.tp] at this; cases this
  have hcell : w.heap[lb]? = some (.cells #[.pointer (some ⟨pb, 0, none⟩), .int .i64 (0 : Nat), v0] 77 (0, 0)) := at_below b (Nat.le_refl _) hg.cell
  have hk := h.keep b
  have hset : ∀ g, g ≠ lb → ((w.setCell ⟨lb, 1, none⟩ (.int .i64 first)).setCell ⟨lb, 2, none⟩ v).heap[g]? = w.heap[g]? := fun g hg => by
    rw [Below.heap_setCell _ _ _ _ hg, Below.heap_setCell _ _ _ _ hg]
  have hsz : ((w.setCell ⟨lb, 1, none⟩ (.int .i64 first)).setCell ⟨lb, 2, none⟩ v).heap.size = w.heap.size := by simp [World.setCell]
  have hv := World.ownsRow.lt hP.row
  have hr : ∀ r ∈ l, ∀ g, r.v.ownBlock = some g → wa.heap.size ≤ g ∧ g < w.heap.size := fun r hr => World.ownsRow.lt (hP.each r hr)
  have hw := b.size
  have lw : w0.heap.size ≤ lb := h.t2 lb (by rw [hg.tp]; exact nofun)
  refine ⟨hk.d.keep (fun k e => hset k fun e2 => e (by rw [e2]; exact tlb)) (by omega), ⟨v, ?_, ?_, ?_, ?_, ?_, hl, hf, ?_⟩, fun k e => no_of fun e2 => ?_, h.t1, fun k e => ?_, (hk.b.setCell (p := ⟨lb, 1, none⟩) lw _).setCell (p := ⟨lb, 2, none⟩) lw _, fun g o hp => ?_⟩
  · exact setB (setB hcell _) _
  · unfold tgM2; rw [if_pos rfl]
  · have : w.ownsRow 0 31 1 v l.length (l.map RC.v) := (hP.low (Nat.zero_le _)).row
    exact ownsKeep this fun g hg => hset g (by have := (hv g hg).1; omega)
  · intro g hg
    have := (hv g hg).1
    unfold tgM2
    rw [if_neg (by omega), if_pos hg]
  · intro r hr1
    obtain ⟨hL, hz, -⟩ := own_parts (hP.each r hr1)
    refine ⟨?_, hz, h80 r hr1⟩
    by_cases h0 : r.b = []
    · exact .inl h0
    · rcases hL with h1 | ⟨g, o, e, hrow⟩
      · exact absurd h1 h0
      · have hob : r.v.ownBlock = some g := by
          obtain ⟨g', c', e', _⟩ := (hP.each r hr1).posn (List.length_pos_iff.2 h0)
          have e2 : r.a = some ⟨g', 0, none⟩ := by unfold RC.v at e'; exact (Value.slice.inj e').1
          rw [e] at e2
          cases e2
          unfold RC.v
          rw [e]
          rfl
        have hgb := hr r hr1 g hob
        refine .inr ⟨g, o, e, hrow.keepAt (hset g (by omega)), ?_⟩
        unfold tgM2
        rw [if_neg (by omega), if_neg (fun e3 => owns_ne (w := w) (hP.each r hr1) hP.row (by decide) hob e3), if_pos ⟨r, hr1, hob⟩]
  · intro k hk2
    rw [hsz]
    rcases tgM2_ne hk2 with rfl | e | ⟨r, hr1, e⟩
    · omega
    · exact (hv k e).2
    · exact (hr r hr1 k e).2
  · have hka := h.d.lt e
    rcases tgM2_ne e2 with rfl | e3 | ⟨r, hr1, e3⟩
    · exact e tlb
    · have := (hv k e3).1; omega
    · have := (hr r hr1 k e3).1; omega
  · rcases tgM2_ne e with rfl | e3 | ⟨r, hr1, e3⟩
    · exact lw
    · have := (hv k e3).1; have := h.b.size; omega
    · have := (hr r hr1 k e3).1; have := h.b.size; omega
  · obtain ⟨p1, p2, p3⟩ := h.pr g o hp
    have hga := (Array.getElem?_eq_some_iff.1 p1).1
    have hgl : g ≠ lb := fun e => by rw [e, hg.tp] at p3; cases p3
    refine ⟨(hset g hgl).trans (at_below b (Nat.le_refl _) p1), p2, no_of fun e => ?_⟩
    rcases tgM2_ne e with e3 | e3 | ⟨r, hr1, e3⟩
    · exact hgl e3
    · have := (hv g e3).1; omega
    · have := (hr r hr1 g e3).1; omega
set_option maxHeartbeats 2000000 in
set_option maxRecDepth 100000 in
theorem load_at {w0 w : World} {pb lb : Nat} {D D' : DK} {tg lt : Nat → Tg} (h : Hid (LJ P w0 w pb lb D (some ⟨pb, 0, none⟩) 0 [] tg lt)) (first m wh : Nat) (recs : List (List UInt8)) (t : List UInt8) (hn : first < 2305843009213693952) (hm : m ≤ 1048576) (hwh : Hid ((encB first recs).length = wh)) (hwp : 0 < wh)
    (hrd : Hid (readD D nmL = (0, encB first recs ++ t))) (hml : Hid ((encB first recs ++ t).length = m)) (hp : Hid (∀ p ∈ recs, p.length ≤ 4080)) (ht : Hid (Torn t)) (hmd : Hid (mendD D wh m = (0, D'))) :
    Calls Try.prog 48 #[.pointer (some ⟨lb, 0, none⟩)] w fun e w' => e = .returned (.int .i64 0) ∧ ∃ lt' l, l.map RC.b = recs ∧ LJ P w0 w' pb lb D' (some ⟨pb, 0, none⟩) first l tg lt' := by
  obtain ⟨v, hg⟩ := h.out.g
  obtain ⟨e0, e1, e2⟩ := k3 hg.cell
  have H30 : Hid (Calls Try.prog 30 #[.pointer (some ⟨pb, 0, none⟩), .string ⟨#[108, 111, 103]⟩] w fun e w' => ∃ g c, e = .returned (.tuple #[.slice (some ⟨g, 0, none⟩) m c, .int .i64 0]) ∧ Row w' g 0 (encB first recs ++ t) ∧ m ≤ c ∧ c ≤ 9223372036854775807 ∧ Below w.heap.size w w') := by
    have := read_any h.out.d ⟨⟨nmL⟩⟩ (by decide)
    rw [show readD D (⟨⟨nmL⟩⟩ : ByteArray).data.toList = (0, encB first recs ++ t) from hrd.out] at this
    refine this.mono ?_
    rintro e w' ⟨u, rfl, o, b⟩
    have hpos : 0 < (encB first recs ++ t).length := by rw [List.length_append, hwh.out]; omega
    obtain ⟨g, c, rfl, -, -⟩ := o.posn hpos
    have hcap := own_cap o
    obtain ⟨hL, -, -⟩ := own_parts o
    rw [hml.out] at hcap
    refine ⟨g, c, by rw [hml.out], ?_, hcap.1, hcap.2, b⟩
    rcases hL with h0 | ⟨g', o', e3, hr'⟩
    · have h0 : encB first recs ++ t = [] := h0
      rw [h0] at hpos; simp at hpos
    · cases e3; exact hr'
  clear hg
  go_enter Try.func48, Try.ntmps48
  go_wp2_with (go_at_call 30; refine H30.out.mono ?_)
  rintro e w1 ⟨g1, c1, rfl, hr1, hc1, hc2, b1⟩
  have J1 : Hid (LJ P w0 w1 pb lb D (some ⟨pb, 0, none⟩) 0 [] tg lt) := h.out.keep b1
  have H62 : Hid (Calls Try.prog 62 #[.slice (some ⟨g1, 0, none⟩) m c1] w1 fun e w' => ∃ q n c l, e = .returned (.tuple #[.int .i64 first, .slice q n c, .int .i64 wh]) ∧ PsOwn w' w1.heap.size (.slice q n c) l ∧ l.map RC.b = recs ∧ Below w1.heap.size w1 w') := by
    have := decode_any first recs t (by omega) hp.out ht.out g1 0 c1 m w1 hml.out hr1 hc1 hc2 hm
    rw [hwh.out] at this
    refine this.mono ?_
    rintro e w' ⟨v, l, rfl, x1, x2, x3⟩
    obtain ⟨q, c, rfl⟩ := sl_own x1.row
    exact ⟨q, _, c, l, rfl, x1, x2, x3⟩
  clear hr1 b1 H30 e0 e1 e2
  go_wp2_with (go_at_call 62; refine H62.out.mono ?_)
  rintro e w2 ⟨q2, n2, c2, l2, rfl, p2, m2, b2⟩
  obtain ⟨vv, hg2⟩ := (J1.out.keep b2).g
  obtain ⟨e0, e1, e2⟩ := k3 hg2.cell
  have f1 := fz hg2.cell 1
  have f2 := fz hg2.cell 2
  have hll : l2.length = recs.length := by rw [← m2, List.length_map]
  have hrl := encB_lo first recs t
  have J3 : Hid (LJ P w0 ((w2.setCell ⟨lb, 1, none⟩ (.int .i64 first)).setCell ⟨lb, 2, none⟩ (.slice q2 n2 c2)) pb lb D (some ⟨pb, 0, none⟩) first l2 tg (tgM2 lb (.slice q2 n2 c2) l2)) := J1.out.take b2 first _ l2 p2 (fun r hr => hp.out r.b (by rw [← m2]; exact List.mem_map.2 ⟨r, hr, rfl⟩)) (by rw [hml.out] at hrl; omega) (by rw [hml.out] at hrl; omega)
  have H63 : Hid (Calls Try.prog 63 #[.pointer (some ⟨pb, 0, none⟩), .int .i64 wh, .int .i64 m] ((w2.setCell ⟨lb, 1, none⟩ (.int .i64 first)).setCell ⟨lb, 2, none⟩ (.slice q2 n2 c2)) fun e w' => e = .returned (.int .i64 0) ∧ LJ P w0 w' pb lb D' (some ⟨pb, 0, none⟩) first l2 tg (tgM2 lb (.slice q2 n2 c2) l2)) := by
    have := mend_any J3.out.d wh m
    rw [hmd.out] at this
    refine this.mono ?_
    rintro e w' ⟨rfl, d, st⟩
    exact ⟨rfl, J3.out.left d st⟩
  have M2 : Hid (l2.map RC.b = recs) := m2
  obtain ⟨v3, hg3⟩ := J3.out.g
  obtain ⟨z0, -, -⟩ := k3 hg3.cell
  have hwz : ((wh : Int) == 0) = false := by simp; omega
  clear p2 m2 b2 hg2 H62 hg3 hll hrl
  go_wp2_with (go_at_call 63; refine H63.out.mono ?_)
  first | rintro e w4 rfl j4 | rintro e w4 ⟨rfl, j4⟩
  go_wp2_with fail
  go_ret
  exact ⟨rfl, _, l2, M2.out, j4⟩
set_option maxHeartbeats 1000000 in
set_option maxRecDepth 100000 in
/-- Open of a disk with a log's file, without a fuse -/
theorem open_up {w0 w : World} {pb : Nat} {D : DK} {tg : Nat → Tg} (h : Hid (Dsk w tg pb D)) (htg : Hid (∀ k, tg k ≠ .no → w0.heap.size ≤ k)) (hb : Hid (Below w0.heap.size w0 w)) (hpr : Hid (∀ g o, P g o → w.heap[g]? = some o ∧ tg g = .no)) {o y : OB} {sy : Nat} (hd : Hid (D.down = false)) (hu : Hid (D.fuse = none)) (first : Nat) (recs : List (List UInt8)) (t : List UInt8) (hfs : Hid (D.fs = fsN o (some (encB first recs ++ t, sy)) y)) (hn : first < 2305843009213693952) (hm : Hid ((encB first recs ++ t).length ≤ 1048576)) (hp : Hid (∀ p ∈ recs, p.length ≤ 4080)) (ht : Hid (Torn t)) :
    Calls Try.prog 27 #[.pointer (some ⟨pb, 0, none⟩)] w fun e w' => e = .returned (.tuple #[.pointer (some ⟨w.heap.size, 0, none⟩), .int .i64 0]) ∧ ∃ D' lt l, l.map RC.b = recs ∧ LJ P w0 w' pb w.heap.size D' (some ⟨pb, 0, none⟩) first l tg lt ∧ Up D' o (encB first recs) (encB first recs).length := by
  have H17 : Hid (Calls Try.prog 17 #[.pointer (some ⟨pb, 0, none⟩)] w fun e w' => e = .returned (.bool false) ∧ w' = w) := by
    obtain ⟨_, _, _, dd⟩ := h.out
    have hc := dd.cell
    rw [hd.out] at hc
    exact down_at w pb _ _ _ false hc
  have HJ : Hid (LJ P w0 (w.alloc (.cells #[.pointer (some ⟨pb, 0, none⟩), .int .i64 0, .slice none 0 0] 77)) pb w.heap.size D (some ⟨pb, 0, none⟩) 0 [] tg (tgN w.heap.size)) := by
    have b : Below w.heap.size w (w.alloc (.cells #[.pointer (some ⟨pb, 0, none⟩), .int .i64 0, .slice none 0 0] 77)) := (Below.refl _ w).alloc (Nat.le_refl _) _
    refine ⟨h.out.keepB b, ⟨.slice none 0 0, new0, by simp [tgN], World.ownsRow_nil _ _ _ _, nofun, nofun, Nat.zero_le _, by simp, fun k hk => ?_⟩, fun k hk => no_of fun e => ?_, htg.out, fun k hk => ?_, hb.out.trans (b.mono hb.out.size), fun g o hp => ⟨at_below b (Nat.le_refl _) (hpr.out g o hp).1, (hpr.out g o hp).2, no_of fun e => ?_⟩⟩
    · rw [tgN_new hk]; simp
    · have := h.out.lt hk
      rw [tgN_new e] at this
      omega
    · rw [tgN_new hk]; exact hb.out.size
    · have := (Array.getElem?_eq_some_iff.1 (hpr.out g o hp).1).1
      rw [tgN_new e] at this
      exact Nat.lt_irrefl _ this
  obtain ⟨D', hmd, hup⟩ := mend_up hd.out hu.out hfs.out
  have H48 : Hid (Calls Try.prog 48 #[.pointer (some ⟨w.heap.size, 0, none⟩)] (w.alloc (.cells #[.pointer (some ⟨pb, 0, none⟩), .int .i64 0, .slice none 0 0] 77)) fun e w' => e = .returned (.int .i64 0) ∧ ∃ lt' l, l.map RC.b = recs ∧ LJ P w0 w' pb w.heap.size D' (some ⟨pb, 0, none⟩) first l tg lt') := by
    refine load_at HJ.out first _ _ recs t hn hm.out rfl ?_ ?_ rfl hp.out ht.out hmd
    · have : (Crc.frame (num8 first)).length ≤ (encB first recs).length := by unfold encB; rw [List.length_append]; omega
      rw [Crc.frame_length] at this
      omega
    · show readD D nmL = _
      unfold readD
      rw [if_neg (by simp [hd.out]), hfs.out, fnd_L]
      rfl
  have UP : Hid (Up D' o (encB first recs) (encB first recs).length) := hup
  clear hmd hup
  go_enter Try.func27, Try.ntmps27
  go_wp2_with (go_at_call 17; refine H17.out.mono ?_)
  rintro e w1 ⟨rfl, rfl⟩
  go_wp2_with (go_at_call 48; refine H48.out.mono ?_)
  rintro e w2 ⟨rfl, lt2, l2, m2, j2⟩
  have J2 : Hid (l2.map RC.b = recs ∧ LJ P w0 w2 pb w1.heap.size D' (some ⟨pb, 0, none⟩) first l2 tg lt2) := ⟨m2, j2⟩
  clear j2 m2 H48
  go_wp2_with (go_at_call 44; refine (opr_ok w2 _).mono ?_)
  rintro e w3 ⟨rfl, rfl⟩
  go_wp2_with fail
  go_ret2
  exact ⟨rfl, D', lt2, l2, J2.out.1, J2.out.2, UP.out⟩
set_option maxHeartbeats 1000000 in
theorem opened_at {w : World} (p u v : Value) (R : World → Prop) (H27 : Hid (Calls Try.prog 27 #[p] w fun e w' => e = .returned (.tuple #[v, .int .i64 0]) ∧ R w')) :
    Calls Try.prog 12 #[p, u] w fun e w' => e = .returned v ∧ R w' := by
  go_enter Try.func12, Try.ntmps12
  go_wp2_with fail
  go_loopw [5] (fun i wr => i = .int .i64 0 ∧ wr = w) (fun _ _ => 0)
  case atStart => exact ⟨rfl, rfl⟩
  case round =>
    obtain ⟨rfl, rfl⟩ := hrel
    go_wp2_with (go_at_call 27; refine H27.out.mono ?_)
    first | rintro e w1 rfl h1 | rintro e w1 ⟨rfl, h1⟩
    go_wp2_with fail
    go_ret
    exact ⟨rfl, h1⟩
end Go.Proofs.Ytplcpjngpkghmaa
