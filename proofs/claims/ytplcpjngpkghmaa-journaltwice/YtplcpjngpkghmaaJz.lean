/-
  The law of a log that is opened again.
-/
import Derived.Test.YtplcpjngpkghmaaJy
namespace Go.Proofs.Ytplcpjngpkghmaa
open Go.RowKit Go.Maps

structure TwW (w wr : World) (pb lb k : Nat) (l : List RC) : Prop where
  j : ∃ (l' : List RC) (D : DK) (tg lt : Nat → Tg), LJ NoP w wr pb lb D (some ⟨pb, 0, none⟩) 0 l' tg lt ∧ Up D none (encB 0 (l'.map RC.b)) 16 ∧ l'.map RC.b = (l.take k).map RC.b ∧ ∀ x ∈ l'.map RC.b, x.length ≤ 1000
theorem get_lies {w V : World} {pb lb : Nat} {D : DK} {l : List RC} {tg lt : Nat → Tg} (h : LJ NoP w V pb lb D (some ⟨pb, 0, none⟩) 0 l tg lt) (hl : l.length ≤ 100000) (j : Nat) (p : List UInt8) (hp : (l.map RC.b)[j]? = some p) :
    Calls Try.prog 23 #[.pointer (some ⟨lb, 0, none⟩), .int .i64 j] V fun e w' => ∃ q c, e = .returned (.tuple #[.slice q p.length c, .int .i64 0]) ∧ Lies w' q p ∧ Below V.heap.size V w' := by
  rw [List.getElem?_map, Option.map_eq_some_iff] at hp
  obtain ⟨r, hr, rfl⟩ := hp
  have := get_ok (P := NoP) h j r hr (List.getElem?_eq_some_iff.1 hr).1 (by omega)
  rw [show (((0 : Nat) : Int) + (j : Int)) = (j : Int) by omega] at this
  refine this.mono ?_
  rintro e w' ⟨q, c, rfl, o, b⟩
  exact ⟨q, c, rfl, (own_parts o).1, b⟩
set_option maxHeartbeats 8000000 in
set_option maxRecDepth 100000 in
theorem twice_law (q : Option Addr) (m c : Nat) (l : List RC) (a a' : Option Addr) (n d n' d' : Nat) (ch more : List UInt8) (w : World) (hl : Hid (l.length = m)) (hP : Hid (Pcs w q l)) (h1 : m ≤ 140737488355328) (hb : Hid (ch.length = n)) (hL : Hid (Lies w a ch)) (hnd : Hid (n ≤ d)) (hb' : Hid (more.length = n')) (hL' : Hid (Lies w a' more)) (hnd' : Hid (n' ≤ d')) :
    Calls Try.prog 5 #[.slice q m c, .slice a n d, .slice a' n' d'] w fun e w' => e = .returned (.bool true) ∧ Below w.heap.size w w' := by
  have H9 : Hid (∀ w, Calls Try.prog 9 #[] w fun e w' => e = .returned (.bool true) ∧ Below w.heap.size w w') := fun w => awake_any w
  go_enter Try.func5, Try.ntmps5
  go_wp2_with (go_at_call 9; refine (H9.out _).mono ?_)
  rintro e w1 ⟨rfl, b1⟩
  have y1 : Hid (Below w.heap.size w w1) := b1
  clear b1
  by_cases hbig : (30 : Int) < (m : Int)
  · go_wp2_with (go_at_call 9; refine (H9.out _).mono ?_)
    rintro e w3 ⟨rfl, b3⟩
    go_wp2_with fail
    go_ret
    exact ⟨rfl, below_from y1.out b3 y1.out.size⟩
  have hm30 : (m : Int) ≤ 30 := by omega
  clear hbig
  go_wp2_with (go_at_call 11; refine (new_law w w1 y1.out).mono ?_)
  rintro e w2 ⟨pb, rfl, tg2, d2, t2, b2⟩
  have H12 : Hid (Calls Try.prog 12 #[.pointer (some ⟨pb, 0, none⟩), .slice none 0 0] w2 fun e w' => e = .returned (.pointer (some ⟨w2.heap.size, 0, none⟩)) ∧ TwW w w' pb w2.heap.size 0 l) := by
    refine (opened_fresh (P := NoP) _ b2 d2 t2 nofun).mono ?_
    rintro e w' ⟨rfl, tg', lt, j⟩
    exact ⟨rfl, ⟨[], _, tg', lt, j, ⟨rfl, rfl, rfl⟩, by simp, nofun⟩⟩
  clear d2 t2 b2
  go_wp2_with (go_at_call 12; refine H12.out.mono ?_)
  rintro e w5 ⟨rfl, h5⟩
  generalize w2.heap.size = lb at *
  have A5 : Hid (TwW w w5 pb lb 0 l) := h5
  clear h5 H12 y1 H9
  go_wp2_with fail
  go_loopw [9] (fun i wr => ∃ k : Nat, k ≤ m ∧ i = .int .i64 k ∧ TwW w wr pb lb k l) (fun i _ => m - (intOf i).toNat)
  case atStart => exact ⟨0, Nat.zero_le _, rfl, A5.out⟩
  case round =>
    obtain ⟨k, hk, rfl, hA⟩ := hrel
    obtain ⟨l', D, tg, lt, hj, hU, hmp, h80⟩ := hA.j
    have hlk : l'.length = k := by
      have := congrArg List.length hmp
      rw [List.length_map, List.length_map, List.length_take] at this
      have := hl.out
      omega
    have J : Hid (LJ NoP w wr pb lb D (some ⟨pb, 0, none⟩) 0 l' tg lt ∧ Up D none (encB 0 (l'.map RC.b)) 16 ∧ l'.map RC.b = (l.take k).map RC.b ∧ ∀ x ∈ l'.map RC.b, x.length ≤ 1000) := ⟨hj, hU, hmp, h80⟩
    have LK : Hid (l'.length = k) := hlk
    clear hA hj hU hmp h80 hlk
    by_cases hlt : k < m
    · obtain ⟨r, g, o, hr0, rfl, hc⟩ := (hP.out.keep J.out.1.b).at (k := k) (by have := hl.out; omega)
      have hi : (k : Int) < (m : Int) := by omega
      by_cases h10 : r.b.length ≤ 1000
      · have h10' : (r.b.length : Int) ≤ 1000 := by omega
        have H20 : Hid (Calls Try.prog 20 #[.pointer (some ⟨lb, 0, none⟩), .slice r.a r.b.length r.c] wr fun e w' => ∃ v, e = .returned v ∧ TwW w w' pb lb (k + 1) l) := by
          obtain ⟨hj, hU, hmp, h80⟩ := J.out
          have he := hP.out.each r (List.mem_of_getElem? hr0)
          refine (app_arg hj hU r he.1 he.2 h10 (by have := LK.out; omega) (by omega) (fun x hx => h80 x.b (List.mem_map.2 ⟨x, hx, rfl⟩))).mono ?_
          rintro e w' ⟨rfl, tg', lt', a', c', D', j', u'⟩
          obtain ⟨hk', e0⟩ := List.getElem?_eq_some_iff.1 hr0
          refine ⟨_, rfl, ⟨_, D', tg', lt', j', u', ?_, fun x hx => ?_⟩⟩
          · rw [List.map_append, hmp, List.take_succ_eq_append_getElem hk', List.map_append, e0]
            rfl
          · rw [List.map_append] at hx
            rcases List.mem_append.1 hx with hx | hx
            · exact h80 x hx
            · have : x = r.b := by simpa using hx
              rw [this]; exact h10
        clear hr0
        go_wp2_with (go_at_call 20; refine H20.out.mono ?_)
        first | rintro e w6 v6 rfl h6 | rintro e w6 ⟨v6, rfl, h6⟩
        go_wp2_with fail
        exact ⟨⟨k + 1, by omega, by go_num, h6⟩, by simp [intOf]; omega⟩
      · have h10' : 1000 < (r.b.length : Int) := by omega
        clear hr0
        go_wp2_with fail
        go_ret
        exact ⟨rfl, J.out.1.b⟩
    · have hi : ¬ (k : Int) < (m : Int) := by omega
      have hkm : k = m := by omega
      subst hkm
      have HR : Hid (l'.map RC.b = l.map RC.b) := by
        refine (?_ : l'.map RC.b = l.map RC.b)
        rw [J.out.2.2.1, List.take_of_length_le (by have := hl.out; omega)]
      obtain ⟨recs, hrecs⟩ : ∃ recs, recs = l'.map RC.b := ⟨_, rfl⟩
      have hrl : recs.length = k := by rw [hrecs, List.length_map, LK.out]
      have h80 : ∀ p ∈ recs, p.length ≤ 1000 := by rw [hrecs]; exact J.out.2.2.2
      have hel := encB_len1 0 1000 recs h80
      obtain ⟨k1, t1, sy1, hk0, hk1, hfs1, htn1, hle1⟩ := restart_log (D := D) 0 0 16 recs (fun p hp => by have := h80 p hp; omega) (Nat.zero_le _) (by rw [List.take_zero, enc0_len]) (by rw [hrecs]; exact J.out.2.1.fs) ch
      have H15 : Hid (Calls Try.prog 15 #[.pointer (some ⟨pb, 0, none⟩), .slice a n d] wr fun e w' => e = .returned (.tuple #[]) ∧ Dsk w' tg pb (restartD D ch) ∧ Below w.heap.size w w') := by
        refine (restart_any J.out.1.d ch a n d hb.out hnd.out (off_of J.out.1.t1 J.out.1.b hL.out)).mono ?_
        rintro e w' ⟨rfl, dd, st⟩
        exact ⟨rfl, dd, J.out.1.b.trans (st.below J.out.1.b.size J.out.1.t1).1⟩
      have T1 : Hid (∀ k, tg k ≠ .no → w.heap.size ≤ k) := J.out.1.t1
      have F1 : Hid ((restartD D ch).down = false ∧ (restartD D ch).fuse = none ∧ (restartD D ch).fs = fsN none (some (encB 0 (recs.take k1) ++ t1, sy1)) none) := ⟨rfl, rfl, hfs1⟩
      generalize restartD D ch = D1 at *
      have R8 : Hid (∀ p ∈ recs, p.length ≤ 1000) := h80
      have T8 : Hid (Torn t1) := htn1
      have L8 : Hid ((encB 0 (recs.take k1) ++ t1).length ≤ 1048576) := by
        have : (1000 + 8) * recs.length ≤ 1008 * 30 := Nat.mul_le_mul_left _ (by omega)
        exact Nat.le_trans hle1 (by omega)
      have RQ : Hid (recs = l.map RC.b) := hrecs.trans HR.out
      clear hfs1 htn1 hle1 hel h80 J LK HR hrecs
      go_wp2_with (go_at_call 15; refine H15.out.mono ?_)
      first | rintro e w6 rfl d6 b6 | rintro e w6 ⟨rfl, d6, b6⟩
      have R9 : Hid (∀ p ∈ recs.take k1, p.length ≤ 4080) := fun p hp => by have := R8.out p (List.mem_of_mem_take hp); omega
      have H12 : Hid (Calls Try.prog 12 #[.pointer (some ⟨pb, 0, none⟩), .slice none 0 0] w6 fun e w' => e = .returned (.pointer (some ⟨w6.heap.size, 0, none⟩)) ∧ ∃ D' lt' l3, l3.map RC.b = recs.take k1 ∧ LJ NoP w w' pb w6.heap.size D' (some ⟨pb, 0, none⟩) 0 l3 tg lt' ∧ Up D' none (encB 0 (recs.take k1)) (encB 0 (recs.take k1)).length) :=
        opened_at _ _ _ _ (open_up (P := NoP) (w0 := w) d6 T1.out b6 nofun F1.out.1 F1.out.2.1 0 (recs.take k1) t1 F1.out.2.2 (by omega) L8.out R9.out T8.out)
      clear d6 b6 H15
      go_wp2_with (go_at_call 12; refine H12.out.mono ?_)
      first | rintro e w7 rfl D7 lt7 l7 m7 j7 u7 | rintro e w7 ⟨rfl, D7, lt7, l7, m7, j7, u7⟩
      generalize hla : w6.heap.size = la at *
      have M7 : Hid (l7.map RC.b = recs.take k1) := m7
      have hl7 : l7.length = k1 := by
        have := congrArg List.length m7
        rw [List.length_map, List.length_take] at this
        omega
      obtain ⟨k2, t2, sy2, hk2, hk3, hfs2, htn2, hle2⟩ := restart_log (D := D7) 0 (recs.take k1).length (encB 0 (recs.take k1)).length (recs.take k1) R9.out (Nat.le_refl _) (by rw [List.take_length]) u7.fs more
      have hk2' : k2 = (recs.take k1).length := by omega
      have H15b : Hid (Calls Try.prog 15 #[.pointer (some ⟨pb, 0, none⟩), .slice a' n' d'] w7 fun e w' => e = .returned (.tuple #[]) ∧ LJ NoP w w' pb la (restartD D7 more) (some ⟨pb, 0, none⟩) 0 l7 tg lt7) := by
        refine (restart_any j7.d more a' n' d' hb'.out hnd'.out (off_of j7.t1 j7.b hL'.out)).mono ?_
        rintro e w' ⟨rfl, dd, st⟩
        exact ⟨rfl, j7.left dd st⟩
      rw [hk2', List.take_length] at hfs2 hle2
      have F2 : Hid ((restartD D7 more).down = false ∧ (restartD D7 more).fuse = none ∧ (restartD D7 more).fs = fsN none (some (encB 0 (recs.take k1) ++ t2, sy2)) none) := ⟨rfl, rfl, hfs2⟩
      generalize restartD D7 more = D8 at *
      have T9 : Hid (Torn t2) := htn2
      have L9 : Hid ((encB 0 (recs.take k1) ++ t2).length ≤ 1048576) := by
        have := L8.out
        rw [List.length_append] at this
        refine (?_ : (encB 0 (recs.take k1) ++ t2).length ≤ 1048576)
        omega
      clear hfs2 htn2 hle2 hk2 hk3 hk2' u7 j7 m7 H12 hla F1
      go_wp2_with (go_at_call 15; refine H15b.out.mono ?_)
      first | rintro e w8 rfl j8 | rintro e w8 ⟨rfl, j8⟩
      have H12b : Hid (Calls Try.prog 12 #[.pointer (some ⟨pb, 0, none⟩), .slice none 0 0] w8 fun e w' => e = .returned (.pointer (some ⟨w8.heap.size, 0, none⟩)) ∧ ∃ D' lt' l3, l3.map RC.b = recs.take k1 ∧ TwoL w w' pb la w8.heap.size D' l7 l3 tg lt7 lt') := by
        refine opened_at _ _ _ _ ((open_up (P := fun g o => lt7 g ≠ .no ∧ w8.heap[g]? = some o) (w0 := w) j8.d j8.t1 j8.b ?_ F2.out.1 F2.out.2.1 0 (recs.take k1) t2 F2.out.2.2 (by omega) L9.out R9.out T9.out).mono ?_)
        · rintro g o ⟨hg, ho⟩
          exact ⟨ho, no_of fun e => hg (j8.ap g e)⟩
        · rintro e w' ⟨rfl, D', lt', l3, m3, j3, -⟩
          refine ⟨rfl, D', lt', l3, m3, j8.other j3 (fun k o h1 h2 => ⟨h1, h2⟩) ?_, j3.protect nofun⟩
          by_cases h0 : w8.heap.size ≤ w'.heap.size
          · exact h0
          · obtain ⟨v3, hg3⟩ := j3.g
            have := hg3.lt_ w8.heap.size (by rw [hg3.tp]; exact nofun)
            omega
      clear j8 H15b
      go_wp2_with (go_at_call 12; refine H12b.out.mono ?_)
      first | rintro e w9 rfl D9 lt9 l9 m9 j9 | rintro e w9 ⟨rfl, D9, lt9, l9, m9, j9⟩
      generalize w8.heap.size = lc at *
      have hl9 : l9.length = k1 := by
        have := congrArg List.length m9
        rw [List.length_map, List.length_take] at this
        omega
      have M9 : Hid (l9.map RC.b = recs.take k1) := m9
      have J9 : Hid (TwoL w w9 pb la lc D9 l7 l9 tg lt7 lt9) := j9
      have FA : Hid (∀ V : World, TwoL w V pb la lc D9 l7 l9 tg lt7 lt9 → Calls Try.prog 21 #[.pointer (some ⟨la, 0, none⟩)] V fun e w' => e = .returned (.int .i64 0) ∧ w' = V) := fun V hV => by
        obtain ⟨v, hg⟩ := hV.a.g
        exact first_at V _ _ _ _ hg.cell
      have FB : Hid (∀ V : World, TwoL w V pb la lc D9 l7 l9 tg lt7 lt9 → Calls Try.prog 21 #[.pointer (some ⟨lc, 0, none⟩)] V fun e w' => e = .returned (.int .i64 0) ∧ w' = V) := fun V hV => by
        obtain ⟨v, hg⟩ := hV.b.g
        exact first_at V _ _ _ _ hg.cell
      have NA : Hid (∀ V : World, TwoL w V pb la lc D9 l7 l9 tg lt7 lt9 → Calls Try.prog 22 #[.pointer (some ⟨la, 0, none⟩)] V fun e w' => e = .returned (.int .i64 k1) ∧ TwoL w w' pb la lc D9 l7 l9 tg lt7 lt9) := fun V hV => by
        have := next_lj hV.a (by omega)
        rw [show (((0 : Nat) : Int) + (l7.length : Int)) = (k1 : Int) by omega] at this
        refine this.mono ?_
        rintro e w' ⟨rfl, bb⟩
        exact ⟨rfl, hV.keep bb⟩
      have NB : Hid (∀ V : World, TwoL w V pb la lc D9 l7 l9 tg lt7 lt9 → Calls Try.prog 22 #[.pointer (some ⟨lc, 0, none⟩)] V fun e w' => e = .returned (.int .i64 k1) ∧ TwoL w w' pb la lc D9 l7 l9 tg lt7 lt9) := fun V hV => by
        have := next_lj hV.b (by omega)
        rw [show (((0 : Nat) : Int) + (l9.length : Int)) = (k1 : Int) by omega] at this
        refine this.mono ?_
        rintro e w' ⟨rfl, bb⟩
        exact ⟨rfl, hV.keep bb⟩
      have hk1m : (k1 : Int) ≤ (k : Int) := by omega
      clear j9 m9 H12b T1 F2 T8 T9 L8 L9 R9
      go_wp2_with (go_at_call_of 21 (Value.pointer (some ⟨la, 0, none⟩)); refine (FA.out _ J9.out).mono ?_)
      first | rintro e w10 rfl rfl | rintro e w10 ⟨rfl, rfl⟩
      go_wp2_with (go_at_call 21; refine (FB.out _ J9.out).mono ?_)
      first | rintro e w11 rfl rfl | rintro e w11 ⟨rfl, rfl⟩
      go_wp2_with (go_at_call_of 22 (Value.pointer (some ⟨la, 0, none⟩)); refine (NA.out _ J9.out).mono ?_)
      first | rintro e w12 rfl j12 | rintro e w12 ⟨rfl, j12⟩
      have J12 : Hid (TwoL w w12 pb la lc D9 l7 l9 tg lt7 lt9) := j12
      clear j12
      go_wp2_with (go_at_call 22; refine (NB.out _ J12.out).mono ?_)
      first | rintro e w13 rfl j13 | rintro e w13 ⟨rfl, j13⟩
      have J13 : Hid (TwoL w w13 pb la lc D9 l7 l9 tg lt7 lt9) := j13
      clear j13
      go_wp2_with (go_at_call 22; refine (NA.out _ J13.out).mono ?_)
      first | rintro e w14 rfl j14 | rintro e w14 ⟨rfl, j14⟩
      have J14 : Hid (TwoL w w14 pb la lc D9 l7 l9 tg lt7 lt9) := j14
      clear j14
      go_wp2_with (go_at_call 21; refine (FA.out _ J14.out).mono ?_)
      first | rintro e w15 rfl rfl | rintro e w15 ⟨rfl, rfl⟩
      go_wp2_with fail
      go_loopw [12] (fun i V => ∃ j : Nat, j ≤ k1 ∧ i = .int .i64 j ∧ TwoL w V pb la lc D9 l7 l9 tg lt7 lt9) (fun i _ => k1 - (intOf i).toNat)
      case atStart => exact ⟨0, Nat.zero_le _, rfl, J14.out⟩
      case round =>
        obtain ⟨j, hj, rfl, hT⟩ := hrel
        have HT : Hid (TwoL w wr pb la lc D9 l7 l9 tg lt7 lt9) := hT
        clear hT
        go_wp2_with (go_at_call 22; refine (NA.out _ HT.out).mono ?_)
        first | rintro e x1 rfl t1 | rintro e x1 ⟨rfl, t1⟩
        have T1 : Hid (TwoL w x1 pb la lc D9 l7 l9 tg lt7 lt9) := t1
        clear t1 HT
        by_cases hjk : j < k1
        · have hji : (j : Int) < (k1 : Int) := by omega
          obtain ⟨p, hp⟩ : ∃ p, recs[j]? = some p := ⟨recs[j]'(by omega), List.getElem?_eq_getElem _⟩
          have hpt : (recs.take k1)[j]? = some p := by rw [List.getElem?_take, if_pos hjk]; exact hp
          have hp10 := R8.out p (List.mem_of_getElem? hp)
          obtain ⟨r0, g0, f0, hr0, rfl, hc0⟩ := hP.out.at (k := j) (by have := hl.out; omega)
          have hr0p : r0.b = p := by
            rw [RQ.out, List.getElem?_map, hr0] at hp
            exact Option.some.inj hp
          have hr0L := (hP.out.each r0 (List.mem_of_getElem? hr0)).1
          rw [hr0p] at hc0 hr0L
          have GA : Hid (∀ V : World, TwoL w V pb la lc D9 l7 l9 tg lt7 lt9 → Calls Try.prog 23 #[.pointer (some ⟨la, 0, none⟩), .int .i64 j] V fun e w' => ∃ q c, e = .returned (.tuple #[.slice q p.length c, .int .i64 0]) ∧ Lies w' q p ∧ Below V.heap.size V w') := fun V hV => get_lies hV.a (by omega) j p (by rw [M7.out]; exact hpt)
          have GB : Hid (∀ V : World, TwoL w V pb la lc D9 l7 l9 tg lt7 lt9 → Calls Try.prog 23 #[.pointer (some ⟨lc, 0, none⟩), .int .i64 j] V fun e w' => ∃ q c, e = .returned (.tuple #[.slice q p.length c, .int .i64 0]) ∧ Lies w' q p ∧ Below V.heap.size V w') := fun V hV => get_lies hV.b (by omega) j p (by rw [M9.out]; exact hpt)
          have SM : Hid (∀ (V : World) (q q' : Option Addr) (c c' : Nat), TwoL w V pb la lc D9 l7 l9 tg lt7 lt9 → Lies V q p → Lies V q' p → Calls Try.prog 24 #[.slice q p.length c, .slice q' p.length c'] V fun e w' => e = .returned (.bool true) ∧ TwoL w w' pb la lc D9 l7 l9 tg lt7 lt9 ∧ Lies w' q p ∧ Below V.heap.size V w') := by
            intro V q q' c c' hV h1 h2
            have := same_any p p q q' c c' V (by omega) h1 h2
            rw [decide_eq_true rfl] at this
            refine this.mono ?_
            rintro e w' ⟨rfl, bb⟩
            exact ⟨rfl, hV.keep bb, h1.keep bb (Nat.le_refl _), bb⟩
          have HL0 : Hid (Lies w r0.a p) := hr0L
          have HC0 : Hid (w.cell? ⟨g0, f0 + j, none⟩ = some (.slice r0.a p.length r0.c)) := hc0
          generalize p.length = pl at *
          clear hp hpt hr0 hr0p hr0L hc0
          go_wp2_with (go_at_call 23; refine (GA.out _ T1.out).mono ?_)
          first | rintro e x2 q2 c2 rfl li2 b2 | rintro e x2 ⟨q2, c2, rfl, li2, b2⟩
          have T2 : Hid (TwoL w x2 pb la lc D9 l7 l9 tg lt7 lt9) := T1.out.keep b2
          have X2 : Hid (Lies x2 q2 p) := li2
          clear li2 b2 T1
          go_wp2_with (go_at_call 23; refine (GB.out _ T2.out).mono ?_)
          first | rintro e x3 q3 c3 rfl li3 b3 | rintro e x3 ⟨q3, c3, rfl, li3, b3⟩
          have T3 : Hid (TwoL w x3 pb la lc D9 l7 l9 tg lt7 lt9) := T2.out.keep b3
          have X3 : Hid (Lies x3 q2 p) := X2.out.keep b3 (Nat.le_refl _)
          have Y3 : Hid (Lies x3 q3 p) := li3
          clear li3 b3 T2 X2
          go_wp2_with (go_at_call 24; refine (SM.out _ _ _ _ _ T3.out X3.out Y3.out).mono ?_)
          first | rintro e x4 rfl t4 li4 b4 | rintro e x4 ⟨rfl, t4, li4, b4⟩
          have T4 : Hid (TwoL w x4 pb la lc D9 l7 l9 tg lt7 lt9) := t4
          have X4 : Hid (Lies x4 q2 p) := li4
          have Z4 : Hid (Lies x4 r0.a p) := HL0.out.keep t4.a.b (Nat.le_refl _)
          have hc4 : x4.cell? ⟨g0, f0 + j, none⟩ = some (.slice r0.a pl r0.c) := (t4.a.b.cell (block_lt_of_cell HC0.out)).trans HC0.out
          clear t4 li4 b4 T3 X3 Y3
          have hjm : (j : Int) < (k : Int) := by omega
          go_wp2_with (go_at_call 24; refine (SM.out _ _ _ _ _ T4.out X4.out Z4.out).mono ?_)
          first | rintro e x5 rfl t5 li5 b5 | rintro e x5 ⟨rfl, t5, li5, b5⟩
          have T5 : Hid (TwoL w x5 pb la lc D9 l7 l9 tg lt7 lt9) := t5
          clear t5 li5 b5
          go_wp2_with fail
          exact ⟨⟨j + 1, by omega, by go_num, T5.out⟩, by simp [intOf]; omega⟩
        · have hji : ¬ (j : Int) < (k1 : Int) := by omega
          go_wp2_with fail
          go_ret
          exact ⟨rfl, T1.out.a.b⟩
end Go.Proofs.Ytplcpjngpkghmaa
