/-
  The law of other files: its walk.
-/
import Derived.Test.YtplcpjngpkghmaaJv
namespace Go.Proofs.Ytplcpjngpkghmaa
open Go.RowKit Go.Maps

theorem ap_append (l : List UInt8) (h : l.length ≤ 10000) : appendD DK.new nmO l = (0, ⟨fsN (some (l, 0)) none none, false, none⟩) := by
  have e1 : okN nmO = true := by decide
  have e2 : fnd Fil.nm nmO DK.new.fs = none := rfl
  unfold appendD
  rw [e1, e2]
  have e3 : ¬ 1048576 < l.length := by omega
  simp [DK.new, e3, burn, ins, fsN, one]
theorem ap_sync (l : List UInt8) : syncD ⟨fsN (some (l, 0)) none none, false, none⟩ nmO = (0, ⟨fsN (some (l, l.length)) none none, false, none⟩) := by rfl
theorem remove_O {D : DK} {x y : OB} {p : List UInt8 × Nat} (hd : D.down = false) (hu : D.fuse = none) (h : D.fs = fsN (some p) x y) : (removeD D nmO).1 = 0 ∧ (removeD D nmO).2.fs = fsN none x y ∧ (removeD D nmO).2.down = false ∧ (removeD D nmO).2.fuse = none := by
  have hb : burn D = (true, D) := by unfold burn; rw [hu]
  have e : removeD D nmO = (0, ⟨fsN none x y, D.down, D.fuse⟩) := by
    unfold removeD
    rw [hd, h, fnd_O, drp_O, hb]
    simp [hd]
  rw [e]
  exact ⟨rfl, rfl, hd, hu⟩
/-- the memory of the law's loop -/
structure ApW (w wr : World) (pb lb k : Nat) (l : List RC) (o : OB) : Prop where
  j : ∃ (l' : List RC) (D : DK) (tg lt : Nat → Tg) (sy : Nat), LJ NoP w wr pb lb D (some ⟨pb, 0, none⟩) 0 l' tg lt ∧ Up D o (encB 0 (l'.map RC.b)) sy ∧ l'.length = k ∧ ∀ x ∈ l', x.b.length ≤ 1000
def TrR (w w' : World) (pb lb z : Nat) (l2 : List RC) (lt : Nat → Tg) (o : OB) : Prop := ∃ (tg' : Nat → Tg) (D' : DK) (sy' : Nat), LJ NoP w w' pb lb D' (some ⟨pb, 0, none⟩) z l2 tg' lt ∧ Up D' o (encB z (l2.map RC.b)) sy'
set_option maxHeartbeats 8000000 in
set_option maxRecDepth 100000 in
theorem apart_law (q : Option Addr) (m c : Nat) (l : List RC) (a : Option Addr) (n d : Nat) (b : List UInt8) (nn : UInt8) (w : World) (hl : Hid (l.length = m)) (hP : Hid (Pcs w q l)) (h1 : m ≤ 140737488355328) (hb : Hid (b.length = n)) (hL : Hid (Lies w a b)) (hz : Hid (a = none → d = 0)) (hn : n ≤ 140737488355328) :
    Calls Try.prog 8 #[.slice q m c, .slice a n d, .int .u8 nn.toNat] w fun e w' => e = .returned (.bool true) ∧ Below w.heap.size w w' := by
  have bn := u8_bd nn
  have H9 : Hid (∀ w, Calls Try.prog 9 #[] w fun e w' => e = .returned (.bool true) ∧ Below w.heap.size w w') := fun w => awake_any w
  go_enter Try.func8, Try.ntmps8
  go_wp2_with (go_at_call 9; refine (H9.out _).mono ?_)
  rintro e w1 ⟨rfl, b1⟩
  have y1 : Hid (Below w.heap.size w w1) := b1
  clear b1
  by_cases hbig : (30 : Int) < (m : Int)
  · go_wp2_with (go_at_call 9; refine (H9.out _).mono ?_)
    rintro e w3 ⟨rfl, b3⟩
    go_wp2_with fail
    go_ret
    exact ⟨rfl, below_from y1.out b3 y1.out.size⟩
  by_cases hbig2 : (10000 : Int) < (n : Int)
  · go_wp2_with (go_at_call 9; refine (H9.out _).mono ?_)
    rintro e w3 ⟨rfl, b3⟩
    go_wp2_with fail
    go_ret
    exact ⟨rfl, below_from y1.out b3 y1.out.size⟩
  have hm30 : (m : Int) ≤ 30 := by omega
  have hn10 : (n : Int) ≤ 10000 := by omega
  clear hbig hbig2
  go_wp2_with (go_at_call 11; refine (new_law w w1 y1.out).mono ?_)
  rintro e w2 ⟨pb, rfl, tg2, d2, t2, b2⟩
  have H28 : Hid (Calls Try.prog 28 #[.pointer (some ⟨pb, 0, none⟩), .string ⟨#[97]⟩, .slice a n d] w2 fun e w' => e = .returned (.int .i64 0) ∧ ∃ tg', Dsk w' tg' pb ⟨fsN (some (b, 0)) none none, false, none⟩ ∧ (∀ k, tg' k ≠ .no → w.heap.size ≤ k) ∧ Below w.heap.size w w') := by
    have := append_any d2 ⟨⟨nmO⟩⟩ (by decide) a n d b (by omega) hb.out hz.out (off_of t2 b2 hL.out)
    rw [show (⟨⟨nmO⟩⟩ : ByteArray).data.toList = nmO from rfl, ap_append b (by have := hb.out; omega)] at this
    refine this.mono ?_
    rintro e w' ⟨rfl, tg', dd, st⟩
    exact ⟨rfl, tg', dd, (st.below b2.size t2).2, b2.trans (st.below b2.size t2).1⟩
  clear d2 t2 b2
  go_wp2_with (go_at_call 28; refine H28.out.mono ?_)
  first | rintro e w3 rfl tg3 d3 t3 b3 | rintro e w3 ⟨rfl, tg3, d3, t3, b3⟩
  have H29 : Hid (Calls Try.prog 29 #[.pointer (some ⟨pb, 0, none⟩), .string ⟨#[97]⟩] w3 fun e w' => e = .returned (.int .i64 0) ∧ Dsk w' tg3 pb ⟨fsN (some (b, b.length)) none none, false, none⟩ ∧ Below w.heap.size w w') := by
    have := sync_any d3 ⟨⟨nmO⟩⟩ (by decide)
    rw [show (⟨⟨nmO⟩⟩ : ByteArray).data.toList = nmO from rfl, ap_sync b] at this
    refine this.mono ?_
    rintro e w' ⟨rfl, dd, st⟩
    exact ⟨rfl, dd, b3.trans (st.below b3.size t3).1⟩
  have T3 : Hid (∀ k, tg3 k ≠ .no → w.heap.size ≤ k) := t3
  clear d3 t3 b3 H28
  go_wp2_with (go_at_call 29; refine H29.out.mono ?_)
  first | rintro e w4 rfl d4 b4 | rintro e w4 ⟨rfl, d4, b4⟩
  have H12 : Hid (Calls Try.prog 12 #[.pointer (some ⟨pb, 0, none⟩), .slice none 0 0] w4 fun e w' => e = .returned (.pointer (some ⟨w4.heap.size, 0, none⟩)) ∧ ApW w w' pb w4.heap.size 0 l (some (b, b.length))) := by
    have hrep := replace_N (D := ⟨fsN (some (b, b.length)) none none, false, none⟩) (o := some (b, b.length)) (x := none) (y := none) rfl rfl 0 [] (by rw [enc0_len]; omega)
    rcases hrep with ⟨r1, r2, r3, r4⟩ | ⟨r1, r2, r3, r4⟩
    · refine opened_at _ _ _ _ ((open_new (P := NoP) (w0 := w) d4 T3.out b4 rfl nofun rfl r1).mono ?_)
      rintro e w' ⟨rfl, tg', lt, j⟩
      exact ⟨rfl, ⟨[], _, tg', lt, _, j, ⟨r2, r3, r4 rfl⟩, rfl, nofun⟩⟩
    · exact absurd rfl r3
  clear d4 b4 H29
  go_wp2_with (go_at_call 12; refine H12.out.mono ?_)
  rintro e w5 ⟨rfl, h5⟩
  generalize w4.heap.size = lb at *
  have A5 : Hid (ApW w w5 pb lb 0 l (some (b, b.length))) := h5
  clear h5 H12 y1 H9 T3
  go_wp2_with fail
  go_loopw [9] (fun i wr => ∃ k : Nat, k ≤ m ∧ i = .int .i64 k ∧ ApW w wr pb lb k l (some (b, b.length))) (fun i _ => m - (intOf i).toNat)
  case atStart => exact ⟨0, Nat.zero_le _, rfl, A5.out⟩
  case round =>
    obtain ⟨k, hk, rfl, hA⟩ := hrel
    obtain ⟨l', D, tg, lt, sy, hj, hU, hlk, h80⟩ := hA.j
    have J : Hid (LJ NoP w wr pb lb D (some ⟨pb, 0, none⟩) 0 l' tg lt ∧ Up D (some (b, b.length)) (encB 0 (l'.map RC.b)) sy ∧ l'.length = k ∧ ∀ x ∈ l', x.b.length ≤ 1000) := ⟨hj, hU, hlk, h80⟩
    clear hA hj hU hlk h80
    by_cases hlt : k < m
    · obtain ⟨r, g, o, hr0, rfl, hc⟩ := (hP.out.keep J.out.1.b).at (k := k) (by have := hl.out; omega)
      have hi : (k : Int) < (m : Int) := by omega
      by_cases h10 : r.b.length ≤ 1000
      · have h10' : (r.b.length : Int) ≤ 1000 := by omega
        have H20 : Hid (Calls Try.prog 20 #[.pointer (some ⟨lb, 0, none⟩), .slice r.a r.b.length r.c] wr fun e w' => e = .returned (.tuple #[.int .i64 k, .int .i64 0]) ∧ ApW w w' pb lb (k + 1) l (some (b, b.length))) := by
          obtain ⟨hj, hU, hlk, h80⟩ := J.out
          have he := hP.out.each r (List.mem_of_getElem? hr0)
          have := app_arg hj hU r he.1 he.2 h10 (by omega) (by omega) h80
          rw [show (((0 : Nat) : Int) + (l'.length : Int)) = (k : Int) by omega] at this
          refine this.mono ?_
          rintro e w' ⟨rfl, tg', lt', a', c', D', j', u'⟩
          refine ⟨rfl, ⟨_, D', tg', lt', sy, j', u', by rw [List.length_append, hlk]; rfl, fun x hx => ?_⟩⟩
          rcases List.mem_append.1 hx with hx | hx
          · exact h80 x hx
          · simp only [List.mem_singleton] at hx
            subst hx
            exact h10
        clear hr0
        go_wp2_with (go_at_call 20; refine H20.out.mono ?_)
        first | rintro e w6 rfl h6 | rintro e w6 ⟨rfl, h6⟩
        go_wp2_with fail
        exact ⟨⟨k + 1, by omega, by go_num, h6⟩, by simp [intOf]; omega⟩
      · have h10' : 1000 < (r.b.length : Int) := by omega
        clear hr0
        go_wp2_with fail
        go_ret
        exact ⟨rfl, J.out.1.b⟩
    · have hi : ¬ (k : Int) < (m : Int) := by omega
      have hkm : k = m := by omega
      subst hkm
      obtain ⟨z, hz1, hz2⟩ : ∃ z : Nat, z ≤ k ∧ ((nn.toNat : Int) % ((k : Int) + 1)) = z := ⟨nn.toNat % (k + 1), by have := Nat.mod_lt nn.toNat (show 0 < k + 1 by omega); omega, by norm_cast⟩
      have HZ : Hid (((nn.toNat : Int) % ((k : Int) + 1)) = z) := hz2
      have H25 : Hid (Calls Try.prog 25 #[.pointer (some ⟨lb, 0, none⟩), .int .i64 ((nn.toNat : Int) % ((k : Int) + 1))] wr fun e w' => e = .returned (.int .i64 0) ∧ TrR w w' pb lb z (l'.drop z) lt (some (b, b.length))) := by
        obtain ⟨hj, hU, hlk, h80⟩ := J.out
        have := trim_up hj hU z (by omega) (by omega) h80
        rw [show (((0 : Nat) : Int) + (z : Int)) = (nn.toNat : Int) % ((k : Int) + 1) by rw [hz2]; omega] at this
        rw [Nat.zero_add] at this
        exact this
      clear hz2
      go_wp2_with (go_at_call 25; refine H25.out.mono ?_)
      first | rintro e w6 rfl h6 | rintro e w6 ⟨rfl, h6⟩
      have hl2 : Hid ((l'.drop z).length ≤ 30 ∧ ∀ x ∈ l'.drop z, x.b.length ≤ 1000) := ⟨by rw [List.length_drop]; have := J.out.2.2.1; omega, fun x hx => J.out.2.2.2 x (List.mem_of_mem_drop hx)⟩
      generalize l'.drop z = l2 at *
      obtain ⟨tg6, D6, sy6, j6, u6⟩ := h6
      have J6 : Hid (LJ NoP w w6 pb lb D6 (some ⟨pb, 0, none⟩) z l2 tg6 lt) := j6
      have U6 : Hid (Up D6 (some (b, b.length)) (encB z (l2.map RC.b)) sy6) := u6
      have H30 : Hid (Calls Try.prog 30 #[.pointer (some ⟨pb, 0, none⟩), .string ⟨#[97]⟩] w6 fun e w' => ∃ q' c', e = .returned (.tuple #[.slice q' n c', .int .i64 0]) ∧ Lies w' q' b ∧ Below w6.heap.size w6 w') := by
        have := read_any j6.d ⟨⟨nmO⟩⟩ (by decide)
        rw [show readD D6 (⟨⟨nmO⟩⟩ : ByteArray).data.toList = (0, b) by
          show readD D6 nmO = (0, b)
          unfold readD
          rw [if_neg (by simp [u6.dn]), u6.fs, fnd_O]
          rfl] at this
        refine this.mono ?_
        rintro e w' ⟨v, rfl, o, bw⟩
        obtain ⟨q', c', rfl, hLq, -⟩ := o.shape
        refine ⟨q', c', ?_, hLq, bw⟩
        show Ending.returned (.tuple #[.slice q' b.length c', .int .i64 0]) = _
        rw [hb.out]
      clear j6 u6 H25 J
      go_wp2_with (go_at_call 30; refine H30.out.mono ?_)
      first | rintro e w7 q7 c7 rfl l7 b7 | rintro e w7 ⟨q7, c7, rfl, l7, b7⟩
      have J7 : Hid (LJ NoP w w7 pb lb D6 (some ⟨pb, 0, none⟩) z l2 tg6 lt) := J6.out.keep b7
      have H24 : Hid (Calls Try.prog 24 #[.slice q7 n c7, .slice a n d] w7 fun e w' => e = .returned (.bool true) ∧ LJ NoP w w' pb lb D6 (some ⟨pb, 0, none⟩) z l2 tg6 lt) := by
        have := same_any b b q7 a c7 d w7 (by have := hb.out; omega) l7 (hL.out.keep J7.out.b (Nat.le_refl _))
        rw [decide_eq_true rfl, hb.out] at this
        refine this.mono ?_
        rintro e w' ⟨rfl, bw⟩
        exact ⟨rfl, J7.out.keep bw⟩
      clear l7 b7 H30 J6
      go_wp2_with (go_at_call 24; refine H24.out.mono ?_)
      first | rintro e w8 rfl j8 | rintro e w8 ⟨rfl, j8⟩
      have H31 : Hid (Calls Try.prog 31 #[.pointer (some ⟨pb, 0, none⟩), .string ⟨#[97]⟩] w8 fun e w' => e = .returned (.int .i64 0) ∧ ∃ D', LJ NoP w w' pb lb D' (some ⟨pb, 0, none⟩) z l2 tg6 lt ∧ D'.down = false ∧ D'.fuse = none ∧ D'.fs = fsN none (some (encB z (l2.map RC.b) ++ [], sy6)) none) := by
        obtain ⟨x1, x2, x3, x4⟩ := remove_O U6.out.dn U6.out.fu U6.out.fs
        refine (remove_any j8.d ⟨⟨nmO⟩⟩ (by decide)).mono ?_
        rintro e w' ⟨rfl, dd, st⟩
        exact ⟨by show Ending.returned (.int .i64 (removeD D6 nmO).1) = _; rw [x1], _, j8.left dd st, x3, x4, by rw [List.append_nil]; exact x2⟩
      clear j8 H24 J7
      go_wp2_with (go_at_call 31; refine H31.out.mono ?_)
      first | rintro e w9 rfl D9 j9 d9 f9 n9 | rintro e w9 ⟨rfl, D9, j9, d9, f9, n9⟩
      obtain ⟨v9, hg9⟩ := j9.g
      obtain ⟨q9, c9, rfl⟩ := lg_slice hg9
      have hll := hl2.out.1
      have H12 : Hid (Calls Try.prog 12 #[.pointer (some ⟨pb, 0, none⟩), .slice none 0 0] w9 fun e w' => e = .returned (.pointer (some ⟨w9.heap.size, 0, none⟩)) ∧ ∃ D' lt' l3, l3.map RC.b = l2.map RC.b ∧ LJ (fun g o => g = lb ∧ o = .cells #[.pointer (some ⟨pb, 0, none⟩), .int .i64 z, .slice q9 l2.length c9] 77 (0, 0)) w w' pb w9.heap.size D' (some ⟨pb, 0, none⟩) z l3 tg6 lt') := by
        have he := encB_len1 z 1000 (l2.map RC.b) (fun x hx => by obtain ⟨y, hy, rfl⟩ := List.mem_map.1 hx; exact hl2.out.2 y hy)
        rw [List.length_map] at he
        refine opened_at _ _ _ _ ((open_up (P := fun g o => g = lb ∧ o = .cells #[.pointer (some ⟨pb, 0, none⟩), .int .i64 z, .slice q9 l2.length c9] 77 (0, 0)) (w0 := w) j9.d j9.t1 j9.b ?_ d9 f9 z (l2.map RC.b) [] n9 (by omega) ?_ ?_ torn_nil).mono ?_)
        · rintro g o ⟨rfl, rfl⟩
          exact ⟨hg9.cell, no_of fun e => by have := j9.ap _ e; rw [hg9.tp] at this; cases this⟩
        · show (encB z (l2.map RC.b) ++ []).length ≤ 1048576
          rw [List.append_nil]
          omega
        · intro p hp
          obtain ⟨y, hy, rfl⟩ := List.mem_map.1 hp
          have := hl2.out.2 y hy
          omega
        · rintro e w' ⟨rfl, D', lt', l3, m3, j3, -⟩
          exact ⟨rfl, D', lt', l3, m3, j3⟩
      clear hg9 j9 d9 f9 n9 H31
      go_wp2_with (go_at_call 12; refine H12.out.mono ?_)
      first | rintro e w10 rfl D10 lt10 l10 m10 j10 | rintro e w10 ⟨rfl, D10, lt10, l10, m10, j10⟩
      have hlen : l10.length = l2.length := by
        have := congrArg List.length m10
        rwa [List.length_map, List.length_map] at this
      generalize hPP : (fun g o => g = lb ∧ o = Obj.cells #[.pointer (some ⟨pb, 0, none⟩), .int .i64 z, .slice q9 l2.length c9] 77 (0, 0) : Nat → Obj → Prop) = PP at *
      have hPl : PP lb (.cells #[.pointer (some ⟨pb, 0, none⟩), .int .i64 z, .slice q9 l2.length c9] 77 (0, 0)) := by rw [← hPP]; exact ⟨rfl, rfl⟩
      have FA : Hid (∀ V : World, LJ PP w V pb w9.heap.size D10 (some ⟨pb, 0, none⟩) z l10 tg6 lt10 → Calls Try.prog 21 #[.pointer (some ⟨w9.heap.size, 0, none⟩)] V fun e w' => e = .returned (.int .i64 z) ∧ LJ PP w w' pb w9.heap.size D10 (some ⟨pb, 0, none⟩) z l10 tg6 lt10) := fun V hV => by
        obtain ⟨v, hg⟩ := hV.g
        refine (first_at V _ _ _ _ hg.cell).mono ?_
        rintro e w' ⟨rfl, rfl⟩
        exact ⟨rfl, hV⟩
      have FB : Hid (∀ V : World, LJ PP w V pb w9.heap.size D10 (some ⟨pb, 0, none⟩) z l10 tg6 lt10 → Calls Try.prog 21 #[.pointer (some ⟨lb, 0, none⟩)] V fun e w' => e = .returned (.int .i64 z) ∧ LJ PP w w' pb w9.heap.size D10 (some ⟨pb, 0, none⟩) z l10 tg6 lt10) := fun V hV => by
        refine (first_at V _ _ _ _ (hV.pr lb _ hPl).1).mono ?_
        rintro e w' ⟨rfl, rfl⟩
        exact ⟨rfl, hV⟩
      have NA : Hid (∀ V : World, LJ PP w V pb w9.heap.size D10 (some ⟨pb, 0, none⟩) z l10 tg6 lt10 → Calls Try.prog 22 #[.pointer (some ⟨w9.heap.size, 0, none⟩)] V fun e w' => e = .returned (.int .i64 ((z : Int) + l2.length)) ∧ LJ PP w w' pb w9.heap.size D10 (some ⟨pb, 0, none⟩) z l10 tg6 lt10) := fun V hV => by
        have := next_lj hV (by omega)
        rw [hlen] at this
        refine this.mono ?_
        rintro e w' ⟨rfl, bb⟩
        exact ⟨rfl, hV.keep bb⟩
      have NB : Hid (∀ V : World, LJ PP w V pb w9.heap.size D10 (some ⟨pb, 0, none⟩) z l10 tg6 lt10 → Calls Try.prog 22 #[.pointer (some ⟨lb, 0, none⟩)] V fun e w' => e = .returned (.int .i64 ((z : Int) + l2.length)) ∧ LJ PP w w' pb w9.heap.size D10 (some ⟨pb, 0, none⟩) z l10 tg6 lt10) := fun V hV => by
        refine (next_at V lb _ _ _ _ _ (by omega) (by omega) (hV.pr lb _ hPl).1).mono ?_
        rintro e w' ⟨rfl, bb⟩
        exact ⟨rfl, hV.keep bb⟩
      have J10 : Hid (LJ PP w w10 pb w9.heap.size D10 (some ⟨pb, 0, none⟩) z l10 tg6 lt10) := j10
      clear j10 m10 hlen hPl hPP H12
      go_wp2_with (go_at_call_of 21 (Value.pointer (some ⟨w9.heap.size, 0, none⟩)); refine (FA.out _ J10.out).mono ?_)
      first | rintro e w11 rfl j11 | rintro e w11 ⟨rfl, j11⟩
      have J11 : Hid (LJ PP w w11 pb w9.heap.size D10 (some ⟨pb, 0, none⟩) z l10 tg6 lt10) := j11
      clear j11
      go_wp2_with (go_at_call 21; refine (FB.out _ J11.out).mono ?_)
      first | rintro e w12 rfl j12 | rintro e w12 ⟨rfl, j12⟩
      have J12 : Hid (LJ PP w w12 pb w9.heap.size D10 (some ⟨pb, 0, none⟩) z l10 tg6 lt10) := j12
      clear j12
      go_wp2_with (go_at_call_of 22 (Value.pointer (some ⟨w9.heap.size, 0, none⟩)); refine (NA.out _ J12.out).mono ?_)
      first | rintro e w13 rfl j13 | rintro e w13 ⟨rfl, j13⟩
      have J13 : Hid (LJ PP w w13 pb w9.heap.size D10 (some ⟨pb, 0, none⟩) z l10 tg6 lt10) := j13
      clear j13
      go_wp2_with (go_at_call 22; refine (NB.out _ J13.out).mono ?_)
      first | rintro e w14 rfl j14 | rintro e w14 ⟨rfl, j14⟩
      go_wp2_with fail
      go_ret
      exact ⟨rfl, j14.b⟩
end Go.Proofs.Ytplcpjngpkghmaa
