/-
  Append.
-/
import Derived.Test.YtplcpjngpkghmaaWe
namespace Go.Proofs.Ytplcpjngpkghmaa
open Go.RowKit Go.Maps Go.WideMaps

def appendD (D : DK) (n b : List UInt8) : Int × DK :=
  if D.down then (11, D) else if okN n = false then (4, D) else
  match fnd Fil.nm n D.fs with
  | none => if 64 ≤ D.fs.length then (6, D) else if 1048576 < b.length then (1, D) else
      if (burn D).1 then (0, ⟨ins Fil.nm ⟨n, b, 0⟩ D.fs, (burn D).2.down, (burn D).2.fuse⟩) else (11, (burn D).2)
  | some f => if 1048576 < f.b.length + b.length then (1, D) else
      if (burn D).1 then (0, ⟨upd Fil.nm n ⟨n, f.b ++ b, f.sy⟩ D.fs, (burn D).2.down, (burn D).2.fuse⟩) else (11, (burn D).2)
theorem burn_fs (D : DK) : (burn D).2.fs = D.fs := by
  unfold burn
  split <;> rfl
theorem burn_down (D : DK) (h : (burn D).1 = true) : (burn D).2.down = D.down := by
  unfold burn at *
  split <;> simp_all

theorem len_at {w : World} {tg : Nat → Tg} {mb : Option Nat} {l : List Fl} (h : MpAt w tg mb l) (ty : TypeId) : (Builtin.len_ #[61] ty #[.map mb]).run Try.prog w = .ok (.int .i64 l.length) w := by
  unfold MpAt at h
  cases mb with
  | none => subst h; exact Maps.len_nil Try.underlying61 ty
  | some m =>
    have := h.2.len Try.underlying61 ty
    rw [mapOf_size] at this
    exact this

theorem upd_ins {α : Type} {nm : α → List UInt8} {n : List UInt8} {x x' : α} (hx : nm x = n) (hx' : nm x' = n) : ∀ {l : List α}, (∀ y ∈ l, nm y ≠ n) → upd nm n x' (ins nm x l) = ins nm x' l
  | [], _ => by simp [upd, ins, hx]
  | z :: r, h => by
    have hz : (nm z == n) = false := by simpa using h z (List.mem_cons_self ..)
    have hr : upd nm n x' r = r := by
      unfold upd
      refine (List.map_congr_left fun y hy => ?_).trans (List.map_id r)
      have : (nm y == n) = false := by simpa using h y (List.mem_cons_of_mem _ hy)
      simp [this]
    have ih := upd_ins (l := r) hx hx' fun y hy => h y (List.mem_cons_of_mem _ hy)
    unfold ins
    rw [hx, hx']
    split
    · unfold upd at hr ⊢
      simp only [List.map_cons, hx, hz, beq_self_eq_true, if_true, hr]
      simp
    · unfold upd at ih ⊢
      simp only [List.map_cons, hz, ih]
      simp

theorem ret_i {a b : Int} (h : a = b) : Ending.returned (.int .i64 a) = .returned (.int .i64 b) := by rw [h]

set_option maxHeartbeats 400000 in
theorem append_nil (w : World) (s : ByteArray) (v : Value) :
    Calls Try.prog 28 #[.pointer none, .string s, v] w fun e w' => e = .returned (.int .i64 11) ∧ w' = w := by
  have H14 : Hid (Calls Try.prog 17 #[.pointer none] w fun e w' => e = .returned (.bool true) ∧ w' = w) := down_nil w
  go_enter Try.func28, Try.ntmps28
  go_wp2_with (go_at_call 17; refine H14.out.mono ?_)
  rintro e w1 ⟨rfl, rfl⟩
  go_wp2_with fail
  go_ret
  exact ⟨rfl, rfl⟩
set_option maxHeartbeats 400000 in
theorem append_down (w : World) (pb : Nat) (a c d : Value) (s : ByteArray) (v : Value) (h : Hid (w.heap[pb]? = some (.cells #[a, .bool true, c, d] 63 (0, 0)))) :
    Calls Try.prog 28 #[.pointer (some ⟨pb, 0, none⟩), .string s, v] w fun e w' => e = .returned (.int .i64 11) ∧ w' = w := by
  have H14 : Hid (Calls Try.prog 17 #[.pointer (some ⟨pb, 0, none⟩)] w fun e w' => e = .returned (.bool true) ∧ w' = w) := down_at w pb a c d true h
  go_enter Try.func28, Try.ntmps28
  go_wp2_with (go_at_call 17; refine H14.out.mono ?_)
  rintro e w1 ⟨rfl, rfl⟩
  go_wp2_with fail
  go_ret
  exact ⟨rfl, rfl⟩

theorem burn_eta (D : DK) {y : Bool} {D1 : DK} (h : burn D = (y, D1)) : (burn D).1 = y ∧ (burn D).2 = D1 := by rw [h]; exact ⟨rfl, rfl⟩

set_option maxHeartbeats 2000000 in
set_option maxRecDepth 100000 in
theorem append_new {w : World} {tg : Nat → Tg} {pb : Nat} {fs : List Fil} {fu : Option Nat} {mb : Option Nat} {l : List Fl} {z : Int} (h : Hid (DkAt w tg pb ⟨fs, false, fu⟩ mb l z)) (s : ByteArray) (hs : Hid (s.size ≤ 281474976710656)) (q : Option Addr) (n c : Nat) (m : List UInt8) (hn : n < 1152921504606846976) (hm : Hid (m.length = n)) (hq : Hid (q = none → c = 0)) (hL : Hid (LiesOff w tg q m))
    (hf : Hid (fnd Fl.nm s.data.toList l = none)) :
    Calls Try.prog 28 #[.pointer (some ⟨pb, 0, none⟩), .string s, .slice q n c] w fun e w' => e = .returned (.int .i64 (appendD ⟨fs, false, fu⟩ s.data.toList m).1) ∧ ∃ tg', Dsk w' tg' pb (appendD ⟨fs, false, fu⟩ s.data.toList m).2 ∧ Step tg tg' w w' := by
  have hml : s.size ≤ maxLen := by have := hs.out; unfold maxLen; omega
  have hff : fnd Fil.nm s.data.toList fs = none := by have := h.out.fs; simp only at this; rw [this, ← map_fnd Fl.s_nm, hf.out]; rfl
  have hfl : fs.length = l.length := by have := h.out.fs; simp only at this; rw [this, List.length_map]
  have hlk := look_at h.out.mp s hml
  rw [hf.out] at hlk
  simp only [fptr] at hlk
  have hln := len_at h.out.mp
  obtain ⟨x, hx⟩ : ∃ x, okN s.data.toList = x := ⟨_, rfl⟩
  obtain ⟨y, D1, hy⟩ : ∃ y D1, burn ⟨fs, false, fu⟩ = (y, D1) := ⟨_, _, rfl⟩
  obtain ⟨hy1, hy2⟩ := burn_eta _ hy
  have H35 : Hid (∀ w, Calls Try.prog 49 #[.string s] w fun e w' => e = .returned (.bool x) ∧ w' = w) := fun w => hx ▸ formed_any s w
  have H14 : Hid (Calls Try.prog 17 #[.pointer (some ⟨pb, 0, none⟩)] w fun e w' => e = .returned (.bool false) ∧ w' = w) := down_at w pb _ _ _ false h.out.cell
  have H36 : Hid (Calls Try.prog 50 #[.pointer none] w fun e w' => e = .returned (.int .i64 1048576) ∧ w' = w) := room_nil w
  have H37 : Hid (Calls Try.prog 51 #[.pointer (some ⟨pb, 0, none⟩)] w fun e w' => e = .returned (.bool y) ∧ (∃ z', DkAt w' tg pb D1 mb l z') ∧ Step tg tg w w') := by
    have := goes_any h.out
    rw [hy1, hy2] at this
    exact this
  have HF : Hid (D1.fs = fs) := by have := burn_fs ⟨fs, false, fu⟩; rw [hy2] at this; exact this
  have HA : Hid (appendD ⟨fs, false, fu⟩ s.data.toList m = if x = false then (4, ⟨fs, false, fu⟩) else if 64 ≤ l.length then (6, ⟨fs, false, fu⟩) else if 1048576 < m.length then (1, ⟨fs, false, fu⟩) else if y then (0, ⟨ins Fil.nm ⟨s.data.toList, m, 0⟩ fs, D1.down, D1.fuse⟩) else (11, D1)) := by
    unfold Hid appendD
    simp only [hx, hff, hy1, hy2, hfl, Bool.false_eq_true, if_false]
  generalize appendD ⟨fs, false, fu⟩ s.data.toList m = A at *
  have HS : Hid (Dsk w tg pb ⟨fs, false, fu⟩) := ⟨mb, l, z, h.out⟩
  obtain ⟨e0, e1, e2, e3⟩ := c4 h.out.cell
  clear hff hfl hx hy hy1 hy2 hml e1 e2 e3
  go_enter Try.func28, Try.ntmps28
  go_wp2_with (go_at_call 17; refine H14.out.mono ?_)
  rintro e w1 ⟨rfl, rfl⟩
  go_wp2_with (go_at_call 49; refine (H35.out _).mono ?_)
  rintro e w1 ⟨rfl, rfl⟩
  cases x with
  | false =>
    go_wp2_with fail
    go_ret
    rw [HA.out, if_pos (by simp)]
    exact ⟨rfl, tg, HS.out, Step.refl _ _⟩
  | true =>
    by_cases h64 : (64 : Int) ≤ (l.length : Int)
    · go_wp2_with fail
      go_ret
      rw [HA.out, if_neg (by simp), if_pos (by omega)]
      exact ⟨rfl, tg, HS.out, Step.refl _ _⟩
    go_wp2_with (go_at_call 50; refine H36.out.mono ?_)
    rintro e w1 ⟨rfl, rfl⟩
    by_cases hlong : (1048576 : Int) < (n : Int)
    · go_wp2_with fail
      go_ret
      rw [HA.out, if_neg (by simp), if_neg (by omega), if_pos (by have := hm.out; omega)]
      exact ⟨rfl, tg, HS.out, Step.refl _ _⟩
    go_wp2_with (go_at_call 51; refine H37.out.mono ?_)
    rintro e w2 ⟨rfl, ⟨z', h2⟩, st⟩
    have H2 : Hid (DkAt w2 tg pb D1 mb l z') := h2
    have ST : Hid (Step tg tg w1 w2) := st
    have HL2 : Hid (LiesOff w2 tg q m) := hL.out.step st
    clear h2 st e0 hlk hln
    cases y with
    | false =>
      go_wp2_with fail
      go_ret
      rw [HA.out, if_neg (by simp), if_neg (by omega), if_neg (by have := hm.out; omega), if_neg (by simp)]
      exact ⟨rfl, tg, ⟨mb, l, z', H2.out⟩, ST.out⟩
    | true =>
      go_wp2_with (go_at_call 52; refine (add_any H2.out s (by have := hs.out; unfold maxLen; omega) hs.out hf.out (by omega)).mono ?_)
      rintro e w3 ⟨rfl, tg3, mb3, h3, st3⟩
      have ST3 : Hid (Step tg tg3 w1 w3) := ST.out.trans st3
      have HL3 : Hid (LiesOff w3 tg3 q m) := HL2.out.step st3
      have H3 : Hid _ := h3
      clear st3 h3
      have hfd : Hid (fnd Fl.nm s.data.toList (ins Fl.nm ⟨s.data.toList, [], 0, w2.heap.size, .slice none 0 0⟩ l) = some ⟨s.data.toList, [], 0, w2.heap.size, .slice none 0 0⟩) := by
        cases hq : fnd Fl.nm s.data.toList (ins Fl.nm ⟨s.data.toList, [], 0, w2.heap.size, .slice none 0 0⟩ l) with
        | none => exact absurd rfl (fnd_none hq _ (mem_ins.2 (.inl rfl)))
        | some g =>
          obtain ⟨g1, g2⟩ := fnd_some hq
          rw [srt_one H3.out.srt g1 (mem_ins.2 (.inl rfl)) g2]
          exact rfl
      have hF3 := H3.out.fl _ (fnd_some hfd.out).1
      obtain ⟨e0, e1⟩ := c2 hF3.cell
      have OW : Hid (Own w3 0 (.slice none 0 0) []) := hF3.own
      clear hF3
      simp only at e0 e1
      go_wp2_with (at_builtin; refine append_loc rfl _ _ rfl _ _ _ rfl OW.out q c n rfl hm.out hq.out HL3.out.lies ?_ ?_)
      · have := hm.out
        simp only [List.length_nil]
        omega
      intro v' w4 ho hg hloc
      obtain ⟨a', c', hv, -⟩ := ho.shape
      obtain ⟨k', hk'⟩ : ∃ k', v' = .slice a' k' c' := ⟨_, hv⟩
      clear hv
      subst hk'
      have h4 := H3.out.appended hfd.out (by have := hm.out; simp only [List.length_nil]; omega) ho hg hloc
      have H4 : Hid (DkAt (w4.setCell ⟨w2.heap.size, 0, none⟩ (.slice a' k' c')) (tagR tg3 s.data.toList (.slice a' k' c')) pb ⟨(upd Fl.nm s.data.toList ⟨s.data.toList, [] ++ m, 0, w2.heap.size, .slice a' k' c'⟩ (ins Fl.nm ⟨s.data.toList, [], 0, w2.heap.size, .slice none 0 0⟩ l)).map Fl.s, D1.down, D1.fuse⟩ mb3 (upd Fl.nm s.data.toList ⟨s.data.toList, [] ++ m, 0, w2.heap.size, .slice a' k' c'⟩ (ins Fl.nm ⟨s.data.toList, [], 0, w2.heap.size, .slice none 0 0⟩ l)) z') := h4.2.1
      have ST4 : Hid (Step tg (tagR tg3 s.data.toList (.slice a' k' c')) w1 (w4.setCell ⟨w2.heap.size, 0, none⟩ (.slice a' k' c'))) := ST3.out.trans h4.2.2
      obtain ⟨e0', e1'⟩ := c2 h4.1
      have f0' := fz h4.1 0
      clear h4 ho hg hloc e0 e1
      go_wp2_with fail
      go_ret
      rw [HA.out, if_neg (by simp), if_neg (by omega), if_neg (by have := hm.out; omega), if_pos (by simp)]
      refine ⟨rfl, _, ?_, ST4.out⟩
      have hu : (upd Fl.nm s.data.toList ⟨s.data.toList, [] ++ m, 0, w2.heap.size, .slice a' k' c'⟩ (ins Fl.nm ⟨s.data.toList, [], 0, w2.heap.size, .slice none 0 0⟩ l)).map Fl.s = ins Fil.nm ⟨s.data.toList, m, 0⟩ fs := by
        rw [upd_ins (nm := Fl.nm) (n := s.data.toList) (x := ⟨s.data.toList, [], 0, w2.heap.size, .slice none 0 0⟩) (x' := ⟨s.data.toList, [] ++ m, 0, w2.heap.size, .slice a' k' c'⟩) rfl rfl (fnd_none hf.out), map_ins Fl.s_nm, ← h.out.fs]
        rfl
      have := H4.out
      rw [hu] at this
      exact ⟨_, _, _, this⟩

set_option maxHeartbeats 2000000 in
set_option maxRecDepth 100000 in
theorem append_old {w : World} {tg : Nat → Tg} {pb : Nat} {fs : List Fil} {fu : Option Nat} {mb : Option Nat} {l : List Fl} {z : Int} (h : Hid (DkAt w tg pb ⟨fs, false, fu⟩ mb l z)) (s : ByteArray) (hs : Hid (s.size ≤ 281474976710656)) (q : Option Addr) (n c : Nat) (m : List UInt8) (_hn : n < 1152921504606846976) (hm : Hid (m.length = n)) (hq : Hid (q = none → c = 0)) (hL : Hid (LiesOff w tg q m))
    (nm b : List UInt8) (sy fb fk fc : Nat) (fa : Option Addr) (hfk : b.length = fk) (hf : Hid (fnd Fl.nm s.data.toList l = some ⟨nm, b, sy, fb, .slice fa fk fc⟩)) :
    Calls Try.prog 28 #[.pointer (some ⟨pb, 0, none⟩), .string s, .slice q n c] w fun e w' => e = .returned (.int .i64 (appendD ⟨fs, false, fu⟩ s.data.toList m).1) ∧ ∃ tg', Dsk w' tg' pb (appendD ⟨fs, false, fu⟩ s.data.toList m).2 ∧ Step tg tg' w w' := by
  have hml : s.size ≤ maxLen := by have := hs.out; unfold maxLen; omega
  have hff : fnd Fil.nm s.data.toList fs = some ⟨nm, b, sy⟩ := by have := h.out.fs; simp only at this; rw [this, ← map_fnd Fl.s_nm, hf.out]; rfl
  have hF := h.out.fl _ (fnd_some hf.out).1
  have hb1 : fk ≤ 1048576 := by have := hF.hl; simp only at this; omega
  have hlk := look_at h.out.mp s hml
  rw [hf.out] at hlk
  simp only [fptr] at hlk
  obtain ⟨x, hx⟩ : ∃ x, okN s.data.toList = x := ⟨_, rfl⟩
  obtain ⟨y, D1, hy⟩ : ∃ y D1, burn ⟨fs, false, fu⟩ = (y, D1) := ⟨_, _, rfl⟩
  obtain ⟨hy1, hy2⟩ := burn_eta _ hy
  have H35 : Hid (∀ w, Calls Try.prog 49 #[.string s] w fun e w' => e = .returned (.bool x) ∧ w' = w) := fun w => hx ▸ formed_any s w
  have H14 : Hid (Calls Try.prog 17 #[.pointer (some ⟨pb, 0, none⟩)] w fun e w' => e = .returned (.bool false) ∧ w' = w) := down_at w pb _ _ _ false h.out.cell
  have H36 : Hid (Calls Try.prog 50 #[.pointer (some ⟨fb, 0, none⟩)] w fun e w' => e = .returned (.int .i64 (1048576 - fk)) ∧ w' = w) := room_at w fb fa fk fc _ hb1 hF.cell
  have H37 : Hid (Calls Try.prog 51 #[.pointer (some ⟨pb, 0, none⟩)] w fun e w' => e = .returned (.bool y) ∧ (∃ z', DkAt w' tg pb D1 mb l z') ∧ Step tg tg w w') := by
    have := goes_any h.out
    rw [hy1, hy2] at this
    exact this
  have HF : Hid (D1.fs = fs) := by have := burn_fs ⟨fs, false, fu⟩; rw [hy2] at this; exact this
  have HA : Hid (appendD ⟨fs, false, fu⟩ s.data.toList m = if x = false then (4, ⟨fs, false, fu⟩) else if 1048576 < b.length + m.length then (1, ⟨fs, false, fu⟩) else if y then (0, ⟨upd Fil.nm s.data.toList ⟨s.data.toList, b ++ m, sy⟩ fs, D1.down, D1.fuse⟩) else (11, D1)) := by
    unfold Hid appendD
    simp only [hx, hff, hy1, hy2, Bool.false_eq_true, if_false]
  generalize appendD ⟨fs, false, fu⟩ s.data.toList m = A at *
  have HS : Hid (Dsk w tg pb ⟨fs, false, fu⟩) := ⟨mb, l, z, h.out⟩
  obtain ⟨e0, e1, e2, e3⟩ := c4 h.out.cell
  clear hff hx hy hy1 hy2 hml e1 e2 e3 hF
  go_enter Try.func28, Try.ntmps28
  go_wp2_with (go_at_call 17; refine H14.out.mono ?_)
  rintro e w1 ⟨rfl, rfl⟩
  go_wp2_with (go_at_call 49; refine (H35.out _).mono ?_)
  rintro e w1 ⟨rfl, rfl⟩
  cases x with
  | false =>
    go_wp2_with fail
    go_ret
    rw [HA.out, if_pos (by simp)]
    exact ⟨rfl, tg, HS.out, Step.refl _ _⟩
  | true =>
    go_wp2_with (go_at_call 50; refine H36.out.mono ?_)
    rintro e w1 ⟨rfl, rfl⟩
    by_cases hlong : (1048576 - (fk : Int)) < (n : Int)
    · go_wp2_with fail
      go_ret
      rw [HA.out, if_neg (by simp), if_pos (by have := hm.out; omega)]
      exact ⟨rfl, tg, HS.out, Step.refl _ _⟩
    go_wp2_with (go_at_call 51; refine H37.out.mono ?_)
    rintro e w2 ⟨rfl, ⟨z', h2⟩, st⟩
    have H2 : Hid (DkAt w2 tg pb D1 mb l z') := h2
    have ST : Hid (Step tg tg w1 w2) := st
    have HL2 : Hid (LiesOff w2 tg q m) := hL.out.step st
    clear h2 st e0 hlk
    cases y with
    | false =>
      go_wp2_with fail
      go_ret
      rw [HA.out, if_neg (by simp), if_neg (by have := hm.out; omega), if_neg (by simp)]
      exact ⟨rfl, tg, ⟨mb, l, z', H2.out⟩, ST.out⟩
    | true =>
      have hF3 := H2.out.fl _ (fnd_some hf.out).1
      obtain ⟨e0, e1⟩ := c2 hF3.cell
      have OW : Hid (Own w2 0 (.slice fa fk fc) b) := hF3.own
      clear hF3
      simp only at e0 e1
      go_wp2_with (at_builtin; refine append_loc rfl _ _ rfl _ _ _ rfl OW.out q c n rfl hm.out hq.out HL2.out.lies ?_ ?_)
      · have := hm.out
        omega
      intro v' w4 ho hg hloc
      obtain ⟨a', c', hv, -⟩ := ho.shape
      obtain ⟨k', hk'⟩ : ∃ k', v' = .slice a' k' c' := ⟨_, hv⟩
      clear hv
      subst hk'
      have h4 := H2.out.appended hf.out (by have := hm.out; simp only; omega) ho hg hloc
      have H4 : Hid (DkAt (w4.setCell ⟨fb, 0, none⟩ (.slice a' k' c')) (tagR tg s.data.toList (.slice a' k' c')) pb ⟨(upd Fl.nm s.data.toList ⟨s.data.toList, b ++ m, sy, fb, .slice a' k' c'⟩ l).map Fl.s, D1.down, D1.fuse⟩ mb (upd Fl.nm s.data.toList ⟨s.data.toList, b ++ m, sy, fb, .slice a' k' c'⟩ l) z') := h4.2.1
      have ST4 : Hid (Step tg (tagR tg s.data.toList (.slice a' k' c')) w1 (w4.setCell ⟨fb, 0, none⟩ (.slice a' k' c'))) := ST.out.trans h4.2.2
      obtain ⟨e0', e1'⟩ := c2 h4.1
      have f0' := fz h4.1 0
      simp only at e0' e1' f0'
      clear h4 ho hg hloc e0 e1
      go_wp2_with fail
      go_ret
      rw [HA.out, if_neg (by simp), if_neg (by have := hm.out; omega), if_pos (by simp)]
      refine ⟨rfl, _, ?_, ST4.out⟩
      have hu : (upd Fl.nm s.data.toList ⟨s.data.toList, b ++ m, sy, fb, .slice a' k' c'⟩ l).map Fl.s = upd Fil.nm s.data.toList ⟨s.data.toList, b ++ m, sy⟩ fs := by
        rw [map_upd Fl.s_nm, ← h.out.fs]
        rfl
      have := H4.out
      rw [hu] at this
      exact ⟨_, _, _, this⟩

theorem append_any {w : World} {tg : Nat → Tg} {pb : Nat} {D : DK} (h : Dsk w tg pb D) (s : ByteArray) (hs : s.size ≤ 281474976710656) (q : Option Addr) (n c : Nat) (m : List UInt8) (hn : n < 1152921504606846976) (hm : m.length = n) (hq : q = none → c = 0) (hL : LiesOff w tg q m) :
    Calls Try.prog 28 #[.pointer (some ⟨pb, 0, none⟩), .string s, .slice q n c] w fun e w' => e = .returned (.int .i64 (appendD D s.data.toList m).1) ∧ ∃ tg', Dsk w' tg' pb (appendD D s.data.toList m).2 ∧ Step tg tg' w w' := by
  obtain ⟨mb, l, z, h⟩ := h
  obtain ⟨fs, dn, fu⟩ := D
  cases dn with
  | true =>
    refine (append_down w pb _ _ _ s _ h.cell).mono ?_
    rintro e w' ⟨rfl, rfl⟩
    have e : appendD ⟨fs, true, fu⟩ s.data.toList m = (11, ⟨fs, true, fu⟩) := by unfold appendD; simp
    rw [e]
    exact ⟨rfl, tg, ⟨mb, l, z, h⟩, Step.refl _ _⟩
  | false =>
    cases hf : fnd Fl.nm s.data.toList l with
    | none => exact append_new h s hs q n c m hn hm hq hL hf
    | some f =>
      obtain ⟨nm, b, sy, fb, v⟩ := f
      obtain ⟨a, cc, hv, -⟩ := (h.fl _ (fnd_some hf).1).own.shape
      simp only at hv
      subst hv
      exact append_old h s hs q n c m hn hm hq hL nm b sy fb _ cc a rfl hf
end Go.Proofs.Ytplcpjngpkghmaa
