/-
  The document's disk: one file is written anew; Sync, Truncate, Read.
-/
import Derived.Test.YtnohidalomjfmaaRb
namespace Go.Proofs.Ytnohidalomjfmaa
open Go.RowKit Go.Maps

theorem owns_set {w : World} {B t s n g : Nat} {v : Value} {xs : List Value} (h : w.ownsRow B t s v n xs) (hv : v.ownBlock = some g) (i : Nat) (u : Value) : (w.setCell ⟨g, i, none⟩ u).ownsRow B t s v n (xs.set i u) := by
  refine ⟨by rw [List.length_set]; exact h.1, ?_⟩
  rcases h.2 with ⟨rfl, _⟩ | ⟨g', cap, cur, rfl, hb, hgg, h1, h2, h3, h4⟩
  · cases hv
  · obtain rfl := Option.some.inj hv
    refine .inr ⟨g', cap, cur.setIfInBounds i u, rfl, hb, setB hgg u, h1, h2, by simpa using h3, ?_⟩
    rw [← h4, Array.toList_setIfInBounds, List.take_set]
theorem set_upd {α : Type} {nm : α → List UInt8} {x : α} : ∀ {l : List α} {k : Nat} {f : α}, Srt nm l → l[k]? = some f → l.set k x = upd nm (nm f) x l
  | [], _, _, _, h => by simp at h
  | y :: r, 0, f, hs, h => by
    obtain rfl : y = f := by simpa using h
    have h1 := List.pairwise_cons.1 hs
    simp only [List.set_cons_zero, upd, List.map_cons, beq_self_eq_true, if_true]
    congr 1
    refine ((List.map_congr_left fun z hz => ?_).trans (List.map_id r)).symm
    have hne : (nm z == nm y) = false := by
      refine beq_false_of_ne fun e => ?_
      have := h1.1 z hz
      rw [e, WideAt.bytes_irrefl] at this
      cases this
    simp [hne]
  | y :: r, k + 1, f, hs, h => by
    have h1 := List.pairwise_cons.1 hs
    have hr : r[k]? = some f := by simpa using h
    have hne : (nm y == nm f) = false := by
      refine beq_false_of_ne fun e => ?_
      have := h1.1 f (List.mem_of_getElem? hr)
      rw [e, WideAt.bytes_irrefl] at this
      cases this
    rw [List.set_cons_succ, set_upd h1.2 hr]
    simp only [upd, List.map_cons, hne, Bool.false_eq_true, if_false]
theorem flat_set1 {f f' : RF} (e1 : f'.nm = f.nm) (e2 : f'.sy = f.sy) : ∀ {l : List RF} {k : Nat}, l[k]? = some f → flat (l.set k f') = (flat l).set (k * 3 + 1) f'.v
  | [], _, h => by simp at h
  | y :: r, 0, h => by
    obtain rfl : y = f := by simpa using h
    simp [flat, RF.n, e1, e2]
  | y :: r, k + 1, h => by
    rw [List.set_cons_succ]
    simp only [flat]
    rw [flat_set1 e1 e2 (l := r) (k := k) (by simpa using h), show (k + 1) * 3 + 1 = k * 3 + 1 + 1 + 1 + 1 by omega]
    rfl
theorem flat_set2 {f f' : RF} (e1 : f'.nm = f.nm) (e2 : f'.v = f.v) : ∀ {l : List RF} {k : Nat}, l[k]? = some f → flat (l.set k f') = (flat l).set (k * 3 + 2) (.int .i64 f'.sy)
  | [], _, h => by simp at h
  | y :: r, 0, h => by
    obtain rfl : y = f := by simpa using h
    simp [flat, RF.n, e1, e2]
  | y :: r, k + 1, h => by
    rw [List.set_cons_succ]
    simp only [flat]
    rw [flat_set2 e1 e2 (l := r) (k := k) (by simpa using h), show (k + 1) * 3 + 2 = k * 3 + 2 + 1 + 1 + 1 by omega]
    rfl

theorem RAt.recell {w w' : World} {tg tg' : Nat → Tg} {pb : Nat} {D : DK} {v : Value} {l : List RF} {z : Int} {k : Nat} {f f' : RF} (h : RAt w tg pb D v l z) (hf : l[k]? = some f) (hn : f'.nm = f.nm)
    (ho : w'.ownsRow 0 73 3 v l.length (flat (l.set k f'))) (hk : Kp (fun j => tg j = .mp) w w') (t1 : ∀ j, tg j ≠ .no → tg' j = tg j) (t2 : ∀ j, tg' j ≠ .no → tg j ≠ .no ∨ w.heap.size ≤ j ∧ j < w'.heap.size) (hF : RFAt w' tg' f') :
    RAt w' tg' pb ⟨upd Fil.nm f.nm f'.s D.fs, D.down, D.fuse⟩ v (l.set k f') z ∧ Step tg tg' w w' := by
  have hb : ∀ j, tg j ≠ .no → tg j ≠ .mp → w'.heap[j]? = w.heap[j]? := fun j h1 h2 => hk.block j (h.lt j h1) h2
  refine ⟨⟨(hb pb (by rw [h.tp]; exact nofun) (by rw [h.tp]; exact nofun)).trans h.cell, (t1 pb (by rw [h.tp]; exact nofun)).trans h.tp, by rw [List.length_set]; exact ho, fun g hg => (t1 g (by rw [h.tm g hg]; exact nofun)).trans (h.tm g hg), ?_, h.fz, fun g hg => ?_, ?_, by rw [List.length_set]; exact h.len, fun j hj => ?_⟩, ?_, ?_⟩
  · show upd Fil.nm f.nm f'.s D.fs = (l.set k f').map RF.s
    rw [set_upd h.srt hf, h.fs]
    exact (map_upd (fun _ => rfl) _ _ _).symm
  · rw [set_upd h.srt hf] at hg
    rcases mem_upd hg with rfl | ⟨hg1, _⟩
    · exact hF
    · exact (h.fl g hg1).keep (fun j hj => hb j (by rw [hj]; exact nofun) (by rw [hj]; exact nofun)) (fun j hj => (t1 j (by rw [hj]; exact nofun)).trans hj)
  · rw [set_upd h.srt hf]; exact srt_upd hn h.srt
  · rcases t2 j hj with h1 | h1
    · exact Nat.lt_of_lt_of_le (h.lt j h1) hk.size
    · exact h1.2
  · exact hk.mono fun j _ e => by rw [e]; exact nofun
  · exact fun j hj => (t2 j hj).imp id And.left

theorem pos_lt {l : List RF} {k : Nat} {f : RF} (h : l[k]? = some f) : k < l.length := (List.getElem?_eq_some_iff.1 h).1
/-- the cells of a file -/
theorem RAt.cells {w : World} {tg : Nat → Tg} {pb : Nat} {D : DK} {v : Value} {l : List RF} {z : Int} {k : Nat} {f : RF} (h : RAt w tg pb D v l z) (hf : l[k]? = some f) :
    ∃ g c, v = .slice (some ⟨g, 0, none⟩) l.length c ∧ l.length ≤ c ∧ c ≤ maxLen ∧ w.cell? ⟨g, k * 3, none⟩ = some f.n ∧ w.cell? ⟨g, k * 3 + 1, none⟩ = some f.v ∧ w.cell? ⟨g, k * 3 + 2, none⟩ = some (.int .i64 f.sy) ∧ (∀ i, w.frozen? ⟨g, i, none⟩ = false) ∧ g < w.heap.size := by
  have hlt := pos_lt hf
  rcases rowV_own h.own with ⟨_, h0⟩ | ⟨g, c, rfl, h1, h2, h3, h4⟩
  · omega
  · obtain ⟨f0, f1, f2⟩ := flat_get l k f hf
    have g0 := h3 _ _ f0
    have g1 := h3 _ _ f1
    have g2 := h3 _ _ f2
    rw [Nat.zero_add] at g0 g1 g2
    exact ⟨g, c, rfl, h1, h2, g0, g1, g2, h4, block_lt_of_cell g0⟩

/-! ### Sync -/
set_option maxHeartbeats 400000 in
theorem rsync_no (w : World) (p : Value) (s : List UInt8) (k c : Int) (hc : (c != 0) = true) (H : Hid (Calls Try.prog 51 #[p, .string ⟨⟨s⟩⟩] w fun e w' => e = .returned (.tuple #[.int .i64 k, .int .i64 c]) ∧ w' = w)) :
    Calls Try.prog 27 #[p, .string ⟨⟨s⟩⟩] w fun e w' => e = .returned (.int .i64 c) ∧ w' = w := by
  go_enter Try.func27, Try.ntmps27
  go_wp2_with (go_at_call 51; refine H.out.mono ?_)
  rintro e w1 ⟨rfl, rfl⟩
  go_wp2_with fail
  go_ret
  exact ⟨rfl, rfl⟩
set_option maxHeartbeats 400000 in
theorem rsync_lost (w : World) (p : Value) (s : List UInt8) (k : Int) (R : World → Prop) (H : Hid (Calls Try.prog 51 #[p, .string ⟨⟨s⟩⟩] w fun e w' => e = .returned (.tuple #[.int .i64 k, .int .i64 0]) ∧ w' = w)) (H2 : Hid (Calls Try.prog 48 #[p] w fun e w' => e = .returned (.bool false) ∧ R w')) :
    Calls Try.prog 27 #[p, .string ⟨⟨s⟩⟩] w fun e w' => e = .returned (.int .i64 11) ∧ R w' := by
  go_enter Try.func27, Try.ntmps27
  go_wp2_with (go_at_call 51; refine H.out.mono ?_)
  rintro e w1 ⟨rfl, rfl⟩
  go_wp2_with (go_at_call 48; refine H2.out.mono ?_)
  rintro e w2 ⟨rfl, hR⟩
  go_wp2_with fail
  go_ret
  exact ⟨rfl, hR⟩
set_option maxHeartbeats 1000000 in
theorem rsync_ok (w : World) (pb k : Nat) (s : List UInt8) (R : World → Prop) (H : Hid (Calls Try.prog 51 #[.pointer (some ⟨pb, 0, none⟩), .string ⟨⟨s⟩⟩] w fun e w' => e = .returned (.tuple #[.int .i64 k, .int .i64 0]) ∧ w' = w))
    (H2 : Hid (Calls Try.prog 48 #[.pointer (some ⟨pb, 0, none⟩)] w fun e w' => e = .returned (.bool true) ∧ R w')) (n g c m d : Nat) (a : Option Addr) (y y2 : Value) (hk : k < n)
    (HR : Hid (∀ w', R w' → ∃ x, w'.heap[pb]? = some (.cells #[.slice (some ⟨g, 0, none⟩) n c, x, y] 35 (0, 0)) ∧ w'.cell? ⟨g, k * 3 + 1, none⟩ = some (.slice a m d) ∧ w'.cell? ⟨g, k * 3 + 2, none⟩ = some y2 ∧ w'.frozen? ⟨g, k * 3 + 2, none⟩ = false)) :
    Calls Try.prog 27 #[.pointer (some ⟨pb, 0, none⟩), .string ⟨⟨s⟩⟩] w fun e w' => e = .returned (.int .i64 0) ∧ ∃ w1 j, R w1 ∧ w' = (w1.setCell ⟨g, k * 3 + 2, none⟩ (.int .i64 m)).drewN j := by
  go_enter Try.func27, Try.ntmps27
  go_wp2_with (go_at_call 51; refine H.out.mono ?_)
  rintro e w1 ⟨rfl, rfl⟩
  go_wp2_with (go_at_call 48; refine H2.out.mono ?_)
  rintro e w2 ⟨rfl, hR⟩
  obtain ⟨x, h1, h2, h4, h3⟩ := HR.out w2 hR
  obtain ⟨e0, e1, e2⟩ := c3 h1
  have HRR : Hid (R w2) := hR
  clear hR
  have hi : (k : Int) < (n : Int) := by omega
  go_wp2_with fail
  go_region
  all_goals go_wp2_with fail
  all_goals go_ret
  all_goals exact ⟨rfl, w2, 1, HRR.out, rfl⟩

theorem kp_drew {S : Nat → Prop} {w : World} (n : Nat) : Kp S w (w.drewN n) := (Kp.refl S w).drew n
theorem RAt.drew {w : World} {tg : Nat → Tg} {pb : Nat} {D : DK} {v : Value} {l : List RF} {z : Int} (h : RAt w tg pb D v l z) (n : Nat) : RAt (w.drewN n) tg pb D v l z := h.keep (fun _ _ => rfl) (Nat.le_refl _)
theorem Step.drew {t t1 : Nat → Tg} {a b : World} (h : Step t t1 a b) (n : Nat) : Step t t1 a (b.drewN n) := ⟨h.1.drew n, h.2⟩

theorem rsync_any {w : World} {tg : Nat → Tg} {pb : Nat} {D : DK} (h : Ref w tg pb D) (s : List UInt8) :
    Calls Try.prog 27 #[.pointer (some ⟨pb, 0, none⟩), .string ⟨⟨s⟩⟩] w fun e w' => e = .returned (.int .i64 (syncD D s).1) ∧ ∃ tg', Ref w' tg' pb (syncD D s).2 ∧ Step tg tg' w w' := by
  obtain ⟨v, l, z, h⟩ := h
  have H := there_any h s
  unfold syncD
  unfold thereC thereK at H
  cases hd : D.down with
  | true =>
    rw [hd] at H
    refine (rsync_no w _ s _ 11 rfl H).mono ?_
    rintro e w' ⟨rfl, rfl⟩
    exact ⟨rfl, tg, ⟨v, l, z, h⟩, Step.refl _ _⟩
  | false =>
    rw [hd] at H
    rw [if_neg (by simp), h.fs, fnd_map]
    rcases pos_fnd s l with ⟨p1, p2⟩ | ⟨k, f, p1, p2, p3⟩
    · rw [p2]
      rw [p1] at H
      refine (rsync_no w _ s _ 3 rfl H).mono ?_
      rintro e w' ⟨rfl, rfl⟩
      exact ⟨rfl, tg, ⟨v, l, z, h⟩, Step.refl _ _⟩
    · rw [p3]
      rw [p1] at H
      simp only [Option.map_some]
      have H2 := done_any h
      cases hb : (burn D).1 with
      | false =>
        rw [hb] at H2
        rw [if_neg (by simp)]
        refine (rsync_lost w _ s _ _ H H2).mono ?_
        rintro e w' ⟨rfl, ⟨z', h'⟩, st⟩
        exact ⟨rfl, tg, ⟨v, l, z', h'⟩, st⟩
      | true =>
        rw [hb] at H2
        rw [if_pos rfl]
        obtain ⟨g, c, rfl, _⟩ := h.cells p2
        have hlt := pos_lt p2
        have hbl : ∀ w', ((∃ z', RAt w' tg pb (burn D).2 (.slice (some ⟨g, 0, none⟩) l.length c) l z') ∧ Step tg tg w w') → ∃ x, w'.heap[pb]? = some (.cells #[.slice (some ⟨g, 0, none⟩) l.length c, x, .bool (burn D).2.down] 35 (0, 0)) ∧ w'.cell? ⟨g, k * 3 + 1, none⟩ = some (.slice f.a f.b.length f.c) ∧ w'.cell? ⟨g, k * 3 + 2, none⟩ = some (.int .i64 f.sy) ∧ w'.frozen? ⟨g, k * 3 + 2, none⟩ = false := by
          rintro w' ⟨⟨z', h'⟩, -⟩
          obtain ⟨g', c', e, _, _, c0, c1, c2, c4, _⟩ := h'.cells p2
          cases e
          exact ⟨_, h'.cell, c1, c2, c4 _⟩
        refine (rsync_ok w pb k s _ H H2 l.length g c f.b.length f.c f.a _ _ hlt hbl).mono ?_
        rintro e w' ⟨rfl, w1, j, ⟨⟨z', h'⟩, st⟩, rfl⟩
        have hF := h'.fl f (List.mem_of_getElem? p2)
        have ho := owns_set h'.own (g := g) rfl (k * 3 + 2) (.int .i64 f.b.length)
        rw [← flat_set2 (f := f) (f' := ⟨f.nm, f.b, f.b.length, f.a, f.c⟩) rfl rfl p2] at ho
        have hk : Kp (fun j => tg j = .mp) w1 (w1.setCell ⟨g, k * 3 + 2, none⟩ (.int .i64 f.b.length)) := Kp.of_set _ _ _ (h.tm g rfl)
        obtain ⟨r, st2⟩ := h'.recell (f' := ⟨f.nm, f.b, f.b.length, f.a, f.c⟩) (tg' := tg) p2 rfl ho hk (fun _ _ => rfl) (fun _ hj => .inl hj) ((show RFAt w1 tg ⟨f.nm, f.b, f.b.length, f.a, f.c⟩ from ⟨hF.row, hF.hz, Nat.le_refl _, hF.hl, hF.hc, hF.hc2⟩).keep (fun j hj => hk.block j (h'.lt j (by rw [hj]; exact nofun)) (by rw [hj]; exact nofun)) fun _ hj => hj)
        have hn : f.nm = s := (fnd_some p3).2
        rw [hn] at r
        rw [burn_fs, h.fs] at r
        refine ⟨rfl, tg, ⟨_, _, z', r.drew j⟩, (st.trans st2).drew j⟩
end Go.Proofs.Ytnohidalomjfmaa
