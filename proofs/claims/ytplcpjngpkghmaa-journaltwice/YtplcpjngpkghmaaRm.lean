/-
  Remove.
-/
import Derived.Test.YtplcpjngpkghmaaRn
namespace Go.Proofs.Ytplcpjngpkghmaa
open Go.RowKit Go.Maps Go.WideMaps Go.Sort

def removeD (D : DK) (n : List UInt8) : Int × DK := if D.down then (11, D) else match fnd Fil.nm n D.fs with
  | none => (3, D)
  | some _ => if (burn D).1 then (0, ⟨drp Fil.nm n D.fs, (burn D).2.down, (burn D).2.fuse⟩) else (11, (burn D).2)

theorem DkAt.removed {w w3 : World} {tg : Nat → Tg} {pb m : Nat} {D : DK} {l : List Fl} {z : Int} {n : List UInt8} (h : DkAt w tg pb D (some m) l z) (ht : w.mapTurned w3 m) (ho : w3.ownsMap Try.prog 9 pE m (drp Fl.nm n l).length (mapOf (drp Fl.nm n l))) :
    DkAt w3 tg pb ⟨drp Fil.nm n D.fs, D.down, D.fuse⟩ (some m) (drp Fl.nm n l) z ∧ Step tg tg w w3 := by
  have hmp : tg m = .mp := h.mp.1
  have hk : Kp (· = m) w w3 := Kp.of_grown (S := (· = m)) ht.grown (fun k e => (Option.some.inj e).symm)
  have hb : ∀ k, tg k ≠ .no → tg k ≠ .mp → w3.heap[k]? = w.heap[k]? := fun k h1 h2 => hk.block k (h.lt k h1) fun e => h2 (by rw [e]; exact hmp)
  refine ⟨⟨(hb pb (by rw [h.tp]; exact nofun) (by rw [h.tp]; exact nofun)).trans h.cell, h.tp, ?_, h.fz, ⟨hmp, ho⟩, fun f hf => ?_, srt_drp h.srt, Nat.le_trans drp_le h.len, fun k hk1 => Nat.lt_of_lt_of_le (h.lt k hk1) hk.size⟩, hk.mono fun k _ e => by rw [e, hmp]; exact nofun, fun _ h => .inl h⟩
  · show drp Fil.nm n D.fs = _
    rw [map_drp Fl.s_nm, h.fs]
  · refine (h.fl f (mem_drp.1 hf).1).keep (fun k hk1 => hb k ?_ ?_) (fun _ _ => rfl)
    all_goals rcases hk1 with hk1 | hk1 <;> rw [hk1] <;> exact nofun

set_option maxHeartbeats 400000 in
theorem remove_no (w : World) (p : Value) (s : ByteArray) (c : Int) (hc : (c != 0) = true) (H : Hid (Calls Try.prog 53 #[p, .string s] w fun e w' => e = .returned (.tuple #[.pointer none, .int .i64 c]) ∧ w' = w)) :
    Calls Try.prog 31 #[p, .string s] w fun e w' => e = .returned (.int .i64 c) ∧ w' = w := by
  go_enter Try.func31, Try.ntmps31
  go_wp2_with (go_at_call 53; refine H.out.mono ?_)
  rintro e w1 ⟨rfl, rfl⟩
  go_wp2_with fail
  go_ret
  exact ⟨rfl, rfl⟩
set_option maxHeartbeats 2000000 in
set_option maxRecDepth 100000 in
theorem remove_yes {w : World} {tg : Nat → Tg} {pb m fb : Nat} {D : DK} {l : List Fl} {z : Int} (h : Hid (DkAt w tg pb D (some m) l z)) (s : ByteArray) (hs : Hid (s.size ≤ maxLen)) (f : Fl) (hf : Hid (fnd Fl.nm s.data.toList l = some f)) (hd : Hid (D.down = false))
    (H : Hid (Calls Try.prog 53 #[.pointer (some ⟨pb, 0, none⟩), .string s] w fun e w' => e = .returned (.tuple #[.pointer (some ⟨fb, 0, none⟩), .int .i64 0]) ∧ w' = w)) :
    Calls Try.prog 31 #[.pointer (some ⟨pb, 0, none⟩), .string s] w fun e w' => e = .returned (.int .i64 (removeD D s.data.toList).1) ∧ Dsk w' tg pb (removeD D s.data.toList).2 ∧ Step tg tg w w' := by
  have hff : fnd Fil.nm s.data.toList D.fs = some f.s := by rw [h.out.fs, ← map_fnd Fl.s_nm, hf.out]; rfl
  obtain ⟨y, D1, hy⟩ : ∃ y D1, burn D = (y, D1) := ⟨_, _, rfl⟩
  obtain ⟨hy1, hy2⟩ := burn_eta _ hy
  have H37 : Hid (Calls Try.prog 51 #[.pointer (some ⟨pb, 0, none⟩)] w fun e w' => e = .returned (.bool y) ∧ (∃ z', DkAt w' tg pb D1 (some m) l z') ∧ Step tg tg w w') := by
    have := goes_any h.out
    rw [hy1, hy2] at this
    exact this
  have HF : Hid (D1.fs = D.fs) := by have := burn_fs D; rw [hy2] at this; exact this
  have HA : Hid (removeD D s.data.toList = if y then (0, ⟨drp Fil.nm s.data.toList D.fs, D1.down, D1.fuse⟩) else (11, D1)) := by
    unfold Hid removeD
    simp only [hd.out, hff, hy1, hy2, Bool.false_eq_true, if_false]
  have hkey : Hid (keyOf Try.prog 9 (.string s) = some (.string s.data.toList)) := keyOf_string_mk (P := Try.prog) Try.underlying9 hs.out
  generalize removeD D s.data.toList = A at *
  clear hff hy hy1 hy2
  go_enter Try.func31, Try.ntmps31
  go_wp2_with (go_at_call 53; refine H.out.mono ?_)
  rintro e w1 ⟨rfl, rfl⟩
  go_wp2_with (go_at_call 51; refine H37.out.mono ?_)
  rintro e w2 ⟨rfl, ⟨z', h2⟩, st⟩
  have H2 : Hid (DkAt w2 tg pb D1 (some m) l z') := h2
  have ST : Hid (Step tg tg w1 w2) := st
  clear h2 st
  cases y with
  | false =>
    go_wp2_with fail
    go_ret
    rw [HA.out, if_neg (by simp)]
    exact ⟨rfl, ⟨_, l, z', H2.out⟩, ST.out⟩
  | true =>
    obtain ⟨e0, -, -, -⟩ := c4 H2.out.cell
    go_wp2_with (at_delete; refine wpList_delete_own _ rfl _ _ 61 9 rfl 66 law9 Try.underlying61 pE m l.length (mapOf l) rfl H2.out.mp.2 _ _ rfl hkey.out ?_)
    intro w3 ho3 ht3
    rw [mapOf_del] at ho3
    have ho3' := tight ho3
    rw [mapOf_size] at ho3'
    have h5 := H2.out.removed ht3 ho3'
    rw [HF.out] at h5
    have H5 : Hid _ := h5
    clear e0 ho3 ho3' ht3 h5
    go_wp2_with fail
    go_ret
    rw [HA.out, if_pos (by simp)]
    exact ⟨rfl, ⟨_, _, _, H5.out.1⟩, ST.out.trans H5.out.2⟩
theorem remove_any {w : World} {tg : Nat → Tg} {pb : Nat} {D : DK} (h : Dsk w tg pb D) (s : ByteArray) (hs : s.size ≤ maxLen) :
    Calls Try.prog 31 #[.pointer (some ⟨pb, 0, none⟩), .string s] w fun e w' => e = .returned (.int .i64 (removeD D s.data.toList).1) ∧ Dsk w' tg pb (removeD D s.data.toList).2 ∧ Step tg tg w w' := by
  obtain ⟨mb, l, z, h⟩ := h
  have hfd := find_any h s hs
  have hfs := h.fs
  unfold findP findC at hfd
  cases hd : D.down with
  | true =>
    simp only [hd, if_true] at hfd
    refine (remove_no w _ s 11 rfl hfd).mono ?_
    rintro e w' ⟨rfl, rfl⟩
    have e : removeD D s.data.toList = (11, D) := by unfold removeD; simp [hd]
    rw [e]
    exact ⟨rfl, ⟨mb, l, z, h⟩, Step.refl _ _⟩
  | false =>
    simp only [hd, Bool.false_eq_true, if_false] at hfd
    cases hf : fnd Fl.nm s.data.toList l with
    | none =>
      rw [hf] at hfd
      refine (remove_no w _ s 3 rfl hfd).mono ?_
      rintro e w' ⟨rfl, rfl⟩
      have e : removeD D s.data.toList = (3, D) := by
        unfold removeD
        rw [hfs, ← map_fnd Fl.s_nm, hf]
        simp [hd]
      rw [e]
      exact ⟨rfl, ⟨mb, l, z, h⟩, Step.refl _ _⟩
    | some f =>
      rw [hf] at hfd
      cases mb with
      | none =>
        have : l = [] := h.mp
        rw [this] at hf
        cases hf
      | some m => exact remove_yes h s hs f hf hd hfd
end Go.Proofs.Ytplcpjngpkghmaa
