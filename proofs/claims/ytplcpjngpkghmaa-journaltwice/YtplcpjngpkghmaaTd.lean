/-
  Truncate: the walk.
-/
import Derived.Test.YtplcpjngpkghmaaTc
namespace Go.Proofs.Ytplcpjngpkghmaa
open Go.RowKit Go.Maps Go.WideMaps Go.Sort

set_option maxHeartbeats 400000 in
theorem trunc_no (w : World) (p : Value) (s : ByteArray) (k c : Int) (hc : (c != 0) = true) (H : Hid (Calls Try.prog 53 #[p, .string s] w fun e w' => e = .returned (.tuple #[.pointer none, .int .i64 c]) ∧ w' = w)) :
    Calls Try.prog 72 #[p, .string s, .int .i64 k] w fun e w' => e = .returned (.int .i64 c) ∧ w' = w := by
  go_enter Try.func72, Try.ntmps72
  go_wp2_with (go_at_call 53; refine H.out.mono ?_)
  rintro e w1 ⟨rfl, rfl⟩
  go_wp2_with fail
  go_ret
  exact ⟨rfl, rfl⟩
set_option maxHeartbeats 1000000 in
set_option maxRecDepth 100000 in
theorem trunc_yes {w : World} {tg : Nat → Tg} {pb : Nat} {D : DK} {mb : Option Nat} {l : List Fl} {z : Int} (h : Hid (DkAt w tg pb D mb l z)) (s : ByteArray) (k : Int) (nm b : List UInt8) (sy fb fk fc : Nat) (fa : Option Addr) (hfk : Hid (b.length = fk)) (hf : Hid (fnd Fl.nm s.data.toList l = some ⟨nm, b, sy, fb, .slice fa fk fc⟩)) (hd : Hid (D.down = false))
    (H : Hid (Calls Try.prog 53 #[.pointer (some ⟨pb, 0, none⟩), .string s] w fun e w' => e = .returned (.tuple #[.pointer (some ⟨fb, 0, none⟩), .int .i64 0]) ∧ w' = w)) :
    Calls Try.prog 72 #[.pointer (some ⟨pb, 0, none⟩), .string s, .int .i64 k] w fun e w' => e = .returned (.int .i64 (truncD D s.data.toList k).1) ∧ Dsk w' tg pb (truncD D s.data.toList k).2 ∧ Step tg tg w w' := by
  have hff : fnd Fil.nm s.data.toList D.fs = some ⟨nm, b, sy⟩ := by rw [h.out.fs, ← map_fnd Fl.s_nm, hf.out]; rfl
  have hF := h.out.fl _ (fnd_some hf.out).1
  obtain ⟨e0, e1⟩ := c2 hF.cell
  simp only at e0 e1
  obtain ⟨y, D1, hy⟩ : ∃ y D1, burn D = (y, D1) := ⟨_, _, rfl⟩
  obtain ⟨hy1, hy2⟩ := burn_eta _ hy
  have H37 : Hid (Calls Try.prog 51 #[.pointer (some ⟨pb, 0, none⟩)] w fun e w' => e = .returned (.bool y) ∧ (∃ z', DkAt w' tg pb D1 mb l z') ∧ Step tg tg w w') := by
    have := goes_any h.out
    rw [hy1, hy2] at this
    exact this
  have HF : Hid (D1.fs = D.fs) := by have := burn_fs D; rw [hy2] at this; exact this
  have HA : Hid (truncD D s.data.toList k = if k < 0 ∨ (fk : Int) < k then (2, D) else if y then (0, ⟨upd Fil.nm s.data.toList ⟨s.data.toList, b.take k.toNat, min sy k.toNat⟩ D.fs, D1.down, D1.fuse⟩) else (11, D1)) := by
    unfold Hid truncD
    simp only [hd.out, hff, hy1, hy2, Bool.false_eq_true, if_false, hfk.out]
  generalize truncD D s.data.toList k = A at *
  have HS : Hid (Dsk w tg pb D) := ⟨mb, l, z, h.out⟩
  clear hff hy hy1 hy2 hF
  go_enter Try.func72, Try.ntmps72
  go_wp2_with (go_at_call 53; refine H.out.mono ?_)
  rintro e w1 ⟨rfl, rfl⟩
  by_cases h0 : k < 0
  · go_wp2_with fail
    go_ret
    rw [HA.out, if_pos (.inl h0)]
    exact ⟨rfl, HS.out, Step.refl _ _⟩
  by_cases h1 : (fk : Int) < k
  · go_wp2_with fail
    go_ret
    rw [HA.out, if_pos (.inr h1)]
    exact ⟨rfl, HS.out, Step.refl _ _⟩
  obtain ⟨t, rfl⟩ : ∃ t : Nat, k = (t : Int) := ⟨k.toNat, by omega⟩
  go_wp2_with (go_at_call 51; refine H37.out.mono ?_)
  rintro e w2 ⟨rfl, ⟨z', h2⟩, st⟩
  have H2 : Hid (DkAt w2 tg pb D1 mb l z') := h2
  have ST : Hid (Step tg tg w1 w2) := st
  clear h2 st e0 e1
  cases y with
  | false =>
    go_wp2_with fail
    go_ret
    rw [HA.out, if_neg (by omega), if_neg (by simp)]
    exact ⟨rfl, ⟨mb, l, z', H2.out⟩, ST.out⟩
  | true =>
    have H50 : Hid (Calls Try.prog 56 #[.pointer (some ⟨fb, 0, none⟩), .int .i64 t] w2 fun e w' => e = .returned (.tuple #[]) ∧ Dsk w' tg pb ⟨upd Fil.nm s.data.toList ⟨s.data.toList, b.take t, min sy t⟩ D1.fs, D1.down, D1.fuse⟩ ∧ Step tg tg w2 w') := cut_any H2.out hf.out t (by have := hfk.out; simp only; omega)
    rw [HF.out] at H50
    go_wp2_with (go_at_call 56; refine H50.out.mono ?_)
    rintro e w3 ⟨rfl, d3, s3⟩
    have D3 : Hid _ := d3
    have S3 : Hid (Step tg tg w2 w3) := s3
    clear d3 s3
    go_wp2_with fail
    go_ret
    rw [HA.out, if_neg (by omega), if_pos (by simp), Int.toNat_natCast]
    exact ⟨rfl, D3.out, ST.out.trans S3.out⟩
theorem trunc_any {w : World} {tg : Nat → Tg} {pb : Nat} {D : DK} (h : Dsk w tg pb D) (s : ByteArray) (k : Int) (hs : s.size ≤ maxLen) :
    Calls Try.prog 72 #[.pointer (some ⟨pb, 0, none⟩), .string s, .int .i64 k] w fun e w' => e = .returned (.int .i64 (truncD D s.data.toList k).1) ∧ Dsk w' tg pb (truncD D s.data.toList k).2 ∧ Step tg tg w w' := by
  obtain ⟨mb, l, z, h⟩ := h
  have hfd := find_any h s hs
  have hfs := h.fs
  unfold findP findC at hfd
  cases hd : D.down with
  | true =>
    simp only [hd, if_true] at hfd
    refine (trunc_no w _ s k 11 rfl hfd).mono ?_
    rintro e w' ⟨rfl, rfl⟩
    have e : truncD D s.data.toList k = (11, D) := by unfold truncD; simp [hd]
    rw [e]
    exact ⟨rfl, ⟨mb, l, z, h⟩, Step.refl _ _⟩
  | false =>
    simp only [hd, Bool.false_eq_true, if_false] at hfd
    cases hf : fnd Fl.nm s.data.toList l with
    | none =>
      rw [hf] at hfd
      refine (trunc_no w _ s k 3 rfl hfd).mono ?_
      rintro e w' ⟨rfl, rfl⟩
      have e : truncD D s.data.toList k = (3, D) := by
        unfold truncD
        rw [hfs, ← map_fnd Fl.s_nm, hf]
        simp [hd]
      rw [e]
      exact ⟨rfl, ⟨mb, l, z, h⟩, Step.refl _ _⟩
    | some f =>
      rw [hf] at hfd
      obtain ⟨nm, b, sy, fb, v⟩ := f
      obtain ⟨a, cc, hv, -⟩ := (h.fl _ (fnd_some hf).1).own.shape
      simp only at hv
      subst hv
      exact trunc_yes h s k nm b sy fb _ cc a rfl hf hd hfd
end Go.Proofs.Ytplcpjngpkghmaa
