/-
  A run of calls: a fuse; a new disk and log.
-/
import Derived.Test.YtplcpjngpkghmaaKq
namespace Go.Proofs.Ytplcpjngpkghmaa
open Go.RowKit Go.Maps
variable {w0 w w' : World} {pb lb rb N : Nat}

theorem Run.mono (h : Run w0 w pb lb rb N) {N' : Nat} (hN : N ≤ N') : Run w0 w pb lb rb N' := by
  obtain ⟨D, pt, first, l, tg, lt, R, v, hb, hd⟩ := h
  exact ⟨D, pt, first, l, tg, lt, R, v, hb, ⟨hd.sm, hd.fs, hd.up, hd.dn, Nat.le_trans hd.nx hN, Nat.le_trans hd.ln (by omega)⟩⟩
theorem Run.below (h : Run w0 w pb lb rb N) : Below w0.heap.size w0 w := by
  obtain ⟨D, pt, first, l, tg, lt, R, v, hb, hd⟩ := h
  exact hb.j.b
theorem run_fuse (h : Run w0 w pb lb rb N) (n : Int) (hn : n < 9223372036854775808) : Calls Try.prog 14 #[.pointer (some ⟨pb, 0, none⟩), .int .i64 n] w fun e w' => e = .returned (.tuple #[]) ∧ Run w0 w' pb lb rb N := by
  obtain ⟨D, pt, first, l, tg, lt, R, v, hb, hd⟩ := h
  refine (setfuse_any n hn hb.j.d).mono ?_
  rintro e w' ⟨rfl, dd, st⟩
  exact ⟨rfl, setF D n, pt, first, l, tg, lt, R, v, hb.back (hb.prog.left dd st), ⟨hd.sm, hd.fs, hd.up, hd.dn, hd.nx, hd.ln⟩⟩
def Fre (w0 w : World) (pb lb : Nat) : Prop := ∃ tg lt, LJ NoP w0 w pb lb (dl (encB 0 []) 16) (some ⟨pb, 0, none⟩) 0 [] tg lt
theorem run_new (h : Fre w0 w pb lb) : Calls Try.prog 13 #[] w fun e w' => e = .returned (.pointer (some ⟨w.heap.size, 0, none⟩)) ∧ Run w0 w' pb lb w.heap.size 0 := by
  obtain ⟨tg, lt, j⟩ := h
  refine (rnew_at w).mono ?_
  rintro e w' ⟨rfl, rfl⟩
  have b := (Below.refl _ w).alloc (Nat.le_refl _) (.cells #[.slice none 0 0, .int .i64 0, .int .i64 0, .int .i64 0, .bool false, .int .i64 (-1), .bool false] 40)
  obtain ⟨u, hg⟩ := j.g
  refine ⟨rfl, _, _, 0, [], tg, lt, RL.new, .slice none 0 0, ⟨j.keep b, ⟨new0, j.b.size, PsOwn.nil _ _, Nat.le_refl _, Nat.le_refl _, Nat.le_refl _, Nat.zero_le _, nofun⟩, fun g hg' => ?_⟩, ⟨⟨rfl, rfl, nofun⟩, ⟨0, none, Nat.le_refl _, rfl, ?_⟩, fun _ => ⟨rfl, rfl⟩, nofun, Nat.le_refl _, ?_⟩⟩
  · have e : g = w.heap.size := by
      rcases hg' with h | h | ⟨r, hr, _⟩
      · exact h
      · cases h
      · cases hr
    subst e
    exact ⟨no_of fun e => by have := j.d.lt e; omega, no_of fun e => by have := hg.lt_ _ e; omega⟩
  · show _ = fsN none (some (encB 0 [], (encB 0 []).length)) none
    rw [enc0_len]
    rfl
  · show (encB 0 []).length ≤ _
    rw [enc0_len]
    exact Nat.le_refl _
end Go.Proofs.Ytplcpjngpkghmaa
