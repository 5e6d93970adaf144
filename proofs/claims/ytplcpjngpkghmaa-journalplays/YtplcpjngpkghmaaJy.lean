/-
  A log behind a crash; two logs of one disk.
-/
import Derived.Test.YtplcpjngpkghmaaJx
import Derived.Test.YtplcpjngpkghmaaJw
namespace Go.Proofs.Ytplcpjngpkghmaa
open Go.RowKit Go.Maps

theorem rst_log (C : List UInt8) (sy : Nat) (ch : List UInt8) : ∃ x, rst (fsN none (some (C, sy)) none) ch = fsN none (some (if sy < C.length then crashB C sy x else C, if sy < C.length then (crashB C sy x).length else sy)) none := by
  refine ⟨ch.headD 0, ?_⟩
  show rst [⟨nmL, C, sy⟩] ch = _
  unfold rst
  by_cases h : sy < C.length
  · rw [if_pos h]
    simp only [if_pos h]
    rfl
  · rw [if_neg h]
    simp only [if_neg h]
    rfl
/-- the log's file behind a restart -/
theorem restart_log {D : DK} (first s sy : Nat) (recs : List (List UInt8)) (h80 : ∀ p ∈ recs, p.length ≤ 4080) (hs : s ≤ recs.length) (hsy : sy = (encB first (recs.take s)).length) (h : D.fs = fsN none (some (encB first recs, sy)) none) (ch : List UInt8) :
    ∃ k t sy', s ≤ k ∧ k ≤ recs.length ∧ (restartD D ch).fs = fsN none (some (encB first (recs.take k) ++ t, sy')) none ∧ Torn t ∧ (encB first (recs.take k) ++ t).length ≤ (encB first recs).length := by
  obtain ⟨x, e⟩ := rst_log (encB first recs) sy ch
  have e2 : (restartD D ch).fs = rst D.fs ch := rfl
  rw [h, e] at e2
  by_cases hlt : sy < (encB first recs).length
  · simp only [if_pos hlt] at e2
    obtain ⟨k, t, h1, h2, h3, h4⟩ := crash_log first s recs h80 x
    rw [← hsy] at h3
    have hl := crashB_length (encB first recs) sy x (by omega)
    have hkl := kp_le (encB first recs) sy x (by omega)
    rw [h3] at e2 hl
    exact ⟨k, t, _, h1, by omega, e2, h4, by omega⟩
  · simp only [if_neg hlt] at e2
    refine ⟨recs.length, [], sy, hs, Nat.le_refl _, ?_, torn_nil, ?_⟩
    · rw [List.take_length, List.append_nil]; exact e2
    · rw [List.take_length, List.append_nil]; exact Nat.le_refl _
/-- a log of a disk that another log has too -/
theorem LJ.other {P P' : Nat → Obj → Prop} {w0 w w' : World} {pb la lb f f' : Nat} {D D' : DK} {l l' : List RC} {tg lt lt' : Nat → Tg} (h : LJ P w0 w pb la D (some ⟨pb, 0, none⟩) f l tg lt) (h' : LJ P' w0 w' pb lb D' (some ⟨pb, 0, none⟩) f' l' tg lt') (hP : ∀ k o, lt k ≠ .no → w.heap[k]? = some o → P' k o) (hs : w.heap.size ≤ w'.heap.size) : LJ NoP w0 w' pb la D' (some ⟨pb, 0, none⟩) f l tg lt := by
  obtain ⟨v, hg⟩ := h.g
  refine ⟨h'.d, ⟨v, hg.keep (fun k hk => ?_) hs⟩, h.ap, h'.t1, h.t2, h'.b, nofun⟩
  have hlt := hg.lt_ k hk
  have e : w.heap[k]? = some w.heap[k] := Array.getElem?_eq_getElem hlt
  rw [(h'.pr k _ (hP k _ hk e)).1, e]
/-- two logs that tell the same -/
structure TwoL (w V : World) (pb la lb : Nat) (D : DK) (l l' : List RC) (tg lt lt' : Nat → Tg) : Prop where
  a : LJ NoP w V pb la D (some ⟨pb, 0, none⟩) 0 l tg lt
  b : LJ NoP w V pb lb D (some ⟨pb, 0, none⟩) 0 l' tg lt'
theorem TwoL.keep {w V V' : World} {pb la lb : Nat} {D : DK} {l l' : List RC} {tg lt lt' : Nat → Tg} (h : TwoL w V pb la lb D l l' tg lt lt') (b : Below V.heap.size V V') : TwoL w V' pb la lb D l l' tg lt lt' := ⟨h.a.keep b, h.b.keep b⟩
end Go.Proofs.Ytplcpjngpkghmaa
