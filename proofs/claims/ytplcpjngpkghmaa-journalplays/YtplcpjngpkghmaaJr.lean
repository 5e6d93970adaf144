/-
  The journal's decode of a file that is whole but for its end.
-/
import Derived.Test.YtplcpjngpkghmaaJq
namespace Go.Proofs.Ytplcpjngpkghmaa
open Go.RowKit Go.Maps

/-- bytes that begin with no frame -/
def Torn (t : List UInt8) : Prop := Crc.opened (t.take 4088) = none
theorem torn_nil : Torn [] := rfl
theorem oj_torn {t : List UInt8} (h : Torn t) : ojD t = ([], 0) := by
  unfold Torn at h
  unfold ojD
  rw [h]
theorem oj_some {l x y : List UInt8} (h : Crc.opened (l.take 4088) = some (x, y)) : ojD l = (x, (l.take 4088).length - y.length) := by
  unfold ojD
  rw [h]
theorem take_frame (p r : List UInt8) (hp : p.length ≤ 4080) : (Crc.frame p ++ r).take 4088 = Crc.frame p ++ r.take (4088 - (p.length + 8)) := by
  have hl := Crc.frame_length p
  generalize Crc.frame p = F at *
  rw [List.take_append, List.take_of_length_le (by omega), hl]
theorem oj_frame (p r : List UInt8) (hp : p.length ≤ 4080) : ojD (Crc.frame p ++ r) = (p, p.length + 8) := by
  have hl := Crc.frame_length p
  have e := take_frame p r hp
  have ho := Crc.opened_frame p (r.take (4088 - (p.length + 8))) (by omega)
  rw [← e] at ho
  rw [oj_some ho, e]
  generalize Crc.frame p = F at *
  rw [List.length_append, hl]
  congr 1
  omega
theorem encB_split (first : Nat) (recs : List (List UInt8)) (t : List UInt8) (k : Nat) : encB first recs ++ t = encB first (recs.take k) ++ ((recs.drop k).flatMap Crc.frame ++ t) := by
  unfold encB
  rw [List.append_assoc, List.append_assoc, ← List.append_assoc ((recs.take k).flatMap Crc.frame), ← List.flatMap_append, List.take_append_drop]
/-- what is still to be decoded -/
def restJ (recs : List (List UInt8)) (t : List UInt8) (k : Nat) : List UInt8 := (recs.drop k).flatMap Crc.frame ++ t
theorem restJ_at {recs : List (List UInt8)} {t : List UInt8} {k : Nat} {p : List UInt8} (h : recs[k]? = some p) : restJ recs t k = Crc.frame p ++ restJ recs t (k + 1) := by
  obtain ⟨hk, rfl⟩ := List.getElem?_eq_some_iff.1 h
  unfold restJ
  rw [List.drop_eq_getElem_cons hk, List.flatMap_cons, List.append_assoc]
theorem restJ_end (recs : List (List UInt8)) (t : List UInt8) (k : Nat) (h : recs.length ≤ k) : restJ recs t k = t := by
  unfold restJ
  rw [List.drop_of_length_le h]
  rfl
theorem wh_succ {first : Nat} {recs : List (List UInt8)} {k : Nat} {p : List UInt8} (h : recs[k]? = some p) : (encB first (recs.take (k + 1))).length = (encB first (recs.take k)).length + (p.length + 8) := by
  obtain ⟨hk, rfl⟩ := List.getElem?_eq_some_iff.1 h
  unfold encB
  rw [List.take_succ_eq_append_getElem hk, List.flatMap_append]
  simp [Crc.frame_length]
  omega
theorem Row.pre {w : World} {g o : Nat} {x y : List UInt8} (h : Row w g o (x ++ y)) : Row w g o x := fun k u hu => h k u (by rw [List.getElem?_append_left (List.getElem?_eq_some_iff.1 hu).1]; exact hu)
/-- open of what is still to be decoded -/
theorem open_rest (first : Nat) (recs : List (List UInt8)) (t : List UInt8) (g o c m k : Nat) (w wr : World) (hm : (encB first recs ++ t).length = m) (hrow : Row w g o (encB first recs ++ t)) (hc : m ≤ c) (hc2 : c ≤ 9223372036854775807) (hl : m ≤ 140737488355328) (hb : Below w.heap.size w wr) :
    (encB first (recs.take k)).length + (restJ recs t k).length = m ∧ Calls Try.prog 70 #[.slice (cutA (some ⟨g, o, none⟩) c (encB first (recs.take k)).length) (m - (encB first (recs.take k)).length) (c - (encB first (recs.take k)).length)] wr fun e w' => ∃ q c', e = .returned (.tuple #[.slice q (ojD (restJ recs t k)).1.length c', .int .i64 (ojD (restJ recs t k)).2]) ∧ Own w' wr.heap.size (.slice q (ojD (restJ recs t k)).1.length c') (ojD (restJ recs t k)).1 ∧ Below wr.heap.size wr w' := by
  have e := encB_split first recs t k
  have e2 : (encB first recs ++ t).drop (encB first (recs.take k)).length = restJ recs t k := by rw [e]; exact List.drop_left
  have hlen : (encB first (recs.take k)).length + (restJ recs t k).length = m := by
    rw [← hm, e, List.length_append]; rfl
  refine ⟨hlen, ?_⟩
  have hL : Lies wr (cutA (some ⟨g, o, none⟩) c (encB first (recs.take k)).length) (restJ recs t k) := by
    have := lies_cut (w := wr) (a := some ⟨g, o, none⟩) (l := encB first recs ++ t) (c := c) (lo := (encB first (recs.take k)).length) (.inr ⟨g, o, rfl, hrow.keep hb (Nat.le_refl _)⟩) (by omega)
    rwa [e2] at this
  have := open70_any (restJ recs t k) (cutA (some ⟨g, o, none⟩) c (encB first (recs.take k)).length) (c - (encB first (recs.take k)).length) wr hL (fcut_none nofun) (by omega) (by omega) (by omega)
  rwa [show (restJ recs t k).length = m - (encB first (recs.take k)).length by omega] at this
end Go.Proofs.Ytplcpjngpkghmaa
