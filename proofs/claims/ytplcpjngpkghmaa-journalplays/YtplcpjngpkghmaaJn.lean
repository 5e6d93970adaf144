/-
  Disks with the log's files, and one other, as plain data.
-/
import Derived.Test.YtplcpjngpkghmaaJl
namespace Go.Proofs.Ytplcpjngpkghmaa
open Go.RowKit Go.Maps

def nmO : List UInt8 := [97]
abbrev OB := Option (List UInt8 × Nat)
def one (n : List UInt8) : OB → List Fil
  | none => []
  | some (b, k) => [⟨n, b, k⟩]
/-- the files: another one, the checkpoint's, the spare one -/
def fsN (o x y : OB) : List Fil := one nmO o ++ (one nmL x ++ one nmS y)
theorem fnd_L (o x y : OB) : fnd Fil.nm nmL (fsN o x y) = x.map fun p => ⟨nmL, p.1, p.2⟩ := by
  rcases o with _ | ⟨_, _⟩ <;> rcases x with _ | ⟨_, _⟩ <;> rcases y with _ | ⟨_, _⟩ <;> rfl
theorem fnd_S (o x y : OB) : fnd Fil.nm nmS (fsN o x y) = y.map fun p => ⟨nmS, p.1, p.2⟩ := by
  rcases o with _ | ⟨_, _⟩ <;> rcases x with _ | ⟨_, _⟩ <;> rcases y with _ | ⟨_, _⟩ <;> rfl
theorem fnd_O (o x y : OB) : fnd Fil.nm nmO (fsN o x y) = o.map fun p => ⟨nmO, p.1, p.2⟩ := by
  rcases o with _ | ⟨_, _⟩ <;> rcases x with _ | ⟨_, _⟩ <;> rcases y with _ | ⟨_, _⟩ <;> rfl
theorem drp_S (o x y : OB) : drp Fil.nm nmS (fsN o x y) = fsN o x none := by
  rcases o with _ | ⟨_, _⟩ <;> rcases x with _ | ⟨_, _⟩ <;> rcases y with _ | ⟨_, _⟩ <;> rfl
theorem drp_L (o x y : OB) : drp Fil.nm nmL (fsN o x y) = fsN o none y := by
  rcases o with _ | ⟨_, _⟩ <;> rcases x with _ | ⟨_, _⟩ <;> rcases y with _ | ⟨_, _⟩ <;> rfl
theorem drp_O (o x y : OB) : drp Fil.nm nmO (fsN o x y) = fsN none x y := by
  rcases o with _ | ⟨_, _⟩ <;> rcases x with _ | ⟨_, _⟩ <;> rcases y with _ | ⟨_, _⟩ <;> rfl
theorem ins_S (o x : OB) (b : List UInt8) (k : Nat) : ins Fil.nm ⟨nmS, b, k⟩ (fsN o x none) = fsN o x (some (b, k)) := by
  rcases o with _ | ⟨_, _⟩ <;> rcases x with _ | ⟨_, _⟩ <;> rfl
theorem ins_L (o y : OB) (b : List UInt8) (k : Nat) : ins Fil.nm ⟨nmL, b, k⟩ (fsN o none y) = fsN o (some (b, k)) y := by
  rcases o with _ | ⟨_, _⟩ <;> rcases y with _ | ⟨_, _⟩ <;> rfl
theorem ins_O (x y : OB) (b : List UInt8) (k : Nat) : ins Fil.nm ⟨nmO, b, k⟩ (fsN none x y) = fsN (some (b, k)) x y := by
  rcases x with _ | ⟨_, _⟩ <;> rcases y with _ | ⟨_, _⟩ <;> rfl
theorem upd_S (o x : OB) (b b' : List UInt8) (k k' : Nat) : upd Fil.nm nmS ⟨nmS, b, k⟩ (fsN o x (some (b', k'))) = fsN o x (some (b, k)) := by
  rcases o with _ | ⟨_, _⟩ <;> rcases x with _ | ⟨_, _⟩ <;> rfl
theorem upd_L (o y : OB) (b b' : List UInt8) (k k' : Nat) : upd Fil.nm nmL ⟨nmL, b, k⟩ (fsN o (some (b', k')) y) = fsN o (some (b, k)) y := by
  rcases o with _ | ⟨_, _⟩ <;> rcases y with _ | ⟨_, _⟩ <;> rfl
theorem fsN_len (o x y : OB) : (fsN o x y).length ≤ 3 := by
  rcases o with _ | ⟨_, _⟩ <;> rcases x with _ | ⟨_, _⟩ <;> rcases y with _ | ⟨_, _⟩ <;> simp [fsN, one]

/-- a disk's files are these -/
structure ND (D : DK) (o x y : OB) : Prop where
  fs : D.fs = fsN o x y
theorem burn_ok {D : DK} (h : (burn D).1 = true) : (burn D).2.fs = D.fs ∧ (burn D).2.down = D.down ∧ (D.fuse = none → (burn D).2.fuse = none) := by
  unfold burn at *
  split <;> simp_all
theorem burn_no {D : DK} (h : ¬ (burn D).1 = true) : (burn D).2.fs = D.fs ∧ (burn D).2.down = true ∧ D.fuse ≠ none := by
  unfold burn at *
  split <;> simp_all
/-- what a call that may be lost has left -/
def Lost (o x : OB) (D : DK) (r : Int × DK) : Prop := r.1 = 11 ∧ r.2.down = true ∧ D.fuse ≠ none ∧ ∃ y, r.2.fs = fsN o x y
theorem discard_N {D : DK} {o x y : OB} (hd : D.down = false) (h : D.fs = fsN o x y) :
    ((discardD D).1 = 0 ∧ (discardD D).2.fs = fsN o x none ∧ (discardD D).2.down = false ∧ (D.fuse = none → (discardD D).2.fuse = none)) ∨ Lost o x D (discardD D) := by
  rcases y with _ | y
  · have hr : removeD D nmS = (3, D) := by
      unfold removeD
      rw [hd, h, fnd_S]
      simp
    left
    unfold discardD
    rw [hr, if_pos rfl]
    exact ⟨rfl, h, hd, fun h => h⟩
  · have hr : removeD D nmS = if (burn D).1 then (0, ⟨fsN o x none, (burn D).2.down, (burn D).2.fuse⟩) else (11, (burn D).2) := by
      unfold removeD
      rw [hd, h, fnd_S, drp_S]
      simp
    unfold discardD
    rw [hr]
    by_cases hb : (burn D).1 = true
    · obtain ⟨h1, h2, h3⟩ := burn_ok hb
      left
      rw [if_pos hb, if_neg (by simp)]
      exact ⟨rfl, rfl, h2.trans hd, h3⟩
    · obtain ⟨h1, h2, h3⟩ := burn_no hb
      right
      rw [if_neg hb, if_neg (by simp)]
      exact ⟨rfl, h2, h3, _, h1.trans h⟩
theorem append_S {D : DK} {o x : OB} (hd : D.down = false) (h : D.fs = fsN o x none) (b : List UInt8) (hb : b.length ≤ 1048576) :
    ((appendD D nmS b).1 = 0 ∧ (appendD D nmS b).2.fs = fsN o x (some (b, 0)) ∧ (appendD D nmS b).2.down = false ∧ (D.fuse = none → (appendD D nmS b).2.fuse = none)) ∨ Lost o x D (appendD D nmS b) := by
  have hlen := fsN_len o x none
  have hr : appendD D nmS b = if (burn D).1 then (0, ⟨fsN o x (some (b, 0)), (burn D).2.down, (burn D).2.fuse⟩) else (11, (burn D).2) := by
    unfold appendD
    rw [hd, h, fnd_S, ins_S, show okN nmS = true by decide]
    simp only [Bool.false_eq_true, if_false, Option.map_none]
    rw [if_neg (by decide), if_neg (by omega), if_neg (by omega)]
  rw [hr]
  by_cases hB : (burn D).1 = true
  · obtain ⟨h1, h2, h3⟩ := burn_ok hB
    left
    simp only [hB, if_true]
    exact ⟨trivial, trivial, h2.trans hd, h3⟩
  · obtain ⟨h1, h2, h3⟩ := burn_no hB
    right
    simp only [hB]
    exact ⟨rfl, h2, h3, _, h1.trans h⟩
theorem sync_S {D : DK} {o x : OB} (b : List UInt8) (k : Nat) (hd : D.down = false) (h : D.fs = fsN o x (some (b, k))) :
    ((syncD D nmS).1 = 0 ∧ (syncD D nmS).2.fs = fsN o x (some (b, b.length)) ∧ (syncD D nmS).2.down = false ∧ (D.fuse = none → (syncD D nmS).2.fuse = none)) ∨ Lost o x D (syncD D nmS) := by
  have hr : syncD D nmS = if (burn D).1 then (0, ⟨fsN o x (some (b, b.length)), (burn D).2.down, (burn D).2.fuse⟩) else (11, (burn D).2) := by
    unfold syncD
    rw [hd, h, fnd_S]
    simp [upd_S]
  rw [hr]
  by_cases hB : (burn D).1 = true
  · obtain ⟨h1, h2, h3⟩ := burn_ok hB
    left
    simp only [hB, if_true]
    exact ⟨trivial, trivial, h2.trans hd, h3⟩
  · obtain ⟨h1, h2, h3⟩ := burn_no hB
    right
    simp only [hB]
    exact ⟨rfl, h2, h3, _, h1.trans h⟩
theorem rename_N {D : DK} {o x : OB} (b : List UInt8) (k : Nat) (hd : D.down = false) (h : D.fs = fsN o x (some (b, k))) :
    ((renameD D nmS nmL).1 = 0 ∧ (renameD D nmS nmL).2.fs = fsN o (some (b, k)) none ∧ (renameD D nmS nmL).2.down = false ∧ (D.fuse = none → (renameD D nmS nmL).2.fuse = none)) ∨ Lost o x D (renameD D nmS nmL) := by
  have hr : renameD D nmS nmL = if (burn D).1 then (0, ⟨fsN o (some (b, k)) none, (burn D).2.down, (burn D).2.fuse⟩) else (11, (burn D).2) := by
    unfold renameD
    rw [hd, h, fnd_S, drp_S, drp_L, show okN nmL = true by decide]
    simp [ins_L]
  rw [hr]
  by_cases hB : (burn D).1 = true
  · obtain ⟨h1, h2, h3⟩ := burn_ok hB
    left
    simp only [hB, if_true]
    exact ⟨trivial, trivial, h2.trans hd, h3⟩
  · obtain ⟨h1, h2, h3⟩ := burn_no hB
    right
    simp only [hB]
    exact ⟨rfl, h2, h3, _, h1.trans h⟩
theorem replace_N {D : DK} {o x y : OB} (hd : D.down = false) (h : D.fs = fsN o x y) (first : Nat) (recs : List (List UInt8)) (hb : (encB first recs).length ≤ 1048576) :
    ((replaceD D first recs).1 = 0 ∧ (replaceD D first recs).2.fs = fsN o (some (encB first recs, (encB first recs).length)) none ∧ (replaceD D first recs).2.down = false ∧ (D.fuse = none → (replaceD D first recs).2.fuse = none)) ∨ Lost o x D (replaceD D first recs) := by
  unfold replaceD
  rcases discard_N hd h with ⟨a1, a2, a3, a4⟩ | ⟨a1, a2, a3, a4⟩
  · rw [if_neg (by simp [a1])]
    rcases append_S a3 a2 (encB first recs) hb with ⟨b1, b2, b3, b4⟩ | ⟨b1, b2, b3, b4⟩
    · rw [if_neg (by simp [b1])]
      rcases sync_S (encB first recs) 0 b3 b2 with ⟨c1, c2, c3, c4⟩ | ⟨c1, c2, c3, c4⟩
      · rw [if_neg (by simp [c1])]
        rcases rename_N (encB first recs) _ c3 c2 with ⟨d1, d2, d3, d4⟩ | ⟨d1, d2, d3, d4⟩
        · exact .inl ⟨d1, d2, d3, fun h => d4 (c4 (b4 (a4 h)))⟩
        · exact .inr ⟨d1, d2, fun h => d3 (c4 (b4 (a4 h))), d4⟩
      · rw [if_pos (by simp [c1])]
        exact .inr ⟨c1, c2, fun h => c3 (b4 (a4 h)), c4⟩
    · rw [if_pos (by simp [b1])]
      exact .inr ⟨b1, b2, fun h => b3 (a4 h), b4⟩
  · rw [if_pos (by simp [a1])]
    exact .inr ⟨a1, a2, a3, a4⟩
theorem append_L {D : DK} {o y : OB} {c : List UInt8} {k : Nat} (hd : D.down = false) (h : D.fs = fsN o (some (c, k)) y) (b : List UInt8) (hb : c.length + b.length ≤ 1048576) :
    ((appendD D nmL b).1 = 0 ∧ (appendD D nmL b).2.fs = fsN o (some (c ++ b, k)) y ∧ (appendD D nmL b).2.down = false ∧ (D.fuse = none → (appendD D nmL b).2.fuse = none)) ∨ Lost o (some (c, k)) D (appendD D nmL b) := by
  have hr : appendD D nmL b = if (burn D).1 then (0, ⟨fsN o (some (c ++ b, k)) y, (burn D).2.down, (burn D).2.fuse⟩) else (11, (burn D).2) := by
    unfold appendD
    rw [hd, h, fnd_L, show okN nmL = true by decide]
    simp only [Bool.false_eq_true, if_false, Option.map_some]
    rw [if_neg (by decide), if_neg (by omega), upd_L]
  rw [hr]
  by_cases hB : (burn D).1 = true
  · obtain ⟨h1, h2, h3⟩ := burn_ok hB
    left
    simp only [hB, if_true]
    exact ⟨trivial, trivial, h2.trans hd, h3⟩
  · obtain ⟨h1, h2, h3⟩ := burn_no hB
    right
    simp only [hB]
    exact ⟨rfl, h2, h3, _, h1.trans h⟩
theorem sync_L {D : DK} {o y : OB} (b : List UInt8) (k : Nat) (hd : D.down = false) (h : D.fs = fsN o (some (b, k)) y) :
    ((syncD D nmL).1 = 0 ∧ (syncD D nmL).2.fs = fsN o (some (b, b.length)) y ∧ (syncD D nmL).2.down = false ∧ (D.fuse = none → (syncD D nmL).2.fuse = none)) ∨ Lost o (some (b, k)) D (syncD D nmL) := by
  have hr : syncD D nmL = if (burn D).1 then (0, ⟨fsN o (some (b, b.length)) y, (burn D).2.down, (burn D).2.fuse⟩) else (11, (burn D).2) := by
    unfold syncD
    rw [hd, h, fnd_L]
    simp [upd_L]
  rw [hr]
  by_cases hB : (burn D).1 = true
  · obtain ⟨h1, h2, h3⟩ := burn_ok hB
    left
    simp only [hB, if_true]
    exact ⟨trivial, trivial, h2.trans hd, h3⟩
  · obtain ⟨h1, h2, h3⟩ := burn_no hB
    right
    simp only [hB]
    exact ⟨rfl, h2, h3, _, h1.trans h⟩
/-- a disk that goes on, with a log's file -/
structure Up (D : DK) (o : OB) (b : List UInt8) (k : Nat) : Prop where
  fs : D.fs = fsN o (some (b, k)) none
  dn : D.down = false
  fu : D.fuse = none
theorem pair_of {α : Type} {p : Int × α} (h : p.1 = 0) : p = (0, p.2) := by rw [← h]
theorem Up.append {D : DK} {o : OB} {c : List UInt8} {k : Nat} (h : Up D o c k) (b : List UInt8) (hb : c.length + b.length ≤ 1048576) : ∃ D', appendD D nmL b = (0, D') ∧ Up D' o (c ++ b) k := by
  rcases append_L h.dn h.fs b hb with ⟨h1, h2, h3, h4⟩ | ⟨h1, h2, h3, h4⟩
  · exact ⟨_, pair_of h1, h2, h3, h4 h.fu⟩
  · exact absurd h.fu h3
theorem Up.sync {D : DK} {o : OB} {c : List UInt8} {k : Nat} (h : Up D o c k) : ∃ D', syncD D nmL = (0, D') ∧ Up D' o c c.length := by
  rcases sync_L c k h.dn h.fs with ⟨h1, h2, h3, h4⟩ | ⟨h1, h2, h3, h4⟩
  · exact ⟨_, pair_of h1, h2, h3, h4 h.fu⟩
  · exact absurd h.fu h3
theorem Up.replace {D : DK} {o : OB} {c : List UInt8} {k : Nat} (h : Up D o c k) (first : Nat) (recs : List (List UInt8)) (hb : (encB first recs).length ≤ 1048576) : ∃ D', replaceD D first recs = (0, D') ∧ Up D' o (encB first recs) (encB first recs).length := by
  rcases replace_N h.dn h.fs first recs hb with ⟨h1, h2, h3, h4⟩ | ⟨h1, h2, h3, h4⟩
  · exact ⟨_, pair_of h1, h2, h3, h4 h.fu⟩
  · exact absurd h.fu h3
end Go.Proofs.Ytplcpjngpkghmaa
