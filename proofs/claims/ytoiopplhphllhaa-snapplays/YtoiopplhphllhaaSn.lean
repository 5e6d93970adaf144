/-
  Disks with the checkpoint's files, and one other, as plain data: what Save, Restart do to them.
-/
import Derived.Test.YtoiopplhphllhaaSm
namespace Go.Proofs.Ytoiopplhphllhaa
open Go.RowKit Go.Maps

def nmO : List UInt8 := [111, 116, 104, 101, 114]
abbrev OB := Option (List UInt8 × Nat)
def one (n : List UInt8) : OB → List Fil
  | none => []
  | some (b, k) => [⟨n, b, k⟩]
/-- the files: another one, the checkpoint's, the spare one -/
def fsN (o x y : OB) : List Fil := one nmO o ++ (one nmL x ++ one nmS y)
theorem fnd_L (o x y : OB) : fnd Fil.nm nmL (fsN o x y) = x.map fun p => ⟨nmL, p.1, p.2⟩ := by
  rcases o with _ | ⟨_, _⟩ <;> rcases x with _ | ⟨_, _⟩ <;> rcases y with _ | ⟨_, _⟩ <;> rfl
theorem fnd_S (o x y : OB) : fnd Fil.nm nmS (fsN o x y) = y.map fun p => ⟨nmS, p.1, p.2⟩ := by
  rcases o with _ | ⟨_, _⟩ <;> rcases x with _ | ⟨_, _⟩ <;> rcases y with _ | ⟨_, _⟩ <;> rfl
theorem fnd_O (o x y : OB) : fnd Fil.nm nmO (fsN o x y) = o.map fun p => ⟨nmO, p.1, p.2⟩ := by
  rcases o with _ | ⟨_, _⟩ <;> rcases x with _ | ⟨_, _⟩ <;> rcases y with _ | ⟨_, _⟩ <;> rfl
theorem drp_S (o x y : OB) : drp Fil.nm nmS (fsN o x y) = fsN o x none := by
  rcases o with _ | ⟨_, _⟩ <;> rcases x with _ | ⟨_, _⟩ <;> rcases y with _ | ⟨_, _⟩ <;> rfl
theorem drp_L (o x y : OB) : drp Fil.nm nmL (fsN o x y) = fsN o none y := by
  rcases o with _ | ⟨_, _⟩ <;> rcases x with _ | ⟨_, _⟩ <;> rcases y with _ | ⟨_, _⟩ <;> rfl
theorem drp_O (o x y : OB) : drp Fil.nm nmO (fsN o x y) = fsN none x y := by
  rcases o with _ | ⟨_, _⟩ <;> rcases x with _ | ⟨_, _⟩ <;> rcases y with _ | ⟨_, _⟩ <;> rfl
theorem ins_S (o x : OB) (b : List UInt8) (k : Nat) : ins Fil.nm ⟨nmS, b, k⟩ (fsN o x none) = fsN o x (some (b, k)) := by
  rcases o with _ | ⟨_, _⟩ <;> rcases x with _ | ⟨_, _⟩ <;> rfl
theorem ins_L (o y : OB) (b : List UInt8) (k : Nat) : ins Fil.nm ⟨nmL, b, k⟩ (fsN o none y) = fsN o (some (b, k)) y := by
  rcases o with _ | ⟨_, _⟩ <;> rcases y with _ | ⟨_, _⟩ <;> rfl
theorem ins_O (x y : OB) (b : List UInt8) (k : Nat) : ins Fil.nm ⟨nmO, b, k⟩ (fsN none x y) = fsN (some (b, k)) x y := by
  rcases x with _ | ⟨_, _⟩ <;> rcases y with _ | ⟨_, _⟩ <;> rfl
theorem upd_S (o x : OB) (b b' : List UInt8) (k k' : Nat) : upd Fil.nm nmS ⟨nmS, b, k⟩ (fsN o x (some (b', k'))) = fsN o x (some (b, k)) := by
  rcases o with _ | ⟨_, _⟩ <;> rcases x with _ | ⟨_, _⟩ <;> rfl
theorem fsN_len (o x y : OB) : (fsN o x y).length ≤ 3 := by
  rcases o with _ | ⟨_, _⟩ <;> rcases x with _ | ⟨_, _⟩ <;> rcases y with _ | ⟨_, _⟩ <;> simp [fsN, one]

/-- a disk's files are these -/
structure ND (D : DK) (o x y : OB) : Prop where
  fs : D.fs = fsN o x y
theorem burn_ok {D : DK} (h : (burn D).1 = true) : (burn D).2.fs = D.fs ∧ (burn D).2.down = D.down ∧ (D.fuse = none → (burn D).2.fuse = none) := by
  unfold burn at *
  split <;> simp_all
theorem burn_no {D : DK} (h : ¬ (burn D).1 = true) : (burn D).2.fs = D.fs ∧ (burn D).2.down = true ∧ D.fuse ≠ none := by
  unfold burn at *
  split <;> simp_all
/-- what a call that may be lost has left -/
def Lost (o x : OB) (D : DK) (r : Int × DK) : Prop := r.1 = 11 ∧ r.2.down = true ∧ D.fuse ≠ none ∧ ∃ y, r.2.fs = fsN o x y
theorem discard_N {D : DK} {o x y : OB} (hd : D.down = false) (h : D.fs = fsN o x y) :
    ((discardD D).1 = 0 ∧ (discardD D).2.fs = fsN o x none ∧ (discardD D).2.down = false ∧ (D.fuse = none → (discardD D).2.fuse = none)) ∨ Lost o x D (discardD D) := by
  rcases y with _ | y
  · have hr : removeD D nmS = (3, D) := by
      unfold removeD
      rw [hd, h, fnd_S]
      simp
    left
    unfold discardD
    rw [hr, if_pos rfl]
    exact ⟨rfl, h, hd, fun h => h⟩
  · have hr : removeD D nmS = if (burn D).1 then (0, ⟨fsN o x none, (burn D).2.down, (burn D).2.fuse⟩) else (11, (burn D).2) := by
      unfold removeD
      rw [hd, h, fnd_S, drp_S]
      simp
    unfold discardD
    rw [hr]
    by_cases hb : (burn D).1 = true
    · obtain ⟨h1, h2, h3⟩ := burn_ok hb
      left
      rw [if_pos hb, if_neg (by simp)]
      exact ⟨rfl, rfl, h2.trans hd, h3⟩
    · obtain ⟨h1, h2, h3⟩ := burn_no hb
      right
      rw [if_neg hb, if_neg (by simp)]
      exact ⟨rfl, h2, h3, _, h1.trans h⟩
theorem append_N {D : DK} {o x : OB} (hd : D.down = false) (h : D.fs = fsN o x none) (b : List UInt8) (hb : b.length ≤ 1048576) :
    ((appendD D nmS b).1 = 0 ∧ (appendD D nmS b).2.fs = fsN o x (some (b, 0)) ∧ (appendD D nmS b).2.down = false ∧ (D.fuse = none → (appendD D nmS b).2.fuse = none)) ∨ Lost o x D (appendD D nmS b) := by
  have hlen := fsN_len o x none
  have hr : appendD D nmS b = if (burn D).1 then (0, ⟨fsN o x (some (b, 0)), (burn D).2.down, (burn D).2.fuse⟩) else (11, (burn D).2) := by
    unfold appendD
    rw [hd, h, fnd_S, ins_S, show okN nmS = true by decide]
    simp only [Bool.false_eq_true, if_false, Option.map_none]
    rw [if_neg (by decide), if_neg (by omega), if_neg (by omega)]
  rw [hr]
  by_cases hB : (burn D).1 = true
  · obtain ⟨h1, h2, h3⟩ := burn_ok hB
    left
    simp only [hB, if_true]
    exact ⟨trivial, trivial, h2.trans hd, h3⟩
  · obtain ⟨h1, h2, h3⟩ := burn_no hB
    right
    simp only [hB]
    exact ⟨rfl, h2, h3, _, h1.trans h⟩
theorem sync_N {D : DK} {o x : OB} (b : List UInt8) (k : Nat) (hd : D.down = false) (h : D.fs = fsN o x (some (b, k))) :
    ((syncD D nmS).1 = 0 ∧ (syncD D nmS).2.fs = fsN o x (some (b, b.length)) ∧ (syncD D nmS).2.down = false ∧ (D.fuse = none → (syncD D nmS).2.fuse = none)) ∨ Lost o x D (syncD D nmS) := by
  have hr : syncD D nmS = if (burn D).1 then (0, ⟨fsN o x (some (b, b.length)), (burn D).2.down, (burn D).2.fuse⟩) else (11, (burn D).2) := by
    unfold syncD
    rw [hd, h, fnd_S]
    simp [upd_S]
  rw [hr]
  by_cases hB : (burn D).1 = true
  · obtain ⟨h1, h2, h3⟩ := burn_ok hB
    left
    simp only [hB, if_true]
    exact ⟨trivial, trivial, h2.trans hd, h3⟩
  · obtain ⟨h1, h2, h3⟩ := burn_no hB
    right
    simp only [hB]
    exact ⟨rfl, h2, h3, _, h1.trans h⟩
theorem rename_N {D : DK} {o x : OB} (b : List UInt8) (k : Nat) (hd : D.down = false) (h : D.fs = fsN o x (some (b, k))) :
    ((renameD D nmS nmL).1 = 0 ∧ (renameD D nmS nmL).2.fs = fsN o (some (b, k)) none ∧ (renameD D nmS nmL).2.down = false ∧ (D.fuse = none → (renameD D nmS nmL).2.fuse = none)) ∨ Lost o x D (renameD D nmS nmL) := by
  have hr : renameD D nmS nmL = if (burn D).1 then (0, ⟨fsN o (some (b, k)) none, (burn D).2.down, (burn D).2.fuse⟩) else (11, (burn D).2) := by
    unfold renameD
    rw [hd, h, fnd_S, drp_S, drp_L, show okN nmL = true by decide]
    simp [ins_L]
  rw [hr]
  by_cases hB : (burn D).1 = true
  · obtain ⟨h1, h2, h3⟩ := burn_ok hB
    left
    simp only [hB, if_true]
    exact ⟨trivial, trivial, h2.trans hd, h3⟩
  · obtain ⟨h1, h2, h3⟩ := burn_no hB
    right
    simp only [hB]
    exact ⟨rfl, h2, h3, _, h1.trans h⟩
theorem replace_N {D : DK} {o x y : OB} (hd : D.down = false) (h : D.fs = fsN o x y) (b : List UInt8) (hb : b.length ≤ 1048576) :
    ((replaceD D b).1 = 0 ∧ (replaceD D b).2.fs = fsN o (some (b, b.length)) none ∧ (replaceD D b).2.down = false ∧ (D.fuse = none → (replaceD D b).2.fuse = none)) ∨ Lost o x D (replaceD D b) := by
  unfold replaceD
  rcases discard_N hd h with ⟨a1, a2, a3, a4⟩ | ⟨a1, a2, a3, a4⟩
  · rw [if_neg (by simp [a1])]
    rcases append_N a3 a2 b hb with ⟨b1, b2, b3, b4⟩ | ⟨b1, b2, b3, b4⟩
    · rw [if_neg (by simp [b1])]
      rcases sync_N b 0 b3 b2 with ⟨c1, c2, c3, c4⟩ | ⟨c1, c2, c3, c4⟩
      · rw [if_neg (by simp [c1])]
        rcases rename_N b _ c3 c2 with ⟨d1, d2, d3, d4⟩ | ⟨d1, d2, d3, d4⟩
        · exact .inl ⟨d1, d2, d3, fun h => d4 (c4 (b4 (a4 h)))⟩
        · exact .inr ⟨d1, d2, fun h => d3 (c4 (b4 (a4 h))), d4⟩
      · rw [if_pos (by simp [c1])]
        exact .inr ⟨c1, c2, fun h => c3 (b4 (a4 h)), c4⟩
    · rw [if_pos (by simp [b1])]
      exact .inr ⟨b1, b2, fun h => b3 (a4 h), b4⟩
  · rw [if_pos (by simp [a1])]
    exact .inr ⟨a1, a2, a3, a4⟩
theorem enc_len {n : Int} {ps : List (List UInt8)} (h : fitE n ps = 0) (k : Nat) : (encB k ps).length ≤ 1048576 := by
  obtain ⟨-, -, h3⟩ := fitE_parts h
  unfold manyP at h3
  simp only [Bool.or_eq_false_iff, decide_eq_false_iff_not] at h3
  have : (encB k ps).length = 24 + sumL ps + 8 * ps.length := encT_len _ _ _
  omega
theorem save_N {D : DK} {o x y : OB} (hd : D.down = false) (h : D.fs = fsN o x y) (n : Int) (ps : List (List UInt8)) (hf : fitE n ps = 0) :
    ((saveD D n ps).1 = 0 ∧ (saveD D n ps).2.fs = fsN o (some (encB n.toNat ps, (encB n.toNat ps).length)) none ∧ (saveD D n ps).2.down = false ∧ (D.fuse = none → (saveD D n ps).2.fuse = none)) ∨ Lost o x D (saveD D n ps) := by
  unfold saveD
  rw [if_neg (by simp [hd]), if_neg (by simp [hf])]
  exact replace_N hd h _ (enc_len hf _)
theorem save_no {D : DK} (hd : D.down = false) (n : Int) (ps : List (List UInt8)) (hf : fitE n ps ≠ 0) : saveD D n ps = (fitE n ps, D) := by
  unfold saveD
  rw [if_neg (by simp [hd]), if_pos hf]
theorem save_down {D : DK} (hd : D.down = true) (n : Int) (ps : List (List UInt8)) : saveD D n ps = (11, D) := by
  unfold saveD
  rw [if_pos hd]
/-- what the checkpoint's file has -/
def fileOf : Option (Nat × List (List UInt8)) → OB
  | none => none
  | some (n, ps) => some (encB n ps, (encB n ps).length)
def okC : Option (Nat × List (List UInt8)) → Prop
  | none => True
  | some (n, ps) => fitE n ps = 0
theorem holds_N {D : DK} {o y : OB} {s : Option (Nat × List (List UInt8))} (h : D.fs = fsN o (fileOf s) y) (hs : okC s) : Holds D s := by
  cases s with
  | none =>
    show fnd Fil.nm nmL D.fs = none
    rw [h, fnd_L]; rfl
  | some np =>
    obtain ⟨n, ps⟩ := np
    exact ⟨hs, _, by rw [h, fnd_L]; rfl, rfl, rfl⟩
theorem rst_N (o : OB) (s : Option (Nat × List (List UInt8))) (y : OB) (ch : List UInt8) : ∃ o' y', rst (fsN o (fileOf s) y) ch = fsN o' (fileOf s) y' ∧ (o = none → o' = none) := by
  have h3 : ∀ ch, ∃ y', rst (one nmS y) ch = one nmS y' := fun ch => by
    rcases y with _ | ⟨b, k⟩
    · exact ⟨none, rfl⟩
    · show ∃ y', rst [⟨nmS, b, k⟩] ch = one nmS y'
      unfold rst
      split
      · exact ⟨some (_, _), rfl⟩
      · exact ⟨some (_, _), rfl⟩
  have h2 : ∀ ch, ∃ y', rst (one nmL (fileOf s) ++ one nmS y) ch = one nmL (fileOf s) ++ one nmS y' := fun ch => by
    rcases s with _ | ⟨n, ps⟩
    · exact h3 ch
    · obtain ⟨y', e⟩ := h3 ch
      refine ⟨y', ?_⟩
      show rst (⟨nmL, encB n ps, (encB n ps).length⟩ :: one nmS y) ch = ⟨nmL, encB n ps, (encB n ps).length⟩ :: one nmS y'
      rw [rst, if_neg (by simp), e]
  rcases o with _ | ⟨b, k⟩
  · obtain ⟨y', e⟩ := h2 ch
    exact ⟨none, y', e, fun _ => rfl⟩
  · show ∃ o' y', rst (⟨nmO, b, k⟩ :: (one nmL (fileOf s) ++ one nmS y)) ch = fsN o' (fileOf s) y' ∧ _
    rw [rst]
    split
    · obtain ⟨y', e⟩ := h2 ch.tail
      exact ⟨some (_, _), y', by rw [e]; rfl, nofun⟩
    · obtain ⟨y', e⟩ := h2 ch
      exact ⟨some (_, _), y', by rw [e]; rfl, nofun⟩
theorem restart_N {D : DK} {y : OB} {s : Option (Nat × List (List UInt8))} (h : D.fs = fsN none (fileOf s) y) (ch : List UInt8) : ∃ y', (restartD D ch).fs = fsN none (fileOf s) y' ∧ (restartD D ch).down = false ∧ (restartD D ch).fuse = none := by
  obtain ⟨o', y', e, ho⟩ := rst_N none s y ch
  refine ⟨y', ?_, rfl, rfl⟩
  show rst D.fs ch = _
  rw [h, e, ho rfl]
end Go.Proofs.Ytoiopplhphllhaa
