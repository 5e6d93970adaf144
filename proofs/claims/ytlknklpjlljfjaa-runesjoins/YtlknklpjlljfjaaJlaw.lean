/-
  Plain mathematics: words that are quoted and joined by blanks are cut to themselves.
-/
import Derived.Test.YtlknklpjlljfjaaQlaw
namespace Go.Proofs.Ytlknklpjlljfjaa.Txt

/-- a word, quoted, a blank behind it, and t more -/
def piece (t : Nat) (l : List UInt8) : List UInt8 := quo l ++ 32 :: List.replicate t 32
def jn (t : Nat) (ls : List (List UInt8)) : List UInt8 := ls.flatMap (piece t)

theorem jn_nil (t : Nat) : jn t [] = [] := rfl
theorem jn_cons (t : Nat) (l : List UInt8) (ls : List (List UInt8)) : jn t (l :: ls) = quo l ++ (32 :: (List.replicate t 32 ++ jn t ls)) := by
  simp [jn, piece]
theorem jn_snoc (t : Nat) (ls : List (List UInt8)) (l : List UInt8) : jn t (ls ++ [l]) = jn t ls ++ piece t l := by
  simp [jn]

theorem mach_blanks (t : Nat) : ∀ (m : List UInt8) (done : List (List UInt8)) (p : Nat), mach (List.replicate t 32 ++ m) 0 [] done p = mach m 0 [] done (p + t) := by
  induction t with
  | zero => intro m done p; simp
  | succ t ih =>
    intro m done p
    rw [List.replicate_succ, List.cons_append, mach_blank _ _ _ _ _ (by decide), ih]
    congr 1
    omega

theorem mach_jn (t : Nat) (ls : List (List UInt8)) : ∀ (done : List (List UInt8)) (p : Nat), mach (jn t ls) 0 [] done p = (done ++ ls, 0, 0) := by
  induction ls with
  | nil => intro done p; simp [jn, mach]
  | cons l ls ih =>
    intro done p
    rw [jn_cons, mach_quo l _ _ _ (.inr ⟨32, _, rfl, rfl⟩), mach_blank _ _ _ _ _ (by decide), mach_blanks, ih]
    simp

theorem chk_blank_ok (m : List UInt8) (g : Nat) (hg : (32 :: m).length ≤ g) (p c : Nat) (h : ∀ p c, (chk g m p c).2.2 = 0) : (chk g (32 :: m) p c).2.2 = 0 := by
  obtain ⟨g, rfl⟩ : ∃ g', g = g' + 1 := ⟨g - 1, by simp at hg; omega⟩
  rw [chk_on g (32 :: m) p c 32 1 (by simp) (seq_ascii (by simp [at'])) (by omega)]
  simp only [List.drop_succ_cons, List.drop_zero]
  simp at hg
  rw [chk_fuel g (g + 1) m _ _ (by omega) (by omega)]
  exact h _ _

theorem chk_blanks_ok (t : Nat) (m : List UInt8) (g : Nat) (hg : (List.replicate t 32 ++ m).length ≤ g) (h : ∀ p c, (chk g m p c).2.2 = 0) : ∀ p c, (chk g (List.replicate t 32 ++ m) p c).2.2 = 0 := by
  induction t with
  | zero => intro p c; simpa using h p c
  | succ t ih =>
    intro p c
    rw [List.replicate_succ, List.cons_append] at hg ⊢
    exact chk_blank_ok _ g hg p c (ih (by simp at hg ⊢; omega))

theorem chk_jn (t : Nat) (ls : List (List UInt8)) (hls : ∀ l ∈ ls, (chk l.length l 0 0).2.2 = 0) : ∀ (g : Nat), (jn t ls).length ≤ g → ∀ p c, (chk g (jn t ls) p c).2.2 = 0 := by
  induction ls with
  | nil => intro g _ p c; rw [chk_end _ _ _ _ rfl]
  | cons l ls ih =>
    intro g hg p c
    rw [jn_cons] at hg ⊢
    have hlen : (32 :: (List.replicate t 32 ++ jn t ls)).length ≤ g := by rw [List.length_append] at hg; omega
    have hm : ∀ p c, (chk g (32 :: (List.replicate t 32 ++ jn t ls)) p c).2.2 = 0 := fun p c =>
      chk_blank_ok _ g hlen p c (chk_blanks_ok t _ g (by simp at hlen ⊢; omega) (ih (fun x hx => hls x (by simp [hx])) g (by simp at hlen; omega)))
    exact (chk_quo l _ l.length g 0 0 p c (Nat.le_refl _) hg (hm 0 0)).1 (hls l (by simp))

theorem piece_length (t : Nat) (l : List UInt8) : (piece t l).length ≤ 2 * l.length + 3 + t := by
  have := quo_length l
  simp [piece]
  omega

theorem jn_length (t : Nat) (ht : t ≤ 3) (ls : List (List UInt8)) (h : ∀ l ∈ ls, l.length ≤ 100) : (jn t ls).length ≤ 206 * ls.length := by
  induction ls with
  | nil => simp [jn]
  | cons l ls ih =>
    have h1 := piece_length t l
    have h2 := h l (by simp)
    have h3 := ih (fun x hx => h x (by simp [hx]))
    simp [jn] at h3 ⊢
    omega

end Go.Proofs.Ytlknklpjlljfjaa.Txt
