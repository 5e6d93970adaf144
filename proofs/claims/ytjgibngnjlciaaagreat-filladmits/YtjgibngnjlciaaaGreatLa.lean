/-
  PlaceFits' law.
-/
import Derived.Test.YtjgibngnjlciaaaGreatRc
namespace Go.Proofs.YtjgibngnjlciaaaGreat
open Go.RowKit Go.Maps Go.WideMaps Go.Sort

/-- tasks and slots, as they are handed in -/
structure Arg (w : World) (q r : Option Addr) (n c m d : Nat) (T : List V) (S : List Sl) : Prop where
  t : TA w q T
  s : SA w r S
  h : Short S
  c : q = none → c = 0
  d : r = none → d = 0
  n : T.length = n
  m : S.length = m
theorem Arg.below {w w1 : World} {q r : Option Addr} {n c m d : Nat} {T : List V} {S : List Sl} (h : Arg w q r n c m d T S) (b : Below w.heap.size w w1) : Arg w1 q r n c m d T S := ⟨h.t.below b, h.s.below b, h.h, h.c, h.d, h.n, h.m⟩
theorem rr_sa {b : Nat} {w : World} {p : Option Addr} {n c : Nat} {S : List Sl} (h : RR b w (.slice p n c) S) : SA w p S := h.ga slC_len
theorem rr_nil {b : Nat} {w : World} {p : Option Addr} {n c : Nat} {S : List Sl} (h : RR b w (.slice p n c) S) : p = none → c = 0 := fun e => by subst e; exact h.nilc
theorem fitG_len (T : List V) : ∀ (l : List Nat) (st st' : St), fitG T l st = some st' → st'.2.length = st.2.length ∧ st'.1.length = st.1.length
  | [], st, st', h => by cases h; exact ⟨rfl, rfl⟩
  | t :: r, st, st', h => by
    have h' : (stepF T t st).bind (fitG T r) = some st' := h
    obtain ⟨s1, h1, h2⟩ := Option.bind_eq_some_iff.1 h'
    obtain ⟨i1, i2⟩ := fitG_len T r s1 st' h2
    unfold stepF at h1
    split at h1
    · cases h1
    · cases h1
      rw [List.length_set] at i1
      rw [setV_length] at i2
      exact ⟨i1, i2⟩
theorem fitR_len (T : List V) (S : List Sl) : ((fitR T S).1 = 0 ∧ (fitR T S).2.length = T.length ∧ chk T S = 0) ∨ ((fitR T S).1 ≠ 0 ∧ (fitR T S).2 = []) := by
  unfold fitR
  split
  · rename_i hc
    split
    · exact .inr ⟨by decide, rfl⟩
    · rename_i st h
      have := (fitG_len T _ _ _ h).1
      exact .inl ⟨rfl, by rw [this]; unfold fit0; rw [List.length_replicate], hc⟩
  · rename_i hc
    exact .inr ⟨hc, rfl⟩
theorem fitR_le (T : List V) (S : List Sl) : (fitR T S).2.length ≤ T.length := by
  rcases fitR_len T S with ⟨_, h, _⟩ | ⟨_, h⟩
  · omega
  · rw [h]; exact Nat.zero_le _
end Go.Proofs.YtjgibngnjlciaaaGreat
