/-
  All give back, one behind the other.
-/
import Derived.Test.YtjgibngnjlciaaaGreatEb
import Derived.Test.YtjgibngnjlciaaaGreatMc
namespace Go.Proofs.YtjgibngnjlciaaaGreat
open Go.RowKit Go.Maps

/-- slots as they are handed on -/
structure SlS (w : World) (r : Option Addr) (m d : Nat) (S : List Sl) : Prop where
  s : SA w r S
  h : Short S
  d : r = none → d = 0
  m : S.length = m
theorem SlS.below {w w1 : World} {r : Option Addr} {m d : Nat} {S : List Sl} (h : SlS w r m d S) (b : Below w.heap.size w w1) : SlS w1 r m d S := ⟨h.s.below b, h.h, h.d, h.m⟩
theorem SlS.arg {w : World} {r : Option Addr} {m d : Nat} {S : List Sl} {v : Vi} (h : SlS w r m d S) (o : v.ok w) : Arg w v.qT r v.nT v.cT m d v.T S := ⟨o.t, h.s, h.h, o.ct, h.d, o.lt, h.m⟩
theorem gvG_append : ∀ (A B : List Vi) (S : List Sl), gvG (A ++ B) S = if (gvG A S).1 = 0 then gvG B (gvG A S).2 else ((gvG A S).1, [])
  | [], B, S => by show gvG B S = _; rw [show gvG [] S = (0, S) from rfl, if_pos rfl]
  | a :: r, B, S => by
    show (if (movR addR a.T a.N S).1 = 0 then gvG (r ++ B) (movR addR a.T a.N S).2 else ((movR addR a.T a.N S).1, [])) = _
    by_cases q : (movR addR a.T a.N S).1 = 0
    · rw [if_pos q, gvG_append r B, show gvG (a :: r) S = gvG r (movR addR a.T a.N S).2 by show (if _ then _ else _) = _; rw [if_pos q]]
    · rw [if_neg q, show gvG (a :: r) S = ((movR addR a.T a.N S).1, []) by show (if _ then _ else _) = _; rw [if_neg q], if_neg q]
theorem gvG_next {L : List Vi} {k : Nat} {v : Vi} {S S' : List Sl} (hv : L[k]? = some v) (h : gvG (L.take k) S = (0, S')) : gvG (L.take (k + 1)) S = if (movR addR v.T v.N S').1 = 0 then (0, (movR addR v.T v.N S').2) else ((movR addR v.T v.N S').1, []) := by
  rw [take_next hv, gvG_append, h, if_pos rfl]
  rfl
theorem gvG_bad {L : List Vi} {k : Nat} {S : List Sl} (h : (gvG (L.take k) S).1 ≠ 0) : (gvG L S).1 = (gvG (L.take k) S).1 := by
  conv => lhs; rw [← List.take_append_drop k L]
  rw [gvG_append, if_neg h]
theorem movR_nm {v : Vi} {S : List Sl} (h : (movR addR v.T v.N S).1 = 0) : (movR addR v.T v.N S).2.map Sl.nm = S.map Sl.nm := by
  obtain ⟨hg, hs⟩ := one_give h
  rw [give_one hg hs]
  exact slA_nm _ _
theorem movR_length {v : Vi} {S : List Sl} (h : (movR addR v.T v.N S).1 = 0) : (movR addR v.T v.N S).2.length = S.length := by
  have := congrArg List.length (movR_nm h)
  rwa [List.length_map, List.length_map] at this
/-- one gives back -/
def GvO (w : World) (v : Vi) (S : List Sl) (e : Ending) (w' : World) : Prop := ∃ p k c, e = .returned (.tuple #[.slice p k c, .int .i64 ((movR addR v.T v.N S).1 : Nat)]) ∧ Hid (Below w.heap.size w w' ∧ ((movR addR v.T v.N S).1 = 0 → SlS w' p k c (movR addR v.T v.N S).2 ∧ (∀ g, p.map Addr.block = some g → w.heap.size ≤ g ∧ g < w'.heap.size)))
theorem before_vi (v : Vi) (S : List Sl) (r : Option Addr) (m d : Nat) (w : World) (o : v.ok w) (h : SlS w r m d S) (m1 : m ≤ 1000000) : Calls Tryz.prog 41 #[.slice v.qT v.nT v.cT, .slice v.qN v.nN v.cN, .slice r m d] w (GvO w v S) := by
  refine (before_any v.T v.N S v.qT v.qN r v.nT v.cT v.nN v.cN m d w (h.arg o) o.n o.sn o.ln o.mt m1 o.mn).mono ?_
  rintro e w' ⟨p, k, c, rfl, hk, h1⟩
  refine ⟨p, k, c, rfl, h1.out.2, fun h0 => ⟨⟨h1.out.1.ga slC_len, short_nm h.h (movR_nm h0), fun e => by subst e; exact h1.out.1.nilc, hk⟩, fun g e => ?_⟩⟩
  obtain ⟨a, c', q⟩ := h1.out.1.shape
  rcases h1.out.1.2 with ⟨e1, _⟩ | ⟨g', cap, cur, e1, hb, _⟩
  · cases e1; cases e
  · cases e1; cases e; exact ⟨hb, h1.out.1.lt rfl⟩
end Go.Proofs.YtjgibngnjlciaaaGreat
