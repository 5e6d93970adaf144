/-
  All give back, one behind the other.
-/
import Derived.Test.YtcfnonfghlgphaaEb
import Derived.Test.YtcfnonfghlgphaaMc
namespace Go.Proofs.Ytcfnonfghlgphaa
open Go.RowKit Go.Maps

/-- slots as they are handed on -/
structure SlS (w : World) (r : Option Addr) (m d : Nat) (S : List Sl) : Prop where
  s : SA w r S
  h : Short S
  d : r = none → d = 0
  m : S.length = m
theorem SlS.below {w w1 : World} {r : Option Addr} {m d : Nat} {S : List Sl} (h : SlS w r m d S) (b : Below w.heap.size w w1) : SlS w1 r m d S := ⟨h.s.below b, h.h, h.d, h.m⟩
theorem SlS.arg {w : World} {r : Option Addr} {m d : Nat} {S : List Sl} {v : Vi} (h : SlS w r m d S) (o : v.ok w) : Arg w v.qT r v.nT v.cT m d v.T S := ⟨o.t, h.s, h.h, o.ct, h.d, o.lt, h.m⟩
theorem gvG_append : ∀ (A B : List Vi) (S : List Sl), gvG (A ++ B) S = if (gvG A S).1 = 0 then gvG B (gvG A S).2 else ((gvG A S).1, [])
  | [], B, S => by show gvG B S = _; rw [show gvG [] S = (0, S) from rfl, if_pos rfl]
  | a :: r, B, S => by
    show (if (movR addR a.T a.N S).1 = 0 then gvG (r ++ B) (movR addR a.T a.N S).2 else ((movR addR a.T a.N S).1, [])) = _
    by_cases q : (movR addR a.T a.N S).1 = 0
    · rw [if_pos q, gvG_append r B, show gvG (a :: r) S = gvG r (movR addR a.T a.N S).2 by show (if _ then _ else _) = _; rw [if_pos q]]
    · rw [if_neg q, show gvG (a :: r) S = ((movR addR a.T a.N S).1, []) by show (if _ then _ else _) = _; rw [if_neg q], if_neg q]
theorem gvG_next {L : List Vi} {k : Nat} {v : Vi} {S S' : List Sl} (hv : L[k]? = some v) (h : gvG (L.take k) S = (0, S')) : gvG (L.take (k + 1)) S = if (movR addR v.T v.N S').1 = 0 then (0, (movR addR v.T v.N S').2) else ((movR addR v.T v.N S').1, []) := by
  rw [take_next hv, gvG_append, h, if_pos rfl]
  rfl
theorem gvG_bad {L : List Vi} {k : Nat} {S : List Sl} (h : (gvG (L.take k) S).1 ≠ 0) : (gvG L S).1 = (gvG (L.take k) S).1 := by
  conv => lhs; rw [← List.take_append_drop k L]
  rw [gvG_append, if_neg h]
theorem movR_nm {v : Vi} {S : List Sl} (h : (movR addR v.T v.N S).1 = 0) : (movR addR v.T v.N S).2.map Sl.nm = S.map Sl.nm := by
  obtain ⟨hg, hs⟩ := one_give h
  rw [give_one hg hs]
  exact slA_nm _ _
theorem movR_length {v : Vi} {S : List Sl} (h : (movR addR v.T v.N S).1 = 0) : (movR addR v.T v.N S).2.length = S.length := by
  have := congrArg List.length (movR_nm h)
  rwa [List.length_map, List.length_map] at this
/-- one gives back -/
def GvO (w : World) (v : Vi) (S : List Sl) (e : Ending) (w' : World) : Prop := ∃ p k c, e = .returned (.tuple #[.slice p k c, .int .i64 ((movR addR v.T v.N S).1 : Nat)]) ∧ Hid (Below w.heap.size w w' ∧ ((movR addR v.T v.N S).1 = 0 → SlS w' p k c (movR addR v.T v.N S).2 ∧ (∀ g, p.map Addr.block = some g → w.heap.size ≤ g ∧ g < w'.heap.size)))
theorem before_vi (v : Vi) (S : List Sl) (r : Option Addr) (m d : Nat) (w : World) (o : v.ok w) (h : SlS w r m d S) (m1 : m ≤ 1000000) : Calls Try.prog 20 #[.slice v.qT v.nT v.cT, .slice v.qN v.nN v.cN, .slice r m d] w (GvO w v S) := by
  refine (before_any v.T v.N S v.qT v.qN r v.nT v.cT v.nN v.cN m d w (h.arg o) o.n o.sn o.ln o.mt m1 o.mn).mono ?_
  rintro e w' ⟨p, k, c, rfl, hk, h1⟩
  refine ⟨p, k, c, rfl, h1.out.2, fun h0 => ⟨⟨h1.out.1.ga slC_len, short_nm h.h (movR_nm h0), fun e => by subst e; exact h1.out.1.nilc, hk⟩, fun g e => ?_⟩⟩
  obtain ⟨a, c', q⟩ := h1.out.1.shape
  rcases h1.out.1.2 with ⟨e1, _⟩ | ⟨g', cap, cur, e1, hb, _⟩
  · cases e1; cases e
  · cases e1; cases e; exact ⟨hb, h1.out.1.lt rfl⟩
set_option maxHeartbeats 2000000 in
set_option maxRecDepth 100000 in
theorem given_any (L : List Vi) (S : List Sl) (q r : Option Addr) (n c m d : Nat) (w : World) (hL : Hid (VA w q L)) (hO : Hid (VOk w L)) (hS : Hid (SlS w r m d S)) (hn : Hid (L.length = n)) (n1 : n ≤ 1000000) (m1 : Hid (m ≤ 1000000)) :
    Calls Try.prog 26 #[.slice q n c, .slice r m d] w fun e w' => e = .returned (.int .i64 ((gvG L S).1 : Nat)) ∧ Hid (Below w.heap.size w w') := by
  go_enter Try.func26, Try.ntmps26
  go_wp2_with fail
  go_loopw [1, 10] (fun x y wr => ∃ (k : Nat) (r : Option Addr) (c' : Nat), x = .slice r m c' ∧ y = .int .i64 k ∧ k ≤ n ∧ Hid (∃ S', gvG (L.take k) S = (0, S') ∧ SlS wr r m c' S' ∧ Below w.heap.size w wr)) (fun _ y _ => n - (intOf y).toNat)
  case atStart => exact ⟨0, r, d, rfl, rfl, Nat.zero_le _, S, rfl, hS.out, Below.refl _ _⟩
  case round =>
    clear hS
    obtain ⟨k, r', c', rfl, rfl, hk, HT⟩ := hrel
    by_cases h0 : k = n
    · subst h0
      have HE : Hid ((gvG L S).1 = 0 ∧ Below w.heap.size w wr) := by
        obtain ⟨S', h1, h2, h3⟩ := HT.out
        rw [List.take_of_length_le (Nat.le_of_eq hn.out)] at h1
        exact ⟨by rw [h1], h3⟩
      clear HT
      go_wp2_with fail
      go_ret
      exact ⟨by rw [HE.out.1]; rfl, HE.out.2⟩
    · have hlt' : (k : Int) < (n : Int) := by omega
      have hd : decide ((k : Int) < (n : Int)) = true := decide_eq_true hlt'
      obtain ⟨v, hv⟩ : ∃ v, L[k]? = some v := ⟨L[k]'(by have := hn.out; omega), List.getElem?_eq_getElem _⟩
      obtain ⟨S', h1, h2, h3⟩ := HT.out
      obtain ⟨g, o, rfl, c0, c1, c2, c3, c4⟩ := VA.at (hL.out.below h3) hv
      have hvo := hO.out v (List.mem_of_getElem? hv)
      have hnx := gvG_next hv h1
      have H20 : Hid (∀ w1, Below wr.heap.size wr w1 → Calls Try.prog 20 #[.slice v.qT v.nT v.cT, .slice v.qN v.nN v.cN, .slice r' m c'] w1 (GvO w1 v S')) := fun w1 b1 => before_vi v S' r' m c' w1 ((hvo.below h3).below b1) (h2.below b1) m1.out
      have N1 := new0 (w := wr) (o := .cells #[.int .i64 v.j, .int .i64 v.p, .int .i64 v.s, .slice v.qT v.nT v.cT, .slice v.qN v.nN v.cN] 49)
      have B1 : Hid (Below wr.heap.size wr (wr.alloc (.cells #[.int .i64 v.j, .int .i64 v.p, .int .i64 v.s, .slice v.qT v.nT v.cT, .slice v.qN v.nN v.cN] 49))) := (Below.refl _ _).alloc (Nat.le_refl _) _
      have HF : Hid (Below w.heap.size w wr ∧ S'.length = m) := ⟨h3, h2.m⟩
      by_cases hz : (movR addR v.T v.N S').1 = 0
      · rw [if_pos hz] at hnx
        have HN : Hid (gvG (L.take (k + 1)) S = (0, (movR addR v.T v.N S').2)) := hnx
        have H20' : Hid (∀ w1, Below wr.heap.size wr w1 → Calls Try.prog 20 #[.slice v.qT v.nT v.cT, .slice v.qN v.nN v.cN, .slice r' m c'] w1 fun e w' => ∃ p c, e = .returned (.tuple #[.slice p m c, .int .i64 0]) ∧ Hid (Below w1.heap.size w1 w' ∧ SlS w' p m c (movR addR v.T v.N S').2)) := fun w1 b1 => (H20.out w1 b1).mono fun e w' ⟨p, k', c, e1, h4⟩ => by
          rw [hz] at e1
          have h5 := h4.out.2 hz
          have : k' = m := h5.1.m.symm.trans ((movR_length hz).trans HF.out.2)
          subst this
          exact ⟨p, c, e1, h4.out.1, h5.1⟩
        clear H20 hz hnx h1 h2 h3 hvo hv HT
        generalize v.j = vj at *
        generalize v.p = vp at *
        generalize v.s = vs at *
        go_upto_region 5 with fail
        generalize wr.alloc (.cells #[.int .i64 vj, .int .i64 vp, .int .i64 vs, .slice v.qT v.nT v.cT, .slice v.qN v.nN v.cN] 49) = W1 at *
        have d3 := Lib.cell_of_heap N1 3
        have d4 := Lib.cell_of_heap N1 4
        have hd1 := (Array.getElem?_eq_some_iff.1 N1).1
        go_wp2_with (go_at_call 20; refine (H20'.out _ B1.out).mono ?_; rintro e w2 ⟨p2, c2, rfl, h2⟩)
        refine ⟨⟨k + 1, p2, c2, by simp, by simp, by omega, _, HN.out, h2.out.2, below_from (below_from HF.out.1 B1.out HF.out.1.size) h2.out.1 (Nat.le_trans HF.out.1.size B1.out.size)⟩, by simp only [intOf]; omega⟩
      · rw [if_neg hz] at hnx
        have HN : Hid ((gvG L S).1 = (movR addR v.T v.N S').1) := by
          have := gvG_bad (L := L) (k := k + 1) (S := S) (by rw [hnx]; exact hz)
          rw [hnx] at this
          exact this
        have H20' : Hid (∀ w1, Below wr.heap.size wr w1 → Calls Try.prog 20 #[.slice v.qT v.nT v.cT, .slice v.qN v.nN v.cN, .slice r' m c'] w1 fun e w' => ∃ p k c, e = .returned (.tuple #[.slice p k c, .int .i64 ((movR addR v.T v.N S').1 : Nat)]) ∧ Hid (Below w1.heap.size w1 w')) := fun w1 b1 => (H20.out w1 b1).mono fun e w' ⟨p, k', c, e1, h4⟩ => ⟨p, k', c, e1, h4.out.1⟩
        generalize (movR addR v.T v.N S').1 = en at *
        have e1 : ¬ (en : Int) = 0 := by omega
        have e2 : ((en : Int) == 0) = false := by rw [beq_eq_false_iff_ne]; exact e1
        clear H20 hz hnx h1 h2 h3 hvo hv HT
        generalize v.j = vj at *
        generalize v.p = vp at *
        generalize v.s = vs at *
        go_upto_region 5 with fail
        generalize wr.alloc (.cells #[.int .i64 vj, .int .i64 vp, .int .i64 vs, .slice v.qT v.nT v.cT, .slice v.qN v.nN v.cN] 49) = W1 at *
        have d3 := Lib.cell_of_heap N1 3
        have d4 := Lib.cell_of_heap N1 4
        have hd1 := (Array.getElem?_eq_some_iff.1 N1).1
        go_wp2_with (go_at_call 20; refine (H20'.out _ B1.out).mono ?_; rintro e w2 ⟨p2, k2, c2, rfl, h2⟩)
        go_ret
        exact ⟨by rw [HN.out]; rfl, below_from (below_from HF.out.1 B1.out HF.out.1.size) h2.out (Nat.le_trans HF.out.1.size B1.out.size)⟩
end Go.Proofs.Ytcfnonfghlgphaa
