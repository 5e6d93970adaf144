/-
  What tasks take and give back, as plain data; known; reckoned, After, Before.
-/
import Derived.Test.YtjgibngnjlciaaaGreatLa
namespace Go.Proofs.YtjgibngnjlciaaaGreat
open Go.RowKit Go.Maps Go.WideMaps Go.Sort

/-- a task on its node -/
def stepM (f : V → V → V × Nat) (x : V × List UInt8) (S : List Sl) : Option (List Sl) := match plc x.2 S with
  | none => none
  | some k => if (f (S.getD k default).v x.1).2 = 0 then some (S.set k ⟨(S.getD k default).nm, (f (S.getD k default).v x.1).1⟩) else none
def movG (f : V → V → V × Nat) : List (V × List UInt8) → List Sl → Option (List Sl)
  | [], S => some S
  | x :: r, S => (stepM f x S).bind (movG f r)
theorem movG_append (f : V → V → V × Nat) : ∀ (l m : List (V × List UInt8)) (S : List Sl), movG f (l ++ m) S = (movG f l S).bind (movG f m)
  | [], m, S => rfl
  | x :: r, m, S => by
    show (stepM f x S).bind (movG f (r ++ m)) = ((stepM f x S).bind (movG f r)).bind (movG f m)
    cases stepM f x S with
    | none => rfl
    | some s => exact movG_append f r m s
def knB (N : List (List UInt8)) (S : List Sl) : Bool := N.all fun n => (plc n S).isSome
/-- what After and Before answer -/
def movR (f : V → V → V × Nat) (T : List V) (N : List (List UInt8)) (S : List Sl) : Nat × List Sl := if chk T S = 0 then (if N.length = T.length then (if knB N S = true then (match movG f (T.zip N) S with
  | none => (7, [])
  | some S' => (0, S')) else (3, [])) else (2, [])) else (chk T S, [])
theorem movR_go {f : V → V → V × Nat} {T : List V} {N : List (List UInt8)} {S : List Sl} (hc : chk T S = 0) (hl : N.length = T.length) (hk : knB N S = true) : (∀ S', movG f (T.zip N) S = some S' → movR f T N S = (0, S')) ∧ (movG f (T.zip N) S = none → movR f T N S = (7, [])) := by
  unfold movR
  rw [if_pos hc, if_pos hl, if_pos hk]
  exact ⟨fun S' h => by rw [h], fun h => by rw [h]⟩
theorem plc_nm {s : List UInt8} {S S' : List Sl} (e : S'.map Sl.nm = S.map Sl.nm) : plc s S' = plc s S := by
  have h : ∀ L : List Sl, plc s L = (L.map Sl.nm).findIdx? fun b => b == s := fun L => by
    unfold plc
    rw [List.findIdx?_map]
    rfl
  rw [h, h, e]
set_option maxHeartbeats 1000000 in
set_option maxRecDepth 100000 in
theorem known_any (w : World) (q : Option Addr) (n c mb : Nat) (N : List (List UInt8)) (S : List Sl) (hN : Hid (NA w q N)) (hs : Hid (∀ s ∈ N, s.length ≤ 281474976710656)) (hn : Hid (N.length = n)) (hM : Hid (MpS w mb S)) (n1 : n ≤ 1000000) :
    Calls Tryz.prog 71 #[.slice q n c, .map (some mb)] w fun e w' => e = .returned (.bool (knB N S)) ∧ Hid (Below w.heap.size w w') := by
  go_enter Tryz.func71, Tryz.ntmps71
  go_wp2_with fail
  go_loopw [11] (fun x wr => ∃ k : Nat, x = .int .i64 k ∧ k ≤ n ∧ Hid ((N.take k).all (fun n => (plc n S).isSome) = true ∧ Below w.heap.size w wr)) (fun x _ => n - (intOf x).toNat)
  case atStart => exact ⟨0, rfl, Nat.zero_le _, rfl, Below.refl _ _⟩
  case round =>
    obtain ⟨k, rfl, hk, HI⟩ := hrel
    by_cases h0 : k < n
    · have hlt' : (k : Int) < (n : Int) := by omega
      have hd : decide ((k : Int) < (n : Int)) = true := decide_eq_true hlt'
      obtain ⟨s, hx⟩ : ∃ s, N[k]? = some s := ⟨N[k]'(by have := hn.out; omega), List.getElem?_eq_getElem _⟩
      obtain ⟨g, o, rfl, c0⟩ := NA.at (hN.out.below HI.out.2) hx
      have hlk := (hM.out.keep (HI.out.2.block mb hM.out.lt)).look s (hs.out s (List.mem_of_getElem? hx))
      have HX : Hid (N[k]? = some s) := hx
      clear hx
      obtain ⟨x, hx⟩ : ∃ x, x = (plc s S).isSome := ⟨_, rfl⟩
      rw [← hx] at hlk
      have HE : Hid ((plc s S).isSome = x) := hx.symm
      clear hx
      generalize (plc s S).getD 0 = y at *
      cases x with
      | true =>
        go_wp2_with fail
        exact ⟨⟨k + 1, by simp, by omega, all_take (fun n => (plc n S).isSome) HX.out HI.out.1 HE.out, HI.out.2⟩, by simp only [intOf]; omega⟩
      | false =>
        go_wp2_with fail
        go_ret
        exact ⟨by rw [show knB N S = false from all_bad (fun n => (plc n S).isSome) HX.out (by rw [HE.out]; decide)]; rfl, HI.out.2⟩
    · have hlt' : ¬ (k : Int) < (n : Int) := by omega
      have hd : decide ((k : Int) < (n : Int)) = false := decide_eq_false hlt'
      go_wp2_with fail
      go_ret
      have := HI.out.1
      rw [List.take_of_length_le (by rw [hn.out]; omega)] at this
      exact ⟨by rw [show knB N S = true from this]; rfl, HI.out.2⟩
/-- while tasks are reckoned -/
structure Mv (w wr : World) (f : V → V → V × Nat) (T : List V) (N : List (List UInt8)) (S : List Sl) (p : Option Addr) (m c mb k : Nat) (S' : List Sl) : Prop where
  f : movG f ((T.zip N).take k) S = some S'
  l : SR w.heap.size wr (.slice p m c) S'
  m : MpS wr mb S
  b : Below w.heap.size w wr
  n : S'.map Sl.nm = S.map Sl.nm
theorem Mv.below {w wr w1 : World} {f : V → V → V × Nat} {T : List V} {N : List (List UInt8)} {S : List Sl} {p : Option Addr} {m c mb k : Nat} {S' : List Sl} (h : Mv w wr f T N S p m c mb k S') (b : Below wr.heap.size wr w1) : Mv w w1 f T N S p m c mb k S' :=
  ⟨h.f, h.l.below b, h.m.keep (b.block mb h.m.lt), below_from h.b b h.b.size, h.n⟩
theorem set_nm {S : List Sl} {k : Nat} {s : Sl} (h : S[k]? = some s) (v : V) : (S.set k ⟨s.nm, v⟩).map Sl.nm = S.map Sl.nm := by
  refine List.ext_getElem? fun i => ?_
  rw [List.getElem?_map, List.getElem?_map, List.getElem?_set]
  obtain ⟨hl, e⟩ := List.getElem?_eq_some_iff.1 h
  by_cases q : k = i
  · subst q
    rw [if_pos rfl, if_pos hl, h]
    rfl
  · rw [if_neg q]
theorem zip_at {T : List V} {N : List (List UInt8)} {k : Nat} {v : V} {s : List UInt8} (h1 : T[k]? = some v) (h2 : N[k]? = some s) : (T.zip N)[k]? = some (v, s) := by
  rw [List.getElem?_zip_eq_some]
  exact ⟨h1, h2⟩
theorem stepM_some {f : V → V → V × Nat} {v : V} {nm : List UInt8} {S : List Sl} {j : Nat} {s : Sl} (hp : plc nm S = some j) (hs : S[j]? = some s) : stepM f (v, nm) S = if (f s.v v).2 = 0 then some (S.set j ⟨s.nm, (f s.v v).1⟩) else none := by
  unfold stepM
  rw [hp]
  show (if (f (S.getD j default).v v).2 = 0 then _ else _) = _
  rw [show (S.getD j default) = s by rw [List.getD_eq_getElem?_getD, hs]; rfl]
theorem Mv.wrote {w wr : World} {f : V → V → V × Nat} {T : List V} {N : List (List UInt8)} {S : List Sl} {m c mb k j gl : Nat} {S' : List Sl} {v : V} {nm : List UInt8} {s : Sl} (h : Mv w wr f T N S (some ⟨gl, 0, none⟩) m c mb k S') (hv : T[k]? = some v) (hn : N[k]? = some nm) (hp : plc nm S = some j) (hs : S'[j]? = some s) (h0 : (f s.v v).2 = 0) :
    Mv w ((((wr.setCell ⟨gl, j * 5 + 1, none⟩ (.int .i64 (f s.v v).1.a)).setCell ⟨gl, j * 5 + 1 + 1, none⟩ (.int .i64 (f s.v v).1.b)).setCell ⟨gl, j * 5 + 1 + 2, none⟩ (.int .i64 (f s.v v).1.c)).setCell ⟨gl, j * 5 + 1 + 3, none⟩ (.int .i64 (f s.v v).1.d)) f T N S (some ⟨gl, 0, none⟩) m c mb (k + 1) (S'.set j ⟨s.nm, (f s.v v).1⟩) := by
  obtain ⟨cur, hb⟩ := grow_blk h.l
  have hg := h.l.ge (g := gl) rfl
  have ml : mb ≠ gl := fun e => by
    obtain ⟨M, ⟨es, clock, hm, _⟩, _⟩ := h.m
    rw [e, hb] at hm
    cases hm
  refine ⟨?_, grow_free _ h.l hs, h.m.keep ?_, (((h.b.setCell hg _).setCell hg _).setCell hg _).setCell hg _, (set_nm hs _).trans h.n⟩
  · rw [take_next (zip_at hv hn), movG_append, h.f]
    show (stepM f (v, nm) S').bind (movG f []) = _
    rw [stepM_some (by rw [plc_nm h.n]; exact hp) hs, if_pos h0]
    rfl
  · rw [Below.heap_setCell _ _ _ _ ml, Below.heap_setCell _ _ _ _ ml, Below.heap_setCell _ _ _ _ ml, Below.heap_setCell _ _ _ _ ml]
theorem mov_none {f : V → V → V × Nat} {T : List V} {N : List (List UInt8)} {S S' : List Sl} {k j : Nat} {v : V} {nm : List UInt8} {s : Sl} (h : movG f ((T.zip N).take k) S = some S') (hn' : S'.map Sl.nm = S.map Sl.nm) (hv : T[k]? = some v) (hn : N[k]? = some nm) (hp : plc nm S = some j) (hs : S'[j]? = some s) (h0 : ¬ (f s.v v).2 = 0) : movG f (T.zip N) S = none := by
  have hz := zip_at hv hn
  have e : T.zip N = (T.zip N).take k ++ (v, nm) :: (T.zip N).drop (k + 1) := by
    obtain ⟨hl, e⟩ := List.getElem?_eq_some_iff.1 hz
    rw [← e, ← List.drop_eq_getElem_cons hl, List.take_append_drop]
  rw [e, movG_append, h]
  show (stepM f (v, nm) S').bind _ = none
  rw [stepM_some (by rw [plc_nm hn']; exact hp) hs, if_neg h0]
  rfl
def MovP (f : V → V → V × Nat) (w : World) (T : List V) (N : List (List UInt8)) (S : List Sl) (e : Ending) (w' : World) : Prop :=
  ∃ p k c, e = .returned (.tuple #[.slice p k c, .int .i64 ((movR f T N S).1 : Nat)]) ∧ (movR f T N S).2.length = k ∧ Hid (SR w.heap.size w' (.slice p k c) (movR f T N S).2 ∧ Below w.heap.size w w')
end Go.Proofs.YtjgibngnjlciaaaGreat
