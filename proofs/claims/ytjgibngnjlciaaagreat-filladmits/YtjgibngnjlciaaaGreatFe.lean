/-
  The profiles of the nodes as they lie, and the map to them. While the course is laid out.
-/
import Derived.Test.YtjgibngnjlciaaaGreatFc
import Derived.Test.YtjgibngnjlciaaaGreatPLf
import Derived.Test.YtjgibngnjlciaaaGreatPb
import Derived.Test.YtjgibngnjlciaaaGreatFg
namespace Go.Proofs.YtjgibngnjlciaaaGreat
open Go.RowKit Go.Maps Go.WideMaps

/-- how a pointer in a map reads -/
def pE (v : Value) : Option (DataW Nat × List MemPlace) := match v with
  | .pointer (some ⟨b, 0, none⟩) => some (.held b, [])
  | .pointer none => some (.nil, [])
  | _ => none
theorem pE_held {v : Value} {b : Nat} {ps : List MemPlace} (h : pE v = some (.held b, ps)) : v = .pointer (some ⟨b, 0, none⟩) := by
  unfold pE at h
  split at h
  · cases h; rfl
  · cases h
  · cases h
theorem zero80 (w : World) : (zeroValue 89).run Tryz.prog w = .ok (.pointer none) w := by kernel_rfl
def entP (o : Option Nat) (pb : Nat → Nat) (z : DataW Nat) : DataW Nat := o.elim z fun i => .held (pb i)
/-- the map tells each node's profile -/
def PtM (w : World) (m n : Nat) (W : List Sl) (pb : Nat → Nat) : Prop := ∃ M, w.ownsMap Tryz.prog 9 pE m n M ∧ ∀ s z, M.atKey (.string s) z = entP (plc s W) pb z
theorem PtM.keep {w w1 : World} {m n : Nat} {W : List Sl} {pb : Nat → Nat} (h : PtM w m n W pb) (e : w1.heap[m]? = w.heap[m]?) : PtM w1 m n W pb := by
  obtain ⟨M, h1, h2⟩ := h
  exact ⟨M, keepMap h1 e, h2⟩
theorem PtM.lt {w : World} {m n : Nat} {W : List Sl} {pb : Nat → Nat} (h : PtM w m n W pb) : m < w.heap.size := by
  obtain ⟨M, h1, h2⟩ := h
  exact h1.lt
theorem PtM.get {w : World} {m n : Nat} {W : List Sl} {pb : Nat → Nat} (h : PtM w m n W pb) (s : List UInt8) (hs : s.length ≤ 281474976710656) {i : Nat} (hi : plc s W = some i) : (Instr.lookup 59 (.map (some m)) (.string ⟨⟨s⟩⟩) false).run Tryz.prog w = .ok (.pointer (some ⟨pb i, 0, none⟩)) w := by
  obtain ⟨M, h1, h2⟩ := h
  have hkey := keyOf_string_mk (P := Tryz.prog) (s := ⟨⟨s⟩⟩) Tryz.underlying9 (by rw [Lib.size_eq]; unfold maxLen; show s.length ≤ _; omega)
  obtain ⟨v, ps, hr, hv⟩ := h1.lookup law9 Tryz.underlying59 (zero80 w) (zd := .nil) (zp := []) rfl hkey
  rw [hr]
  rw [show (M.atKey (.string (⟨⟨s⟩⟩ : ByteArray).data.toList) .nil) = _ from h2 s _, hi] at hv
  rw [pE_held hv]
theorem PtM.add {w : World} {m n : Nat} {W : List Sl} {pb : Nat → Nat} {x : Sl} (h : PtM w m n W pb) (hx : ∀ a ∈ W, a.nm ≠ x.nm) (hs : x.nm.length ≤ 281474976710656) (hn : n ≤ 1000000) (b : Nat) (hb : pb W.length = b) :
    ∃ w2, (Instr.mapUpdate 59 (.map (some m)) (.string ⟨⟨x.nm⟩⟩) (.pointer (some ⟨b, 0, none⟩))).run Tryz.prog w = .ok () w2 ∧ PtM w2 m (n + 1) (W ++ [x]) pb ∧ w.grownBy w2 (some m) := by
  obtain ⟨M, h1, h2⟩ := h
  have hkey := keyOf_string_mk (P := Tryz.prog) (s := ⟨⟨x.nm⟩⟩) Tryz.underlying9 (by rw [Lib.size_eq]; unfold maxLen; show x.nm.length ≤ _; omega)
  obtain ⟨w2, hr, ho, hg⟩ := h1.update law9 Tryz.underlying59 (by unfold maxLen; omega) hkey (val := .pointer (some ⟨b, 0, none⟩)) (d := .held b) (ps := []) rfl
  refine ⟨w2, hr, ⟨_, ho, fun s z => ?_⟩, hg⟩
  rw [plc_add s _ x hx]
  by_cases e : x.nm = s
  · subst e
    rw [if_pos rfl, show entP (some W.length) pb z = .held b by show DataW.held (pb W.length) = _; rw [hb]]
    exact atKey_put_same (World.ownsMap.isMap h1) (isKey _) _ _
  · rw [if_neg e, ← h2 s z]
    exact atKey_put_other (str_ne (Ne.symm e)) _ _
theorem PtM.congr {w : World} {m n : Nat} {W : List Sl} {pb pb' : Nat → Nat} (h : PtM w m n W pb) (e : ∀ i, i < W.length → pb' i = pb i) : PtM w m n W pb' := by
  obtain ⟨M, h1, h2⟩ := h
  refine ⟨M, h1, fun s z => ?_⟩
  rw [h2]
  cases q : plc s W with
  | none => rfl
  | some i =>
    obtain ⟨a, ha, _⟩ := plc_some q
    show DataW.held (pb i) = .held (pb' i)
    rw [e i (List.getElem?_eq_some_iff.1 ha).1]
/-- a profile with a capacity, behind takes -/
structure PrA (w : World) (pb : Nat) (Q : PS) (C : V) (L : List Opr) : Prop where
  m : Mem w pb Q
  o : Ok Q
  c : Q.C = C
  f : ∀ u, fa Q.C Q.l u = plF (fun _ => C) L u
  n : Q.n = L.length
/-- all of them -/
structure Crs (w : World) (B mb : Nat) (W : List Sl) (F : List UInt8 → List Opr) (pb : Nat → Nat) (Q : Nat → PS) : Prop where
  mp : PtM w mb W.length W pb
  m : ∀ i s, W[i]? = some s → PrA w (pb i) (Q i) s.v (F s.nm)
  lo : ∀ i, i < W.length → ∀ k, Fp (pb i) (Q i) k → B ≤ k ∧ k ≠ mb
  ap : ∀ i j, i < W.length → j < W.length → i ≠ j → ∀ k, Fp (pb i) (Q i) k → ¬ Fp (pb j) (Q j) k
  bs : B ≤ w.heap.size
section
variable {w w1 : World} {B mb : Nat} {W : List Sl} {F : List UInt8 → List Opr} {pb : Nat → Nat} {Q : Nat → PS}
theorem PrA.keep {b : Nat} {q : PS} {C : V} {L : List Opr} (h : PrA w b q C L) (k : ∀ i, Fp b q i → w1.heap[i]? = w.heap[i]?) : PrA w1 b q C L := ⟨h.m.keep k, h.o, h.c, h.f, h.n⟩
theorem PrA.below {b : Nat} {q : PS} {C : V} {L : List Opr} (h : PrA w b q C L) (k : Below w.heap.size w w1) : PrA w1 b q C L := ⟨h.m.below k, h.o, h.c, h.f, h.n⟩
theorem Crs.keep (h : Crs w B mb W F pb Q) (k : Below w.heap.size w w1) : Crs w1 B mb W F pb Q :=
  ⟨h.mp.keep (k.block mb h.mp.lt), fun i s hs => (h.m i s hs).below k, h.lo, h.ap, Nat.le_trans h.bs k.size⟩
theorem Crs.congr {F' : List UInt8 → List Opr} (h : Crs w B mb W F pb Q) (e : ∀ s ∈ W, F' s.nm = F s.nm) : Crs w B mb W F' pb Q :=
  ⟨h.mp, fun i s hs => by rw [e s (List.mem_of_getElem? hs)]; exact h.m i s hs, h.lo, h.ap, h.bs⟩
/-- a node more -/
theorem Crs.more {x : Sl} {b : Nat} (h : Crs w B mb W (fun _ => []) pb Q) (hm : PtM w1 mb (W.length + 1) (W ++ [x]) (fun i => if i = W.length then b else pb i)) (hk : ∀ k, k < w.heap.size → k ≠ mb → w1.heap[k]? = w.heap[k]?) (hb : w.heap.size ≤ b) (hz : w.heap.size ≤ w1.heap.size)
    (hx : x.v.ok = true) (hp : Mem w1 b ⟨x.v, .slice none 0 0, [], 0⟩) : Crs w1 B mb (W ++ [x]) (fun _ => []) (fun i => if i = W.length then b else pb i) (fun i => if i = W.length then ⟨x.v, .slice none 0 0, [], 0⟩ else Q i) := by
  have hmb := h.mp.lt
  have hB := h.bs
  have hl : (W ++ [x]).length = W.length + 1 := by simp
  have hfp : ∀ k, Fp b ⟨x.v, .slice none 0 0, [], 0⟩ k → k = b := fun k hk => by
    rcases hk with q | q
    · exact q
    · cases q
  have hold : ∀ i, i < W.length → ∀ k, Fp (pb i) (Q i) k → k < w.heap.size := fun i hi k hk => (h.m i _ (List.getElem?_eq_getElem hi)).m.lt k hk
  refine ⟨by rw [hl]; exact hm, fun i s hs => ?_, fun i hi k hk2 => ?_, fun i j hi hj hij k hk2 hk3 => ?_, Nat.le_trans hB hz⟩
  · by_cases e : i = W.length
    · subst e
      rw [List.getElem?_append_right (Nat.le_refl _), Nat.sub_self] at hs
      have : x = s := by simpa using hs
      subst this
      simp only [if_true]
      exact ⟨hp, ⟨Pf.nil hx, Nat.zero_le _, Nat.zero_le _⟩, rfl, fun u => rfl, rfl⟩
    · have hi : i < W.length := by
        have := (List.getElem?_eq_some_iff.1 hs).1
        omega
      rw [List.getElem?_append_left hi] at hs
      simp only [if_neg e]
      have := h.m i s hs
      exact this.keep fun k q => hk k (this.m.lt k q) (h.lo i hi k q).2
  · by_cases e : i = W.length
    · simp only [if_pos e] at hk2
      have := hfp k hk2
      omega
    · simp only [if_neg e] at hk2
      exact h.lo i (by omega) k hk2
  · by_cases e : i = W.length
    · by_cases e2 : j = W.length
      · omega
      · simp only [if_pos e] at hk2
        simp only [if_neg e2] at hk3
        have h1 := hfp k hk2
        have h2 := hold j (by omega) k hk3
        omega
    · by_cases e2 : j = W.length
      · simp only [if_neg e] at hk2
        simp only [if_pos e2] at hk3
        have h1 := hfp k hk3
        have h2 := hold i (by omega) k hk2
        omega
      · simp only [if_neg e] at hk2
        simp only [if_neg e2] at hk3
        exact h.ap i j (by omega) (by omega) hij k hk2 hk3
/-- a take more of one node -/
theorem Crs.took {i : Nat} {s : Sl} {S' : PS} {L' : List Opr} {F' : List UInt8 → List Opr} (h : Crs w B mb W F pb Q) (hi : W[i]? = some s) (hN : Nod W) (g : Chg (pb i) (Q i) S' w w1) (hp : PrA w1 (pb i) S' s.v L') (hF : F' s.nm = L') (hF2 : ∀ nm, nm ≠ s.nm → F' nm = F nm) :
    Crs w1 B mb W F' pb (fun j => if j = i then S' else Q j) := by
  have hil := (List.getElem?_eq_some_iff.1 hi).1
  have hmb := h.mp.lt
  have hB := h.bs
  have hnew : ∀ k, Fp (pb i) S' k → Fp (pb i) (Q i) k ∨ w.heap.size ≤ k := g.fp
  have hold : ∀ i, i < W.length → ∀ k, Fp (pb i) (Q i) k → k < w.heap.size := fun i hi k hk => (h.m i _ (List.getElem?_eq_getElem hi)).m.lt k hk
  refine ⟨h.mp.keep (g.kp.block mb hmb fun q => (h.lo i hil mb q).2 rfl), fun j u hu => ?_, fun j hj k hk => ?_, fun a b ha hb hab k hk1 hk2 => ?_, Nat.le_trans hB g.kp.size⟩
  · by_cases e : j = i
    · subst e
      rw [hi] at hu
      cases hu
      simp only [if_true]
      rw [hF]
      exact hp
    · simp only [if_neg e]
      have hne : u.nm ≠ s.nm := fun q => nod_ne hN hu hi e q
      rw [hF2 u.nm hne]
      have hm := h.m j u hu
      exact hm.keep fun k q => g.kp.block k (hm.m.lt k q) fun q2 => h.ap j i (List.getElem?_eq_some_iff.1 hu).1 hil e k q q2
  · by_cases e : j = i
    · subst e
      simp only [if_true] at hk
      rcases hnew k hk with q | q
      · exact h.lo j hj k q
      · omega
    · simp only [if_neg e] at hk
      exact h.lo j hj k hk
  · by_cases e : a = i
    · by_cases e2 : b = i
      · omega
      · subst e
        simp only [if_true] at hk1
        simp only [if_neg e2] at hk2
        rcases hnew k hk1 with q | q
        · exact h.ap a b ha hb hab k q hk2
        · have := hold b hb k hk2; omega
    · by_cases e2 : b = i
      · subst e2
        simp only [if_neg e] at hk1
        simp only [if_true] at hk2
        rcases hnew k hk2 with q | q
        · exact h.ap a b ha hb hab k hk1 q
        · have := hold a ha k hk1; omega
      · simp only [if_neg e] at hk1
        simp only [if_neg e2] at hk2
        exact h.ap a b ha hb hab k hk1 hk2
end
/-- the Take of a task that fits -/
theorem take_PrA {w : World} {b : Nat} {q : PS} {C : V} {L rest : List Opr} {o : Opr} (h : PrA w b q C L) (hall : AllT (fun _ => C) (L ++ o :: rest)) (hn : L.length < 4096) :
    Calls Tryz.prog 43 #[.pointer (some ⟨b, 0, none⟩), .int .i64 o.a, .int .i64 o.b, .agg #[.int .i64 o.v.a, .int .i64 o.v.b, .int .i64 o.v.c, .int .i64 o.v.d]] w fun e w' => e = .returned (.int .i64 0) ∧ ∃ q', Chg b q q' w w' ∧ PrA w' b q' C (L ++ [o]) := by
  have hA := (AllT.append.1 hall).2
  obtain ⟨a1, a2, a3, a4⟩ := hA
  have ef : fa q.C q.l = plF (fun _ => C) L := funext h.f
  have hc : tkC (fa q.C q.l) q.n o.a o.b o.v = 0 := by
    unfold tkC
    have h3 := h.n
    rw [if_neg (by rw [a1]; decide), if_neg (by rw [a2]; decide), if_neg (by omega), if_neg (by rw [ef]; exact fun q => q a3)]
  refine (take_any h.m h.o o.a o.b o.v).mono ?_
  rintro e w' ⟨rfl, q', t⟩
  obtain ⟨t1, t2⟩ := t.f hc
  refine ⟨by rw [hc], q', t.g, t.m, t.o, t.c.trans h.c, fun u => ?_, by rw [t1, h.n, List.length_append]; rfl⟩
  rw [t2, ef, plF_snoc]
end Go.Proofs.YtjgibngnjlciaaaGreat

namespace Go.Proofs.YtjgibngnjlciaaaGreat
open Go.RowKit Go.Maps Go.WideMaps Go.Sort

theorem mk53 (w : World) (x : Int) : (Instr.makeMap 59 (some (.int .i64 x))).run Tryz.prog w = .ok (.map (some w.heap.size)) (w.alloc (.map #[] 0)) := by
  kernel_rfl
abbrev pObj (v : V) : Obj := .cells #[.int .i64 v.a, .int .i64 v.b, .int .i64 v.c, .int .i64 v.d, .slice none 0 0, .int .i64 0] 111 (0, 0)
/-- while it is laid out: rb the result's cell, mb the map, cb the course -/
structure Fo (w0 w : World) (X : Nat → Option Obj) (now : Int) (r : Option Addr) (m d rb mb cb : Nat) (W : List Sl) (F : List UInt8 → List Opr) (pb : Nat → Nat) (Q : Nat → PS) : Prop where
  b : Below w0.heap.size w0 w
  c : w.heap[cb]? = some (.cells #[.int .i64 now, .slice r m d, .map (some mb)] 61 (0, 0))
  z : w.heap[rb]? = some (.cells #[.int .i64 0, .slice none 0 0, .map none] 61 (0, 0))
  o : w0.heap.size ≤ rb ∧ w0.heap.size ≤ mb ∧ rb < cb ∧ mb < cb ∧ rb ≠ mb
  g : Crs w (cb + 1) mb W F pb Q
  x : ∀ j o, X j = some o → w.heap[j]? = some o ∧ ∀ i, i < W.length → ¬ Fp (pb i) (Q i) j
section
variable {w0 w w1 : World} {X : Nat → Option Obj} {now : Int} {r : Option Addr} {m d rb mb cb : Nat} {W : List Sl} {F : List UInt8 → List Opr} {pb : Nat → Nat} {Q : Nat → PS}
theorem Fo.below (h : Fo w0 w X now r m d rb mb cb W F pb Q) (k : Below w.heap.size w w1) : Fo w0 w1 X now r m d rb mb cb W F pb Q :=
  ⟨below_from h.b k h.b.size, at_below k (Nat.le_refl _) h.c, at_below k (Nat.le_refl _) h.z, h.o, h.g.keep k, fun j o q => ⟨at_below k (Nat.le_refl _) (h.x j o q).1, (h.x j o q).2⟩⟩
theorem Fo.congr {F' : List UInt8 → List Opr} (h : Fo w0 w X now r m d rb mb cb W F pb Q) (e : ∀ s ∈ W, F' s.nm = F s.nm) : Fo w0 w X now r m d rb mb cb W F' pb Q := ⟨h.b, h.c, h.z, h.o, h.g.congr e, h.x⟩
theorem Fo.lt (h : Fo w0 w X now r m d rb mb cb W F pb Q) : cb < w.heap.size ∧ rb < w.heap.size ∧ mb < w.heap.size ∧ w0.heap.size < cb := by
  have h1 := (Array.getElem?_eq_some_iff.1 h.c).1
  have h2 := h.o
  omega
/-- a node's profile is made and put into the map -/
theorem Fo.more {wx : World} {x : Sl} (h : Fo w0 w NX now r m d rb mb cb W (fun _ => []) pb Q) (b : Below w.heap.size w wx) (hx : ∀ a ∈ W, a.nm ≠ x.nm) (hs : x.nm.length ≤ 281474976710656) (hn : W.length ≤ 1000000) (hv : x.v.ok = true) :
    (wx.alloc (pObj x.v)).cell? ⟨cb, 2, none⟩ = some (.map (some mb)) ∧ ∃ w2, (Instr.mapUpdate 59 (.map (some mb)) (.string ⟨⟨x.nm⟩⟩) (.pointer (some ⟨wx.heap.size, 0, none⟩))).run Tryz.prog (wx.alloc (pObj x.v)) = .ok () w2 ∧ Hid (∃ pb' Q', Fo w0 w2 NX now r m d rb mb cb (W ++ [x]) (fun _ => []) pb' Q') := by
  have hx1 := h.below b
  obtain ⟨l1, l2, l3, l4⟩ := hx1.lt
  have hmp : PtM (wx.alloc (pObj x.v)) mb W.length W (fun i => if i = W.length then wx.heap.size else pb i) := (hx1.g.mp.keep (Below.heap_alloc wx _ mb l3)).congr fun i hi => if_neg (Nat.ne_of_lt hi)
  obtain ⟨w2, hr, hm2, hg⟩ := hmp.add hx hs hn wx.heap.size (if_pos rfl)
  have hk : ∀ k, k < wx.heap.size → k ≠ mb → w2.heap[k]? = wx.heap[k]? := fun k hk hne => by
    rw [hg.block k (by simp; omega) (fun e => hne (Option.some.inj e))]
    exact Below.heap_alloc wx _ k hk
  have hsz : wx.heap.size ≤ w2.heap.size := by
    have := hg.size
    simp at this
    omega
  have hp : w2.heap[wx.heap.size]? = some (pObj x.v) := by
    rw [hg.block wx.heap.size (by simp) (fun e => by have := Option.some.inj e; omega)]
    exact new0
  refine ⟨?_, w2, hr, _, _, ⟨?_, (hk cb l1 (by have := h.o; omega)).trans hx1.c, (hk rb l2 h.o.2.2.2.2).trans hx1.z, h.o, hx1.g.more hm2 hk (Nat.le_refl _) hsz hv ⟨hp, Row.nil _⟩, fun j o q => by cases q⟩⟩
  · rw [cell_of (at_alloc hx1.c)]; rfl
  · exact (hx1.b.alloc hx1.b.size _).trans (below_grown (B := w0.heap.size) hg (by have := hx1.b.size; simp; omega) fun g e => by cases e; exact h.o.2.1)
/-- a take of one node -/
theorem Fo.took {i : Nat} {s : Sl} {S' : PS} {L' : List Opr} {F' : List UInt8 → List Opr} (h : Fo w0 w X now r m d rb mb cb W F pb Q) (hi : W[i]? = some s) (hN : Nod W) (g : Chg (pb i) (Q i) S' w w1) (hp : PrA w1 (pb i) S' s.v L') (hF : F' s.nm = L') (hF2 : ∀ nm, nm ≠ s.nm → F' nm = F nm) :
    Fo w0 w1 X now r m d rb mb cb W F' pb (fun j => if j = i then S' else Q j) := by
  obtain ⟨l1, l2, l3, l4⟩ := h.lt
  have hil := (List.getElem?_eq_some_iff.1 hi).1
  have ho := h.o
  have hlo : ∀ k, Fp (pb i) (Q i) k → cb + 1 ≤ k := fun k q => (h.g.lo i hil k q).1
  have hB := h.b.size
  refine ⟨⟨g.kp.os.trans h.b.os, g.kp.tape.trans h.b.tape, g.kp.output.trans h.b.output, Nat.le_trans h.b.size g.kp.size, fun j hj => (g.kp.block j (by omega) fun q => by have := hlo j q; omega).trans (h.b.block j hj)⟩, ?_, ?_, h.o, h.g.took hi hN g hp hF hF2, fun j o q => ?_⟩
  · exact (g.kp.block cb l1 fun q => by have := hlo cb q; omega).trans h.c
  · exact (g.kp.block rb l2 fun q => by have := hlo rb q; omega).trans h.z
  · obtain ⟨x1, x2⟩ := h.x j o q
    have hj := (Array.getElem?_eq_some_iff.1 x1).1
    refine ⟨(g.kp.block j hj (x2 i hil)).trans x1, fun a ha q => ?_⟩
    by_cases e : a = i
    · subst e
      simp only [if_true] at q
      rcases g.fp j q with q | q
      · exact x2 a ha q
      · omega
    · simp only [if_neg e] at q
      exact x2 a ha q
theorem Fo.alloc (h : Fo w0 w X now r m d rb mb cb W F pb Q) (o : Obj) : Fo w0 (w.alloc o) (adX X w.heap.size o) now r m d rb mb cb W F pb Q := by
  have h1 := h.below ((Below.refl _ w).alloc (Nat.le_refl _) o)
  refine ⟨h1.b, h1.c, h1.z, h1.o, h1.g, fun j o' q => ?_⟩
  unfold adX at q
  split at q
  · rename_i e
    subst e
    cases q
    refine ⟨new0, fun i hi q => Nat.lt_irrefl _ ((h.g.m i _ (List.getElem?_eq_getElem hi)).m.lt _ q)⟩
  · exact h1.x j o' q
theorem Fo.forget {Y : Nat → Option Obj} (h : Fo w0 w X now r m d rb mb cb W F pb Q) (e : ∀ j o, Y j = some o → X j = some o) : Fo w0 w Y now r m d rb mb cb W F pb Q := ⟨h.b, h.c, h.z, h.o, h.g, fun j o q => h.x j o (e j o q)⟩
end
/-! ### a task of a run -/
/-- the takes of a run's first j tasks on a node -/
def opz (now : Int) (v : Vi) (j : Nat) (nm : List UInt8) : List Opr := ((v.T.zip v.N).take j).filterMap (tkO now v nm)
theorem opz_next {now : Int} {v : Vi} {j : Nat} {x : V} {s : List UInt8} (h1 : v.T[j]? = some x) (h2 : v.N[j]? = some s) (nm : List UInt8) : opz now v (j + 1) nm = opz now v j nm ++ (if s = nm then [⟨now, en now v, x⟩] else []) := by
  unfold opz
  rw [take_next (zip_at h1 h2), List.filterMap_append]
  congr 1
  by_cases e : s = nm
  · rw [if_pos e, List.filterMap_cons_some (b := ⟨now, en now v, x⟩) (by unfold tkO; rw [if_pos e])]; rfl
  · rw [if_neg e, List.filterMap_cons_none (by unfold tkO; rw [if_neg e])]; rfl
theorem opz_all {now : Int} {v : Vi} {j : Nat} (hl : v.N.length = v.T.length) (hj : v.T.length ≤ j) (nm : List UInt8) : opz now v j nm = tks now v nm := by
  unfold opz tks
  rw [List.take_of_length_le (by rw [List.length_zip]; omega)]
theorem oprs_next {now : Int} {R : List Vi} {k : Nat} {v : Vi} (h : R[k]? = some v) (nm : List UInt8) : oprs now (R.take (k + 1)) nm = oprs now (R.take k) nm ++ tks now v nm := by
  rw [take_next h, oprs_append]
  congr 1
  unfold oprs
  rw [List.flatMap_cons, List.flatMap_nil, List.append_nil]
theorem oprs_split {now : Int} {R : List Vi} {k j : Nat} {v : Vi} {x : V} {s : List UInt8} (h : R[k]? = some v) (h1 : v.T[j]? = some x) (h2 : v.N[j]? = some s) : ∃ rest, oprs now R s = (oprs now (R.take k) s ++ opz now v j s) ++ ⟨now, en now v, x⟩ :: rest := by
  have e1 : oprs now R s = oprs now (R.take (k + 1)) s ++ oprs now (R.drop (k + 1)) s := by rw [← oprs_append, List.take_append_drop]
  have e2 : tks now v s = opz now v (j + 1) s ++ ((v.T.zip v.N).drop (j + 1)).filterMap (tkO now v s) := by
    unfold tks opz
    rw [← List.filterMap_append, List.take_append_drop]
  rw [e1, oprs_next h, e2, opz_next h1 h2, if_pos rfl]
  exact ⟨((v.T.zip v.N).drop (j + 1)).filterMap (tkO now v s) ++ oprs now (R.drop (k + 1)) s, by simp⟩
theorem oprs_len (now : Int) (nm : List UInt8) : ∀ {R : List Vi}, (∀ v ∈ R, v.T.length ≤ 6) → (oprs now R nm).length ≤ R.length * 6
  | [], _ => Nat.le_refl _
  | v :: R, h => by
    have ih := oprs_len now nm (R := R) fun u hu => h u (List.mem_cons_of_mem _ hu)
    have h1 := h v (List.mem_cons_self ..)
    have h2 : (tks now v nm).length ≤ v.T.length := Nat.le_trans (List.length_filterMap_le _ _) (by rw [List.length_zip]; omega)
    show (tks now v nm ++ oprs now R nm).length ≤ _
    rw [List.length_append, List.length_cons]
    omega
section
variable {w0 w w1 : World} {X : Nat → Option Obj} {now : Int} {r : Option Addr} {m d rb mb cb : Nat} {W : List Sl} {R : List Vi} {pb : Nat → Nat} {Q : Nat → PS}
/-- it is taken -/
theorem Fo.task {k j : Nat} {v : Vi} {x : V} {s : List UInt8} (h : Fo w0 w X now r m d rb mb cb W (fun nm => oprs now (R.take k) nm ++ opz now v j nm) pb Q) (hv : R[k]? = some v) (h1 : v.T[j]? = some x) (h2 : v.N[j]? = some s) (hN : Nod W) (hA : ∀ s ∈ W, AllT (fun _ => s.v) (oprs now R s.nm)) (hK : ∀ v ∈ R, v.N.length = v.T.length ∧ v.T.length ≤ 6 ∧ knB v.N W = true) (hR : R.length ≤ 100) (hs : s.length ≤ 281474976710656) :
    ∃ p, (∀ w1, Below w.heap.size w w1 → (Instr.lookup 59 (.map (some mb)) (.string ⟨⟨s⟩⟩) false).run Tryz.prog w1 = .ok (.pointer (some ⟨p, 0, none⟩)) w1) ∧ ∀ w1, Below w.heap.size w w1 → Calls Tryz.prog 43 #[.pointer (some ⟨p, 0, none⟩), .int .i64 now, .int .i64 (en now v), .agg #[.int .i64 x.a, .int .i64 x.b, .int .i64 x.c, .int .i64 x.d]] w1 fun e w' => e = .returned (.int .i64 0) ∧ Hid (∃ pb Q, Fo w0 w' X now r m d rb mb cb W (fun nm => oprs now (R.take k) nm ++ opz now v (j + 1) nm) pb Q) := by
  obtain ⟨k1, k2, k3⟩ := hK v (List.mem_of_getElem? hv)
  have hp : (plc s W).isSome = true := List.all_eq_true.1 k3 s (List.mem_of_getElem? h2)
  obtain ⟨i, hi⟩ := Option.isSome_iff_exists.1 hp
  obtain ⟨u, hu, hun⟩ := plc_some hi
  subst hun
  refine ⟨pb i, fun w1 b => (h.below b).g.mp.get _ hs hi, fun w1 b => ?_⟩
  have h' := h.below b
  obtain ⟨rest, e⟩ := oprs_split (now := now) hv h1 h2
  have hall := hA u (List.mem_of_getElem? hu)
  rw [e] at hall
  have hlen : (oprs now (R.take k) u.nm ++ opz now v j u.nm).length < 4096 := by
    have h3 := oprs_len now u.nm (R := R) fun v hv => (hK v hv).2.1
    rw [e, List.length_append, List.length_cons] at h3
    omega
  refine (take_PrA (o := ⟨now, en now v, x⟩) (h'.g.m i u hu) hall hlen).mono ?_
  rintro e w' ⟨rfl, q', hg, hpr⟩
  refine ⟨rfl, pb, _, h'.took hu hN hg hpr ?_ fun nm hne => ?_⟩
  · show oprs now (R.take k) u.nm ++ opz now v (j + 1) u.nm = _
    rw [opz_next h1 h2, if_pos rfl, List.append_assoc]
  · show oprs now (R.take k) nm ++ opz now v (j + 1) nm = oprs now (R.take k) nm ++ opz now v j nm
    rw [opz_next h1 h2, if_neg (Ne.symm hne), List.append_nil]
end

theorem fo_start (w : World) (now : Int) (r : Option Addr) (m d : Nat) (pb : Nat → Nat) (Q : Nat → PS) : Fo w (((w.alloc (.cells #[.int .i64 0, .slice none 0 0, .map none] 61)).alloc (.map #[] 0)).alloc (.cells #[.int .i64 now, .slice r m d, .map (some (w.heap.size + 1))] 61)) NX now r m d w.heap.size (w.heap.size + 1) (w.heap.size + 1 + 1) [] (fun _ => []) pb Q := by
  have hs : (w.alloc (.cells #[.int .i64 0, .slice none 0 0, .map none] 61)).heap.size = w.heap.size + 1 := by simp
  have hm := World.ownsMap_made (w.alloc (.cells #[.int .i64 0, .slice none 0 0, .map none] 61)) Tryz.prog 9 pE
  rw [hs] at hm
  refine ⟨((Below.refl _ _).alloc (Nat.le_refl _) _).alloc (by simp) _ |>.alloc (by simp; omega) _, new2, at_alloc (at_alloc new0), ⟨Nat.le_refl _, by omega, by omega, by omega, by omega⟩, ⟨⟨_, keepMap hm (Below.heap_alloc _ _ _ (by simp)), fun s z => rfl⟩, fun i s hs => by simp at hs, fun i hi => by simp at hi, fun i j hi => by simp at hi, by simp⟩, fun j o q => by cases q⟩
end Go.Proofs.YtjgibngnjlciaaaGreat
