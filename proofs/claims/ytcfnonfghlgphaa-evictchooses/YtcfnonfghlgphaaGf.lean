/-
  The map of the victims' places.
-/
import Derived.Test.YtcfnonfghlgphaaEa
namespace Go.Proofs.Ytcfnonfghlgphaa
open Go.RowKit Go.Maps Go.WideMaps

theorem law2 : Keyed Try.prog 2 := int_keyed Try.underlying2
theorem key2 (x : Int) (h : in64 x) : keyOf Try.prog 2 (.int .i64 x) = some (.int .i64 x) := keyOf_int_mk Try.underlying2 (by simp [Lit.wf, IntKind.min, IntKind.max, IntKind.bits, IntKind.signed]; omega)
theorem isKey2 (x : Int) : WideAt.IsKeyLit (.int .i64 x) := trivial
theorem int_ne {s t : Int} (h : s ≠ t) : Lit.int .i64 s ≠ Lit.int .i64 t := fun e => h (by injection e)
/-- the place of a job's victim -/
def plv (j : Int) (l : List Vi) : Option Nat := l.findIdx? fun b => b.j == j
theorem plv_some {j : Int} {l : List Vi} {i : Nat} (h : plv j l = some i) : ∃ a, l[i]? = some a ∧ a.j = j := by
  unfold plv at h
  rw [List.findIdx?_eq_some_iff_getElem] at h
  obtain ⟨h1, h2, _⟩ := h
  exact ⟨l[i], List.getElem?_eq_getElem h1, by simpa using h2⟩
theorem plv_none {j : Int} {l : List Vi} (h : plv j l = none) : ∀ a ∈ l, a.j ≠ j := fun a ha e => by
  unfold plv at h
  rw [List.findIdx?_eq_none_iff] at h
  have := h a ha
  simp [e] at this
theorem plv_add (j : Int) (l : List Vi) (x : Vi) (hx : ∀ a ∈ l, a.j ≠ x.j) : plv j (l ++ [x]) = if x.j = j then some l.length else plv j l := by
  unfold plv
  rw [List.findIdx?_append]
  by_cases e : x.j = j
  · have : l.findIdx? (fun b => b.j == j) = none := List.findIdx?_eq_none_iff.2 fun a ha => by
      have := hx a ha
      rw [e] at this
      simpa using this
    rw [this, if_pos e]
    simp [e]
  · rw [if_neg e]
    cases q : l.findIdx? (fun b => b.j == j) with
    | none => simp [e]
    | some i => simp
theorem uj_add {l : List Vi} {x : Vi} : Uj (l ++ [x]) ↔ Uj l ∧ ∀ a ∈ l, a.j ≠ x.j := by
  unfold Uj
  rw [List.pairwise_append]
  simp
/-- the map tells each job's place -/
def MpI (w : World) (m : Nat) (L : List Vi) : Prop := ∃ M, w.ownsMap Try.prog 2 iE m L.length M ∧ ∀ j z, M.atKey (.int .i64 j) z = ent (plv j L) z
theorem MpI.keep {w w1 : World} {m : Nat} {L : List Vi} (h : MpI w m L) (e : w1.heap[m]? = w.heap[m]?) : MpI w1 m L := by
  obtain ⟨M, h1, h2⟩ := h
  exact ⟨M, keepMap h1 e, h2⟩
theorem MpI.lt {w : World} {m : Nat} {L : List Vi} (h : MpI w m L) : m < w.heap.size := by
  obtain ⟨M, h1, h2⟩ := h
  exact h1.lt
theorem has_entI {M : DataW Nat} {s : Int} {o : Option Nat} (h : ∀ z, M.atKey (.int .i64 s) z = ent o z) : Maps.has M (.int .i64 s) = o.isSome := by
  cases o with
  | none => exact Maps.has_false_of_atKey fun z => by rw [h]; rfl
  | some i => exact Maps.has_true_of_atKey (y := .lit (.int .i64 (i : Nat))) fun z => by rw [h]; rfl
theorem MpI.get {w : World} {m : Nat} {L : List Vi} (h : MpI w m L) (j : Int) (hs : in64 j) {i : Nat} (hi : plv j L = some i) : (Instr.lookup 56 (.map (some m)) (.int .i64 j) false).run Try.prog w = .ok (.int .i64 (i : Int)) w := by
  obtain ⟨M, h1, h2⟩ := h
  obtain ⟨v, ps, hr, hv⟩ := h1.lookup law2 Try.underlying56 (zero3 w) (zd := .lit (.int .i64 0)) (zp := []) rfl (key2 j hs)
  rw [hr]
  rw [h2 j _, hi] at hv
  rw [iE_inv hv]
/-- the map while it is made -/
def MpJ (w : World) (m k z : Nat) (L : List Vi) : Prop := ∃ M, w.ownsMap Try.prog 2 iE m k M ∧ Maps.size M = z ∧ ((Uj (L.take k) ∧ z = k ∧ ∀ s y, M.atKey (.int .i64 s) y = ent (plv s (L.take k)) y) ∨ (¬ Uj (L.take k) ∧ z < k))
theorem MpJ.step {w : World} {m k z : Nat} {L : List Vi} {x : Vi} (h : MpJ w m k z L) (hx : L[k]? = some x) (hs : in64 x.j) (hk : k ≤ 1000000) :
    ∃ w2 z2, (Instr.mapUpdate 56 (.map (some m)) (.int .i64 x.j) (.int .i64 (k : Int))).run Try.prog w = .ok () w2 ∧ MpJ w2 m (k + 1) z2 L ∧ w.grownBy w2 (some m) := by
  obtain ⟨M, h1, h2, h3⟩ := h
  have hkey := key2 x.j hs
  obtain ⟨w2, hr, ho, hg⟩ := h1.update law2 Try.underlying56 (by unfold maxLen; omega) hkey (val := .int .i64 (k : Int)) (d := .lit (.int .i64 (k : Int))) (ps := []) rfl
  have hl : (L.take k).length = k := by
    have := (List.getElem?_eq_some_iff.1 hx).1
    rw [List.length_take]; omega
  have ht : L.take (k + 1) = L.take k ++ [x] := by rw [List.take_add_one, hx]; rfl
  refine ⟨w2, _, hr, ⟨_, ho, rfl, ?_⟩, hg⟩
  have hz := Maps.size_put (k := .int .i64 x.j) (World.ownsMap.tidy h1 law2) (.lit (.int .i64 (k : Int)))
  have hz' : Maps.size (M.put (.int .i64 x.j) (.lit (.int .i64 (k : Int)))) = if Maps.has M (.int .i64 x.j) then z else z + 1 := by
    rw [← h2]; exact hz
  rw [hz', ht, uj_add]
  rcases h3 with ⟨a1, a2, a3⟩ | ⟨a1, a2⟩
  · have hh := has_entI (o := plv x.j (L.take k)) (fun z => a3 x.j z)
    cases q : plv x.j (L.take k) with
    | none =>
      have hn := plv_none q
      rw [q] at hh
      rw [hh]
      refine .inl ⟨⟨a1, hn⟩, by simp [a2], fun s y => ?_⟩
      rw [plv_add s _ x hn, hl]
      by_cases e : x.j = s
      · subst e
        rw [if_pos rfl]
        exact atKey_put_same (World.ownsMap.isMap h1) (isKey2 _) _ _
      · rw [if_neg e, ← a3 s y]
        exact atKey_put_other (int_ne (Ne.symm e)) _ _
    | some i =>
      rw [q] at hh
      rw [hh]
      obtain ⟨a, ha, e⟩ := plv_some q
      refine .inr ⟨fun h => h.2 a (List.mem_of_getElem? ha) e, ?_⟩
      simp only [Option.isSome_some, if_true]
      omega
  · refine .inr ⟨fun h => a1 h.1, ?_⟩
    split <;> omega
theorem mk56 (w : World) (x : Int) : (Instr.makeMap 56 (some (.int .i64 x))).run Try.prog w = .ok (.map (some w.heap.size)) (w.alloc (.map #[] 0)) := by
  kernel_rfl
def PlcP (w : World) (L : List Vi) (e : Ending) (w' : World) : Prop :=
  ∃ mv, e = .returned (.tuple #[.map mv, .int .i64 (if Uj L then 0 else 5)]) ∧ Hid ((Uj L → ∃ m, mv = some m ∧ w.heap.size ≤ m ∧ MpI w' m L) ∧ Below w.heap.size w w')
set_option maxHeartbeats 2000000 in
set_option maxRecDepth 100000 in
theorem places_any (L : List Vi) (q : Option Addr) (n c : Nat) (w : World) (hL : Hid (VA w q L)) (hO : Hid (VIn L)) (hn : Hid (L.length = n)) (n1 : n ≤ 1000000) :
    Calls Try.prog 21 #[.slice q n c] w (PlcP w L) := by
  have HM : ∀ (w : World) (x : Int), (Instr.makeMap 56 (some (.int .i64 x))).run Try.prog w = .ok (.map (some w.heap.size)) (w.alloc (.map #[] 0)) := mk56
  go_enter Try.func21, Try.ntmps21
  go_upto_region 2 with fail
  have M0 : Hid (MpJ (w.alloc (.map #[] 0)) w.heap.size 0 0 L) := ⟨_, World.ownsMap_made w Try.prog 2 iE, rfl, .inl ⟨List.Pairwise.nil, rfl, fun s y => rfl⟩⟩
  have B0 : Hid (Below w.heap.size w (w.alloc (.map #[] 0))) := (Below.refl _ w).alloc (Nat.le_refl _) _
  generalize w.alloc (.map #[] 0) = W1 at *
  obtain ⟨mb, hmb⟩ : ∃ mb, mb = w.heap.size := ⟨_, rfl⟩
  have HMB : Hid (w.heap.size ≤ mb) := Nat.le_of_eq hmb.symm
  rw [← hmb] at M0 ⊢
  clear hmb
  go_wp2_with fail
  go_loopw [12] (fun x wr => ∃ k : Nat, x = .int .i64 k ∧ k ≤ n ∧ Hid ((∃ z, MpJ wr mb k z L) ∧ Below w.heap.size w wr)) (fun x _ => n - (intOf x).toNat)
  case atStart => exact ⟨0, rfl, Nat.zero_le _, ⟨_, M0.out⟩, B0.out⟩
  case round =>
    clear M0 B0
    obtain ⟨k, rfl, hk, HB⟩ := hrel
    by_cases h0 : k = n
    · subst h0
      obtain ⟨z, M, o1, o2, o3⟩ := HB.out.1
      have hlen := fun ty => World.ownsMap.len o1 Try.underlying56 ty
      rw [o2] at hlen
      have ht : L.take k = L := List.take_of_length_le (by have := hn.out; omega)
      rw [ht] at o3
      have HO : Hid (wr.ownsMap Try.prog 2 iE mb k M) := o1
      by_cases hN : Uj L
      · have hz : z = k := by
          rcases o3 with h | h
          · exact h.2.1
          · exact absurd hN h.1
        subst hz
        have hM : Hid (MpI wr mb L ∧ Uj L) := by
          rcases o3 with h | h
          · exact ⟨⟨M, by rw [hn.out]; exact o1, h.2.2⟩, hN⟩
          · exact absurd hN h.1
        clear o1 o2 o3 ht hN
        go_wp2_with fail
        go_ret2
        exact ⟨some mb, by rw [if_pos hM.out.2]; rfl, fun _ => ⟨mb, rfl, HMB.out, hM.out.1⟩, HB.out.2⟩
      · have hz : z < k := by
          rcases o3 with h | h
          · exact absurd h.1 hN
          · exact h.2
        have hz' : (z : Int) < (k : Int) := by omega
        have HN : Hid (¬ Uj L) := hN
        clear o1 o2 o3 ht hN
        go_wp2_with fail
        go_ret2
        exact ⟨none, by rw [if_neg HN.out]; rfl, fun h => absurd h HN.out, HB.out.2⟩
    · have hlt' : (k : Int) < (n : Int) := by omega
      have hd : decide ((k : Int) < (n : Int)) = true := decide_eq_true hlt'
      obtain ⟨s, hs⟩ : ∃ s, L[k]? = some s := ⟨L[k]'(by have := hn.out; omega), List.getElem?_eq_getElem _⟩
      obtain ⟨g, o, rfl, c0, c1, c2, c3, c4⟩ := VA.at (hL.out.below HB.out.2) hs
      obtain ⟨z, hz⟩ := HB.out.1
      obtain ⟨M, q1, q2⟩ := hz
      have hz' : MpJ (wr.alloc (.cells #[.int .i64 s.j, .int .i64 s.p, .int .i64 s.s, .slice s.qT s.nT s.cT, .slice s.qN s.nN s.cN] 49)) mb k z L := ⟨M, keepMap q1 (Below.heap_alloc wr _ mb q1.lt), q2⟩
      obtain ⟨w2, z2, hr, hk2, hg⟩ := hz'.step hs (hO.out s (List.mem_of_getElem? hs)).1 (by omega)
      have HK : Hid (MpJ w2 mb (k + 1) z2 L ∧ Below w.heap.size w w2) := ⟨hk2, (HB.out.2.alloc HB.out.2.size _).trans (below_grown hg (by have := HB.out.2.size; simp; omega) (fun g e => by cases e; exact HMB.out))⟩
      clear hs hz' q1 q2 hk2 hg
      generalize s.j = sj at *
      generalize s.p = sp at *
      generalize s.s = ss at *
      go_wp2_with fail
      exact ⟨⟨k + 1, by simp, by omega, ⟨z2, HK.out.1⟩, HK.out.2⟩, by simp only [intOf]; omega⟩
end Go.Proofs.Ytcfnonfghlgphaa
