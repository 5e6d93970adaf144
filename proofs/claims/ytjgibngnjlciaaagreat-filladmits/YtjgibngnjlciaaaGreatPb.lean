/-
  The map of places; check.
-/
import Derived.Test.YtjgibngnjlciaaaGreatPa
import Derived.Test.YtjgibngnjlciaaaGreatShelf
import Derived.Maps.Views
import Derived.Carry
import Derived.Deep.CutBlock
import Derived.Deep.CutRange
import Derived.Deep.DeepCutAuto
import Derived.Deep.RegionHeld3
import Derived.Deep.OwnRows
namespace Go.Proofs.YtjgibngnjlciaaaGreat
open Go.RowKit Go.Maps Go.WideMaps

theorem keepMap {H : Type} {w w1 : World} {P : Program} {k : TypeId} {R : Value → Option (DataW H × List MemPlace)} {b n : Nat} {D : DataW H} (h : w.ownsMap P k R b n D) (e : w1.heap[b]? = w.heap[b]?) : w1.ownsMap P k R b n D := by
  obtain ⟨es, clock, hb, r⟩ := h
  exact ⟨es, clock, e.trans hb, r⟩
def iE (v : Value) : Option (DataW Nat × List MemPlace) := match v with
  | .int .i64 x => some (.lit (.int .i64 x), [])
  | _ => none
theorem iE_inv {v : Value} {x : Int} {ps : List MemPlace} (h : iE v = some (.lit (.int .i64 x), ps)) : v = .int .i64 x := by
  unfold iE at h
  split at h
  · cases h; rfl
  · cases h
theorem law9 : Keyed Tryz.prog 9 := string_keyed Tryz.underlying9
theorem zero3 (w : World) : (zeroValue 3).run Tryz.prog w = .ok (.int .i64 0) w := by kernel_rfl
theorem isKey (s : List UInt8) : WideAt.IsKeyLit (.string s) := trivial
theorem str_ne {s t : List UInt8} (h : s ≠ t) : Lit.string s ≠ Lit.string t := fun e => h (by injection e)
def ent (o : Option Nat) (z : DataW Nat) : DataW Nat := o.elim z fun i => .lit (.int .i64 (i : Nat))
/-- the map tells each node's place -/
def MpS (w : World) (m : Nat) (S : List Sl) : Prop := ∃ M, w.ownsMap Tryz.prog 9 iE m S.length M ∧ ∀ s z, M.atKey (.string s) z = ent (plc s S) z
theorem MpS.keep {w w1 : World} {m : Nat} {S : List Sl} (h : MpS w m S) (e : w1.heap[m]? = w.heap[m]?) : MpS w1 m S := by
  obtain ⟨M, h1, h2⟩ := h
  exact ⟨M, keepMap h1 e, h2⟩
theorem MpS.lt {w : World} {m : Nat} {S : List Sl} (h : MpS w m S) : m < w.heap.size := by
  obtain ⟨M, h1, h2⟩ := h
  exact h1.lt
theorem has_ent {M : DataW Nat} {s : List UInt8} {o : Option Nat} (h : ∀ z, M.atKey (.string s) z = ent o z) : Maps.has M (.string s) = o.isSome := by
  cases o with
  | none => exact Maps.has_false_of_atKey fun z => by rw [h]; rfl
  | some i => exact Maps.has_true_of_atKey (y := .lit (.int .i64 (i : Nat))) fun z => by rw [h]; rfl
theorem MpS.look {w : World} {m : Nat} {S : List Sl} (h : MpS w m S) (s : List UInt8) (hs : s.length ≤ 281474976710656) : (Instr.lookup 66 (.map (some m)) (.string ⟨⟨s⟩⟩) true).run Tryz.prog w = .ok (.tuple #[.int .i64 (((plc s S).getD 0 : Nat) : Int), .bool (plc s S).isSome]) w := by
  obtain ⟨M, h1, h2⟩ := h
  have hkey := keyOf_string_mk (P := Tryz.prog) (s := ⟨⟨s⟩⟩) Tryz.underlying9 (by rw [Lib.size_eq]; unfold maxLen; show s.length ≤ _; omega)
  obtain ⟨v, ps, hr, hv⟩ := h1.look_ok law9 Tryz.underlying66 (zero3 w) (zd := .lit (.int .i64 0)) (zp := []) rfl hkey
  rw [hr, has_ent (o := plc s S) (fun z => h2 s z)]
  rw [show (M.atKey (.string (⟨⟨s⟩⟩ : ByteArray).data.toList) (.lit (.int .i64 0))) = _ from h2 s _] at hv
  cases q : plc s S with
  | none => rw [q] at hv; rw [iE_inv hv]; rfl
  | some i => rw [q] at hv; rw [iE_inv hv]; rfl
theorem MpS.get {w : World} {m : Nat} {S : List Sl} (h : MpS w m S) (s : List UInt8) (hs : s.length ≤ 281474976710656) {i : Nat} (hi : plc s S = some i) : (Instr.lookup 66 (.map (some m)) (.string ⟨⟨s⟩⟩) false).run Tryz.prog w = .ok (.int .i64 (i : Int)) w := by
  obtain ⟨M, h1, h2⟩ := h
  have hkey := keyOf_string_mk (P := Tryz.prog) (s := ⟨⟨s⟩⟩) Tryz.underlying9 (by rw [Lib.size_eq]; unfold maxLen; show s.length ≤ _; omega)
  obtain ⟨v, ps, hr, hv⟩ := h1.lookup law9 Tryz.underlying66 (zero3 w) (zd := .lit (.int .i64 0)) (zp := []) rfl hkey
  rw [hr]
  rw [show (M.atKey (.string (⟨⟨s⟩⟩ : ByteArray).data.toList) (.lit (.int .i64 0))) = _ from h2 s _, hi] at hv
  rw [iE_inv hv]
theorem plc_some {s : List UInt8} {l : List Sl} {i : Nat} (h : plc s l = some i) : ∃ a, l[i]? = some a ∧ a.nm = s := by
  unfold plc at h
  rw [List.findIdx?_eq_some_iff_getElem] at h
  obtain ⟨h1, h2, _⟩ := h
  exact ⟨l[i], List.getElem?_eq_getElem h1, by simpa using h2⟩
theorem plc_none {s : List UInt8} {l : List Sl} (h : plc s l = none) : ∀ a ∈ l, a.nm ≠ s := fun a ha e => by
  unfold plc at h
  rw [List.findIdx?_eq_none_iff] at h
  have := h a ha
  simp [e] at this
theorem plc_add (s : List UInt8) (l : List Sl) (x : Sl) (hx : ∀ a ∈ l, a.nm ≠ x.nm) : plc s (l ++ [x]) = if x.nm = s then some l.length else plc s l := by
  unfold plc
  rw [List.findIdx?_append]
  by_cases e : x.nm = s
  · have : l.findIdx? (fun b => b.nm == s) = none := List.findIdx?_eq_none_iff.2 fun a ha => by
      have := hx a ha
      rw [e] at this
      simpa using this
    rw [this, if_pos e]
    simp [e]
  · rw [if_neg e]
    cases q : l.findIdx? (fun b => b.nm == s) with
    | none => simp [e]
    | some i => simp
theorem nod_add {l : List Sl} {x : Sl} : Nod (l ++ [x]) ↔ Nod l ∧ ∀ a ∈ l, a.nm ≠ x.nm := by
  unfold Nod
  rw [List.pairwise_append]
  simp
/-- the map while it is made -/
def MpK (w : World) (m k z : Nat) (S : List Sl) : Prop := ∃ M, w.ownsMap Tryz.prog 9 iE m k M ∧ Maps.size M = z ∧ ((Nod (S.take k) ∧ z = k ∧ ∀ s y, M.atKey (.string s) y = ent (plc s (S.take k)) y) ∨ (¬ Nod (S.take k) ∧ z < k))
theorem MpK.step {w : World} {m k z : Nat} {S : List Sl} {x : Sl} (h : MpK w m k z S) (hx : S[k]? = some x) (hs : x.nm.length ≤ 281474976710656) (hk : k ≤ 1000000) :
    ∃ w2 z2, (Instr.mapUpdate 66 (.map (some m)) (.string ⟨⟨x.nm⟩⟩) (.int .i64 (k : Int))).run Tryz.prog w = .ok () w2 ∧ MpK w2 m (k + 1) z2 S ∧ w.grownBy w2 (some m) := by
  obtain ⟨M, h1, h2, h3⟩ := h
  have hkey := keyOf_string_mk (P := Tryz.prog) (s := ⟨⟨x.nm⟩⟩) Tryz.underlying9 (by rw [Lib.size_eq]; unfold maxLen; show x.nm.length ≤ _; omega)
  obtain ⟨w2, hr, ho, hg⟩ := h1.update law9 Tryz.underlying66 (by unfold maxLen; omega) hkey (val := .int .i64 (k : Int)) (d := .lit (.int .i64 (k : Int))) (ps := []) rfl
  have hl : (S.take k).length = k := by
    have := (List.getElem?_eq_some_iff.1 hx).1
    rw [List.length_take]; omega
  have ht : S.take (k + 1) = S.take k ++ [x] := by rw [List.take_add_one, hx]; rfl
  refine ⟨w2, _, hr, ⟨_, ho, rfl, ?_⟩, hg⟩
  have hz := Maps.size_put (k := .string x.nm) (World.ownsMap.tidy h1 law9) (.lit (.int .i64 (k : Int)))
  have hz' : Maps.size (M.put (.string (⟨⟨x.nm⟩⟩ : ByteArray).data.toList) (.lit (.int .i64 (k : Int)))) = if Maps.has M (.string x.nm) then z else z + 1 := by
    rw [← h2]; exact hz
  rw [hz', ht, nod_add]
  rcases h3 with ⟨a1, a2, a3⟩ | ⟨a1, a2⟩
  · have hh := has_ent (o := plc x.nm (S.take k)) (fun z => a3 x.nm z)
    cases q : plc x.nm (S.take k) with
    | none =>
      have hn := plc_none q
      rw [q] at hh
      rw [hh]
      refine .inl ⟨⟨a1, hn⟩, by simp [a2], fun s y => ?_⟩
      rw [plc_add s _ x hn, hl]
      by_cases e : x.nm = s
      · subst e
        rw [if_pos rfl]
        exact atKey_put_same (World.ownsMap.isMap h1) (isKey _) _ _
      · rw [if_neg e, ← a3 s y]
        exact atKey_put_other (str_ne (Ne.symm e)) _ _
    | some i =>
      rw [q] at hh
      rw [hh]
      obtain ⟨a, ha, e⟩ := plc_some q
      refine .inr ⟨fun h => h.2 a (List.mem_of_getElem? ha) e, ?_⟩
      simp only [Option.isSome_some, if_true]
      omega
  · refine .inr ⟨fun h => a1 h.1, ?_⟩
    split <;> omega
theorem mk48 (w : World) (x : Int) : (Instr.makeMap 66 (some (.int .i64 x))).run Tryz.prog w = .ok (.map (some w.heap.size)) (w.alloc (.map #[] 0)) := by
  kernel_rfl
def ChkP (w : World) (T : List V) (S : List Sl) (e : Ending) (w' : World) : Prop :=
  ∃ mv, e = .returned (.tuple #[.map mv, .int .i64 (chk T S : Nat)]) ∧ Hid ((chk T S = 0 → ∃ m, mv = some m ∧ MpS w' m S) ∧ Below w.heap.size w w')
set_option maxHeartbeats 2000000 in
set_option maxRecDepth 100000 in
theorem check_any (T : List V) (S : List Sl) (q r : Option Addr) (n c m d : Nat) (w : World) (hT : TA w q T) (hS : SA w r S) (hsh : Short S) (hn : T.length = n) (hm : S.length = m) (n1 : n ≤ 1000000) (m1 : m ≤ 1000000) :
    Calls Tryz.prog 22 #[.slice q n c, .slice r m d] w (ChkP w T S) := by
  have H36 : Hid (Calls Tryz.prog 48 #[.slice q n c, .slice r m d] w fun e w' => e = .returned (.bool (allOk T && allS S)) ∧ Hid (Below w.heap.size w w')) := formed_all T S q r n c m d w hT hS hn hm n1 m1
  have HS : Hid (SA w r S ∧ Short S ∧ T.length = n ∧ S.length = m) := ⟨hS, hsh, hn, hm⟩
  have HM : ∀ (w : World) (x : Int), (Instr.makeMap 66 (some (.int .i64 x))).run Tryz.prog w = .ok (.map (some w.heap.size)) (w.alloc (.map #[] 0)) := mk48
  clear hT hS hsh hn hm
  cases hf : (allOk T && allS S) with
  | false =>
    have hc : Hid (chk T S = 4) := by show _ = _; unfold chk; rw [if_pos hf]
    rw [hf] at H36
    go_enter Tryz.func22, Tryz.ntmps22
    go_wp2_with (go_at_call 48; refine H36.out.mono ?_; rintro e w1 ⟨rfl, b1⟩)
    go_ret2
    exact ⟨none, by rw [hc.out]; rfl, fun h => (by rw [hc.out] at h; cases h), b1.out⟩
  | true =>
    have hc : Hid (chk T S = if ¬ Nod S then 5 else if T.length = 0 ∨ 6 < T.length then 2 else 0) := by show _ = _; unfold chk; rw [if_neg (by rw [hf]; decide)]
    rw [hf] at H36
    clear hf
    go_enter Tryz.func22, Tryz.ntmps22
    go_upto_region 4 with (go_at_call 48; refine H36.out.mono ?_; rintro e w1 ⟨rfl, b1⟩)
    clear H36
    have M0 : Hid (MpK (w1.alloc (.map #[] 0)) w1.heap.size 0 0 S ∧ Below w.heap.size w (w1.alloc (.map #[] 0)) ∧ w.heap.size ≤ w1.heap.size) := ⟨⟨_, World.ownsMap_made w1 Tryz.prog 9 iE, rfl, .inl ⟨List.Pairwise.nil, rfl, fun s y => rfl⟩⟩, b1.out.alloc b1.out.size _, b1.out.size⟩
    generalize w1.alloc (.map #[] 0) = W1 at *
    obtain ⟨mb, hmb⟩ : ∃ mb, mb = w1.heap.size := ⟨_, rfl⟩
    rw [← hmb] at M0 ⊢
    clear hmb b1 w1
    go_wp2_with fail
    go_loopw [18] (fun x wr => ∃ k : Nat, x = .int .i64 k ∧ k ≤ m ∧ Hid ((∃ z, MpK wr mb k z S) ∧ Below w.heap.size w wr ∧ w.heap.size ≤ mb)) (fun x _ => m - (intOf x).toNat)
    case atStart => exact ⟨0, rfl, Nat.zero_le _, ⟨_, M0.out.1⟩, M0.out.2⟩
    case round =>
      clear M0
      obtain ⟨k, rfl, hk, HB⟩ := hrel
      by_cases h0 : k = m
      · subst h0
        obtain ⟨z, M, o1, o2, o3⟩ := HB.out.1
        have hlen := fun ty => World.ownsMap.len o1 Tryz.underlying66 ty
        rw [o2] at hlen
        have ht : S.take k = S := List.take_of_length_le (by have := HS.out.2.2.2; omega)
        rw [ht] at o3
        have HO : Hid (w.heap.size ≤ mb ∧ wr.ownsMap Tryz.prog 9 iE mb k M) := ⟨HB.out.2.2, o1⟩
        by_cases hN : Nod S
        · have hz : z = k := by
            rcases o3 with h | h
            · exact h.2.1
            · exact absurd hN h.1
          subst hz
          have hM : Hid (MpS wr mb S) := by
            rcases o3 with h | h
            · exact ⟨M, by rw [HS.out.2.2.2]; exact o1, h.2.2⟩
            · exact absurd hN h.1
          have hc2 : Hid (chk T S = if T.length = 0 ∨ 6 < T.length then 2 else 0) := by show _ = _; rw [hc.out, if_neg (fun h => h hN)]
          clear o1 o2 o3 hc ht hN
          by_cases n0 : n = 0
          · have hc3 : Hid (chk T S = 2) := by show _ = _; rw [hc2.out, if_pos (.inl (HS.out.2.2.1.trans n0))]
            subst n0
            go_wp2_with fail
            go_ret2
            exact ⟨none, by rw [hc3.out]; rfl, fun h => (by rw [hc3.out] at h; cases h), HB.out.2.1⟩
          · have n0' : ((n : Int) == 0) = false := by rw [beq_eq_false_iff_ne]; omega
            by_cases n6 : 6 < n
            · have hc3 : Hid (chk T S = 2) := by show _ = _; rw [hc2.out, if_pos (.inr (by rw [HS.out.2.2.1]; exact n6))]
              have n6' : (6 : Int) < (n : Int) := by omega
              go_wp2_with fail
              go_ret2
              exact ⟨none, by rw [hc3.out]; rfl, fun h => (by rw [hc3.out] at h; cases h), HB.out.2.1⟩
            · have hc3 : Hid (chk T S = 0) := by
                show _ = _
                rw [hc2.out, if_neg (by rw [HS.out.2.2.1]; omega)]
              have n6' : ¬ (6 : Int) < (n : Int) := by omega
              go_wp2_with fail
              go_ret2
              exact ⟨some mb, by rw [hc3.out]; rfl, fun _ => ⟨mb, rfl, hM.out⟩, HB.out.2.1⟩
        · have hz : z < k := by
            rcases o3 with h | h
            · exact absurd h.1 hN
            · exact h.2
          have hz' : (z : Int) < (k : Int) := by omega
          have hc2 : Hid (chk T S = 5) := by show _ = _; rw [hc.out, if_pos hN]
          clear o1 o2 o3 hc ht hN
          go_wp2_with fail
          go_ret2
          exact ⟨none, by rw [hc2.out]; rfl, fun h => (by rw [hc2.out] at h; cases h), HB.out.2.1⟩
      · have hlt' : (k : Int) < (m : Int) := by omega
        have hd : decide ((k : Int) < (m : Int)) = true := decide_eq_true hlt'
        obtain ⟨s, hs⟩ : ∃ s, S[k]? = some s := ⟨S[k]'(by have := HS.out.2.2.2; omega), List.getElem?_eq_getElem _⟩
        obtain ⟨g, o, rfl, c0, c1, c2, c3, c4⟩ := SA.at (HS.out.1.below HB.out.2.1) hs
        obtain ⟨z, hz⟩ := HB.out.1
        obtain ⟨M, q1, q2⟩ := hz
        have hz' : MpK (wr.alloc (.cells #[.string ⟨⟨s.nm⟩⟩, .int .i64 s.v.a, .int .i64 s.v.b, .int .i64 s.v.c, .int .i64 s.v.d] 46)) mb k z S := ⟨M, keepMap q1 (Below.heap_alloc wr _ mb q1.lt), q2⟩
        obtain ⟨w2, z2, hr, hk2, hg⟩ := hz'.step hs (HS.out.2.1 s (List.mem_of_getElem? hs)) (by omega)
        have HK : Hid (MpK w2 mb (k + 1) z2 S ∧ Below w.heap.size w w2) := ⟨hk2, (HB.out.2.1.alloc HB.out.2.1.size _).trans (below_grown hg (by have := HB.out.2.1.size; simp; omega) (fun g e => by cases e; exact HB.out.2.2))⟩
        clear hs hz' q1 q2 hk2 hg
        obtain ⟨nm, ⟨a, b, c', d'⟩⟩ := s
        simp only [] at c0 c1 c2 c3 c4 hr
        go_wp2_with fail
        exact ⟨⟨k + 1, by simp, by omega, ⟨z2, HK.out.1⟩, HK.out.2, HB.out.2.2⟩, by simp only [intOf]; omega⟩
end Go.Proofs.YtjgibngnjlciaaaGreat
