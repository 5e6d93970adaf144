/-
  Push over a clock.
-/
import Derived.Test.YtihjmigjphljnaaTWl
namespace Go.Proofs.Ytihjmigjphljnaa.Tk
open Go.RowKit Go.Maps Go.WideMaps

theorem nod_snoc {l : List Al} {a : Al} (h : Nod l) (hn : ∀ b ∈ l, b.k ≠ a.k) : Nod (l ++ [a]) :=
  nod_perm (List.perm_append_singleton a l).symm (List.pairwise_cons.2 ⟨fun b hb e => hn b hb e.symm, h⟩)
theorem push_map {l : List Al} {a : Al} (hn : Nod (l ++ [a])) {M : DataW Nat} (hD : IsMap M) (ha : ∀ (s : List UInt8) (z : DataW Nat), M.atKey (.string s) z = ent (plc s l) z) (s : List UInt8) (z : DataW Nat) :
    (M.put (.string a.k) (.lit (.int .i64 (l.length : Nat)))).atKey (.string s) z = ent (plc s (l ++ [a])) z := by
  by_cases e : s = a.k
  · subst e
    rw [atKey_put_same hD (isKey _), plc_of hn (show (l ++ [a])[l.length]? = some a by simp)]
    rfl
  · rw [atKey_put_other (str_ne e), ha]
    congr 1
    refine (plc_eq hn (fun i hi => ?_) (fun hi b hm => ?_)).symm
    · obtain ⟨b, h1, h2⟩ := plc_some hi
      have hil := (List.getElem?_eq_some_iff.1 h1).1
      exact ⟨b, by rw [List.getElem?_append_left hil]; exact h1, h2⟩
    · rcases List.mem_append.1 hm with q | q
      · exact plc_none hi b q
      · rw [List.mem_singleton.1 q]; exact fun q => e q.symm
/-- a clock with one alarm more at its row's end -/
structure More (w w' : World) (cb : Nat) (S : HS) (a : Al) (S' : HS) : Prop where
  m : Mem w' cb S'
  g : Chg cb S S' w w'
  l : S'.l = S.l ++ [a]
theorem push_S {w : World} {cb : Nat} {S : HS} (h : Mem w cb S) (a : Al) (hs : a.nm.size ≤ maxLen) (hl : S.l.length < 1024) (hn : ∀ b ∈ S.l, b.k ≠ a.k) :
    Calls Try.prog 95 #[.agg #[.pointer (some ⟨cb, 1, none⟩)], .iface 79 (.agg #[.string a.nm, .int .i64 a.at'])] w fun e w' => e = .returned (.tuple #[]) ∧ ∃ S', More w w' cb S a S' := by
  obtain ⟨q, c, e⟩ := h.rw.shape
  obtain ⟨lv, mb, l, nv⟩ := S
  simp only at e hl hn
  subst e
  refine push_raw w cb mb l l.length q c a rfl h _ hl fun W W4 m M g cap hG hR => ?_
  have hmx : (1024 : Nat) < maxLen := by decide
  have hln : (l ++ [e0]).length = l.length + 1 := by rw [List.length_append]; rfl
  obtain ⟨g', c', cs, e1, hg, hcs, hc1, hc2, hfl⟩ := hR.r.parts (by rw [hln]; omega)
  have e2 : g = g' ∧ cap = c' := by
    simp only [Value.slice.injEq, Option.some.injEq, Addr.mk.injEq] at e1
    exact ⟨e1.1.1, e1.2.2⟩
  obtain ⟨rfl, rfl⟩ := e2
  have hD := World.ownsMap.isMap hR.m
  have hno : Maps.has M (.string a.k) = false := by
    rw [hG.mp.has]
    cases hp : plc a.k l with
    | none => rfl
    | some i => obtain ⟨b, h1, h2⟩ := plc_some hp; exact absurd h2 (hn b (List.mem_of_getElem? h1))
  have ncg : cb ≠ g := fun q => by have h1 := hR.b; rw [q, hg] at h1; cases h1
  have nmc : m ≠ cb := hR.m.ne hR.b
  have nmg : m ≠ g := hR.m.ne hg
  refine (put_raw W4.drew cb g (l.length + 1) cap m l.length a cs hR.b hg hcs (by omega) (by omega) M hR.m (by rw [hG.mp.n]; omega) hs).mono ?_
  rintro e w' ⟨rfl, q1, q2, q3⟩
  have hlc : cb < W4.heap.size := (Array.getElem?_eq_some_iff.1 hR.b).1
  have hcb' : w'.heap[cb]? = some (.cells #[nv, .slice (some ⟨g, 0, none⟩) (l.length + 1) cap, .map (some m)] 63 (0, 0)) := (q3.block cb hlc (fun q => q.elim ncg fun q => nmc q.symm)).trans hR.b
  have hset : (l ++ [e0]).set l.length a = l ++ [a] := by
    rw [List.set_append_right _ _ (Nat.le_refl _)]
    simp
  have hla : (l ++ [a]).length = l.length + 1 := by rw [List.length_append]; rfl
  have hnn := nod_snoc (a := a) h.no hn
  refine ⟨rfl, ⟨.slice (some ⟨g, 0, none⟩) (l.length + 1) cap, some m, l ++ [a], nv⟩, ⟨hcb', ?_, ?_, hnn, ?_, by rw [hla]; omega⟩, ⟨?_, ?_, rfl⟩, rfl⟩
  · show Row w' (.slice (some ⟨g, 0, none⟩) (l.length + 1) cap) (l ++ [a])
    rw [← hla]
    refine Row.of_parts q1 (by simpa using hcs) (by rw [hla]; omega) hc2 ?_
    have := take_set2 hfl l.length a
    rw [hset] at this
    exact this
  · refine ⟨_, q2, ?_, push_map hnn hD hG.mp.a⟩
    rw [size_put (World.ownsMap.tidy hR.m law9), hno, if_neg (by decide), hG.mp.n, hla]
  · intro b hb
    rcases List.mem_append.1 hb with q | q
    · exact h.ok b q
    · rw [List.mem_singleton.1 q]; exact hs
  · refine ⟨q3.os.trans (hR.kp.os.trans hG.kp.os), q3.tape.trans (hR.kp.tape.trans hG.kp.tape), q3.output.trans (hR.kp.output.trans hG.kp.output), Nat.le_trans hG.kp.size (Nat.le_trans hR.kp.size q3.size), fun j hj hj' => ?_⟩
    have s1 := hG.kp.size
    have s2 := hR.kp.size
    have j1 : j ≠ cb := fun q => hj' (.inl q)
    have j2 : (Value.slice q l.length c).ownBlock ≠ some j := fun q => hj' (.inr (.inl q))
    refine (q3.block j (show j < W4.heap.size by omega) ?_).trans ((hR.kp.block j (by omega) (fun q => q.elim j1 j2)).trans (hG.kp.block j hj j1))
    rintro (q | q)
    · rcases hR.lo g rfl with q' | q'
      · exact j2 (by rw [q]; exact q')
      · omega
    · rcases hG.lo with q' | q'
      · exact hj' (.inr (.inr (by rw [q]; exact q')))
      · omega
  · rintro j (q | q | q)
    · exact .inl (.inl q)
    · rcases hR.lo j q with q' | q'
      · exact .inl (.inr (.inl q'))
      · exact .inr (Nat.le_trans hG.kp.size q')
    · have q : m = j := Option.some.inj q
      subst q
      rcases hG.lo with q' | q'
      · exact .inl (.inr (.inr q'))
      · exact .inr q'
/-- a clock whole, with one alarm more -/
structure Got (w w' : World) (cb : Nat) (S : HS) (a : Al) (S' : HS) : Prop where
  c : Cl w' cb S'
  g : Chg cb S S' w w'
  p : S'.l.Perm (a :: S.l)
theorem gt_app {l : List Al} {a : Al} {k : Nat} (h : k < l.length) : gt (l ++ [a]) k = gt l k := by
  unfold gt
  rw [List.getD_eq_getElem?_getD, List.getD_eq_getElem?_getD, List.getElem?_append_left h]
set_option maxHeartbeats 1000000 in
theorem hpush_S {w : World} {cb : Nat} {S : HS} (h : Hid (Cl w cb S)) (a : Al) (hs : a.nm.size ≤ maxLen) (hl : Hid (S.l.length < 1024)) (hn : Hid (∀ b ∈ S.l, b.k ≠ a.k)) :
    Calls Try.prog 55 #[.iface 100 (.agg #[.pointer (some ⟨cb, 1, none⟩)]), .iface 79 (.agg #[.string a.nm, .int .i64 a.at'])] w fun e w' => e = .returned (.tuple #[]) ∧ ∃ S', Got w w' cb S a S' := by
  have HP : Hid (Calls Try.prog 95 #[.agg #[.pointer (some ⟨cb, 1, none⟩)], .iface 79 (.agg #[.string a.nm, .int .i64 a.at'])] w fun e w' => e = .returned (.tuple #[]) ∧ Hid (∃ S', More w w' cb S a S')) := push_S h.out.m a hs hl.out hn.out
  obtain ⟨n, en⟩ : ∃ n, n = S.l.length := ⟨_, rfl⟩
  have HL : Hid (∀ W, (∃ S', More w W cb S a S') → Calls Try.prog 46 #[.pointer (some ⟨cb, 1, none⟩)] W fun e w' => e = .returned (.int .i64 ((n : Int) + 1)) ∧ w' = W) := fun W ⟨S', q⟩ => by
    have := len_S q.m
    rw [q.l, List.length_append, show ([a] : List Al).length = 1 from rfl, ← en] at this
    exact this
  have HU : Hid (∀ W, (∃ S', More w W cb S a S') → Calls Try.prog 69 #[.iface 100 (.agg #[.pointer (some ⟨cb, 1, none⟩)]), .int .i64 n] W fun e w' => e = .returned (.tuple #[]) ∧ ∃ S', Got w w' cb S a S') := fun W ⟨S', q⟩ => by
    have hlen : S'.l.length = S.l.length + 1 := by rw [q.l, List.length_append]; rfl
    have hx := hx_end (v := gt S.l) (v' := gt S'.l) (n := S.l.length) h.out.h (fun k hk => by rw [q.l]; exact gt_app hk)
    refine (up_S (w0 := W) (n := S'.l.length) (j := n) (S := S') (l := S'.l) ⟨⟨q.m, Chg.refl _ _ _, .refl _, fun _ _ => rfl⟩, by rw [hlen, en]; exact hx.1, by rw [hlen, en]; exact hx.2, by omega, Nat.le_refl _⟩).mono ?_
    rintro e w' ⟨rfl, l', hv, hh⟩
    refine ⟨rfl, S'.wl l', ⟨hv.m, ?_⟩, q.g.trans hv.c, ?_⟩
    · show Hp (gt l') l'.length
      rw [hv.len]
      exact hh
    · refine hv.p.trans ?_
      rw [q.l]
      exact List.perm_append_singleton a S.l
  have hnl : (n : Int) ≤ 1024 := by have := hl.out; omega
  have hn0 : 0 ≤ (n : Int) := by omega
  clear h hl hn en
  go_enter Try.func55, Try.ntmps55
  go_upto_region 1 with (go_at_call 95; refine HP.out.mono ?_; rintro e w1 ⟨rfl, hm⟩)
  have HL1 : Hid (Calls Try.prog 46 #[.pointer (some ⟨cb, 1, none⟩)] w1 fun e w' => e = .returned (.int .i64 ((n : Int) + 1)) ∧ w' = w1) := HL.out _ hm.out
  have HU1 : Hid (Calls Try.prog 69 #[.iface 100 (.agg #[.pointer (some ⟨cb, 1, none⟩)]), .int .i64 n] w1 fun e w' => e = .returned (.tuple #[]) ∧ ∃ S', Got w w' cb S a S') := HU.out _ hm.out
  clear HL HU hm HP
  go_wp2_with (first | (go_at_call 46; refine HL1.out.mono ?_; rintro e w2 ⟨rfl, rfl⟩) | (go_at_call 69; refine HU1.out.mono ?_; rintro e w2 ⟨rfl, hq⟩))
  go_end0
  exact ⟨rfl, hq⟩
end Go.Proofs.Ytihjmigjphljnaa.Tk
