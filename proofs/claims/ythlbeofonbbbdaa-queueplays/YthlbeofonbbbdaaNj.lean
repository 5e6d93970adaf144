/-
  add over the heap as plain data; Insert.
-/
import Derived.Test.YthlbeofonbbbdaaNi
namespace Go.Proofs.Ythlbeofonbbbdaa
open Go.RowKit Go.Maps

def upd {α : Type} (f : Nat → α) (b : Nat) (x : α) : Nat → α := fun k => if k = b then x else f k
theorem upd_same {α : Type} (f : Nat → α) (b : Nat) (x : α) : upd f b x b = x := if_pos rfl
theorem upd_other {α : Type} (f : Nat → α) {b k : Nat} (x : α) (h : k ≠ b) : upd f b x k = f k := if_neg h
theorem lit_ne {x y : Int} (h : x ≠ y) : Lit.int .i64 x ≠ Lit.int .i64 y := fun e => h (by injection e)
theorem isKey (x : Int) : WideAt.IsKeyLit (Lit.int .i64 x) := trivial
theorem tidy0 : Maps.Tidy m0 := tidy_empty
theorem isMap0 : Maps.IsMap m0 := isMap_empty
theorem size0 : Maps.size m0 = 0 := rfl
theorem m0_a (x : Int) (z : DataW Nat) : m0.atKey (.int .i64 x) z = z := rfl
def HS.add (S : HS) (m : Nat) (v : Value) (b g : Nat) (k : K) : HS := ⟨S.gv, some m, v, S.l ++ [b], upd S.hd b g, upd S.ky b k⟩
section
variable {w w' W : World} {hb eb m g n : Nat} {S S' : HS} {v' : Value} {k : K}
theorem ne_of_in {l : List Nat} {a b : Nat} (ha : a ∈ l) (hb : b ∉ l) : a ≠ b := fun e => hb (by rw [← e]; exact ha)
theorem add_uh (hu : S.uh) (hg : ∀ b ∈ S.l, S.hd b < g) (hn : eb ∉ S.l) : (S.add m v' eb g k).uh := by
  intro a ha b hb' q
  have q' : upd S.hd eb g a = upd S.hd eb g b := q
  rcases List.mem_append.1 ha with a1 | a1 <;> rcases List.mem_append.1 hb' with b1 | b1
  · rw [upd_other _ _ (ne_of_in a1 hn), upd_other _ _ (ne_of_in b1 hn)] at q'
    exact hu a a1 b b1 q'
  · have e : b = eb := by simpa using b1
    rw [upd_other _ _ (ne_of_in a1 hn), e, upd_same] at q'
    have := hg a a1
    omega
  · have e : a = eb := by simpa using a1
    rw [upd_other _ _ (ne_of_in b1 hn), e, upd_same] at q'
    have := hg b b1
    omega
  · have e1 : a = eb := by simpa using a1
    have e2 : b = eb := by simpa using b1
    rw [e1, e2]
theorem mp_put {M : DataW Nat} (ht : Maps.Tidy M) (hi : Maps.IsMap M) (hs : Maps.size M = S.l.length) (ha : ∀ (x : Int) (z : DataW Nat), M.atKey (.int .i64 x) z = (S.at x).elim z .held) (hu : S.uh) (hg : ∀ b ∈ S.l, S.hd b < g) (hn : eb ∉ S.l) (ho : W.ownsMap Try.prog 3 pE m n (M.put (.int .i64 g) (.held eb))) :
    MpA W (S.add m v' eb g k) m (M.put (.int .i64 g) (.held eb)) := by
  have hu' := add_uh (m := m) (v' := v') (k := k) hu hg hn
  have hno : S.at g = none := by
    cases q : S.at g with
    | none => rfl
    | some c => obtain ⟨h1, h2⟩ := at_some q; have := hg c h1; omega
  have hhas : Maps.has M (.int .i64 g) = false := has_false_of_atKey fun z => by rw [ha, hno]; rfl
  have hold : ∀ c ∈ S.l, (S.add m v' eb g k).hd c = S.hd c := fun c hc => upd_other _ _ (ne_of_in hc hn)
  refine ⟨tight ho, ?_, fun x z => ?_⟩
  · rw [size_put ht, hhas, hs]
    show _ = (S.l ++ [eb]).length
    rw [List.length_append]
    rfl
  · by_cases ex : x = (g : Int)
    · subst ex
      rw [atKey_put_same hi (isKey _)]
      have : (S.add m v' eb g k).at g = some eb := by
        have := at_of (S := S.add m v' eb g k) hu' (b := eb) (List.mem_append_right _ (List.mem_singleton.2 rfl))
        rw [show (S.add m v' eb g k).hd eb = g from upd_same _ _ _] at this
        exact this
      rw [this]
      rfl
    · rw [atKey_put_other (lit_ne ex), ha]
      congr 1
      refine (at_eq (S := S.add m v' eb g k) hu' (fun c hc => ?_) (fun q c hc => ?_)).symm
      · obtain ⟨h1, h2⟩ := at_some hc
        exact ⟨List.mem_append_left _ h1, by rw [hold c h1]; exact h2⟩
      · rcases List.mem_append.1 hc with hc | hc
        · rw [hold c hc]; exact at_none q c hc
        · have e : c = eb := by simpa using hc
          subst e
          rw [show (S.add m v' c g k).hd c = g from upd_same _ _ _]
          exact fun q' => ex q'.symm
theorem add_v (hn : eb ∉ S.l) {i : Nat} (hi : i < S.l.length) : (S.add m v' eb g k).v i = S.v i := by
  unfold HS.v HS.en
  have h1 : (S.add m v' eb g k).l.getD i 0 = S.l.getD i 0 := by
    show (S.l ++ [eb]).getD i 0 = _
    rw [List.getD_eq_getElem?_getD, List.getD_eq_getElem?_getD, List.getElem?_append_left hi]
  rw [h1]
  have hne : S.l.getD i 0 ≠ eb := fun e => hn (e ▸ List.mem_of_getElem? (some_of hi))
  rw [show (S.add m v' eb g k).ky _ = S.ky _ from upd_other _ _ hne, show (S.add m v' eb g k).hd _ = S.hd _ from upd_other _ _ hne]
theorem add_vv (h : Vv S.l.length S.v) (hn : eb ∉ S.l) : ∃ x, Vv (S.add m v' eb g k).l.length (uo (S.add m v' eb g k).v S.l.length x) := by
  obtain ⟨x, hx⟩ := vv_on h
  refine ⟨x, ?_⟩
  rw [show (S.add m v' eb g k).l.length = S.l.length + 1 by show (S.l ++ [eb]).length = _; rw [List.length_append]; rfl]
  refine vv_same hx fun i hi => ?_
  unfold uo
  split
  · rfl
  · exact add_v hn (by omega)
/-- a new entry's cells -/
def e0 (g : Nat) (k : K) : Nat → Value := fun j => if j = 0 then .int .i64 g else if j = 1 then .int .i64 k.a else if j = 2 then .int .i64 k.b else if j = 3 then .int .i64 k.c else .int .i64 0
theorem add_mem {M' : DataW Nat} (h : Mem w hb S) (hn : eb ∉ S.l) (hk : k.ok) (hg : g < 1048576) (hl : S.l.length < 1048576) (hmb : ∀ m, S.mb = some m → ∃ n M, w.ownsMap Try.prog 3 pE m n M) (A : AddD w W hb eb S.hpC (e0 g k) S.mb S.lv v' S.l m n M') : Mem W hb (S.add m v' eb g k) := by
  refine ⟨A.hp.same fun i hi => ?_, fun i b hb' => ?_, A.fm, ?_, fun b hb' => ?_, ?_⟩
  · rcases (by omega : i = 0 ∨ i = 1 ∨ i = 2) with rfl | rfl | rfl <;> rfl
  · have hb2 : (S.l ++ [eb])[i]? = some b := hb'
    by_cases hi : i < S.l.length
    · rw [List.getElem?_append_left hi] at hb2
      have hB := h.nd i b hb2
      have hbe : b ≠ eb := fun e => hn (e ▸ List.mem_of_getElem? hb2)
      have := hB.at (A.kp.block b hB.lt (by
        rintro (q | q | q | q)
        · exact blk_ne h.hp hB (by decide) q.symm
        · exact hbe q
        · exact h.fm.ne hB (by decide) q
        · obtain ⟨n', M, hM⟩ := hmb b q
          exact map_ne hM hB rfl))
      refine this.same fun j hj => ?_
      unfold HS.ndC
      rw [show (S.add m v' eb g k).ky b = S.ky b from upd_other _ _ hbe, show (S.add m v' eb g k).hd b = S.hd b from upd_other _ _ hbe]
    · rw [List.getElem?_append_right (by omega)] at hb2
      have hi2 : i - S.l.length = 0 := by
        have := (List.getElem?_eq_some_iff.1 hb2).1
        simp at this
        omega
      rw [hi2] at hb2
      have e : b = eb := by simpa using hb2.symm
      subst e
      have hii : i = S.l.length := by omega
      subst hii
      refine A.en.same fun j hj => ?_
      unfold HS.ndC
      rw [show (S.add m v' b g k).ky b = k from upd_same _ _ _, show (S.add m v' b g k).hd b = g from upd_same _ _ _]
      rcases (by omega : j = 0 ∨ j = 1 ∨ j = 2 ∨ j = 3 ∨ j = 4) with rfl | rfl | rfl | rfl | rfl <;> rfl
  · show (S.l ++ [eb]).Nodup
    rw [List.nodup_append]
    refine ⟨h.no, by simp, fun a ha b hb' e => hn ?_⟩
    have q : b = eb := by simpa using hb'
    rw [← q, ← e]
    exact ha
  · have hb2 : b ∈ S.l ++ [eb] := hb'
    rcases List.mem_append.1 hb2 with q | q
    · have hbe : b ≠ eb := fun e => hn (e ▸ q)
      rw [show (S.add m v' eb g k).ky b = S.ky b from upd_other _ _ hbe, show (S.add m v' eb g k).hd b = S.hd b from upd_other _ _ hbe]
      exact h.ok b q
    · have e : b = eb := by simpa using q
      subst e
      rw [show (S.add m v' b g k).ky b = k from upd_same _ _ _, show (S.add m v' b g k).hd b = g from upd_same _ _ _]
      exact ⟨hk, hg⟩
  · show (S.l ++ [eb]).length ≤ _
    rw [List.length_append]
    simp
    omega
/-- behind add -/
structure More (w w' : World) (hb eb g : Nat) (k : K) (S S' : HS) : Prop where
  h : Hp w' hb S'
  l : S'.l.Perm (S.l ++ [eb])
  hd : S'.hd = upd S.hd eb g
  ky : S'.ky = upd S.ky eb k
  gv : S'.gv = S.gv
  kp : Kp (fun k => Fp hb S k ∨ k = eb) w w'
  fp : ∀ k, Fp hb S' k → Fp hb S k ∨ k = eb ∨ w.heap.size ≤ k
theorem add_S (h : Mem w hb S) (hp : Mp w S) (hv : Vv S.l.length S.v) (hu : S.uh) (hg : ∀ b ∈ S.l, S.hd b < g) (hgv : S.gv = g + 1) (hg2 : g < 1048576) (hln : S.l.length ≤ g) (he : Blk w eb 104 5 (e0 g k)) (hn : eb ∉ S.l) (hk : k.ok) :
    Calls Try.prog 53 #[ptr hb, ptr eb] w fun e w' => e = .returned (.tuple #[]) ∧ ∃ S', More w w' hb eb g k S S' := by
  have key : ∀ W v' m n M', AddD w W hb eb S.hpC (e0 g k) S.mb S.lv v' S.l m n M' → (∀ m, S.mb = some m → ∃ n M, w.ownsMap Try.prog 3 pE m n M) → MpA W (S.add m v' eb g k) m M' → Calls Try.prog 63 #[.pointer (some ⟨hb, 0, none⟩), .int .i64 S.l.length] W fun e w' => e = .returned (.tuple #[]) ∧ Hid (∃ S', More w w' hb eb g k S S') := fun W v' m n M' A hmb hM => by
    have hm := add_mem h hn hk hg2 (by omega) hmb A
    have hlen : (S.add m v' eb g k).l.length = S.l.length + 1 := by show (S.l ++ [eb]).length = _; rw [List.length_append]; rfl
    have huu := add_uh (m := m) (v' := v') (k := k) hu hg hn
    refine (mend_S hm (by rw [hlen]; omega) (add_vv hv hn)).mono ?_
    rintro e w' ⟨rfl, N⟩
    refine ⟨rfl, ?_⟩
    obtain ⟨l', hl', hH, hC⟩ := N.hp hm ⟨M', hM⟩ huu (fun b hb' => by
      rw [show (S.add m v' eb g k).gv = g + 1 from hgv]
      have hb2 : b ∈ S.l ++ [eb] := hb'
      show upd S.hd eb g b < _
      rcases List.mem_append.1 hb2 with q | q
      · rw [upd_other _ _ (ne_of_in q hn)]; have := hg b q; omega
      · have e : b = eb := by simpa using q
        rw [e, upd_same]; omega) (by rw [show (S.add m v' eb g k).gv = g + 1 from hgv]; omega) (by rw [hlen, show (S.add m v' eb g k).gv = g + 1 from hgv]; omega)
    have sub : ∀ k', Fp hb (S.add m v' eb g k) k' → (Fp hb S k' ∨ k' = eb) ∨ w.heap.size ≤ k' := fun k' q => by
      rcases q with q | q | q | q
      · exact .inl (.inl (.inl q))
      · have q2 : k' ∈ S.l ++ [eb] := q
        rcases List.mem_append.1 q2 with q3 | q3
        · exact .inl (.inl (.inr (.inl q3)))
        · exact .inl (.inr (by simpa using q3))
      · rcases A.lo k' q with q | q
        · exact .inl (.inl (.inr (.inr (.inl q))))
        · exact .inr q
      · have q2 : m = k' := Option.some.inj q
        rcases A.lm with q3 | q3
        · exact .inl (.inl (.inr (.inr (.inr (by rw [q3, q2])))))
        · exact .inr (by omega)
    refine ⟨(S.add m v' eb g k).wl l', hH, hl', rfl, rfl, rfl, ?_, fun k' q => ?_⟩
    · refine (A.kp.mono fun k' _ q => ?_).trans hC.kp fun k' hk' q => (sub k' q).resolve_right (by omega)
      rcases q with q | q | q | q
      · exact .inl (.inl q)
      · exact .inr q
      · exact .inl (.inr (.inr (.inl q)))
      · exact .inl (.inr (.inr (.inr q)))
    · rcases hC.fp k' q with q | q
      · rcases sub k' q with (q | q) | q
        · exact .inl q
        · exact .inr (.inl q)
        · exact .inr (.inr q)
      · exact .inr (.inr (Nat.le_trans A.kp.size q))
  have hp0 := hp
  unfold Mp at hp
  cases hmb : S.mb with
  | none =>
    rw [hmb] at hp
    have hX : S.l = [] := hp
    refine add_none w hb eb g S.hpC (e0 g k) S.l S.lv (fun w' => ∃ S', More w w' hb eb g k S S') (by omega) h.hp (by show Value.map S.mb = _; rw [hmb]) rfl he rfl h.fm (by omega) (fun W v' m A => ?_)
    rw [← hmb] at A
    refine key W v' m _ _ A (fun m q => by rw [hmb] at q; cases q) (mp_put tidy0 isMap0 (by rw [size0, hX]; rfl) (fun x z => ?_) hu hg hn A.mp)
    rw [m0_a]
    have : S.at x = none := by unfold HS.at; rw [hX]; rfl
    rw [this]
    rfl
  | some m =>
    rw [hmb] at hp
    obtain ⟨M, hM⟩ := hp
    refine add_some w hb eb m _ g M S.hpC (e0 g k) S.l S.lv (fun w' => ∃ S', More w w' hb eb g k S S') (by omega) (by rw [hM.n]; unfold maxLen; omega) h.hp (by show Value.map S.mb = _; rw [hmb]) rfl he rfl h.fm (by omega) hM.o (fun W v' A => ?_)
    rw [← hmb] at A
    exact key W v' m _ _ A (fun m' q => by rw [hmb] at q; cases q; exact ⟨_, _, hM.o⟩) (mp_put (hM.o.tidy law3) hM.o.isMap hM.n hM.a hu hg hn A.mp)
end
end Go.Proofs.Ythlbeofonbbbdaa
