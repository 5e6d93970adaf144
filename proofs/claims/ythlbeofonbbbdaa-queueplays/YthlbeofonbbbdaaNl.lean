/-
  drop: an entry taken out of the line.
-/
import Derived.Test.YthlbeofonbbbdaaNk
namespace Go.Proofs.Ythlbeofonbbbdaa
open Go.RowKit Go.Maps

/-- ahead of drop's mending: the last of the line in the entry's stead -/
structure DrD (w W : World) (hb g last c m n : Nat) (f : Nat → Value) (l1 : List Nat) (nd : Nat → Nat → Nat → Value) (M' : DataW Nat) (F : Nat → Prop) : Prop where
  hp : Blk W hb 102 3 (fset f 2 (.slice (some ⟨g, 0, none⟩) last c))
  fm : Fam W (.slice (some ⟨g, 0, none⟩) last c) l1.dropLast
  mp : W.ownsMap Try.prog 3 pE m n M'
  nd : ∀ j b, l1[j]? = some b → Blk W b 104 5 (nd b j)
  kp : Kp F w W
set_option maxHeartbeats 2000000 in
theorem drop_raw (w : World) (hb eb g last c i m x : Nat) (M : DataW Nat) (f : Nat → Value) (nd : Nat → Nat → Nat → Value) (l1 : List Nat) (F : Nat → Prop) (R : World → Prop) (h : Hid (Blk w hb 102 3 f)) (hf1 : f 1 = .map (some m)) (hf2 : f 2 = .slice (some ⟨g, 0, none⟩) (last + 1) c) (e4 : w.cell? ⟨eb, 4, none⟩ = some (.int .i64 i)) (hl1 : Hid (l1.length = last + 1)) (hll : Hid (l1[last]? = some eb)) (hlast : last < 1048576) (hil : i ≤ last) (hx : x < 9223372036854775808)
    (H41 : Hid (Calls Try.prog 84 #[.pointer (some ⟨hb, 0, none⟩), .int .i64 i, .int .i64 last] w fun e w1 => e = .returned (.tuple #[]) ∧ Hid (Blk w1 hb 102 3 f ∧ Fam w1 (.slice (some ⟨g, 0, none⟩) (last + 1) c) l1 ∧ w1.ownsMap Try.prog 3 pE m (Maps.size M) M ∧ (∀ j b, l1[j]? = some b → Blk w1 b 104 5 (nd b j)) ∧ Kp F w w1)))
    (hge : nd eb last 0 = .int .i64 x) (F1 : Hid (F hb)) (F2 : Hid (F g)) (F3 : Hid (F m))
    (H33 : Hid (i < last → ∀ W, DrD w W hb g last c m (Maps.size M) f l1 nd (M.del (.int .i64 x)) F → Calls Try.prog 63 #[.pointer (some ⟨hb, 0, none⟩), .int .i64 i] W fun e w' => e = .returned (.tuple #[]) ∧ Hid (R w')))
    (HR : Hid (i = last → ∀ W, DrD w W hb g last c m (Maps.size M) f l1 nd (M.del (.int .i64 x)) F → R W)) :
    Calls Try.prog 62 #[.pointer (some ⟨hb, 0, none⟩), .pointer (some ⟨eb, 0, none⟩)] w fun e w' => e = .returned (.tuple #[]) ∧ R w' := by
  have c2 := h.out.cell 2 (by decide)
  rw [hf2] at c2
  have n1 : ((last : Int) + 1) - 1 = (last : Int) := by omega
  have n2 : (last : Int) < (last : Int) + 1 := by omega
  go_enter Try.func62, Try.ntmps62
  go_upto_region 3 with (go_at_call 84; refine H41.out.mono ?_; first | rintro e w1 rfl h1 | rintro e w1 ⟨rfl, h1⟩)
  clear c2 e4 H41 h
  have A1 : Hid (Blk w1 hb 102 3 f) := h1.out.1
  have A2 : Hid (Fam w1 (.slice (some ⟨g, 0, none⟩) (last + 1) c) l1) := h1.out.2.1
  have A3 : Hid (w1.ownsMap Try.prog 3 pE m (Maps.size M) M) := h1.out.2.2.1
  have A4n : Hid (∀ j b, l1[j]? = some b → Blk w1 b 104 5 (nd b j)) := h1.out.2.2.2.1
  have A4 : Hid (Blk w1 eb 104 5 (nd eb last)) := A4n.out last eb hll.out
  have A5 : Hid (Kp F w w1) := h1.out.2.2.2.2
  clear h1
  have c2 := A1.out.cell 2 (by decide)
  rw [hf2] at c2
  obtain ⟨c3, f3⟩ := A2.out.cell hll.out
  have hcap : Hid (last + 1 ≤ c) := by have := A2.out.cap.1; rw [hl1.out] at this; exact this
  have hgh : Hid (g ≠ hb) := fun e => A2.out.ne A1.out (by decide) (by rw [← e]; rfl)
  have hge' : Hid (g ≠ eb) := fun e => A2.out.ne A4.out (by decide) (by rw [← e]; rfl)
  have hgm : Hid (m ≠ g) := fun e => map_fam A3.out A2.out (by rw [e]; rfl)
  have hhe : Hid (hb ≠ eb) := blk_ne A1.out A4.out (by decide)
  have hhm : Hid (hb ≠ m) := map_ne A3.out A1.out
  unfold ptr at c3
  go_upto_region 4 with fail
  have B1 : Hid (Blk (w1.setCell ⟨g, last, none⟩ (.pointer none)) hb 102 3 f) := A1.out.other _ _ hgh.out
  have B2 : Hid (Fam (w1.setCell ⟨g, last, none⟩ (.pointer none)) (.slice (some ⟨g, 0, none⟩) last c) l1.dropLast) := A2.out.drop last hl1.out
  have B3 : Hid ((w1.setCell ⟨g, last, none⟩ (.pointer none)).ownsMap Try.prog 3 pE m (Maps.size M) M) := keepMap A3.out (Below.heap_setCell _ _ _ _ hgm.out)
  have B4 : Hid (∀ j b, l1[j]? = some b → Blk (w1.setCell ⟨g, last, none⟩ (.pointer none)) b 104 5 (nd b j)) := fun j b q => (A4n.out j b q).other _ _ fun e => A2.out.ne (A4n.out j b q) (by decide) (by rw [← show g = b from e]; rfl)
  have B5 : Hid (Kp F w (w1.setCell ⟨g, last, none⟩ (.pointer none))) := A5.out.trans (Kp.of_set (S := F) _ ⟨g, last, none⟩ _ F2.out) fun _ _ h => h
  generalize w1.setCell ⟨g, last, none⟩ (.pointer none) = w2 at *
  clear c2 c3 f3 A1 A2 A3 A4 A4n A5
  have c2 := B1.out.cell 2 (by decide)
  have f2 := B1.out.fz 2
  rw [hf2] at c2
  have hsl := slice_h g (last + 1) c last (by have := hcap.out; omega) (by have := hcap.out; omega)
  go_upto_region 5 with fail
  have D1 : Hid (Blk (w2.setCell ⟨hb, 2, none⟩ (.slice (some ⟨g, 0, none⟩) last c)) hb 102 3 (fset f 2 (.slice (some ⟨g, 0, none⟩) last c))) := B1.out.set 2 _
  have D2 : Hid (Fam (w2.setCell ⟨hb, 2, none⟩ (.slice (some ⟨g, 0, none⟩) last c)) (.slice (some ⟨g, 0, none⟩) last c) l1.dropLast) := fam_other B2.out _ _ (B2.out.ne B1.out (by decide))
  have D3 : Hid ((w2.setCell ⟨hb, 2, none⟩ (.slice (some ⟨g, 0, none⟩) last c)).ownsMap Try.prog 3 pE m (Maps.size M) M) := keepMap B3.out (Below.heap_setCell _ _ _ _ (fun e => hhm.out e.symm))
  have D4n : Hid (∀ j b, l1[j]? = some b → Blk (w2.setCell ⟨hb, 2, none⟩ (.slice (some ⟨g, 0, none⟩) last c)) b 104 5 (nd b j)) := fun j b q => (B4.out j b q).other _ _ (blk_ne B1.out (B4.out j b q) (by decide))
  have D4 : Hid (Blk (w2.setCell ⟨hb, 2, none⟩ (.slice (some ⟨g, 0, none⟩) last c)) eb 104 5 (nd eb last)) := D4n.out last eb hll.out
  have D5 : Hid (Kp F w (w2.setCell ⟨hb, 2, none⟩ (.slice (some ⟨g, 0, none⟩) last c))) := B5.out.trans (Kp.of_set (S := F) _ ⟨hb, 2, none⟩ _ F1.out) fun _ _ h => h
  generalize w2.setCell ⟨hb, 2, none⟩ (.slice (some ⟨g, 0, none⟩) last c) = w3 at *
  clear c2 f2 hsl B1 B2 B3 B4 B5
  have c1 := D1.out.cell 1 (by decide)
  rw [show fset f 2 (.slice (some ⟨g, 0, none⟩) last c) 1 = f 1 from rfl, hf1] at c1
  have e0 := D4.out.cell 0 (by decide)
  rw [hge] at e0
  obtain ⟨w4, hr4, H4⟩ : ∃ w4, (Builtin.delete_ #[99, 3] 0 #[.map (some m), .int .i64 x]).run Try.prog w3.drew = .ok (.tuple #[]) w4 ∧ Hid (w4.ownsMap Try.prog 3 pE m (Maps.size M) (M.del (.int .i64 x)) ∧ Kp (· = m) w3 w4) := by
    obtain ⟨w4, hr4, ho4, ht4⟩ := (keepMap (w1 := w3.drew) D3.out rfl).drop law3 Try.underlying99 (key3 x hx) 0
    have hk : Kp (· = m) w3.drew w4 := Kp.of_grown ht4.grown fun k q => (Option.some.inj q).symm
    exact ⟨w4, hr4, ho4, ⟨hk.os, hk.tape, hk.output, hk.size, hk.block⟩⟩
  have HD : Hid (DrD w w4 hb g last c m (Maps.size M) f l1 nd (M.del (.int .i64 x)) F) := ⟨blk_keep D1.out H4.out.2 (map_ne D3.out D1.out), D2.out.keep fun k hk => H4.out.2.block k (D2.out.lt hk) fun e => map_fam D3.out D2.out (by rw [← e]; exact hk), H4.out.1, fun j b q => blk_keep (D4n.out j b q) H4.out.2 (map_ne D3.out (D4n.out j b q)), D5.out.trans H4.out.2 fun k _ e => by rw [e]; exact F3.out⟩
  clear D1 D2 D3 D4 D4n D5 H4
  by_cases hi : i < last
  · have hi' : (i : Int) < (last : Int) := by omega
    have H9 := H33.out hi _ HD.out
    go_region
    all_goals go_wp2_with (go_at_call 63; refine H9.mono ?_; first | rintro e w5 rfl h5 | rintro e w5 ⟨rfl, h5⟩)
    all_goals go_end0
    all_goals exact ⟨rfl, h5.out⟩
  · have hi' : ¬ (i : Int) < (last : Int) := by omega
    have H9 : Hid (R w4) := HR.out (by omega) _ HD.out
    go_region
    all_goals go_wp2_with fail
    all_goals go_end0
    all_goals exact ⟨rfl, H9.out⟩
/-! ### over the heap as plain data -/
def HS.cut (S : HS) (i last : Nat) (v : Value) : HS := { S with lv := v, l := (lsw S.l i last).dropLast }
section
variable {w w' W : World} {hb eb i last : Nat} {S S' : HS} {v : Value}
theorem cut_l (hi : S.l[i]? = some eb) (hl : S.l.length = last + 1) : lsw S.l i last = (lsw S.l i last).dropLast ++ [eb] := by
  have hil : i < S.l.length := (List.getElem?_eq_some_iff.1 hi).1
  have hne : lsw S.l i last ≠ [] := by intro q; have := lsw_length (l := S.l) (i := i) (j := last); rw [q] at this; simp at this; omega
  have h1 := List.dropLast_concat_getLast hne
  have h2 : (lsw S.l i last).getLast hne = eb := by
    rw [List.getLast_eq_getElem]
    have e1 := lsw_getD hil (show last < S.l.length by omega) last
    have e2 : (lsw S.l i last).getD last 0 = (lsw S.l i last)[last]'(by rw [lsw_length]; omega) := getD_get _
    have e3 : (lsw S.l i last).getD last 0 = eb := by
      rw [e1]
      split
      · rename_i q; rw [← q] at hi; exact getD_of hi
      · rw [if_pos rfl]; exact getD_of hi
    have e4 : (lsw S.l i last).length - 1 = last := by rw [lsw_length, hl]; rfl
    rw [e2] at e3
    simp only [e4]
    exact e3
  rw [h2] at h1
  exact h1.symm
theorem cut_mem (h : S.l.Nodup) (hi : S.l[i]? = some eb) (hl : S.l.length = last + 1) {c : Nat} : c ∈ (S.cut i last v).l ↔ c ∈ S.l ∧ c ≠ eb := by
  have hil : i < S.l.length := (List.getElem?_eq_some_iff.1 hi).1
  have hp := lsw_perm hil (show last < S.l.length by omega)
  have e := cut_l hi hl
  have hnd : (lsw S.l i last).Nodup := hp.nodup_iff.2 h
  show c ∈ (lsw S.l i last).dropLast ↔ _
  rw [← hp.mem_iff]
  generalize (lsw S.l i last).dropLast = d at *
  rw [e] at hnd ⊢
  rw [List.nodup_append] at hnd
  constructor
  · intro q
    exact ⟨List.mem_append_left _ q, fun q' => hnd.2.2 c q eb (by simp) q'⟩
  · rintro ⟨q, q'⟩
    rcases List.mem_append.1 q with q | q
    · exact q
    · exact absurd (by simpa using q) q'
theorem cut_len (hl : S.l.length = last + 1) : (S.cut i last v).l.length = last := by
  show (lsw S.l i last).dropLast.length = _
  rw [List.length_dropLast, lsw_length, hl]
  rfl
theorem cut_getD (hi : i < S.l.length) (hl : S.l.length = last + 1) {j : Nat} (hj : j < last) : (S.cut i last v).l.getD j 0 = if j = i then S.l.getD last 0 else S.l.getD j 0 := by
  show (lsw S.l i last).dropLast.getD j 0 = _
  rw [List.getD_eq_getElem?_getD, List.getElem?_dropLast, if_pos (by rw [lsw_length]; omega), ← List.getD_eq_getElem?_getD, lsw_getD hi (by omega)]
  split
  · rfl
  · rw [if_neg (by omega)]
theorem cut_vv (h : Vv S.l.length S.v) (hi : i < S.l.length) (hl : S.l.length = last + 1) : Vv (S.cut i last v).l.length (uo (S.cut i last v).v i (S.v i)) := by
  rw [cut_len hl]
  rw [hl] at h
  refine vv_same (vv_off h) fun j hj => ?_
  unfold uo
  split
  · rename_i q; rw [q]
  · rename_i q
    unfold HS.v
    rw [cut_getD hi hl hj, if_neg q]
    rfl
/-- a heap without one of its entries -/
structure Less (w w' : World) (hb eb : Nat) (S S' : HS) : Prop where
  h : Hp w' hb S'
  m : ∀ c, c ∈ S'.l ↔ c ∈ S.l ∧ c ≠ eb
  n : S'.l.length + 1 = S.l.length
  hd : S'.hd = S.hd
  ky : S'.ky = S.ky
  gv : S'.gv = S.gv
  c : Chg hb S S' w w'
  en : En w' eb (S.ky eb) (S.hd eb)
theorem En.of_blk {i : Nat} (h : Blk w eb 104 5 (S.ndC eb i)) : En w eb (S.ky eb) (S.hd eb) := ⟨h.cell 0 (by decide), h.cell 1 (by decide), h.cell 2 (by decide), h.cell 3 (by decide)⟩
theorem Mp.mk {m : Nat} {M : DataW Nat} (e : S.mb = some m) (h : MpA w S m M) : Mp w S := by
  unfold Mp
  rw [e]
  exact ⟨M, h⟩
theorem lsw_last (hi : S.l[i]? = some eb) (hl : S.l.length = last + 1) : (lsw S.l i last)[last]? = some eb := by
  have h1 : (lsw S.l i last).length = last + 1 := by rw [lsw_length, hl]
  have h2 := cut_l hi hl
  have h3 : (lsw S.l i last).dropLast.length = last := by rw [List.length_dropLast, h1]; rfl
  rw [h2, List.getElem?_append_right (by omega), h3, Nat.sub_self]
  rfl
theorem drop_S (h : Hp w hb S) (hi : S.l[i]? = some eb) :
    Calls Try.prog 62 #[.pointer (some ⟨hb, 0, none⟩), .pointer (some ⟨eb, 0, none⟩)] w fun e w' => e = .returned (.tuple #[]) ∧ ∃ S', Less w w' hb eb S S' := by
  have hil : i < S.l.length := (List.getElem?_eq_some_iff.1 hi).1
  obtain ⟨last, hl⟩ : ∃ last, S.l.length = last + 1 := ⟨S.l.length - 1, by omega⟩
  have hm := h.m
  have hlast : last < S.l.length := by omega
  obtain ⟨g, c, e⟩ := hm.fm.row (by rintro q; rw [q] at hil; simp at hil)
  rw [hl] at e
  have hp0 := h.p
  unfold Mp at hp0
  cases hmb : S.mb with
  | none => rw [hmb] at hp0; rw [show S.l = [] from hp0] at hil; simp at hil
  | some m =>
    rw [hmb] at hp0
    obtain ⟨M, hM⟩ := hp0
    have hsm := hm.sm
    have heb : eb ∈ S.l := List.mem_of_getElem? hi
    have hx := (hm.ok eb heb).2
    have hperm := lsw_perm hil hlast
    -- what stands behind
    have key : ∀ W, DrD w W hb g last c m (Maps.size M) S.hpC (lsw S.l i last) (fun b j => S.ndC b j) (M.del (.int .i64 (S.hd eb))) (Fp hb S) →
        Mem W hb (S.cut i last (.slice (some ⟨g, 0, none⟩) last c)) ∧ Mp W (S.cut i last (.slice (some ⟨g, 0, none⟩) last c)) ∧ (S.cut i last (.slice (some ⟨g, 0, none⟩) last c)).uh ∧ Chg hb S (S.cut i last (.slice (some ⟨g, 0, none⟩) last c)) w W := fun W D => by
      have hmm : ∀ {x}, x ∈ (S.cut i last (.slice (some ⟨g, 0, none⟩) last c)).l ↔ x ∈ S.l ∧ x ≠ eb := cut_mem hm.no hi hl
      have huu : (S.cut i last (.slice (some ⟨g, 0, none⟩) last c)).uh := fun a ha b hb' q => h.hu a (hmm.1 ha).1 b (hmm.1 hb').1 q
      refine ⟨⟨D.hp.same fun j hj => ?_, fun j b q => ?_, D.fm, ?_, fun b q => hm.ok b (hmm.1 q).1, by rw [cut_len hl]; omega⟩, Mp.mk (S := S.cut i last (.slice (some ⟨g, 0, none⟩) last c)) hmb ⟨tight D.mp, ?_, fun x z => ?_⟩, huu, D.kp, fun k q => .inl ?_⟩
      · rcases (by omega : j = 0 ∨ j = 1 ∨ j = 2) with rfl | rfl | rfl
        · rfl
        · show Value.map S.mb = Value.map S.mb; rfl
        · rfl
      · have q' : (lsw S.l i last).dropLast[j]? = some b := q
        have hj : j < last := by
          have := (List.getElem?_eq_some_iff.1 q').1
          rw [List.length_dropLast, lsw_length, hl] at this
          omega
        rw [List.getElem?_dropLast, if_pos (by rw [lsw_length]; omega)] at q'
        exact D.nd j b q'
      · have : (lsw S.l i last).Nodup := hperm.nodup_iff.2 hm.no
        exact List.Nodup.sublist (List.dropLast_sublist _) this
      · have hhas : Maps.has M (.int .i64 (S.hd eb)) = true := has_true_of_atKey (y := .held eb) fun z => by rw [hM.a, at_of h.hu heb]; rfl
        have hsz := size_del (k := .int .i64 (S.hd eb)) (hM.o.tidy law3)
        rw [if_pos hhas] at hsz
        rw [cut_len hl]
        have := hM.n
        omega
      · by_cases ex : x = (S.hd eb : Int)
        · subst ex
          rw [atKey_del_same]
          have : (S.cut i last (.slice (some ⟨g, 0, none⟩) last c)).at (S.hd eb) = none := at_eq huu (fun b q => by cases q) (fun _ b q q' => (hmm.1 q).2 (h.hu b (hmm.1 q).1 eb heb (by have : ((S.hd b : Nat) : Int) = S.hd eb := q'; omega)))
          rw [this]
          rfl
        · rw [atKey_del_other (lit_ne ex), hM.a]
          congr 1
          refine (at_eq huu (fun b q => ?_) (fun q b hb' => at_none (S := S) q b (hmm.1 hb').1)).symm
          obtain ⟨h1, h2⟩ := at_some q
          exact ⟨hmm.2 ⟨h1, by rintro rfl; exact ex h2.symm⟩, h2⟩
      · rcases q with q | q | q | q
        · exact .inl q
        · exact .inr (.inl (hmm.1 q).1)
        · exact .inr (.inr (.inl (by rw [e]; exact q)))
        · exact .inr (.inr (.inr q))
    refine drop_raw w hb eb g last c i m (S.hd eb) M S.hpC (fun b j => S.ndC b j) (lsw S.l i last) (Fp hb S) (fun w' => ∃ S', Less w w' hb eb S S') hm.hp (by show Value.map S.mb = _; rw [hmb]) e ((hm.nd i eb hi).cell 4 (by decide)) (by unfold Hid; rw [lsw_length, hl]) (lsw_last hi hl) (by omega) (by omega) (by omega) ?_ rfl (.inl rfl) (.inr (.inr (.inl (by rw [e]; rfl)))) (.inr (.inr (.inr hmb))) (fun hlt W D => ?_) (fun hie W D => ?_)
    · refine (swap_S hm hil hlast).mono ?_
      rintro q w1 ⟨rfl, V⟩
      refine ⟨rfl, V.m.hp, ?_, keepMap hM.o (V.k.block m hM.o.lt (hm.map_fl hM.o)), V.m.nd, V.k.mono fun k _ q => q.elim (fun q => .inr (.inl q)) fun q => .inr (.inr (.inl q))⟩
      have := V.m.fm
      rw [show (S.wl (lsw S.l i last)).lv = S.lv from rfl, e] at this
      exact this
    · obtain ⟨k1, k2, k3, k4⟩ := key W D
      have hcl : (S.cut i last (.slice (some ⟨g, 0, none⟩) last c)).l.length = last := cut_len hl
      have hmm : ∀ {x}, x ∈ (S.cut i last (.slice (some ⟨g, 0, none⟩) last c)).l ↔ x ∈ S.l ∧ x ≠ eb := cut_mem hm.no hi hl
      have hE : Blk W eb 104 5 (S.ndC eb last) := D.nd last eb (lsw_last hi hl)
      have hno : ¬ Fp hb (S.cut i last (.slice (some ⟨g, 0, none⟩) last c)) eb := by
        rintro (q | q | q | q)
        · exact blk_ne k1.hp hE (by decide) q.symm
        · exact (hmm.1 q).2 rfl
        · exact k1.fm.ne hE (by decide) q
        · have q2 : m = eb := Option.some.inj (hmb.symm.trans q)
          exact map_ne D.mp hE q2.symm
      refine (mend_S k1 (by rw [hcl]; exact hlt) ⟨_, cut_vv h.v hil hl⟩).mono ?_
      rintro q w' ⟨rfl, N⟩
      obtain ⟨l', p1, p2, p3⟩ := N.hp k1 k2 k3 (fun b q => h.hg b (hmm.1 q).1) h.gv (by rw [hcl]; have := h.ln; show last ≤ S.gv; omega)
      exact ⟨rfl, _, p2, fun x => (p1.mem_iff).trans hmm, by rw [show ((S.cut i last (.slice (some ⟨g, 0, none⟩) last c)).wl l').l = l' from rfl, p1.length_eq, hcl, hl], rfl, rfl, rfl, k4.trans p3, En.of_blk (hE.at (p3.kp.block eb hE.lt hno))⟩
    · obtain ⟨k1, k2, k3, k4⟩ := key W D
      have hcl : (S.cut i last (.slice (some ⟨g, 0, none⟩) last c)).l.length = last := cut_len hl
      have hmm : ∀ {x}, x ∈ (S.cut i last (.slice (some ⟨g, 0, none⟩) last c)).l ↔ x ∈ S.l ∧ x ≠ eb := cut_mem hm.no hi hl
      have hv : Vv (S.cut i last (.slice (some ⟨g, 0, none⟩) last c)).l.length (S.cut i last (.slice (some ⟨g, 0, none⟩) last c)).v := by
        refine vv_same (cut_vv h.v hil hl) fun j hj => ?_
        rw [hcl] at hj
        rw [uo_other _ (by omega)]
      exact ⟨_, ⟨k1, k2, hv, k3, fun b q => h.hg b (hmm.1 q).1, h.gv, by rw [hcl]; have := h.ln; show last ≤ S.gv; omega⟩, fun x => hmm, by rw [hcl, hl], rfl, rfl, rfl, k4, En.of_blk (D.nd last eb (lsw_last hi hl))⟩
end
end Go.Proofs.Ythlbeofonbbbdaa
