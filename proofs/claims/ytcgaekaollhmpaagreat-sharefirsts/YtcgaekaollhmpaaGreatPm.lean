/-
  The heap's Insert.
-/
import Derived.Test.YtcgaekaollhmpaaGreatPl
import Derived.Test.YtcgaekaollhmpaaGreatNe
namespace Go.Proofs.YtcgaekaollhmpaaGreat
open Go.RowKit Go.Maps

def HS.add (S : HS) (b : Nat) (k : K) : HS := { S with gv := S.gv + 1, X := b :: S.X, hd := upd S.hd b S.gv, ky := upd S.ky b k, par := upd S.par b none, ix := upd S.ix b 0, lost := upd S.lost b false, pl := upd S.pl b none, fl := upd S.fl (.kd b) [], fv := upd S.fv (.kd b) nS }
section
variable {w w' : World} {tg tg' : Nat → Tg} {hb : Nat} {S S' : HS} {wk : Option Nat} {Z : List Nat}
theorem Mem.fresh (h : Mem w tg hb S) {b : Nat} (hb' : w.heap.size ≤ b) : b ∉ S.X := fun hX => by have := (h.nd b hX).lt; omega
theorem Mem.add (h : Mem w tg hb S) {W : World} {b : Nat} {k : K} (P : Put0 w W hb b S.gv k.n k.d k.t S.hpC) : Mem W (upd tg b .nd) hb (S.add b k) := by
  have hlt : ∀ c, c < w.heap.size → c ≠ b := fun c hc e => by have := P.new; omega
  have hval : ∀ F, (S.add b k).val F → F ≠ .kd b → S.val F := fun F hF hne => by
    cases F with
    | rt i => exact hF
    | kd p =>
      rcases List.mem_cons.1 (show p ∈ b :: S.X from hF) with q | q
      · exact absurd (by rw [q]) hne
      · exact q
  refine ⟨P.hp.same fun j hj => ?_, fun c hc => ?_, fun F hF => ?_, ?_, fun c hc => ?_, fun F hF g hg => ?_, fun i hi => ?_⟩
  · unfold fset HS.hpC HS.add
    simp only
    by_cases e0 : j = 0
    · subst e0; simp
    · rw [if_neg e0, if_neg e0, if_neg e0, upd_other _ _ (by simp)]
  · by_cases e : c = b
    · subst e
      refine P.en.same fun j hj => ?_
      unfold HS.ndC HS.add e0
      simp only [upd_same]
      rfl
    · have hc' : c ∈ S.X := (List.mem_cons.1 hc).resolve_left e
      refine (blk_keep (h.nd c hc') P.kp (h.ne_hb hc').symm).same fun j hj => ?_
      unfold HS.ndC HS.add
      simp only
      rw [upd_other _ _ e, upd_other _ _ e, upd_other _ _ e, upd_other _ _ (by simpa using e), upd_other _ _ e, upd_other _ _ e]
  · show Fam W (upd S.fv (.kd b) nS F) (upd S.fl (.kd b) [] F)
    by_cases e : F = .kd b
    · subst e; rw [upd_same, upd_same]; exact Fam.nil _
    · rw [upd_other _ _ e, upd_other _ _ e]
      have hF' := hval F hF e
      refine (h.fm F hF').keep fun g hg => P.kp.block g ((h.fm F hF').lt hg) fun q => ?_
      have := h.tf F hF' g hg
      rw [show g = hb from q, h.tp] at this
      cases this
  · rw [upd_other _ _ (hlt hb h.hp.lt)]; exact h.tp
  · by_cases e : c = b
    · subst e; exact upd_same _ _ _
    · have hc' : c ∈ S.X := (List.mem_cons.1 hc).resolve_left e
      rw [upd_other _ _ e]; exact h.tn c hc'
  · have hg' : (upd S.fv (.kd b) nS F).ownBlock = some g := hg
    by_cases e : F = .kd b
    · subst e; rw [upd_same] at hg'; cases hg'
    · rw [upd_other _ _ e] at hg'
      have hF' := hval F hF e
      rw [upd_other _ _ (hlt g ((h.fm F hF').lt hg'))]
      exact h.tf F hF' g hg'
  · by_cases e : i = b
    · subst e; exact P.en.lt
    · rw [upd_other _ _ e] at hi
      exact Nat.lt_of_lt_of_le (h.lt i hi) P.kp.size
theorem Inv.add (h : Inv S none []) {b : Nat} {k : K} (hb : b ∉ S.X) (hk : k.ok) (hg : S.gv + 1 ≤ 1048576) : Inv (S.add b k) none [b] := by
  have mX : ∀ {c}, c ∈ (S.add b k).X → c = b ∨ (c ∈ S.X ∧ c ≠ b) := fun {c} hc => by
    rcases List.mem_cons.1 (show c ∈ b :: S.X from hc) with q | q
    · exact .inl q
    · exact .inr ⟨q, fun e => hb (by rw [← e]; exact q)⟩
  have hpl : ∀ c F, (S.add b k).pl c = some F → c ≠ b ∧ S.pl c = some F := fun c F e => by
    have e' : upd S.pl b none c = some F := e
    by_cases ec : c = b
    · subst ec; rw [upd_same] at e'; cases e'
    · rw [upd_other _ _ ec] at e'; exact ⟨ec, e'⟩
  have old : ∀ {c}, c ∈ (S.add b k).X → c ≠ b → c ∈ S.X := fun hc hne => ((mX hc).resolve_left hne).1
  have hfl : ∀ F, F ≠ .kd b → (S.add b k).fl F = S.fl F := fun F hne => upd_other _ _ hne
  have hflb : (S.add b k).fl (.kd b) = [] := upd_same _ _ _
  have hdeg : ∀ c, c ≠ b → (S.add b k).deg c = S.deg c := fun c hc => by unfold HS.deg; rw [hfl _ (by simpa using hc)]
  have hval : ∀ F, (S.add b k).val F → F ≠ .kd b → S.val F := fun F hF hne => by
    cases F with
    | rt i => exact hF
    | kd p => exact old hF (fun q => hne (by rw [q]))
  have hne_of : ∀ F, S.val F → F ≠ .kd b := fun F hF q => by subst q; exact hb hF
  have hlt : ∀ p c, p ≠ b → c ≠ b → (S.add b k).lt p c = S.lt p c := fun p c hp hc => by
    unfold HS.lt HS.add
    simp only
    rw [upd_other _ _ hp, upd_other _ _ hp, upd_other _ _ hc, upd_other _ _ hc]
  refine ⟨⟨fun F hF j c hc => ?_, fun c hc F e => ?_, fun c hc e => ?_⟩, fun c hc hz => ?_, fun c hc => ?_, fun c hc j e => ?_, fun c hc p e => ?_, fun c hc p e => ?_, fun c hc => ?_, fun p hp k' => ?_, List.nodup_cons.2 ⟨hb, h.nd⟩, fun a ha c hc e => ?_, fun a ha => ?_, fun a ha => ?_, hg⟩
  · by_cases eF : F = .kd b
    · subst eF; rw [hflb] at hc; simp at hc
    · rw [hfl F eF] at hc
      obtain ⟨h1, h2, h3⟩ := h.lc.fam F (hval F hF eF) j c hc
      have hcb : c ≠ b := fun q => hb (by rw [← q]; exact h1)
      exact ⟨List.mem_cons_of_mem _ h1, (upd_other _ _ hcb).trans h2, (upd_other _ _ hcb).trans h3⟩
  · obtain ⟨hcb, e'⟩ := hpl c F e
    obtain ⟨h1, h2⟩ := h.lc.plc c (old hc hcb) F e'
    refine ⟨?_, ?_⟩
    · cases F with
      | rt i => exact h1
      | kd p => exact List.mem_cons_of_mem _ h1
    · rw [hfl F (hne_of F h1)]
      show (S.fl F)[upd S.ix b 0 c]? = _
      rw [upd_other _ _ hcb]
      exact h2
  · obtain ⟨hcb, e'⟩ := hpl c _ e
    exact h.lc.slf c (old hc hcb) e'
  · have hcb : c ≠ b := by simpa using hz
    show upd S.pl b none c ≠ none
    rw [upd_other _ _ hcb]
    exact h.all c (old hc hcb) (by simp)
  · have e : c = b := by simpa using hc
    subst e
    exact ⟨List.mem_cons_self .., upd_same _ _ _⟩
  · obtain ⟨hcb, e'⟩ := hpl c _ e
    rw [hdeg c hcb]
    show _ ∧ upd S.par b none c = none
    rw [upd_other _ _ hcb]
    exact h.rt c (old hc hcb) j e'
  · obtain ⟨hcb, e'⟩ := hpl c _ e
    show upd S.par b none c = _
    rw [upd_other _ _ hcb]
    exact h.kd c (old hc hcb) p e'
  · obtain ⟨hcb, e'⟩ := hpl c _ e
    have hpX : p ∈ S.X := (h.lc.plc c (old hc hcb) _ e').1
    rw [hlt p c (fun q => hb (by rw [← q]; exact hpX)) hcb]
    exact h.ord c (old hc hcb) p e'
  · by_cases hcb : c = b
    · subst hcb; unfold HS.deg; rw [hflb]; decide
    · rw [hdeg c hcb]; exact h.dl c (old hc hcb)
  · by_cases hpb : p = b
    · subst hpb; rw [hflb]; simp
    · rw [hfl _ (by simpa using hpb)]
      refine Nat.le_trans (countP_le fun c hc hq => ?_) (h.dg p (old hp hpb) k')
      obtain ⟨j, hj⟩ := List.getElem?_of_mem hc
      have hcb : c ≠ b := fun q => hb (by rw [← q]; exact (h.lc.fam (.kd p) (old hp hpb) j c hj).1)
      have hq' := of_decide_eq_true hq
      refine decide_eq_true ?_
      unfold HS.dv at hq' ⊢
      rw [hdeg c hcb] at hq'
      have : (S.add b k).lost c = S.lost c := upd_other _ _ hcb
      rw [this] at hq'
      exact hq'
  · have e' : upd S.hd b S.gv a = upd S.hd b S.gv c := e
    by_cases ha' : a = b <;> by_cases hc' : c = b
    · rw [ha', hc']
    · rw [ha', upd_same, upd_other _ _ hc'] at e'
      have := h.hg c (old hc hc')
      omega
    · rw [hc', upd_same, upd_other _ _ ha'] at e'
      have := h.hg a (old ha ha')
      omega
    · rw [upd_other _ _ ha', upd_other _ _ hc'] at e'
      exact h.hu a (old ha ha') c (old hc hc') e'
  · show upd S.hd b S.gv a < S.gv + 1
    by_cases ha' : a = b
    · rw [ha', upd_same]; omega
    · rw [upd_other _ _ ha']
      have := h.hg a (old ha ha')
      omega
  · show (upd S.ky b k a).ok
    by_cases ha' : a = b
    · rw [ha', upd_same]; exact hk
    · rw [upd_other _ _ ha']; exact h.ok a (old ha ha')
/-- the map behind a new entry -/
theorem MpA.put {m b : Nat} {M : DataW Nat} (h : MpA w tg S m M) (hX : S'.X = b :: S.X) (hu : ∀ a ∈ S'.X, ∀ c ∈ S'.X, S'.hd a = S'.hd c → a = c) (hold : ∀ c ∈ S.X, S'.hd c = S.hd c) (hb : b ∉ S.X) (ho : w'.ownsMap Tryz.prog 3 pE m (Maps.size M + 1) (M.put (.int .i64 (S'.hd b)) (.held b))) (ht : tg' m = .mp) : MpA w' tg' S' m (M.put (.int .i64 (S'.hd b)) (.held b)) := by
  have hbX : b ∈ S'.X := by rw [hX]; exact List.mem_cons_self ..
  have hno : S.at (S'.hd b) = none := by
    cases q : S.at (S'.hd b) with
    | none => rfl
    | some c =>
      obtain ⟨h1, h2⟩ := at_some q
      have := hu c (by rw [hX]; exact List.mem_cons_of_mem _ h1) b hbX (by rw [hold c h1]; omega)
      exact absurd (by rw [← this]; exact h1) hb
  have hhas : Maps.has M (.int .i64 (S'.hd b)) = false := has_false_of_atKey fun z => by rw [h.a, hno]; rfl
  refine ⟨ht, tight ho, ?_, fun x z => ?_⟩
  · rw [size_put (h.o.tidy law3), hhas, hX, List.length_cons, h.n]
    rfl
  · by_cases ex : x = (S'.hd b : Int)
    · subst ex
      rw [atKey_put_same h.o.isMap (isKey _), at_of hu hbX]
      rfl
    · rw [atKey_put_other (lit_ne ex), h.a]
      congr 1
      refine (at_eq (S := S') hu (fun c hc => ?_) (fun q c hc => ?_)).symm
      · obtain ⟨h1, h2⟩ := at_some hc
        rw [hX, hold c h1]
        exact ⟨List.mem_cons_of_mem _ h1, h2⟩
      · rw [hX] at hc
        rcases List.mem_cons.1 hc with rfl | hc
        · exact fun q' => ex q'.symm
        · rw [hold c hc]; exact at_none q c hc
theorem tidy0 : Maps.Tidy m0 := tidy_empty
theorem isMap0 : Maps.IsMap m0 := isMap_empty
theorem has0 (k : Lit) : Maps.has m0 k = false := rfl
theorem size0 : Maps.size m0 = 0 := rfl
theorem m0_a (x : Int) (z : DataW Nat) : m0.atKey (.int .i64 x) z = z := rfl
theorem Mem.setMb (h : Mem w tg hb S) (m : Nat) (hk : Kp (· = hb) w w') (hB : Blk w' hb 98 32 (fset S.hpC 1 (.map (some m)))) : Mem w' tg hb { S with mb := some m } :=
  h.head hk _ rfl rfl rfl (fun c => rfl) (hB.same fun j hj => by
    unfold fset HS.hpC
    simp only
    by_cases e : j = 1
    · subst e; simp
    · simp [e])
theorem keep_S (h : Mem w tg hb S') {b : Nat} (hX : S'.X = b :: S.X) (hp : Mp w tg S) (hmb : S'.mb = S.mb) (hu : ∀ a ∈ S'.X, ∀ c ∈ S'.X, S'.hd a = S'.hd c → a = c) (hold : ∀ c ∈ S.X, S'.hd c = S.hd c) (hb' : b ∉ S.X) (hlt : S'.hd b < 9223372036854775808) (hs : S.X.length ≤ 2000) :
    Calls Tryz.prog 44 #[.pointer (some ⟨hb, 0, none⟩), .pointer (some ⟨b, 0, none⟩)] w fun e w' => e = .returned (.tuple #[]) ∧ ∃ m tg', Mem w' tg' hb { S' with mb := some m } ∧ Mp w' tg' { S' with mb := some m } ∧ Chg (fun k => tg k ≠ .no) w w' tg tg' := by
  have hbX : b ∈ S'.X := by rw [hX]; exact List.mem_cons_self ..
  have hne := h.ne_hb hbX
  cases hm : S.mb with
  | none =>
    unfold Mp at hp
    rw [hm] at hp
    refine (keep_none w hb b (S'.hd b) _ _ hlt h.hp (by show Value.map S'.mb = _; rw [hmb, hm]) (h.nd b hbX) rfl hne).mono ?_
    rintro e w' ⟨rfl, o1, b1, k1⟩
    have hm1 : w.heap.size < w'.heap.size := o1.lt
    have hno : tg w.heap.size = .no := by
      by_cases q : tg w.heap.size = .no
      · exact q
      · have := h.lt _ q; omega
    refine ⟨rfl, w.heap.size, upd tg w.heap.size .mp, ?_, ?_, ⟨k1.mono fun k _ q => by rw [show k = hb from q, h.tp]; exact nofun, fun k hk => upd_other _ _ (by omega)⟩⟩
    · have h2 := h.setMb w.heap.size k1 b1
      refine ⟨h2.hp, h2.nd, h2.fm, (upd_other _ _ (by have := h.hp.lt; omega)).trans h.tp, fun c hc => (upd_other _ _ (by have := (h.nd c hc).lt; omega)).trans (h.tn c hc), fun F hF g hg => ?_, fun k hk => ?_⟩
      · have hF' : S'.val F := by cases F <;> exact hF
        rw [upd_other _ _ (by have := (h.fm F hF').lt hg; omega)]
        exact h.tf F hF' g hg
      · by_cases q : k = w.heap.size
        · omega
        · rw [upd_other _ _ q] at hk
          have := h.lt k hk
          omega
    · unfold Mp
      have hp' : S.X = [] := hp
      refine ⟨_, upd_same _ _ _, tight o1, ?_, fun x z => ?_⟩
      · rw [size_put tidy0, has0, size0]
        show _ = S'.X.length
        rw [hX, hp']
        rfl
      · by_cases ex : x = (S'.hd b : Int)
        · subst ex
          rw [atKey_put_same isMap0 (isKey _)]
          have : HS.at { S' with mb := some w.heap.size } (S'.hd b) = some b := at_of (S := { S' with mb := some w.heap.size }) hu hbX
          rw [this]
          rfl
        · rw [atKey_put_other (lit_ne ex), m0_a]
          have : HS.at { S' with mb := some w.heap.size } x = none := at_eq (S := { S' with mb := some w.heap.size }) hu (fun c q => by cases q) (fun _ c hc => by
            have hc' : c ∈ S'.X := hc
            rw [hX, hp'] at hc'
            have q : c = b := by simpa using hc'
            rw [q]
            exact fun q' => ex q'.symm)
          rw [this]
          rfl
  | some m =>
    unfold Mp at hp
    rw [hm] at hp
    obtain ⟨M, hM⟩ := hp
    refine (keep_some w hb b m (Maps.size M) (S'.hd b) M _ _ hlt (by rw [hM.n]; unfold maxLen; omega) h.hp (by show Value.map S'.mb = _; rw [hmb, hm]) (h.nd b hbX) rfl hM.o).mono ?_
    rintro e w' ⟨rfl, o1, k1⟩
    have hS : ({ S' with mb := some m } : HS) = S' := by
      obtain ⟨gv, mb, lst, X, fl, fv, hd, ky, par, ix, lost, pl⟩ := S'
      simp only at hmb
      rw [hmb, hm]
    refine ⟨rfl, m, tg, by rw [hS]; exact h.kpMap k1 hM.t, ?_, ⟨k1.mono fun k _ q => by rw [show k = m from q, hM.t]; exact nofun, fun _ _ => rfl⟩⟩
    rw [hS]
    unfold Mp
    rw [hmb, hm]
    exact ⟨_, hM.put hX hu hold hb' o1 hM.t⟩

theorem Inv.mb (h : Inv S wk Z) (p : Option Nat) : Inv { S with mb := p } wk Z := ⟨⟨h.lc.fam, h.lc.plc, h.lc.slf⟩, h.all, h.out, h.rt, h.kd, h.ord, h.dl, h.dg, h.nd, h.hu, h.hg, h.ok, h.gb⟩
/-- a heap with one entry more -/
structure More (w w' : World) (tg tg' : Nat → Tg) (hb b : Nat) (k : K) (S S' : HS) : Prop where
  h : Hp w' tg' hb S'
  X : S'.X = b :: S.X
  nb : b ∉ S.X
  hd : S'.hd = upd S.hd b S.gv
  ky : S'.ky = upd S.ky b k
  gv : S'.gv = S.gv + 1
  c : Chg (fun k => tg k ≠ .no) w w' tg tg'
theorem insert_S (h : Hp w tg hb S) (k : K) (hk : k.ok) (hg : S.gv < 1048576) (hs : S.X.length + 1 ≤ 2000) :
    Calls Tryz.prog 24 #[ptr hb, ktup k.n k.d k.t] w fun e w' => e = .returned (.tuple #[.int .i64 S.gv, .int .i64 0]) ∧ ∃ b, w.heap.size ≤ b ∧ ∃ S' tg', More w w' tg tg' hb b k S S' := by
  refine insert_raw w hb S.gv k.n k.d k.t S.hpC (fun b w' => ∃ S' tg', More w w' tg tg' hb b k S S') h.m.hp rfl hg hk.z ?_
  intro W b P
  have hb' := h.m.fresh P.new
  have M1 := h.m.add (k := k) P
  have I1 := h.i.add (k := k) hb' hk (by omega)
  have ht1 : ∀ c, c < w.heap.size → upd tg b Tg.nd c = tg c := fun c hc => upd_other _ _ (by have := P.new; omega)
  have C1 : Chg (Mine tg) w W tg (upd tg b .nd) := ⟨P.kp.mono fun c _ q => by rw [show c = hb from q]; exact h.m.mine_loc (F := .rt 0) (by show 0 < 29; decide), ht1⟩
  have hp1 : Mp W (upd tg b .nd) S := h.p.chg C1 (Alik.refl _)
  have hbX : b ∈ (S.add b k).X := List.mem_cons_self ..
  have hold : ∀ c ∈ S.X, (S.add b k).hd c = S.hd c := fun c hc => upd_other _ _ (fun q => hb' (by rw [← q]; exact hc))
  have hhd : (S.add b k).hd b = S.gv := upd_same _ _ _
  refine (keep_S (S := S) (S' := S.add b k) M1 rfl hp1 rfl I1.hu hold hb' (by rw [hhd]; omega) (by omega)).mono ?_
  rintro e w3 ⟨rfl, m, tg3, M3, p3, c3⟩
  refine ⟨rfl, ?_⟩
  have I3 := I1.mb (some m)
  refine (raise_S M3 I3 (b := b) (List.mem_singleton.2 rfl) (by show (b :: S.X).length ≤ 2000; rw [List.length_cons]; omega)).mono ?_
  rintro e w4 ⟨rfl, v, tg4, M4, c4⟩
  refine ⟨rfl, ?_⟩
  have I4 := I3.raise v (b := b) (List.mem_singleton.2 rfl)
  rw [show List.filter (· ≠ b) [b] = [] by simp] at I4
  generalize hS4 : HS.raise { S.add b k with mb := some m } b v = S4 at *
  have a4 : Alike { S.add b k with mb := some m } S4 := by subst hS4; exact ⟨rfl, rfl, rfl, rfl, rfl, rfl⟩
  have hX4 : S4.X = b :: S.X := a4.X
  have hbX4 : b ∈ S4.X := by rw [hX4]; exact List.mem_cons_self ..
  have c4' : Chg (Mine tg3) w3 w4 tg3 tg4 := c4.mine M3 (F := .rt _) (I3.dl b hbX) hbX
  have p4 := p3.chg c4' a4.k
  have hsub : ∀ c ∈ S.X, c ∈ S4.X := fun c hc => by rw [hX4]; exact List.mem_cons_of_mem _ hc
  have hlt4 : ∀ x ∈ S.X, ∀ y ∈ S.X, S4.lt x y = S.lt x y := fun x hx y hy => by
    have hxb : x ≠ b := fun q => hb' (by rw [← q]; exact hx)
    have hyb : y ≠ b := fun q => hb' (by rw [← q]; exact hy)
    unfold HS.lt
    rw [a4.ky, a4.hd]
    show el (upd S.ky b k x) (upd S.hd b S.gv x) (upd S.ky b k y) (upd S.hd b S.gv y) = _
    rw [upd_other _ _ hxb, upd_other _ _ hxb, upd_other _ _ hyb, upd_other _ _ hyb]
  have hlst : S4.lst = S.lst := a4.lst
  have seen4 : Seen S4 (· ∈ S.X) := ⟨fun m' q => by
    rw [hlst] at q
    obtain ⟨h1, h2⟩ := h.l.some m' q
    exact ⟨hsub m' h1, fun y hy => (h2 y hy).imp_right fun h3 => by rw [hlt4 m' h1 y hy]; exact h3⟩, fun q => h.l.none (by rw [← hlst]; exact q)⟩
  refine (offer_S M4 hbX4 I4.ok (fun m' q => (seen4.some m' q).1)).mono ?_
  rintro e w5 ⟨rfl, M5, k5⟩
  obtain ⟨a1, a2, a3, a5, a6, a7, a8, a9⟩ := offer_alike S4 b
  have c5 : Chg (Mine tg4) w4 w5 tg4 tg4 := ⟨k5.mono fun c _ q => by rw [show c = hb from q]; exact M4.mine_loc (F := .rt 0) (by show 0 < 29; decide), fun _ _ => rfl⟩
  refine ⟨rfl, ?_, S4.offer b, tg4, ⟨⟨M5, p4.chg c5 ⟨a1, a5, a6, a7, a8⟩, I4.offer b, ?_⟩, a1.trans hX4, hb', a5.trans a4.hd, a6.trans a4.ky, a7.trans a4.gv, ((C1.any.thenAny c3).thenAny c4'.any).thenAny c5.any⟩⟩
  · have h1 := (M5.nd b (by rw [a1]; exact hbX4)).cell 0 (by decide)
    have h2 : (S4.offer b).ndC b 0 = .int .i64 S.gv := by
      show Value.int .i64 ((S4.offer b).hd b) = _
      rw [a5, a4.hd]
      show Value.int .i64 (upd S.hd b S.gv b : Nat) = _
      rw [upd_same]
    rw [h2] at h1
    exact h1
  · refine (seen4.offer I4 (fun c hc => hsub c hc) hbX4).iff fun c hc => ?_
    rw [a1, hX4] at hc
    rcases List.mem_cons.1 hc with q | q
    · exact .inr q
    · exact .inl q
end
end Go.Proofs.YtcgaekaollhmpaaGreat
