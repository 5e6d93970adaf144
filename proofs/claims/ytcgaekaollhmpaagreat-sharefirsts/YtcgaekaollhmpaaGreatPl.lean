/-
  The heap whole: its map, its least; remove.
-/
import Derived.Test.YtcgaekaollhmpaaGreatPk
import Derived.LaidEqlPtr
namespace Go.Proofs.YtcgaekaollhmpaaGreat
open Go.RowKit Go.Maps

/-- the entry with a handle -/
def HS.at (S : HS) (x : Int) : Option Nat := S.X.find? fun b => ((S.hd b : Int) == x)
theorem at_some {S : HS} {x : Int} {b : Nat} (h : S.at x = some b) : b ∈ S.X ∧ (S.hd b : Int) = x := ⟨List.mem_of_find?_eq_some h, by have := List.find?_some h; simpa using this⟩
theorem at_none {S : HS} {x : Int} (h : S.at x = none) : ∀ b ∈ S.X, (S.hd b : Int) ≠ x := fun b hb e => by
  have := List.find?_eq_none.1 h b hb
  simp [e] at this
theorem at_of {S : HS} (hu : ∀ a ∈ S.X, ∀ b ∈ S.X, S.hd a = S.hd b → a = b) {b : Nat} (hb : b ∈ S.X) : S.at (S.hd b) = some b := by
  cases h : S.at (S.hd b) with
  | none => exact absurd rfl (at_none h b hb)
  | some c =>
    obtain ⟨h1, h2⟩ := at_some h
    rw [hu c h1 b hb (by omega)]
theorem at_eq {S : HS} (hu : ∀ a ∈ S.X, ∀ b ∈ S.X, S.hd a = S.hd b → a = b) {x : Int} {o : Option Nat} (h1 : ∀ b, o = some b → b ∈ S.X ∧ (S.hd b : Int) = x) (h2 : o = none → ∀ b ∈ S.X, (S.hd b : Int) ≠ x) : S.at x = o := by
  cases o with
  | none =>
    cases h : S.at x with
    | none => rfl
    | some c => obtain ⟨k1, k2⟩ := at_some h; exact absurd k2 (h2 rfl c k1)
  | some b =>
    obtain ⟨k1, k2⟩ := h1 b rfl
    rw [← k2]
    exact at_of hu k1
structure MpA (w : World) (tg : Nat → Tg) (S : HS) (m : Nat) (M : DataW Nat) : Prop where
  t : tg m = .mp
  o : w.ownsMap Tryz.prog 3 pE m (Maps.size M) M
  n : Maps.size M = S.X.length
  a : ∀ (x : Int) (z : DataW Nat), M.atKey (.int .i64 x) z = (S.at x).elim z .held
def Mp (w : World) (tg : Nat → Tg) (S : HS) : Prop := match S.mb with
  | none => S.X = []
  | some m => ∃ M, MpA w tg S m M
structure Hp (w : World) (tg : Nat → Tg) (hb : Nat) (S : HS) : Prop where
  m : Mem w tg hb S
  p : Mp w tg S
  i : Inv S none []
  l : Seen S (· ∈ S.X)
section
variable {w w' : World} {tg tg' : Nat → Tg} {hb : Nat} {S S' : HS} {wk : Option Nat} {Z : List Nat}
theorem MpA.chg {m : Nat} {M : DataW Nat} (h : MpA w tg S m M) (c : Chg (Mine tg) w w' tg tg') : MpA w' tg' S m M :=
  ⟨(c.tg m h.o.lt).trans h.t, keepMap h.o (c.kp.block m h.o.lt fun e => e.2 h.t), h.n, h.a⟩
theorem at_alik (h : Alik S S') (x : Int) : S'.at x = S.at x := by unfold HS.at; rw [h.X, h.hd]
theorem Mp.chg (h : Mp w tg S) (c : Chg (Mine tg) w w' tg tg') (a : Alik S S') : Mp w' tg' S' := by
  unfold Mp at *
  rw [a.mb, a.X]
  cases hm : S.mb with
  | none => rw [hm] at h; exact h
  | some m =>
    rw [hm] at h
    obtain ⟨M, h⟩ := h
    have := h.chg c
    exact ⟨M, this.t, this.o, by rw [a.X]; exact this.n, fun x z => by rw [at_alik a]; exact this.a x z⟩
theorem Seen.alik {Y : Nat → Prop} (h : Seen S Y) (a : Alik S S') (hl : S'.lst = S.lst) : Seen S' Y := by
  refine ⟨fun m e => ?_, fun e => h.none (by rw [← hl]; exact e)⟩
  rw [hl] at e
  obtain ⟨h1, h2⟩ := h.some m e
  refine ⟨by rw [a.X]; exact h1, fun b hb => ?_⟩
  have := h2 b hb
  unfold HS.lt at this ⊢
  rw [a.ky, a.hd]
  exact this
theorem lit_ne {x y : Int} (h : x ≠ y) : Lit.int .i64 x ≠ Lit.int .i64 y := fun e => h (by injection e)
theorem isKey (x : Int) : WideAt.IsKeyLit (Lit.int .i64 x) := trivial
/-- the map behind the deletion -/
theorem MpA.del {m e : Nat} {M : DataW Nat} (h : MpA w tg S m M) (hu : ∀ a ∈ S.X, ∀ b ∈ S.X, S.hd a = S.hd b → a = b) (he : e ∈ S.X) (hn : S.X.Nodup) (ho : w'.ownsMap Tryz.prog 3 pE m (Maps.size M) (M.del (.int .i64 (S.hd e)))) (ht : tg' m = .mp) (hX : S'.X = S.X.filter (· ≠ e)) (hh : S'.hd = S.hd) : MpA w' tg' S' m (M.del (.int .i64 (S.hd e))) := by
  have hhas : Maps.has M (.int .i64 (S.hd e)) = true := has_true_of_atKey (y := .held e) fun z => by rw [h.a, at_of hu he]; rfl
  have hsz := size_del (k := .int .i64 (S.hd e)) (h.o.tidy law3)
  rw [if_pos hhas] at hsz
  have hu' : ∀ a ∈ S'.X, ∀ b ∈ S'.X, S'.hd a = S'.hd b → a = b := fun a ha b hb' => by
    rw [hX] at ha hb'
    rw [hh]
    exact hu a (List.mem_filter.1 ha).1 b (List.mem_filter.1 hb').1
  refine ⟨ht, tight ho, ?_, fun x z => ?_⟩
  · rw [hX]
    have h1 : (S.X.filter (· ≠ e)).length + 1 = S.X.length := by
      have : S.X.filter (· ≠ e) = S.X.erase e := by
        rw [hn.erase_eq_filter]
        congr 1
        funext a
        by_cases q : a = e <;> simp [q]
      rw [this, List.length_erase_of_mem he]
      have := List.length_pos_of_mem he
      omega
    have := h.n
    omega
  · by_cases ex : x = (S.hd e : Int)
    · subst ex
      rw [atKey_del_same, at_eq (S := S') hu' (o := none) (fun b hb => by cases hb) (fun _ b hb => ?_)]
      · rfl
      · rw [hX] at hb
        rw [hh]
        obtain ⟨h1, h2⟩ := List.mem_filter.1 hb
        intro q
        have := hu b h1 e he (by omega)
        simp [this] at h2
    · rw [atKey_del_other (lit_ne ex), h.a]
      congr 1
      refine (at_eq (S := S') hu' (fun b hb => ?_) (fun q b hb => ?_)).symm
      · obtain ⟨h1, h2⟩ := at_some hb
        rw [hX, hh]
        exact ⟨List.mem_filter.2 ⟨h1, by simp; rintro rfl; exact ex h2.symm⟩, h2⟩
      · rw [hX] at hb
        rw [hh]
        exact at_none q b (List.mem_filter.1 hb).1

/-- a heap without one of its entries -/
structure Gone (w w' : World) (tg tg' : Nat → Tg) (hb e : Nat) (S S' : HS) : Prop where
  h : Hp w' tg' hb S'
  X : S'.X = S.X.filter (· ≠ e)
  hd : S'.hd = S.hd
  ky : S'.ky = S.ky
  gv : S'.gv = S.gv
  c : Chg (fun k => tg k ≠ .no) w w' tg tg'
theorem Rmv.least {e m : Nat} {l : List Nat} {ve : Value} (h : Rmv w w' tg hb e S l ve [] S' tg') (hl : S.lst = some m) (hne : m ≠ e) (hS : Seen S (· ∈ S.X)) : Seen S' (· ∈ S'.X) := by
  refine ⟨fun m' q => ?_, fun q => by rw [h.lst, hl] at q; cases q⟩
  rw [h.lst, hl] at q
  have q' := Option.some.inj q
  subst q'
  obtain ⟨h1, h2⟩ := hS.some m hl
  refine ⟨by rw [h.X]; exact List.mem_filter.2 ⟨h1, by simpa using hne⟩, fun b hb' => ?_⟩
  rw [h.X] at hb'
  have := h2 b (List.mem_filter.1 hb').1
  unfold HS.lt at this ⊢
  rw [h.ky, h.hd]
  exact this
theorem Stl.least {w2 : World} {S2 : HS} {tg2 : Nat → Tg} (h : Stl w' w2 tg' hb S' S2 tg2 29) : Seen S2 (· ∈ S2.X) := by
  refine ⟨fun m q => ?_, fun q b hb' => ?_⟩
  · obtain ⟨h1, h2⟩ := h.s.some m q
    refine ⟨h1, root_min h.i h1 fun b hb' => ?_⟩
    obtain ⟨k1, i, k2⟩ := hb'
    obtain ⟨k3, k4⟩ := h.i.lc.plc b k1 _ k2
    exact h2 b ⟨i, k3, List.mem_of_getElem? k4⟩
  · obtain ⟨m0, h0, hmin⟩ := min_exists h.i S2.X (fun _ h => h) (by rintro q'; rw [q'] at hb'; simp at hb')
    cases hp : S2.pl m0 with
    | none => exact absurd hp (h.i.all m0 h0 (by simp))
    | some F =>
      obtain ⟨k3, k4⟩ := h.i.lc.plc m0 h0 _ hp
      cases F with
      | rt i => exact h.s.none q m0 ⟨i, k3, List.mem_of_getElem? k4⟩
      | kd p =>
        have h1 := h.i.ord m0 h0 p hp
        rcases hmin p k3 with h3 | h3
        · rw [h3] at h1; exact absurd h1 (el_irr _ _)
        · exact absurd h3 (el_asymm h1)
theorem Mem.kpMap {m : Nat} (h : Mem w tg hb S) (k : Kp (· = m) w w') (ht : tg m = .mp) : Mem w' tg hb S :=
  ⟨blk_keep h.hp k (fun q => by have := h.tp; rw [show hb = m from q, ht] at this; cases this), fun b hb' => blk_keep (h.nd b hb') k (fun q => by have := h.tn b hb'; rw [show b = m from q, ht] at this; cases this),
   fun F hF => (h.fm F hF).keep fun g hg => k.block g ((h.fm F hF).lt hg) fun q => (by have := h.tf F hF g hg; rw [show g = m from q, ht] at this; cases this), h.tp, h.tn, h.tf, fun i hi => Nat.lt_of_lt_of_le (h.lt i hi) k.size⟩
theorem Chg.any (h : Chg (Mine tg) w w' tg tg') : Chg (fun k => tg k ≠ .no) w w' tg tg' := h.mono fun _ _ hk => hk.1
theorem Chg.thenAny {w'' : World} {tg'' : Nat → Tg} (h : Chg (fun k => tg k ≠ .no) w w' tg tg') (k : Chg (fun k => tg' k ≠ .no) w' w'' tg' tg'') : Chg (fun k => tg k ≠ .no) w w'' tg tg'' :=
  h.trans k fun i hi hm => by rw [h.tg i hi] at hm; exact hm
theorem Gone.mk1 {w2 : World} {e mp : Nat} {l : List Nat} {ve : Value} {M : DataW Nat} (hH : Hp w tg hb S) (he : e ∈ S.X) (hR : Rmv w w' tg hb e S l ve [] S' tg') (hmb : S.mb = some mp) (hM : MpA w' tg' S mp M) (ho : w2.ownsMap Tryz.prog 3 pE mp (Maps.size M) (M.del (.int .i64 (S.hd e)))) (hk : Kp (· = mp) w' w2) :
    Mem w2 tg' hb S' ∧ Mp w2 tg' S' ∧ Chg (fun k => tg k ≠ .no) w w2 tg tg' := by
  refine ⟨hR.m.kpMap hk hM.t, ?_, hR.c.any.thenAny ⟨hk.mono fun k _ q => by rw [show k = mp from q, hM.t]; exact nofun, fun _ _ => rfl⟩⟩
  unfold Mp
  rw [hR.mb, hmb]
  exact ⟨_, hM.del hH.i.hu he hH.i.nd ho hM.t hR.X hR.hd⟩
theorem info84 : ∃ j, Tryz.prog.info? 100 = some j ∧ j.size = 8 := by
  have h : (Tryz.prog.info? 100).map (·.size) = some 8 := by kernel_rfl
  cases hq : Tryz.prog.info? 100 with
  | none => rw [hq] at h; cases h
  | some i => rw [hq] at h; exact ⟨i, rfl, Option.some.inj h⟩
theorem ptr_same (w : World) (e : Nat) : (binOp .eql 96 (.pointer (some ⟨e, 0, none⟩)) (.pointer (some ⟨e, 0, none⟩))).run Tryz.prog w = .ok (.bool true) w := by
  obtain ⟨j, h1, h2⟩ := info84
  exact run_eql_ptr_same w _ Tryz.underlying96 h1
theorem ptr_other {w : World} {e m n n' t t' : Nat} {f f' : Nat → Value} (he : Blk w e t n f) (hm : Blk w m t' n' f') (hne : e ≠ m) : (binOp .eql 96 (.pointer (some ⟨e, 0, none⟩)) (.pointer (some ⟨m, 0, none⟩))).run Tryz.prog w = .ok (.bool false) w := by
  obtain ⟨j, h1, h2⟩ := info84
  exact run_eql_ptr_other w Tryz.underlying96 h1 (by omega) (fun q => hne (by injection q)) he hm
def RmA (w wr : World) (tg : Nat → Tg) (hb e : Nat) (S : HS) (l : List Nat) (ve : Value) (j : Nat) : Prop := ∃ S' tg', Rmv w wr tg hb e S l ve (l.drop j) S' tg'
set_option maxHeartbeats 4000000 in
set_option maxRecDepth 100000 in
theorem remove_S (h : Hid (Hp w tg hb S)) (hs : Hid (S.X.length ≤ 2000)) {e m : Nat} (he : Hid (e ∈ S.X)) (hm : Hid (S.lst = some m))
    (HC : Hid (Calls Tryz.prog 76 #[.pointer (some ⟨hb, 0, none⟩), .pointer (some ⟨e, 0, none⟩)] w fun q w1 => q = .returned (.tuple #[]) ∧ Hid (∃ S1 tg1 d, Mem w1 tg1 hb S1 ∧ Inv S1 none [] ∧ Alike S S1 ∧ S1.pl e = some (.rt d) ∧ Chg (Mine tg) w w1 tg tg1))) :
    Calls Tryz.prog 49 #[.pointer (some ⟨hb, 0, none⟩), .pointer (some ⟨e, 0, none⟩)] w fun q w' => q = .returned (.tuple #[]) ∧ ∃ S' tg', Gone w w' tg tg' hb e S S' := by
  go_enter Tryz.func49, Tryz.ntmps49
  go_upto_region 1 with (go_at_call 76; refine HC.out.mono ?_; rintro q w1 ⟨rfl, H1⟩)
  obtain ⟨S1, tg1, d, m1, i1, a1, p1, c1⟩ := H1.out
  have heX : e ∈ S1.X := by rw [a1.X]; exact he.out
  obtain ⟨hd29, _⟩ := i1.lc.plc e heX _ p1
  have hlen := fam_len i1.lc hd29
  have H40 : Hid (Calls Tryz.prog 72 #[.pointer (some ⟨hb, 0, none⟩), .pointer (some ⟨e, 0, none⟩)] w1 fun q w2 => q = .returned (.pointer (some ⟨hb, 2 + d, none⟩)) ∧ Hid (Calls Tryz.prog 77 #[.pointer (some ⟨hb, 2 + d, none⟩), .pointer (some ⟨e, 0, none⟩)] w2 fun q w3 => q = .returned (.tuple #[]) ∧ Hid (∃ l ve, l.Nodup ∧ l.length ≤ 2000 ∧ (∃ a c, ve = .slice a l.length c) ∧ RmA w w3 tg hb e S l ve 0))) := by
    refine (row_at m1 heX (i1.rt e heX d p1).1 hd29).mono ?_
    rintro q w2 ⟨rfl, b2⟩
    refine ⟨rfl, ?_⟩
    refine (leave_S (m1.keep b2) i1.lc hd29 heX p1 (by have := hs.out; rw [a1.X] at hlen; omega)).mono ?_
    rintro q w3 ⟨rfl, x, mm, v, hmm, hx, m3, c3⟩
    have i3 := i1.leaveRt v heX p1 hmm hx
    have c3' := c3.mine (m1.keep b2) (F := .rt d) hd29 (i1.lc.fam _ hd29 _ _ hx).1
    have R := Rmv.start (S := S) m3 i3 ⟨a1.X, a1.hd, a1.ky, a1.gv, a1.mb, a1.lst⟩ ((c1.then (Chg.below b2)).then c3')
    have hl2 := fam_len i3.lc (F := .kd e) heX
    refine ⟨rfl, _, _, kids_nodup i3 (p := e) heX, Nat.le_trans hl2 (by show S1.X.length ≤ _; rw [a1.X]; exact hs.out), (m3.fm (.kd e) heX).shape, _, _, R⟩
  clear H1 m1 i1 a1 p1 c1 heX hd29 hlen HC
  go_upto_region 2 with (first | (go_at_call 72; refine H40.out.mono ?_; rintro q w2 ⟨rfl, H2⟩) | (go_at_call 77; refine H2.out.mono ?_; rintro q w3 ⟨rfl, H3⟩))
  obtain ⟨l, ve, hnd, hlen, ⟨a, c, rfl⟩, hR⟩ := H3.out
  have R0 : Hid (RmA w w3 tg hb e S l (.slice a l.length c) 0) := hR
  have c5 : w3.cell? ⟨e, 5, none⟩ = some (.slice a l.length c) := by
    obtain ⟨S', tg', hR⟩ := hR
    obtain ⟨f, f1, f2, f3⟩ := hR.n
    rw [f1.cell 5 (by decide), f3]
  have ND : Hid l.Nodup := hnd
  clear hR hnd H3 H2 H40
  go_wp2_with fail
  go_loopw [19] (fun i wr => ∃ j : Nat, j ≤ l.length ∧ i = .int .i64 j ∧ RmA w wr tg hb e S l (.slice a l.length c) j) (fun i _ => l.length - (intOf i).toNat)
  case atStart => exact ⟨0, Nat.zero_le _, rfl, R0.out⟩
  case round =>
    obtain ⟨j, hj, rfl, hR⟩ := hrel
    have R1 : Hid (RmA w wr tg hb e S l (.slice a l.length c) j) := hR
    clear hR R0
    by_cases hjl : j < l.length
    · have hi2 : (j : Int) < (l.length : Int) := by omega
      obtain ⟨S', tg', hR⟩ := R1.out
      obtain ⟨x, hx⟩ : ∃ x, l[j]? = some x := ⟨_, List.getElem?_eq_getElem hjl⟩
      obtain ⟨g, c', hg⟩ := hR.f.row (by intro q; rw [q] at hjl; simp at hjl)
      have ea : a = some ⟨g, 0, none⟩ ∧ c = c' := by simpa using hg
      obtain ⟨rfl, rfl⟩ := ea
      obtain ⟨p0, _⟩ := hR.f.cell hx
      unfold ptr at p0
      have hdr : l.drop j = x :: l.drop (j + 1) := by
        obtain ⟨h1, h2⟩ := List.getElem?_eq_some_iff.1 hx
        rw [List.drop_eq_getElem_cons h1, h2]
      have H32 : Hid (Calls Tryz.prog 45 #[.pointer (some ⟨hb, 0, none⟩), .pointer (some ⟨x, 0, none⟩)] wr fun q w'' => q = .returned (.tuple #[]) ∧ Hid (RmA w w'' tg hb e S l (.slice (some ⟨g, 0, none⟩) l.length c) (j + 1))) := by
        rw [hdr] at hR
        exact hR.next (by rw [← hdr]; exact ND.out.sublist (List.drop_sublist _ _)) hs.out
      clear hR hx hg hdr R1
      go_wp2_with (go_at_call 45; refine H32.out.mono ?_; rintro q w6 ⟨rfl, H6⟩)
      exact ⟨⟨j + 1, by omega, by go_num, H6.out⟩, by simp [intOf]; omega⟩
    · have hi2 : ¬ (j : Int) < (l.length : Int) := by omega
      obtain ⟨S', tg', hR⟩ := R1.out
      rw [List.drop_eq_nil_of_le (by omega)] at hR
      have HR : Hid (Rmv w wr tg hb e S l (.slice a l.length c) [] S' tg') := hR
      clear hR R1
      have HM := h.out.p
      unfold Mp at HM
      cases hmb : S.mb with
      | none =>
        rw [hmb] at HM
        have hc : e ∈ ([] : List Nat) := by rw [← HM]; exact he.out
        cases hc
      | some mp =>
        rw [hmb] at HM
        obtain ⟨M, hM⟩ := HM
        have HM2 : Hid (MpA wr tg' S mp M) := hM.chg HR.out.c
        clear hM
        have k1 : wr.cell? ⟨hb, 1, none⟩ = some (.map (some mp)) := by
          have : wr.cell? ⟨hb, 1, none⟩ = some (.map S'.mb) := HR.out.m.hp.cell 1 (by decide)
          rw [this, HR.out.mb, hmb]
        have k0 : wr.cell? ⟨e, 0, none⟩ = some (.int .i64 (S.hd e)) := by
          obtain ⟨f, f1, f2, f3⟩ := HR.out.n
          rw [f1.cell 0 (by decide), f2]
        have hgv : S.hd e < 9223372036854775808 := by have h1 := h.out.i.hg e he.out; have h2 := h.out.i.gb; omega
        obtain ⟨w2, hr2, H2⟩ : ∃ w2, (Builtin.delete_ #[92, 3] 0 #[.map (some mp), .int .i64 (S.hd e)]).run Tryz.prog wr.drew = .ok (.tuple #[]) w2 ∧ Hid (w2.ownsMap Tryz.prog 3 pE mp (Maps.size M) (M.del (.int .i64 (S.hd e))) ∧ Kp (· = mp) wr w2) := by
          obtain ⟨w2, hr2, ho2, ht2⟩ := (keepMap (w1 := wr.drew) HM2.out.o rfl).drop law3 Tryz.underlying92 (key3 (S.hd e) hgv) 0
          have hk : Kp (· = mp) wr.drew w2 := Kp.of_grown ht2.grown fun k q => (Option.some.inj q).symm
          exact ⟨w2, hr2, ho2, ⟨hk.os, hk.tape, hk.output, hk.size, hk.block⟩⟩
        clear hgv
        go_upto_region 7 with fail
        go_region
        have G1 : Hid (Mem w2 tg' hb S' ∧ Mp w2 tg' S' ∧ Chg (fun k => tg k ≠ .no) w w2 tg tg') := Gone.mk1 h.out he.out HR.out hmb HM2.out H2.out.1 H2.out.2
        have k3 : w2.cell? ⟨hb, 31, none⟩ = some (.pointer (some ⟨m, 0, none⟩)) := by
          have : w2.cell? ⟨hb, 31, none⟩ = some (optp S'.lst) := G1.out.1.hp.cell 31 (by decide)
          rw [this, HR.out.lst, hm.out]
          rfl
        have hE2 : ∃ f, Blk w2 e 100 8 f := by
          obtain ⟨f, f1, f2, f3⟩ := HR.out.n
          exact ⟨f, blk_keep f1 H2.out.2 fun q => by have h1 := HR.out.te; rw [show e = mp from q, HM2.out.t] at h1; cases h1⟩
        clear k0 k1 hr2 H2 HM2 c5 hlen hj hjl hi2
        by_cases hem : e = m
        · subst hem
          have H43 : Hid (Calls Tryz.prog 78 #[.pointer (some ⟨hb, 0, none⟩)] w2 fun q w' => q = .returned (.tuple #[]) ∧ Hid (∃ S2 tg2, Stl w2 w' tg' hb S' S2 tg2 29)) := settle_S G1.out.1 HR.out.i (by show S'.X.length ≤ 2000; rw [HR.out.X]; exact Nat.le_trans (List.length_filter_le _ _) hs.out)
          have hq := ptr_same w2 e
          go_wp2_with (go_at_call 78; refine H43.out.mono ?_; rintro q w7 ⟨rfl, H7⟩)
          go_end0
          obtain ⟨S2, tg2, h2⟩ := H7.out
          have R := HR.out
          exact ⟨rfl, S2, tg2, ⟨h2.m, G1.out.2.1.chg h2.c h2.a, h2.i, h2.least⟩, h2.a.X.trans R.X, h2.a.hd.trans R.hd, h2.a.ky.trans R.ky, h2.a.gv.trans R.gv, G1.out.2.2.thenAny h2.c.any⟩
        · have hq : (binOp .eql 96 (.pointer (some ⟨e, 0, none⟩)) (.pointer (some ⟨m, 0, none⟩))).run Tryz.prog w2 = .ok (.bool false) w2 := by
            obtain ⟨f, hf⟩ := hE2
            have hmX : m ∈ S'.X := by rw [HR.out.X]; exact List.mem_filter.2 ⟨(h.out.l.some m hm.out).1, by simpa using fun q => hem q.symm⟩
            exact ptr_other hf (G1.out.1.nd m hmX) hem
          clear hE2
          go_wp2_with fail
          go_end0
          have R := HR.out
          exact ⟨rfl, S', tg', ⟨G1.out.1, G1.out.2.1, R.i, R.least hm.out (fun q => hem q.symm) h.out.l⟩, R.X, R.hd, R.ky, R.gv, G1.out.2.2⟩
end
end Go.Proofs.YtcgaekaollhmpaaGreat
