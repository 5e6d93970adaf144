/-
  The other's roots are raised one by one; then the least.
-/
import Derived.Test.YtmcmldlnmmbbgaaPx
namespace Go.Proofs.Ytmcmldlnmmbbgaa
open Go.RowKit Go.Maps

section
variable {w0 wr w w' : World} {tS tO tg tg' : Nat → Tg} {hb ob : Nat} {S S' O : HS} {P Z : List Nat} {mb : Option Nat} {wk : Option Nat}
/-- the entries in another order -/
theorem Inv.perm (h : Inv S wk Z) {X : List Nat} (hn : X.Nodup) (hX : ∀ b, b ∈ X ↔ b ∈ S.X) (m : Option Nat) : Inv { S with X := X, mb := m } wk Z := by
  have hval : ∀ F, HS.val { S with X := X, mb := m } F ↔ S.val F := fun F => by
    cases F with
    | rt i => exact Iff.rfl
    | kd p => exact hX p
  refine ⟨⟨fun F hF j b hb' => ?_, fun b hb' F hF => ?_, fun b hb' => h.lc.slf b ((hX b).1 hb')⟩, fun b hb' => h.all b ((hX b).1 hb'), fun b hb' => ⟨(hX b).2 (h.out b hb').1, (h.out b hb').2⟩, fun b hb' => h.rt b ((hX b).1 hb'), fun b hb' => h.kd b ((hX b).1 hb'), fun b hb' => h.ord b ((hX b).1 hb'), fun b hb' => h.dl b ((hX b).1 hb'), fun p hp => h.dg p ((hX p).1 hp), hn, fun a ha b hb' => h.hu a ((hX a).1 ha) b ((hX b).1 hb'), fun a ha => h.hg a ((hX a).1 ha), fun a ha => h.ok a ((hX a).1 ha), h.gb⟩
  · obtain ⟨h1, h2, h3⟩ := h.lc.fam F ((hval F).1 hF) j b hb'
    exact ⟨(hX b).2 h1, h2, h3⟩
  · obtain ⟨h1, h2⟩ := h.lc.plc b ((hX b).1 hb') F hF
    exact ⟨(hval F).2 h1, h2⟩
theorem mx_inv (h : Two w tS tO hb ob S O) (hg : S.gv + O.gv ≤ 1048576) (hn : P.Nodup) (hP : ∀ b, b ∈ P ↔ b ∈ O.X) : Inv (S.mx O P mb) none O.roots := by
  refine (h.s.i.meld h.o.i h.dis hg).perm (X := P ++ S.X) (List.nodup_append.2 ⟨hn, h.s.i.nd, fun a ha b hb' q => h.dis a ((hP a).1 ha) (by rw [q]; exact hb')⟩) (fun b => ?_) mb
  show b ∈ P ++ S.X ↔ b ∈ O.X ++ S.X
  rw [List.mem_append, List.mem_append, hP b]
/-- the roots of the rows below d, and the first j of row d, are raised -/
structure Up (w0 wr : World) (tS tO tg : Nat → Tg) (hb ob : Nat) (S O : HS) (P : List Nat) (mb : Option Nat) (S' : HS) (Z : List Nat) (d j : Nat) : Prop where
  m : Mem wr tg hb S'
  p : Mp wr tg S'
  i : Inv S' none Z
  a : Alike (S.mx O P mb) S'
  oh : Blk wr ob 70 32 O.hpC
  of : ∀ i, i < 29 → Fam wr (O.fv (.rt i)) (O.fl (.rt i))
  z : ∀ b, b ∈ Z ↔ (∃ i, d < i ∧ i < 29 ∧ b ∈ O.fl (.rt i)) ∨ (d < 29 ∧ ∃ k, j ≤ k ∧ (O.fl (.rt d))[k]? = some b)
  tb : tg ob = .no
  tr : ∀ i, i < 29 → ∀ g, (O.fv (.rt i)).ownBlock = some g → tg g = .no
  tl : ∀ k, k < w0.heap.size → tg k ≠ .no → tS k ≠ .no ∨ tO k ≠ .no
  kp : Kp (fun k => tS k ≠ .no ∨ tO k ≠ .no) w0 wr
theorem Up.start (h : Two w0 tS tO hb ob S O) (hg : S.gv + O.gv ≤ 1048576) (H : Ph w0 wr tS tO tg hb ob S O P mb) (hP : ∀ b, b ∈ P ↔ b ∈ O.X) : Up w0 wr tS tO tg hb ob S O P mb (S.mx O P mb) O.roots 0 0 := by
  refine ⟨H.mm, H.mp, mx_inv h hg H.pn hP, Alike.refl _, H.oh, fun i hi => H.of (.rt i) hi nofun, fun b => ?_, ?_, fun i hi g hg' => ?_, fun k hk q => ?_, H.kp⟩
  · unfold HS.roots
    rw [List.mem_flatMap]
    constructor
    · rintro ⟨i, hi, hb'⟩
      have hi' := List.mem_range.1 hi
      by_cases e : i = 0
      · subst e
        obtain ⟨k, hk⟩ := List.getElem?_of_mem hb'
        exact .inr ⟨by decide, k, Nat.zero_le _, hk⟩
      · exact .inl ⟨i, by omega, hi', hb'⟩
    · rintro (⟨i, h1, h2, h3⟩ | ⟨h1, k, h2, h3⟩)
      · exact ⟨i, List.mem_range.2 h2, h3⟩
      · exact ⟨0, List.mem_range.2 (by decide), List.mem_of_getElem? h3⟩
  · rw [H.tw ob (by rw [h.o.m.tp]; exact nofun), mt_hp0 h.o.m.tp]
  · have e := h.o.m.tf (.rt i) hi g hg'
    rw [H.tw g (by rw [e]; exact nofun), mt_rt e]
  · by_cases q2 : tO k = .no
    · rw [H.ts k hk q2] at q; exact .inl q
    · exact .inr q2
theorem Up.row {d j : Nat} (H : Up w0 wr tS tO tg hb ob S O P mb S' Z d j) (hj : (O.fl (.rt d)).length ≤ j) : Up w0 wr tS tO tg hb ob S O P mb S' Z (d + 1) 0 := by
  refine ⟨H.m, H.p, H.i, H.a, H.oh, H.of, fun b => (H.z b).trans ⟨?_, ?_⟩, H.tb, H.tr, H.tl, H.kp⟩
  · rintro (⟨i, h1, h2, h3⟩ | ⟨_, k, h2, h3⟩)
    · by_cases e : i = d + 1
      · subst e
        obtain ⟨k, hk⟩ := List.getElem?_of_mem h3
        exact .inr ⟨h2, k, Nat.zero_le _, hk⟩
      · exact .inl ⟨i, by omega, h2, h3⟩
    · have := (List.getElem?_eq_some_iff.1 h3).1
      omega
  · rintro (⟨i, h1, h2, h3⟩ | ⟨h1, k, h2, h3⟩)
    · exact .inl ⟨i, by omega, h2, h3⟩
    · exact .inl ⟨d + 1, by omega, h1, List.mem_of_getElem? h3⟩
theorem Up.next {d j x : Nat} (h : Two w0 tS tO hb ob S O) (H : Up w0 wr tS tO tg hb ob S O P mb S' Z d j) (hs : (P ++ S.X).length ≤ 2000) (hd : d < 29) (hx : (O.fl (.rt d))[j]? = some x) :
    Calls Try.prog 32 #[.pointer (some ⟨hb, 0, none⟩), .pointer (some ⟨x, 0, none⟩)] wr fun e w' => e = .returned (.tuple #[]) ∧ Hid (∃ S2 Z2 tg2, Up w0 w' tS tO tg2 hb ob S O P mb S2 Z2 d (j + 1)) := by
  have hxZ : x ∈ Z := (H.z x).2 (.inr ⟨hd, j, Nat.le_refl _, hx⟩)
  have hxX := (H.i.out x hxZ).1
  refine (raise_S H.m H.i hxZ (by show S'.X.length ≤ 2000; rw [H.a.X]; exact hs)).mono ?_
  rintro e w' ⟨rfl, v, tg2, m2, c2⟩
  have c2' : Chg (Mine tg) wr w' tg tg2 := c2.mine H.m (F := .rt _) (H.i.dl x hxX) hxX
  have cno : ∀ k, k < wr.heap.size → tg k = .no → w'.heap[k]? = wr.heap[k]? := fun k hk q => c2'.kp.block k hk fun q2 => q2.1 q
  obtain ⟨_, p1, p2⟩ := h.o.i.lc.fam (.rt d) hd j x hx
  have hne : ∀ i b k, i < 29 → (O.fl (.rt i))[k]? = some b → (i ≠ d ∨ k ≠ j) → b ≠ x := fun i b k hi hb' hq e => by
    subst e
    obtain ⟨_, q1, q2⟩ := h.o.i.lc.fam (.rt i) hi k b hb'
    rw [p1] at q1
    have : d = i := by injection (Option.some.inj q1)
    omega
  refine ⟨rfl, S'.raise x v, Z.filter (· ≠ x), tg2, ⟨m2, H.p.chg c2' ⟨rfl, rfl, rfl, rfl, rfl⟩, H.i.raise v hxZ, ⟨H.a.X, H.a.hd, H.a.ky, H.a.gv, H.a.mb, H.a.lst⟩, H.oh.at (cno ob H.oh.lt H.tb), fun i hi => (H.of i hi).keep fun g hg => cno g ((H.of i hi).lt hg) (H.tr i hi g hg), fun b => ?_, ?_, fun i hi g hg => ?_, fun k hk q => ?_, ?_⟩⟩
  · rw [List.mem_filter, H.z b]
    constructor
    · rintro ⟨h1 | ⟨_, k, h2, h3⟩, hb2⟩
      · exact .inl h1
      · refine .inr ⟨hd, k, ?_, h3⟩
        by_cases e : k = j
        · subst e
          rw [hx] at h3
          simp [Option.some.inj h3] at hb2
        · omega
    · rintro (⟨i, h1, h2, h3⟩ | ⟨_, k, h2, h3⟩)
      · obtain ⟨k, hk⟩ := List.getElem?_of_mem h3
        exact ⟨.inl ⟨i, h1, h2, h3⟩, by simpa using hne i b k h2 hk (.inl (by omega))⟩
      · exact ⟨.inr ⟨hd, k, by omega, h3⟩, by simpa using hne d b k hd h3 (.inr (by omega))⟩
  · rw [c2.tg ob H.oh.lt]; exact H.tb
  · rw [c2.tg g ((H.of i hi).lt hg)]; exact H.tr i hi g hg
  · rw [c2.tg k (Nat.lt_of_lt_of_le hk H.kp.size)] at q
    exact H.tl k hk q
  · exact H.kp.trans c2'.kp fun k hk q => H.tl k hk q.1
theorem Up.quiet {d j : Nat} (H : Up w0 wr tS tO tg hb ob S O P mb S' Z d j) (b : Below wr.heap.size wr w') : Up w0 w' tS tO tg hb ob S O P mb S' Z d j :=
  ⟨H.m.keep b, H.p.chg (Chg.below b) (Alik.refl _), H.i, H.a, H.oh.at (b.block _ H.oh.lt), fun i hi => (H.of i hi).keep fun g hg => b.block g ((H.of i hi).lt hg), H.z, H.tb, H.tr, H.tl, H.kp.trans (Kp.of_below (S := fun _ => False) b) fun _ _ q => q.elim⟩
/-- all has come over but for the other's head -/
structure Meld (w0 wr : World) (tS tO tg : Nat → Tg) (hb ob : Nat) (S O : HS) (P : List Nat) (S' : HS) : Prop where
  h : Hp wr tg hb S'
  X : S'.X = P ++ S.X
  hd : S'.hd = (S.meld O).hd
  ky : S'.ky = (S.meld O).ky
  gv : S'.gv = S.gv + O.gv
  oh : Blk wr ob 70 32 O.hpC
  tb : tg ob = .no
  tl : ∀ k, k < w0.heap.size → tg k ≠ .no → tS k ≠ .no ∨ tO k ≠ .no
  kp : Kp (fun k => tS k ≠ .no ∨ tO k ≠ .no) w0 wr
theorem Up.zero (H : Up w0 wr tS tO tg hb ob S O P mb S' Z 29 0) : Z = [] := by
  refine List.eq_nil_iff_forall_not_mem.2 fun b hb' => ?_
  rcases (H.z b).1 hb' with ⟨i, h1, h2, _⟩ | ⟨h1, _⟩ <;> omega
theorem Up.seen (h : Two w0 tS tO hb ob S O) {d j : Nat} (H : Up w0 wr tS tO tg hb ob S O P mb S' Z d j) : Seen S' (· ∈ S.X) := by
  have hX : ∀ b ∈ S.X, b ∈ S'.X := fun b hb' => by rw [H.a.X]; exact List.mem_append_right _ hb'
  have hlt : ∀ x ∈ S.X, ∀ y ∈ S.X, S'.lt x y = S.lt x y := fun x hx y hy => by
    unfold HS.lt
    rw [H.a.ky, H.a.hd, show (S.mx O P mb).ky x = S.ky x from if_pos hx, show (S.mx O P mb).ky y = S.ky y from if_pos hy, show (S.mx O P mb).hd x = S.hd x from if_pos hx, show (S.mx O P mb).hd y = S.hd y from if_pos hy]
  have hl : S'.lst = S.lst := H.a.lst
  refine ⟨fun m q => ?_, fun q => h.s.l.none (by rw [← hl]; exact q)⟩
  rw [hl] at q
  obtain ⟨h1, h2⟩ := h.s.l.some m q
  exact ⟨hX m h1, fun y hy => (h2 y hy).imp_right fun h3 => by rw [hlt m h1 y hy]; exact h3⟩
theorem Up.leastNo (h : Two w0 tS tO hb ob S O) (H : Up w0 wr tS tO tg hb ob S O P mb S' Z 29 0) (hP : ∀ b, b ∈ P ↔ b ∈ O.X) (hl : O.lst = none) : Meld w0 wr tS tO tg hb ob S O P S' := by
  have hO : ∀ b, b ∉ O.X := h.o.l.none hl
  have hi := H.i
  rw [H.zero] at hi
  refine ⟨⟨H.m, H.p, hi, (H.seen h).iff fun b hb' => ?_⟩, H.a.X, H.a.hd, H.a.ky, H.a.gv, H.oh, H.tb, H.tl, H.kp⟩
  rw [H.a.X] at hb'
  exact (List.mem_append.1 hb').resolve_left fun q => hO b ((hP b).1 q)
theorem Up.least (h : Two w0 tS tO hb ob S O) (H : Up w0 wr tS tO tg hb ob S O P mb S' Z 29 0) (hP : ∀ b, b ∈ P ↔ b ∈ O.X) {x : Nat} (hl : O.lst = some x) :
    Calls Try.prog 33 #[.pointer (some ⟨hb, 0, none⟩), .pointer (some ⟨x, 0, none⟩)] wr fun e w' => e = .returned (.tuple #[]) ∧ Hid (∃ S2, Meld w0 w' tS tO tg hb ob S O P S2) := by
  obtain ⟨hxO, hmin⟩ := h.o.l.some x hl
  have hxS := h.dis x hxO
  have hxX : x ∈ S'.X := by rw [H.a.X]; exact List.mem_append_left _ ((hP x).2 hxO)
  have hi := H.i
  rw [H.zero] at hi
  have sn := H.seen h
  refine (offer_S H.m hxX hi.ok (fun m' q => (sn.some m' q).1)).mono ?_
  rintro e w5 ⟨rfl, M5, k5⟩
  obtain ⟨a1, a2, a3, a5, a6, a7, a8, a9⟩ := offer_alike S' x
  have hhb : tg hb ≠ .no := by rw [H.m.tp]; exact nofun
  have hoh : hb ≠ ob := h.ne
  have c5 : Chg (Mine tg) wr w5 tg tg := ⟨k5.mono fun c _ q => by rw [show c = hb from q]; exact H.m.mine_loc (F := .rt 0) (by show 0 < 29; decide), fun _ _ => rfl⟩
  have sn2 := sn.offer hi (fun c hc => by rw [H.a.X]; exact List.mem_append_right _ hc) hxX
  have I5 := hi.offer x
  have hsmall : ∀ b ∈ O.X, b = x ∨ (S'.offer x).lt x b := fun b hb' => by
    refine (hmin b hb').imp_right fun q => ?_
    have hbS := h.dis b hb'
    unfold HS.lt at q ⊢
    rw [a5, a6, H.a.ky, H.a.hd, show (S.mx O P mb).ky x = O.ky x from if_neg hxS, show (S.mx O P mb).ky b = O.ky b from if_neg hbS, show (S.mx O P mb).hd x = O.hd x + S.gv from if_neg hxS, show (S.mx O P mb).hd b = O.hd b + S.gv from if_neg hbS]
    exact el_shift.2 q
  refine ⟨rfl, S'.offer x, ⟨⟨M5, H.p.chg c5 ⟨a1, a5, a6, a7, a8⟩, I5, ?_⟩, a1.trans H.a.X, a5.trans H.a.hd, a6.trans H.a.ky, a7.trans H.a.gv, H.oh.at (k5.block ob H.oh.lt fun q => hoh q.symm), H.tb, H.tl, H.kp.trans k5 fun k hk q => H.tl k hk (by rw [show k = hb from q]; exact hhb)⟩⟩
  refine ⟨fun m q => ?_, fun q => absurd (.inr rfl) (sn2.none q x)⟩
  obtain ⟨h1, h2⟩ := sn2.some m q
  refine ⟨h1, fun b hb' => ?_⟩
  rw [a1, H.a.X] at hb'
  rcases List.mem_append.1 hb' with hb2 | hb2
  · have hbO := (hP b).1 hb2
    have hbX : b ∈ (S'.offer x).X := by rw [a1, H.a.X]; exact List.mem_append_left _ hb2
    have hxX' : x ∈ (S'.offer x).X := by rw [a1]; exact hxX
    rcases h2 x (.inr rfl) with q1 | q1
    · rw [← q1]; exact hsmall b hbO
    · rcases hsmall b hbO with q2 | q2
      · rw [q2]; exact .inr q1
      · exact .inr (lt_trans' I5 h1 hxX' hbX q1 q2)
  · exact h2 b (.inl hb2)
end
end Go.Proofs.Ytmcmldlnmmbbgaa
