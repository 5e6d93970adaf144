/-
  The reference's Done.
-/
import Derived.Test.YtodldfgoieikcaaSa
namespace Go.Proofs.Ytodldfgoieikcaa
open Go.RowKit Go.Maps

theorem Rm.upto {w W W1 : World} {bs rb : Nat} {v : Value} {R R2 : List JB} (h0 : Rm w bs rb v R) (h : Rm W bs rb v R2) (hp : ∀ b ∈ R2, ∃ a ∈ R, a.p = b.p ∧ a.n = b.n ∧ a.c = b.c) (k : Below w.heap.size W W1) : Rm W1 bs rb v R2 := by
  refine ⟨(k.block rb h0.lt).trans h.c, ownsKeep h.r fun g e => k.block g ?_, fun b hb => (h.p b hb).keep fun g e => k.block g ?_, h.ok⟩
  · rcases h0.r.2 with ⟨e0, _⟩ | ⟨g', cap, cur, e0, _, hgg, _⟩
    · rw [e0] at e; cases e
    · rw [e0] at e
      have : g' = g := by injection e
      have := (Array.getElem?_eq_some_iff.1 hgg).1
      omega
  · obtain ⟨a, ha, e1, e2, e3⟩ := hp b hb
    exact (h0.p a ha).lt (by rw [e1, e2, e3]; exact e)
theorem upto_set {R : List JB} {k x : Nat} {b : JB} (hb : R[k]? = some b) : ∀ a ∈ R.set k { b with st := x }, ∃ a' ∈ R, a'.p = a.p ∧ a'.n = a.n ∧ a'.c = a.c := fun a ha => by
  rcases List.mem_or_eq_of_mem_set ha with q | q
  · exact ⟨a, q, rfl, rfl, rfl⟩
  · subst q; exact ⟨b, List.mem_of_getElem? hb, rfl, rfl, rfl⟩
theorem Rel.sett {g : GS} {R : List JB} {k x : Nat} {b : JB} (h : Rel g R) (hj : Jok R) (hb : R[k]? = some b) : Rel (g.sett b.id x) (R.set k { b with st := x }) := by
  have hbm := List.mem_of_getElem? hb
  refine ⟨fun a ha => ?_, fun n hn hq => ?_, h.o⟩
  · obtain ⟨j, hj'⟩ := List.getElem?_of_mem ha
    rw [List.getElem?_set] at hj'
    by_cases e : k = j
    · rw [if_pos e, if_pos (List.getElem?_eq_some_iff.1 hb).1] at hj'
      cases hj'
      unfold GS.sett
      simp only [if_pos]
      exact ⟨trivial, (h.a b hbm).2⟩
    · rw [if_neg e] at hj'
      have hne : a.id ≠ b.id := fun q => e (hj.inj hb hj' q.symm)
      unfold GS.sett
      simp only [if_neg hne]
      exact h.a a (List.mem_of_getElem? hj')
  · have h1 : ∀ a ∈ R, a.id ≠ n := fun a ha e => by
      obtain ⟨j, hj'⟩ := List.getElem?_of_mem ha
      by_cases e2 : k = j
      · subst e2
        rw [hb] at hj'
        cases hj'
        exact hq { b with st := x } (List.mem_of_getElem? (i := k) (by rw [List.getElem?_set, if_pos rfl, if_pos (List.getElem?_eq_some_iff.1 hb).1])) e
      · exact hq a (List.mem_of_getElem? (i := j) (by rw [List.getElem?_set, if_neg e2]; exact hj')) e
    have hne : n ≠ b.id := fun e => h1 b hbm e.symm
    unfold GS.sett
    simp only [if_neg hne]
    exact h.z n hn h1
/-- the jobs that are free by it -/
def dnF (g : GS) (ix : Nat) (R : List JB) : List Int := (R.filter fun b => !frB g b.id && frB (g.sett ix 2) b.id).map fun b => (b.id : Int)
theorem dnF_yes {g : GS} {ix i : Nat} {R : List JB} {b : JB} (hb : R[i]? = some b) (h : (!frB g b.id && frB (g.sett ix 2) b.id) = true) : dnF g ix (R.take (i + 1)) = dnF g ix (R.take i) ++ [(b.id : Int)] := by
  unfold dnF
  rw [List.take_add_one, hb, List.filter_append, List.map_append]
  simp only [Option.toList_some, List.filter_cons, h, if_pos, List.filter_nil, List.map_cons, List.map_nil]
theorem dnF_no {g : GS} {ix i : Nat} {R : List JB} {b : JB} (hb : R[i]? = some b) (h : (!frB g b.id && frB (g.sett ix 2) b.id) = false) : dnF g ix (R.take (i + 1)) = dnF g ix (R.take i) := by
  unfold dnF
  rw [List.take_add_one, hb, List.filter_append, List.map_append]
  simp [h]
theorem dnF_len (g : GS) (ix : Nat) (R : List JB) : (dnF g ix R).length ≤ R.length := by
  unfold dnF
  rw [List.length_map]
  exact List.length_filter_le _ _
theorem ris_map {R : List JB} (h : Jok R) (p : JB → Bool) : Ris ((R.filter p).map fun b => (b.id : Int)) := by
  unfold Ris
  rw [List.pairwise_map]
  exact (h.s.filter p).imp fun q => by omega
theorem dnF_eq {g : GS} {R : List JB} {b : JB} (h : Rel g R) (hj : Jok R) (hb : b ∈ R) (hf : frB g b.id = true) : dnF g b.id R = lsI (fdS (g.sett b.id 2) b.id) := by
  have hst := (frB_iff.1 hf).1
  have hbg := hj.g b hb
  refine ris_ext (ris_map hj _) (lsI_ris _) fun y => ?_
  unfold dnF
  rw [List.mem_map, mem_lsI]
  constructor
  · rintro ⟨a, ha, rfl⟩
    rw [List.mem_filter, Bool.and_eq_true] at ha
    obtain ⟨ha1, ha2, ha3⟩ := ha
    have hag := hj.g a ha1
    refine ⟨a.id, rfl, by omega, ?_⟩
    unfold fdS
    rw [Bool.and_eq_true]
    refine ⟨?_, ha3⟩
    obtain ⟨k1, k2⟩ := frB_iff.1 ha3
    have hne : a.id ≠ b.id := fun e => by unfold GS.sett at k1; simp [e] at k1
    have k1' : g.st a.id = 1 := by unfold GS.sett at k1; simpa [hne] using k1
    have hnf : frB g a.id = false := by simpa using ha2
    by_cases hc : g.ps a.id b.id = true
    · exact hc
    · exfalso
      have : frB g a.id = true := frB_iff.2 ⟨k1', fun m hm hp => by
        have h3 := k2 m hm hp
        have hmb : m ≠ b.id := fun e => hc (e ▸ hp)
        unfold GS.sett at h3
        simpa [hmb] using h3⟩
      rw [hnf] at this
      cases this
  · rintro ⟨j, rfl, hj1, hj2⟩
    unfold fdS at hj2
    rw [Bool.and_eq_true] at hj2
    obtain ⟨h1, h2⟩ := hj2
    obtain ⟨k1, k2⟩ := frB_iff.1 h2
    have hne : j ≠ b.id := fun e => by unfold GS.sett at k1; simp [e] at k1
    have k1' : g.st j = 1 := by unfold GS.sett at k1; simpa [hne] using k1
    have hx : ∃ a ∈ R, a.id = j := by
      by_cases hx : ∃ a ∈ R, a.id = j
      · exact hx
      · have := (h.z j hj1 fun a ha e => hx ⟨a, ha, e⟩).1
        omega
    obtain ⟨a, ha, rfl⟩ := hx
    refine ⟨a, ?_, rfl⟩
    rw [List.mem_filter, Bool.and_eq_true]
    refine ⟨ha, ?_, h2⟩
    have : frB g a.id = false := frB_no fun q => by
      have := q.2 b.id (by omega) h1
      omega
    rw [this]
    rfl
/-- what a call that answers numbers leaves of the reference -/
def RouP (w w' : World) (bs rb : Nat) (v : Value) (P : List Int → Int → GS → Prop) (u : Value) (n : Nat) (er : Int) : Prop := ∃ E g' R', P E er g' ∧ n = E.length ∧ IRow w.heap.size w' u E ∧ Rm w' bs rb v R' ∧ Rel g' R' ∧ Kp (Rb rb v) w w'
structure Dm (w wr : World) (bs rb : Nat) (v : Value) (R : List JB) (u : Value) (n : Nat) (F : List Int) : Prop where
  n : n = F.length
  r : IRow w.heap.size wr u F
  m : Rm wr bs rb v R
  k : Kp (Rb rb v) w wr
theorem kp_in {w W : World} {rb g i : Nat} {v x : Value} (k : Kp (Rb rb v) w W) (h : v.ownBlock = some g) : Kp (Rb rb v) w (W.setCell ⟨g, i, none⟩ x) := k.trans (Kp.of_set (S := Rb rb v) W _ _ (.inr h)) fun _ _ q => q
theorem kp_up {w W W1 : World} {rb : Nat} {v : Value} (k : Kp (Rb rb v) w W) (b : Below w.heap.size W W1) : Kp (Rb rb v) w W1 := ⟨b.os.trans k.os, b.tape.trans k.tape, b.output.trans k.output, Nat.le_trans k.size b.size, fun j hj hn => (b.block j hj).trans (k.block j hj hn)⟩
set_option maxHeartbeats 4000000 in
set_option maxRecDepth 100000 in
theorem rdone_any {w : World} {bs rb : Nat} {v : Value} {R : List JB} {g : GS} (h : Rm w bs rb v R) (hr : Rel g R) (x : Int) :
    Calls Try.prog 23 #[.pointer (some ⟨rb, 0, none⟩), .int .i64 x] w fun e w' => ∃ (p : Option Addr) (n c : Nat) (er : Int), e = .returned (.tuple #[.slice p n c, .int .i64 er]) ∧ n ≤ 101 ∧ Hid (RouP w w' bs rb v (DoneR g x) (.slice p n c) n er) := by
  obtain ⟨k, hk⟩ := fnd_all R x
  have H27 : Hid (Calls Try.prog 27 #[.pointer (some ⟨rb, 0, none⟩), .int .i64 x] w fun e w' => e = .returned (.int .i64 k) ∧ w' = w) := find_any h hk
  rcases hk with ⟨ik, b, rfl, hb, rfl⟩ | ⟨rfl, hno⟩
  · have hbm := List.mem_of_getElem? hb
    have hikl := (List.getElem?_eq_some_iff.1 hb).1
    have H14 : Hid (Calls Try.prog 14 #[.pointer (some ⟨rb, 0, none⟩), .int .i64 b.id] w fun e w' => e = .returned (.bool (frB g b.id)) ∧ w' = w) := by
      have := rfree_any h hr b.id
      rw [freeB_yes (hr.has h.ok hbm)] at this
      exact this
    have hg1 := h.ok.g b hbm
    have hik0 : decide ((ik : Int) < 0) = false := decide_eq_false (by omega)
    cases hf : frB g b.id
    · have HX : Hid (RouP w w bs rb v (DoneR g b.id) (.slice none 0 0) 0 10) := ⟨[], g, R, .state b.id rfl hg1.1 (by omega) (by rw [(hr.a b hbm).1]; omega) hf, rfl, IRow.nil _ _, h, hr, Kp.refl _ _⟩
      clear h hr hb hbm hg1 hikl
      go_enter Try.func23, Try.ntmps23
      go_wp2_with (first
        | (go_at_call 27; refine H27.out.mono ?_; rintro e w1 ⟨rfl, rfl⟩)
        | (go_at_call 14; refine H14.out.mono ?_; rintro e w1 ⟨rfl, rfl⟩; rw [hf]))
      go_ret2
      exact ⟨none, 0, 0, 10, rfl, by omega, HX.out⟩
    · have HH : Hid (Rm w bs rb v R ∧ Rel g R ∧ b ∈ R ∧ frB g b.id = true ∧ 1 ≤ b.id ∧ b.id < 101 ∧ R[ik]? = some b) := ⟨h, hr, hbm, hf, hg1.1, by omega, hb⟩
      have HST : Hid (b.st = 1) := by have := (frB_iff.1 hf).1; rw [(hr.a b hbm).1] at this; exact this
      obtain ⟨gg, c9, e0⟩ := h.row (by omega)
      obtain ⟨nR, hnR⟩ : ∃ nR, nR = R.length := ⟨_, rfl⟩
      rw [← hnR] at e0 hikl
      subst e0
      have hik' : (ik : Int) < (nR : Int) := by omega
      have HNR : Hid (nR = R.length ∧ nR ≤ 100) := ⟨hnR, by rw [hnR]; exact h.ok.len⟩
      have hn9 : nR ≤ 100 := HNR.out.2
      have HD0 : Hid (Dm w w bs rb (.slice (some ⟨gg, 0, none⟩) nR c9) R (.slice none 0 0) 0 []) := ⟨rfl, IRow.nil _ _, h, Kp.refl _ _⟩
      clear h hr hb hbm hg1 hnR
      go_enter Try.func23, Try.ntmps23
      go_upto_region 7 with (first
        | (go_at_call 27; refine H27.out.mono ?_; rintro e w1 ⟨rfl, rfl⟩)
        | (go_at_call 14; refine H14.out.mono ?_; rintro e w1 ⟨rfl, rfl⟩; rw [hf]))
      clear H27 H14 hf
      go_wp2_with fail
      go_loopw [7, 8] (fun t7 t8 wr => ∃ (i : Nat) (p : Option Addr) (m cc : Nat), t7 = .slice p m cc ∧ t8 = .int .i64 i ∧ i ≤ nR ∧ m ≤ i ∧ Hid (Dm w1 wr bs rb (.slice (some ⟨gg, 0, none⟩) nR c9) R (.slice p m cc) m (dnF g b.id (R.take i)))) (fun _ t8 _ => nR - (intOf t8).toNat)
      case atStart => exact ⟨0, none, 0, 0, rfl, rfl, Nat.zero_le _, Nat.le_refl _, HD0.out⟩
      case round =>
        clear HD0
        obtain ⟨i, p, m, cc, rfl, rfl, hin, hmi, HD⟩ := hrel
        have hD := HD.out
        have d0 := hD.m.cell
        by_cases hi : i < nR
        · have hi' : (i : Int) < (nR : Int) := by omega
          obtain ⟨a, ha⟩ : ∃ a, R[i]? = some a := ⟨_, List.getElem?_eq_getElem (by have := HNR.out.1; omega)⟩
          have ham := List.mem_of_getElem? ha
          obtain ⟨s0, -, -⟩ := hD.m.cells ha
          obtain ⟨-, -, k2⟩ := hD.m.cells HH.out.2.2.2.2.2.2
          have kf := hD.m.fz (ik * 3 + 2)
          have HW1 : Hid (Calls Try.prog 14 #[.pointer (some ⟨rb, 0, none⟩), .int .i64 a.id] wr fun e w' => e = .returned (.bool (frB g a.id)) ∧ w' = wr) := by
            have := rfree_any hD.m HH.out.2.1 a.id
            rw [freeB_yes (HH.out.2.1.has hD.m.ok ham)] at this
            exact this
          have hM2 : Rm (wr.setCell ⟨gg, ik * 3 + 2, none⟩ (.int .i64 2)) bs rb (.slice (some ⟨gg, 0, none⟩) nR c9) (R.set ik { b with st := 2 }) := hD.m.setst (x := 2) HH.out.2.2.2.2.2.2 ⟨by omega, by omega⟩
          have hR2 : Rel (g.sett b.id 2) (R.set ik { b with st := 2 }) := HH.out.2.1.sett HH.out.1.ok HH.out.2.2.2.2.2.2
          obtain ⟨a2, ha2, hid2⟩ : ∃ a2, (R.set ik { b with st := 2 })[i]? = some a2 ∧ a2.id = a.id := by
            rw [List.getElem?_set]
            by_cases e : ik = i
            · subst e
              rw [if_pos rfl, if_pos (List.getElem?_eq_some_iff.1 ha).1]
              have := HH.out.2.2.2.2.2.2
              rw [ha] at this
              cases this
              exact ⟨_, rfl, rfl⟩
            · rw [if_neg e]; exact ⟨a, ha, rfl⟩
          have HW2 : Hid (Calls Try.prog 14 #[.pointer (some ⟨rb, 0, none⟩), .int .i64 a.id] (wr.setCell ⟨gg, ik * 3 + 2, none⟩ (.int .i64 2)) fun e w' => e = .returned (.bool (frB (g.sett b.id 2) a.id)) ∧ w' = wr.setCell ⟨gg, ik * 3 + 2, none⟩ (.int .i64 2)) := by
            have := rfree_any hM2 hR2 a.id
            rw [← hid2, freeB_yes (hR2.has hM2.ok (List.mem_of_getElem? ha2)), hid2] at this
            exact this
          have e0 := hM2.cell
          obtain ⟨s2, -, -⟩ := hM2.cells ha2
          rw [hid2] at s2
          obtain ⟨z, hz, hzst⟩ : ∃ z, (R.set ik { b with st := 2 })[ik]? = some z ∧ z.st = 2 := ⟨_, by rw [List.getElem?_set, if_pos rfl, if_pos (List.getElem?_eq_some_iff.1 HH.out.2.2.2.2.2.2).1], rfl⟩
          obtain ⟨-, -, kk2⟩ := hM2.cells hz
          rw [hzst] at kk2
          have kkf := hM2.fz (ik * 3 + 2)
          obtain ⟨cur, hcur⟩ := (hD.m.blk : ∃ cur, _)
          have HR2 : Hid (IRow w1.heap.size (wr.setCell ⟨gg, ik * 3 + 2, none⟩ (.int .i64 2)) (.slice p m cc) (dnF g b.id (R.take i)) ∧ Rm (wr.setCell ⟨gg, ik * 3 + 2, none⟩ (.int .i64 2)) bs rb (.slice (some ⟨gg, 0, none⟩) nR c9) (R.set ik { b with st := 2 }) ∧ Kp (Rb rb (.slice (some ⟨gg, 0, none⟩) nR c9)) w1 (wr.setCell ⟨gg, ik * 3 + 2, none⟩ (.int .i64 2)) ∧ m = (dnF g b.id (R.take i)).length) := ⟨hD.r.setO hcur.1 (by decide), hM2, kp_in hD.k rfl, hD.n⟩
          have hback : ∀ W, Rm W bs rb (.slice (some ⟨gg, 0, none⟩) nR c9) (R.set ik { b with st := 2 }) → Rm (W.setCell ⟨gg, ik * 3 + 2, none⟩ (.int .i64 1)) bs rb (.slice (some ⟨gg, 0, none⟩) nR c9) R := fun W hW => by
            have h9 := hW.setst (x := 1) hz ⟨by omega, by omega⟩
            rw [List.set_set] at h9
            have hb9 := HH.out.2.2.2.2.2.2
            have e9 : z = { b with st := 2 } := by
              rw [List.getElem?_set, if_pos rfl, if_pos (List.getElem?_eq_some_iff.1 hb9).1] at hz
              cases hz
              rfl
            rw [e9] at h9
            have e10 : ({ ({ b with st := 2 } : JB) with st := 1 } : JB) = b := by
              have := HST.out
              cases b
              simp at this
              subst this
              rfl
            rw [e10, set_same hb9] at h9
            exact h9
          have HBK : Hid (∀ W, Rm W bs rb (.slice (some ⟨gg, 0, none⟩) nR c9) (R.set ik { b with st := 2 }) → Rm (W.setCell ⟨gg, ik * 3 + 2, none⟩ (.int .i64 1)) bs rb (.slice (some ⟨gg, 0, none⟩) nR c9) R) := hback
          have HRI : Hid (R[i]? = some a ∧ R[ik]? = some b) := ⟨ha, HH.out.2.2.2.2.2.2⟩
          have hrbl : rb < wr.heap.size := hD.m.lt
          have hggl : gg < wr.heap.size := (Array.getElem?_eq_some_iff.1 hcur.1).1
          clear hback hD HD hM2 hR2 ha2 hid2 hz hzst hcur ha ham
          by_cases hc : (!frB g a.id && frB (g.sett b.id 2) a.id) = true
          · have hc1 : frB g a.id = false := by simp at hc; exact hc.1
            have hc2 : frB (g.sett b.id 2) a.id = true := by simp at hc; exact hc.2
            have HEQ : Hid (dnF g b.id (R.take (i + 1)) = dnF g b.id (R.take i) ++ [(a.id : Int)]) := dnF_yes HRI.out.1 hc
            clear hc
            go_upto_region 13 with (go_at_call 14; first | (refine HW1.out.mono ?_; rintro e w5 ⟨rfl, rfl⟩; rw [hc1]) | (refine HW2.out.mono ?_; rintro e w6 ⟨rfl, hw6⟩; rw [hw6, hc2]; clear hw6 w6))
            clear HW1 HW2 d0 s0 k2 kf hc1 hc2 hrbl hggl
            generalize w5.setCell ⟨gg, ik * 3 + 2, none⟩ (.int .i64 2) = W2 at *
            have HO : Hid (IRow w1.heap.size (W2.alloc (.cells #[.int .i64 a.id] 2)) (.slice p m cc) (dnF g b.id (R.take i))) := HR2.out.1.below ((Below.refl _ _).alloc (Nat.le_refl _) _)
            have HV : Hid ((W2.alloc (.cells #[.int .i64 a.id] 2)).cell? ⟨W2.heap.size, 0, none⟩ = some (.int .i64 a.id)) := by show World.cell? _ _ = _; rw [cell_of new0]; rfl
            have HB3 : Hid (Below w1.heap.size W2 (W2.alloc (.cells #[.int .i64 a.id] 2)) ∧ w1.heap.size ≤ (W2.alloc (.cells #[.int .i64 a.id] 2)).heap.size) := ⟨(Below.refl _ _).alloc HR2.out.2.2.1.size _, by have := HR2.out.2.2.1.size; simp; omega⟩
            go_upto_region 14 with (at_builtin; refine append_one (wr := W2.alloc (.cells #[.int .i64 a.id] 2)) (B := w1.heap.size) rfl _ _ rfl p m cc (dnF g b.id (R.take i)) a.id rfl HO.out HB3.out.2 W2.heap.size 1 rfl HV.out (by omega) ?_; intro g3 c3 w7 R7 hB7)
            have hb7 : Below w1.heap.size W2 w7 := HB3.out.1.trans hB7
            have hM7 := HH.out.1.upto HR2.out.2.1 (upto_set HRI.out.2) hb7
            clear e0 s2 kk2 kkf
            have e7 := hM7.cell
            obtain ⟨z7, hz7, hzst7⟩ : ∃ z, (R.set ik { b with st := 2 })[ik]? = some z ∧ z.st = 2 := ⟨_, by rw [List.getElem?_set, if_pos rfl, if_pos (List.getElem?_eq_some_iff.1 HRI.out.2).1], rfl⟩
            obtain ⟨-, -, kk7⟩ := hM7.cells hz7
            rw [hzst7] at kk7
            have kf7 := hM7.fz (ik * 3 + 2)
            obtain ⟨cur7, hcur7, _⟩ := hM7.blk
            have HN : Hid (Dm w1 (w7.setCell ⟨gg, ik * 3 + 2, none⟩ (.int .i64 1)) bs rb (.slice (some ⟨gg, 0, none⟩) nR c9) R (.slice (some ⟨g3, 0, none⟩) (m + 1) c3) (m + 1) (dnF g b.id (R.take (i + 1)))) := by
              refine ⟨?_, ?_, HBK.out _ hM7, kp_in (kp_up HR2.out.2.2.1 hb7) rfl⟩
              · rw [HEQ.out, List.length_append, ← HR2.out.2.2.2]; rfl
              · rw [HEQ.out]; exact R7.setO hcur7 (by decide)
            clear hM7 hz7 hzst7 hcur7 R7 hB7 hb7 HO HV HB3
            go_wp2_with fail
            refine ⟨⟨i + 1, _, m + 1, c3, rfl, by simp, by omega, by omega, HN.out⟩, ?_⟩
            simp [intOf]
            omega
          · have hc' : (!frB g a.id && frB (g.sett b.id 2) a.id) = false := by simpa using hc
            have HEQ : Hid (dnF g b.id (R.take (i + 1)) = dnF g b.id (R.take i)) := dnF_no HRI.out.1 hc'
            have HN : Hid (Dm w1 ((wr.setCell ⟨gg, ik * 3 + 2, none⟩ (.int .i64 2)).setCell ⟨gg, ik * 3 + 2, none⟩ (.int .i64 1)) bs rb (.slice (some ⟨gg, 0, none⟩) nR c9) R (.slice p m cc) m (dnF g b.id (R.take (i + 1)))) := by
              obtain ⟨cur2, hcur2, _⟩ := HR2.out.2.1.blk
              rw [HEQ.out]
              exact ⟨HR2.out.2.2.2, HR2.out.1.setO hcur2 (by decide), HBK.out _ HR2.out.2.1, kp_in HR2.out.2.2.1 rfl⟩
            clear hc
            cases hc1 : frB g a.id
            · have hc2 : frB (g.sett b.id 2) a.id = false := by rw [hc1] at hc'; simpa using hc'
              clear hc'
              go_wp2_with (go_at_call 14; first | (refine HW1.out.mono ?_; rintro e w5 ⟨rfl, rfl⟩; rw [hc1]) | (refine HW2.out.mono ?_; rintro e w6 ⟨rfl, hw6⟩; rw [hw6, hc2]; clear hw6 w6))
              refine ⟨⟨i + 1, _, m, cc, rfl, by simp, by omega, by omega, HN.out⟩, ?_⟩
              simp [intOf]
              omega
            · clear hc'
              go_wp2_with (go_at_call 14; refine HW1.out.mono ?_; rintro e w5 ⟨rfl, rfl⟩; rw [hc1])
              refine ⟨⟨i + 1, _, m, cc, rfl, by simp, by omega, by omega, HN.out⟩, ?_⟩
              simp [intOf]
              omega
        · have hi' : ¬ (i : Int) < (nR : Int) := by omega
          obtain ⟨-, -, k2⟩ := hD.m.cells HH.out.2.2.2.2.2.2
          have kf := hD.m.fz (ik * 3 + 2)
          have HX : Hid (m ≤ 101 ∧ RouP w1 (wr.setCell ⟨gg, ik * 3 + 2, none⟩ (.int .i64 2)) bs rb (.slice (some ⟨gg, 0, none⟩) nR c9) (DoneR g b.id) (.slice p m cc) m 0) := by
            have hM2 : Rm (wr.setCell ⟨gg, ik * 3 + 2, none⟩ (.int .i64 2)) bs rb (.slice (some ⟨gg, 0, none⟩) nR c9) (R.set ik { b with st := 2 }) := hD.m.setst (x := 2) HH.out.2.2.2.2.2.2 ⟨by omega, by omega⟩
            have hR2 : Rel (g.sett b.id 2) (R.set ik { b with st := 2 }) := HH.out.2.1.sett HH.out.1.ok HH.out.2.2.2.2.2.2
            obtain ⟨cur, hcur, _⟩ := hD.m.blk
            have e9 : dnF g b.id (R.take i) = lsI (fdS (g.sett b.id 2) b.id) := by
              rw [List.take_of_length_le (by have := HNR.out.1; omega)]
              exact dnF_eq HH.out.2.1 HH.out.1.ok HH.out.2.2.1 HH.out.2.2.2.1
            have hn := hD.n
            have hr9 := hD.r.setO (i := ik * 3 + 2) (u := .int .i64 2) hcur (by decide)
            rw [e9] at hn hr9
            exact ⟨by omega, _, _, _, .ok b.id rfl HH.out.2.2.2.2.1 HH.out.2.2.2.2.2.1 HH.out.2.2.2.1, hn, hr9, hM2, hR2, kp_in hD.k rfl⟩
          clear hD HD
          go_wp2_with fail
          go_ret2
          exact ⟨p, m, cc, 0, rfl, HX.out⟩
  · have HX : Hid (RouP w w bs rb v (DoneR g x) (.slice none 0 0) 0 3) := ⟨[], g, R, .none (hr.no hno), rfl, IRow.nil _ _, h, hr, Kp.refl _ _⟩
    clear h hr hno
    go_enter Try.func23, Try.ntmps23
    go_wp2_with (go_at_call 27; refine H27.out.mono ?_; rintro e w1 ⟨rfl, rfl⟩)
    go_ret2
    exact ⟨none, 0, 0, 3, rfl, by omega, HX.out⟩
end Go.Proofs.Ytodldfgoieikcaa
