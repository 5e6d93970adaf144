/-
  The reference's Fail.
-/
import Derived.Test.YtodldfgoieikcaaRi
namespace Go.Proofs.Ytodldfgoieikcaa
open Go.RowKit Go.Maps

/-- while they are marked: the jobs with states as they are then -/
structure Fk (w wr : World) (bs rb : Nat) (v : Value) (g : GS) (ix : Nat) (u : Value) (n : Nat) (F : List Int) (i : Nat) (R : List JB) (L : List JB) : Prop where
  r : IRow w.heap.size wr u F
  m : Rm wr bs rb v L
  l : Rel (g.fails ix (stI (F.take i))) L
  k : Kp (Rb rb v) w wr
  e : L.length = R.length
  i : ∀ y ∈ F, ∃ b ∈ L, (b.id : Int) = y
set_option maxHeartbeats 4000000 in
set_option maxRecDepth 100000 in
theorem rfail_any {w : World} {bs rb : Nat} {v : Value} {R : List JB} {g : GS} (h : Rm w bs rb v R) (hr : Rel g R) (hi : Inv g) (x : Int) :
    Calls Try.prog 24 #[.pointer (some ⟨rb, 0, none⟩), .int .i64 x] w fun e w' => ∃ (p : Option Addr) (n c : Nat) (er : Int), e = .returned (.tuple #[.slice p n c, .int .i64 er]) ∧ n ≤ 101 ∧ Hid (RouP w w' bs rb v (FailR g x) (.slice p n c) n er) := by
  obtain ⟨k, hk⟩ := fnd_all R x
  have H27 : Hid (Calls Try.prog 27 #[.pointer (some ⟨rb, 0, none⟩), .int .i64 x] w fun e w' => e = .returned (.int .i64 k) ∧ w' = w) := find_any h hk
  rcases hk with ⟨ik, b, rfl, hb, rfl⟩ | ⟨rfl, hno⟩
  · have hbm := List.mem_of_getElem? hb
    have hikl := (List.getElem?_eq_some_iff.1 hb).1
    have hg1 := h.ok.g b hbm
    have hik0 : decide ((ik : Int) < 0) = false := decide_eq_false (by omega)
    obtain ⟨gg, c9, e0⟩ := h.row (by omega)
    obtain ⟨nR, hnR⟩ : ∃ nR, nR = R.length := ⟨_, rfl⟩
    rw [← hnR] at e0 hikl
    subst e0
    have d0 := h.cell
    obtain ⟨-, -, k2⟩ := h.cells hb
    have hik' : (ik : Int) < (nR : Int) := by omega
    have HNR : Hid (nR = R.length ∧ nR ≤ 100) := ⟨hnR, by rw [hnR]; exact h.ok.len⟩
    have hn9 : nR ≤ 100 := HNR.out.2
    by_cases hst : b.st = 1
    · have hst' : ((b.st : Int) != 1) = false := by simp [hst]
      have HH : Hid (Rm w bs rb (.slice (some ⟨gg, 0, none⟩) nR c9) R ∧ Rel g R ∧ Inv g ∧ b ∈ R ∧ R[ik]? = some b ∧ b.st = 1 ∧ g.st b.id = 1 ∧ 1 ≤ b.id ∧ b.id < 101) := ⟨h, hr, hi, hbm, hb, hst, by rw [(hr.a b hbm).1]; exact hst, hg1.1, by omega⟩
      have HD0 : Hid (Dm w w bs rb (.slice (some ⟨gg, 0, none⟩) nR c9) R (.slice none 0 0) 0 [] ∧ Fl g b.id R 0 [] ∧ Below w.heap.size w w) := ⟨⟨rfl, IRow.nil _ _, h, Kp.refl _ _⟩, Fl.start _ _ _, Below.refl _ _⟩
      clear h hr hi hb hbm hg1 hnR hst
      go_enter Try.func24, Try.ntmps24
      go_upto_region 7 with (go_at_call 27; refine H27.out.mono ?_; rintro e w1 ⟨rfl, rfl⟩)
      clear H27 d0 k2 hst'
      go_wp2_with fail
      go_loopw [7, 8] (fun t7 t8 wr => ∃ (i : Nat) (p : Option Addr) (m cc : Nat) (F : List Int), t7 = .slice p m cc ∧ t8 = .int .i64 i ∧ i ≤ nR ∧ m ≤ i ∧ Hid (Dm w1 wr bs rb (.slice (some ⟨gg, 0, none⟩) nR c9) R (.slice p m cc) m F ∧ Fl g b.id R i F ∧ Below w1.heap.size w1 wr)) (fun _ t8 _ => nR - (intOf t8).toNat)
      case atStart => exact ⟨0, none, 0, 0, [], rfl, rfl, Nat.zero_le _, Nat.le_refl _, HD0.out⟩
      case round =>
        clear HD0
        obtain ⟨i, p, m, cc, F, rfl, rfl, hin, hmi, HD⟩ := hrel
        have hD := HD.out.1
        have d0 := hD.m.cell
        by_cases hi : i < nR
        · have hi' : (i : Int) < (nR : Int) := by omega
          obtain ⟨a, ha⟩ : ∃ a, R[i]? = some a := ⟨_, List.getElem?_eq_getElem (by have := HNR.out.1; omega)⟩
          have ham := List.mem_of_getElem? ha
          obtain ⟨s0, s1, s2⟩ := hD.m.cells ha
          have HA : Hid (R[i]? = some a) := ha
          have hpsa := (HH.out.2.1.a a ham).2
          have hq := hD.m.ok.q a ham
          by_cases hik : i = ik
          · have hik1 : ((i : Int) != (ik : Int)) = false := by simp [hik]
            have HN : Hid (Fl g b.id R (i + 1) F) := HD.out.2.1.no ha (fun q => q.1 (by
              have := HH.out.2.2.2.2.1
              rw [← hik, ha] at this
              cases this
              rfl))
            have HDD : Hid (Dm w1 wr bs rb (.slice (some ⟨gg, 0, none⟩) nR c9) R (.slice p m cc) m F ∧ Below w1.heap.size w1 wr) := ⟨hD, HD.out.2.2⟩
            clear hik hD HD ha ham hpsa hq HA
            go_wp2_with fail
            refine ⟨⟨i + 1, _, m, cc, F, rfl, by simp, by omega, by omega, HDD.out.1, HN.out, HDD.out.2⟩, ?_⟩
            simp [intOf]
            omega
          · have hik1 : ((i : Int) != (ik : Int)) = true := by simp; omega
            have hne : a.id ≠ b.id := fun e => hik (HH.out.1.ok.inj ha HH.out.2.2.2.2.1 e)
            by_cases has : a.st = 1
            · have has' : ((a.st : Int) == 1) = true := by simp [has]
              have H36 : Hid (Calls Try.prog 36 #[.pointer (some ⟨rb, 0, none⟩), .slice a.p a.n a.c] wr fun e w' => ∃ (p2 : Option Addr) (m2 c2 : Nat), e = .returned (.slice p2 m2 c2) ∧ Hid (Below wr.heap.size wr w' ∧ Calls Try.prog 17 #[.slice p2 m2 c2, .int .i64 b.id] w' fun e w2 => ∃ bt : Bool, e = .returned (.bool bt) ∧ w2 = w' ∧ Hid (bt = true ↔ Rch g.ps (g.ps a.id) b.id))) := by
                refine (above_any hD.m HH.out.2.1 a.p a.n a.c a.ps hq.1 (hD.m.p a ham).ai hq.2.2.2 (by omega)).mono ?_
                rintro e w' ⟨p2, m2, c2, rfl, hm2, ⟨F2, hF, hm⟩⟩
                refine ⟨p2, m2, c2, rfl, hF.b, (in_any w' p2 m2 c2 F2 b.id hF.n hF.r.ai (by omega)).mono ?_⟩
                rintro e w2 ⟨rfl, rfl⟩
                refine ⟨_, rfl, rfl, ?_⟩
                rw [inB_iff, hm]
                have hcg : ∀ i, i < 101 → stI a.ps i = g.ps a.id i := fun i hi => by rw [hpsa]; exact stI_lsI _ i hi
                constructor
                · rintro ⟨n, e, hr⟩
                  have : b.id = n := by omega
                  rw [this]
                  exact hr.congr hcg
                · intro hr
                  exact ⟨b.id, rfl, hr.congr fun i hi => (hcg i hi).symm⟩
              have HDD : Hid (Dm w1 wr bs rb (.slice (some ⟨gg, 0, none⟩) nR c9) R (.slice p m cc) m F ∧ Below w1.heap.size w1 wr ∧ a.id ≠ b.id ∧ a.st = 1 ∧ Fl g b.id R i F) := ⟨hD, HD.out.2.2, hne, has, HD.out.2.1⟩
              clear hD HD ha ham hpsa hq has hne hik
              by_cases hrc : Rch g.ps (g.ps a.id) b.id
              · have HN : Hid (Fl g b.id R (i + 1) (F ++ [(a.id : Int)])) := HDD.out.2.2.2.2.yes HH.out.1.ok HA.out ⟨HDD.out.2.2.1, HDD.out.2.2.2.1, hrc⟩
                go_upto_region 11 with (first
                  | (go_at_call 36; refine H36.out.mono ?_; rintro e w2 ⟨p2, m2, c2, rfl, h2⟩)
                  | (go_at_call 17; refine h2.out.2.mono ?_; rintro e w3 ⟨bt, rfl, rfl, h3⟩; rw [h3.out.2 hrc]))
                have hD3 : Dm w1 w3 bs rb (.slice (some ⟨gg, 0, none⟩) nR c9) R (.slice p m cc) m F := ⟨HDD.out.1.n, HDD.out.1.r.below h2.out.1, HDD.out.1.m.below h2.out.1, kp_up HDD.out.1.k (h2.out.1.mono HDD.out.1.k.size)⟩
                have HB3 : Hid (Dm w1 w3 bs rb (.slice (some ⟨gg, 0, none⟩) nR c9) R (.slice p m cc) m F ∧ Below w1.heap.size w1 w3) := ⟨hD3, HDD.out.2.1.trans (h2.out.1.mono HDD.out.2.1.size)⟩
                have d3 := hD3.m.cell
                obtain ⟨t0, -, -⟩ := hD3.m.cells HA.out
                clear d0 s0 s1 s2 h2 h3 hD3 H36 hrc
                have HO : Hid (IRow w1.heap.size (w3.alloc (.cells #[.int .i64 a.id] 2)) (.slice p m cc) F) := HB3.out.1.r.below ((Below.refl _ _).alloc (Nat.le_refl _) _)
                have HV : Hid ((w3.alloc (.cells #[.int .i64 a.id] 2)).cell? ⟨w3.heap.size, 0, none⟩ = some (.int .i64 a.id)) := by show World.cell? _ _ = _; rw [cell_of new0]; rfl
                have HB4 : Hid (Below w1.heap.size w1 (w3.alloc (.cells #[.int .i64 a.id] 2))) := HB3.out.2.alloc HB3.out.2.size _
                go_wp2_with (at_builtin; refine append_one (wr := w3.alloc (.cells #[.int .i64 a.id] 2)) (B := w1.heap.size) rfl _ _ rfl p m cc F a.id rfl HO.out HB4.out.size w3.heap.size 1 rfl HV.out (by omega) ?_; intro g3 c3 w7 R7 hB7)
                have hb7 : Below w1.heap.size w1 w7 := HB4.out.trans hB7
                refine ⟨⟨i + 1, _, m + 1, c3, F ++ [(a.id : Int)], rfl, by simp, by omega, by omega, ⟨by rw [List.length_append, ← HB3.out.1.n]; rfl, R7, HH.out.1.below hb7, Kp.of_below hb7⟩, HN.out, hb7⟩, ?_⟩
                simp [intOf]
                omega
              · have HN : Hid (Fl g b.id R (i + 1) F) := HDD.out.2.2.2.2.no HA.out fun q => hrc q.2.2
                go_wp2_with (first
                  | (go_at_call 36; refine H36.out.mono ?_; rintro e w2 ⟨p2, m2, c2, rfl, h2⟩)
                  | (go_at_call 17; refine h2.out.2.mono ?_; rintro e w3 ⟨bt, rfl, rfl, h3⟩; rw [show bt = false by cases bt; rfl; exact absurd (h3.out.1 rfl) hrc]))
                have hD3 : Dm w1 w3 bs rb (.slice (some ⟨gg, 0, none⟩) nR c9) R (.slice p m cc) m F := ⟨HDD.out.1.n, HDD.out.1.r.below h2.out.1, HDD.out.1.m.below h2.out.1, kp_up HDD.out.1.k (h2.out.1.mono HDD.out.1.k.size)⟩
                refine ⟨⟨i + 1, _, m, cc, F, rfl, by simp, by omega, by omega, hD3, HN.out, HDD.out.2.1.trans (h2.out.1.mono HDD.out.2.1.size)⟩, ?_⟩
                simp [intOf]
                omega
            · have has' : ((a.st : Int) == 1) = false := by simp; omega
              have HN : Hid (Fl g b.id R (i + 1) F) := HD.out.2.1.no ha fun q => has q.2.1
              have HDD : Hid (Dm w1 wr bs rb (.slice (some ⟨gg, 0, none⟩) nR c9) R (.slice p m cc) m F ∧ Below w1.heap.size w1 wr) := ⟨hD, HD.out.2.2⟩
              clear hD HD ha ham hpsa hq HA has hne hik
              go_wp2_with fail
              refine ⟨⟨i + 1, _, m, cc, F, rfl, by simp, by omega, by omega, HDD.out.1, HN.out, HDD.out.2⟩, ?_⟩
              simp [intOf]
              omega
        · have hi' : ¬ (i : Int) < (nR : Int) := by omega
          obtain ⟨-, -, k2⟩ := hD.m.cells HH.out.2.2.2.2.1
          have kf := hD.m.fz (ik * 3 + 2)
          have HF : Hid ((∀ j, stI F j = true ↔ Dsc g b.id j) ∧ F = lsI (stI F) ∧ m = F.length) := by
            have h1 := HD.out.2.1
            rw [show i = R.length by have := HNR.out.1; omega] at h1
            have := h1.all HH.out.2.1 HH.out.1.ok HH.out.2.2.1 HH.out.2.2.2.2.2.2.2.2 HH.out.2.2.2.2.2.2.1
            exact ⟨this.1, this.2, hD.n⟩
          have HK0 : Hid (Fk w1 (wr.setCell ⟨gg, ik * 3 + 2, none⟩ (.int .i64 3)) bs rb (.slice (some ⟨gg, 0, none⟩) nR c9) g b.id (.slice p m cc) m F 0 R (R.set ik { b with st := 3 })) := by
            obtain ⟨cur, hcur, _⟩ := hD.m.blk
            refine ⟨hD.r.setO hcur (by decide), hD.m.setst (x := 3) HH.out.2.2.2.2.1 ⟨by omega, by omega⟩, ?_, kp_in hD.k rfl, by rw [List.length_set], fun y hy => ?_⟩
            · have := HH.out.2.1.sett (x := 3) HH.out.1.ok HH.out.2.2.2.2.1
              rw [fails_zero] at this
              rw [List.take_zero, stI_nil]
              exact this
            · obtain ⟨j, a, h1, h2, h3, h4, _⟩ := (HD.out.2.1.m y).1 hy
              refine ⟨a, List.mem_of_getElem? (i := j) ?_, h3.symm⟩
              rw [List.getElem?_set, if_neg (fun e => ?_)]
              · exact h2
              · have := HH.out.2.2.2.2.1
                rw [e, h2] at this
                cases this
                exact h4 rfl
          clear hD HD
          go_upto_region 13 with fail
          clear d0 k2 kf
          generalize wr.setCell ⟨gg, ik * 3 + 2, none⟩ (.int .i64 3) = W3 at *
          go_wp2_with fail
          go_loopw [9] (fun t9 wx => ∃ (j : Nat) (L : List JB), t9 = .int .i64 j ∧ j ≤ m ∧ Hid (Fk w1 wx bs rb (.slice (some ⟨gg, 0, none⟩) nR c9) g b.id (.slice p m cc) m F j R L)) (fun t9 _ => m - (intOf t9).toNat)
          case atStart => exact ⟨0, _, rfl, Nat.zero_le _, HK0.out⟩
          case round =>
            clear HK0
            obtain ⟨j, L, rfl, hjm, HK⟩ := hrel
            have hK := HK.out
            by_cases hj : j < m
            · have hj' : (j : Int) < (m : Int) := by omega
              obtain ⟨y, hy⟩ : ∃ y, F[j]? = some y := ⟨_, List.getElem?_eq_getElem (by have := HF.out.2.2; omega)⟩
              obtain ⟨og, oc, e9⟩ := hK.r.row (by have := HF.out.2.2; omega)
              injection e9 with e9 e10 e11
              clear e10 e11
              subst e9
              have cy := hK.r.cell hy
              obtain ⟨a, ham, hay⟩ := hK.i y (List.mem_of_getElem? hy)
              obtain ⟨ia, hia⟩ := List.getElem?_of_mem ham
              have hmd : Rm wr.drew bs rb (.slice (some ⟨gg, 0, none⟩) nR c9) L := hK.m.kept (w1 := wr.drew) fun _ _ e => e
              have H27 : Hid (∀ W, W = wr.drew → Calls Try.prog 27 #[.pointer (some ⟨rb, 0, none⟩), .int .i64 y] W fun e w' => e = .returned (.int .i64 ia) ∧ w' = wr.drew) := fun W e => by rw [e]; exact find_any hmd (.inl ⟨ia, a, rfl, hia, hay⟩)
              have hial := (List.getElem?_eq_some_iff.1 hia).1
              have hia' : (ia : Int) < (nR : Int) := by have := hK.e; have := HNR.out.1; omega
              have dr := hK.m.cell
              obtain ⟨-, -, t2⟩ := hK.m.cells hia
              have tf := hK.m.fz (ia * 3 + 2)
              obtain ⟨cur, hcur, _⟩ := hK.m.blk
              have hne1 : rb ≠ gg := fun e => by
                have h1 := hK.m.c
                rw [e, hcur] at h1
                injection h1 with h1
                injection h1 with _ q
                exact absurd q (by decide)
              have hne2 : og ≠ gg := irow_ne hK.r hcur (by decide) og rfl
              have HN : Hid (Fk w1 (wr.drew.setCell ⟨gg, ia * 3 + 2, none⟩ (.int .i64 3)) bs rb (.slice (some ⟨gg, 0, none⟩) nR c9) g b.id (.slice (some ⟨og, 0, none⟩) m cc) m F (j + 1) R (L.set ia { a with st := 3 })) := by
                refine ⟨hK.r.setO hcur (by decide), hmd.setst (x := 3) hia ⟨by omega, by omega⟩, ?_, kp_in (hK.k.drew 1) rfl, by rw [List.length_set]; exact hK.e, fun z hz => ?_⟩
                · have h9 := hK.l.sett (x := 3) hK.m.ok hia
                  rw [fails_succ] at h9
                  have hy' : F[j]? = some (a.id : Int) := by rw [hay]; exact hy
                  rw [stI_succ hy'] at h9
                  exact h9
                · obtain ⟨a2, h1, h2⟩ := hK.i z hz
                  obtain ⟨i2, hi2⟩ := List.getElem?_of_mem h1
                  by_cases e : ia = i2
                  · subst e
                    rw [hia] at hi2
                    cases hi2
                    exact ⟨{ a with st := 3 }, List.mem_of_getElem? (i := ia) (by rw [List.getElem?_set, if_pos rfl, if_pos hial]), h2⟩
                  · exact ⟨a2, List.mem_of_getElem? (i := i2) (by rw [List.getElem?_set, if_neg e]; exact hi2), h2⟩
              have zz : wr.cell? ⟨rb, 0, none⟩ = some (.slice (some ⟨gg, 0, none⟩) nR c9) ∧ wr.cell? ⟨og, j, none⟩ = some (.int .i64 y) := ⟨dr, cy⟩
              have zd : wr.drew.cell? ⟨rb, 0, none⟩ = some (.slice (some ⟨gg, 0, none⟩) nR c9) ∧ wr.drew.cell? ⟨og, j, none⟩ = some (.int .i64 y) := ⟨dr, cy⟩
              have zs : (wr.drew.setCell ⟨gg, ia * 3 + 2, none⟩ (.int .i64 3)).cell? ⟨rb, 0, none⟩ = some (.slice (some ⟨gg, 0, none⟩) nR c9) ∧ (wr.drew.setCell ⟨gg, ia * 3 + 2, none⟩ (.int .i64 3)).cell? ⟨og, j, none⟩ = some (.int .i64 y) := ⟨(cell_eq (Below.heap_setCell wr.drew _ _ _ hne1)).trans dr, (cell_eq (Below.heap_setCell wr.drew _ _ _ hne2)).trans cy⟩
              have t2d : wr.drew.cell? ⟨gg, ia * 3 + 2, none⟩ = some (.int .i64 a.st) := t2
              have tfd : wr.drew.frozen? ⟨gg, ia * 3 + 2, none⟩ = false := tf
              clear hK HK hy hay ham hia hial hcur dr cy hmd
              go_wp2_with fail
              go_region_held3 (fun w' : World => w'.cell? ⟨rb, 0, none⟩ = some (.slice (some ⟨gg, 0, none⟩) nR c9) ∧ w'.cell? ⟨og, j, none⟩ = some (.int .i64 y)) (first | (with_reducible assumption) | (with_reducible exact zd) | (with_reducible exact zz) | (with_reducible exact zs) | (exact zz) | (exact zs) | go_keep) (first | (go_at_call 27; refine (H27.out _ rfl).mono ?_; rintro e w4 ⟨rfl, hw4⟩; rw [hw4]; clear hw4 w4))
              all_goals go_wp2_with fail
              all_goals
                refine ⟨⟨j + 1, _, by simp, by omega, HN.out⟩, ?_⟩
                simp [intOf]
                omega
            · have hj' : ¬ (j : Int) < (m : Int) := by omega
              have HX : Hid (m ≤ 101 ∧ RouP w1 wr bs rb (.slice (some ⟨gg, 0, none⟩) nR c9) (FailR g b.id) (.slice p m cc) m 0) := by
                have hl := hK.l
                rw [List.take_of_length_le (by have := HF.out.2.2; omega)] at hl
                have hr9 := hK.r
                have hn := HF.out.2.2
                have he := HF.out.2.1
                refine ⟨by omega, lsI (stI F), _, L, .ok b.id (stI F) rfl HH.out.2.2.2.2.2.2.2.1 HH.out.2.2.2.2.2.2.2.2 HH.out.2.2.2.2.2.2.1 HF.out.1, by rw [← he]; exact hn, by rw [← he]; exact hr9, hK.m, hl, hK.k⟩
              clear hK HK
              go_wp2_with fail
              go_ret2
              exact ⟨p, m, cc, 0, rfl, HX.out⟩
    · have hst' : ((b.st : Int) != 1) = true := by simp; omega
      have HX : Hid (RouP w w bs rb (.slice (some ⟨gg, 0, none⟩) nR c9) (FailR g b.id) (.slice none 0 0) 0 10) := ⟨[], g, R, .state b.id rfl hg1.1 (by omega) (by rw [(hr.a b hbm).1]; omega) (by rw [(hr.a b hbm).1]; exact hst), rfl, IRow.nil _ _, h, hr, Kp.refl _ _⟩
      clear h hr hi hb hbm hg1 hst
      go_enter Try.func24, Try.ntmps24
      go_wp2_with (go_at_call 27; refine H27.out.mono ?_; rintro e w1 ⟨rfl, rfl⟩)
      go_ret2
      exact ⟨none, 0, 0, 10, rfl, by omega, HX.out⟩
  · have HX : Hid (RouP w w bs rb v (FailR g x) (.slice none 0 0) 0 3) := ⟨[], g, R, .none (hr.no hno), rfl, IRow.nil _ _, h, hr, Kp.refl _ _⟩
    clear h hr hno
    go_enter Try.func24, Try.ntmps24
    go_wp2_with (go_at_call 27; refine H27.out.mono ?_; rintro e w1 ⟨rfl, rfl⟩)
    go_ret2
    exact ⟨none, 0, 0, 3, rfl, by omega, HX.out⟩
end Go.Proofs.Ytodldfgoieikcaa
