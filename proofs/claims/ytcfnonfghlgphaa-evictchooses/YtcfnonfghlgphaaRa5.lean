/-
  The document's Choose: all give back, one behind the other.
-/
import Derived.Test.YtcfnonfghlgphaaRa4
namespace Go.Proofs.Ytcfnonfghlgphaa
open Go.RowKit Go.Maps Go.WideMaps Go.Sort

theorem moved_vi (v : Vi) (S : List Sl) (r : Option Addr) (m d : Nat) (w : World) (o : v.ok w) (h : SlS w r m d S) (m1 : m ≤ 1000000) : Calls Try.prog 29 #[.slice v.qT v.nT v.cT, .slice v.qN v.nN v.cN, .slice r m d, .bool true] w (GvO w v S) := by
  refine (rmovA v.T v.N S v.qT v.qN r v.nT v.cT v.nN v.cN m d w (h.arg o) o.n o.ln o.mt m1 o.mn).mono ?_
  rintro e w' ⟨p, k, c, rfl, hk, h1⟩
  refine ⟨p, k, c, rfl, h1.out.2, fun h0 => ⟨⟨h1.out.1.ga slC_len, short_nm h.h (movR_nm h0), fun e => by subst e; exact h1.out.1.nilc, hk⟩, fun g e => ?_⟩⟩
  rcases h1.out.1.2 with ⟨e1, _⟩ | ⟨g', cap, cur, e1, hb, _⟩
  · cases e1; cases e
  · cases e1; cases e; exact ⟨hb, h1.out.1.lt rfl⟩
theorem rfit_o (T : List V) (S : List Sl) (q r : Option Addr) (n c m d : Nat) (w : World) (hT : TA w q T) (hn : T.length = n) (hS : SlS w r m d S) (n1 : n ≤ 1000000) (m1 : m ≤ 1000000) : Calls Try.prog 28 #[.slice q n c, .slice r m d] w (FtO w T S) := by
  refine (rfit_any T S q r n c m d w hT hS.s hS.h hS.d hn hS.m n1 m1).mono ?_
  rintro e w' ⟨p, k, c, rfl, h1, h2, h3⟩
  exact ⟨p, k, c, rfl, h1, h3.out⟩
/-- in their turns those who are below come first -/
theorem tw_at {p : Int} : ∀ {L : List Vi} {k : Nat} {u : Vi}, k ≤ (L.takeWhile fun v => decide (v.p < p)).length → L[k]? = some u → (u.p < p → (L.takeWhile fun v => decide (v.p < p))[k]? = some u) ∧ (¬ u.p < p → k = (L.takeWhile fun v => decide (v.p < p)).length)
  | [], k, u, _, hu => by simp at hu
  | x :: r, 0, u, _, hu => by
    have e : x = u := by simpa using hu
    subst e
    constructor
    · intro h
      rw [List.takeWhile_cons_of_pos (by simpa using h)]; rfl
    · intro h
      rw [List.takeWhile_cons_of_neg (by simpa using h)]; rfl
  | x :: r, k + 1, u, hk, hu => by
    by_cases h : x.p < p
    · rw [List.takeWhile_cons_of_pos (by simpa using h)] at hk ⊢
      have ih := tw_at (L := r) (k := k) (u := u) (by simpa using hk) (by simpa using hu)
      refine ⟨fun q => by simpa using ih.1 q, fun q => by simpa using ih.2 q⟩
    · rw [List.takeWhile_cons_of_neg (by simpa using h)] at hk
      simp at hk
/-- while they go, by the document -/
structure RcS (w2 wr : World) (T : List V) (R : List Vi) (S : List Sl) (k : Nat) (r : Option Addr) (m d : Nat) (pn : Option Addr) (kn en : Nat) (v : Value) : Prop where
  ss : SlS wr r m d (slA (R.take k) S)
  na : NA wr pn (fitR T (slA (R.take k) S)).2
  ln : (fitR T (slA (R.take k) S)).2.length = kn
  er : (fitR T (slA (R.take k) S)).1 = en
  pr : ∀ i, i < k → (fitR T (slA (R.take i) S)).1 ≠ 0
  j : IR w2.heap.size wr v ((R.take k).map Vi.j)
  b : Below w2.heap.size w2 wr
theorem rc_app {w3 w6 w7 : World} {v7 : Value} {pj p2 : Option Addr} {k cj m c2 N : Nat} {J J7 : List Int} {S1 : List Sl} {o : Obj} (i6 : IR w3.heap.size w6 (.slice pj k cj) J) (b6 : Below w3.heap.size w3 w6) (s6 : SlS w6 p2 m c2 S1) (n6 : ∀ g, p2.map Addr.block = some g → N ≤ g ∧ g < w6.heap.size) (ho : ∀ g, (Value.slice pj k cj).ownBlock = some g → g < N)
    (i7 : IR w3.heap.size w7 v7 J7) (g7 : (w6.alloc o).grownBy w7 (Value.slice pj k cj).ownBlock) (hn : v7.ownBlock = (Value.slice pj k cj).ownBlock ∨ v7.ownBlock = some (w6.alloc o).heap.size) :
    SlS w7 p2 m c2 S1 ∧ Below w3.heap.size w3 w7 ∧ (∀ g, p2.map Addr.block = some g → 0 < m → v7.ownBlock ≠ some g) ∧ IR w3.heap.size w7 v7 J7 := by
  refine ⟨s6.keep fun g e l => ?_, (b6.alloc b6.size _).trans (below_grown g7 (by have := b6.size; simp; omega) fun g e => i6.ge e), fun g e l q => ?_, i7⟩
  · obtain ⟨h1, h2⟩ := n6 g e
    refine (g7.block g (by simp; omega) fun q => ?_).trans (Below.heap_alloc _ _ g h2)
    have := ho g q.symm
    omega
  · obtain ⟨h1, h2⟩ := n6 g e
    rcases hn with h | h
    · have := ho g (h ▸ q)
      omega
    · rw [h] at q
      have h3 := Option.some.inj q
      rw [World.size_alloc] at h3
      omega
set_option maxHeartbeats 8000000 in
set_option maxRecDepth 100000 in
theorem rchoose_any (p : Int) (T : List V) (L : List Vi) (S : List Sl) (q qv r : Option Addr) (n c nv cv m d : Nat) (w : World) (hA : ChA w q n c T qv nv L r m d S) (hnv : nv ≤ 1000) :
    Calls Try.prog 16 #[.slice q n c, .int .i64 p, .slice qv nv cv, .slice r m d] w (ChoP w T p L S) := by
  have H28 : Hid (Calls Try.prog 28 #[.slice q n c, .slice r m d] w (FtO w T S)) := rfit_o T S q r n c m d w hA.t hA.tn hA.s hA.n1 hA.m1
  have HA : Hid (ChA w q n c T qv nv L r m d S) := hA
  clear hA
  by_cases h1 : (fitR T S).1 = 0 ∨ (fitR T S).1 = 6
  · have H24 : Hid (∀ w1, Below w.heap.size w w1 → Calls Try.prog 24 #[.slice qv nv cv] w1 fun e w' => e = .returned (.bool (decide (¬ Uj L))) ∧ Hid (Below w1.heap.size w1 w')) := fun w1 b => twice_any w1 qv nv cv L HA.out.vl HA.out.l1 (HA.out.v.below b)
    have HE : Hid ((fitR T S).1 = 0 ∨ (fitR T S).1 = 6) := h1
    by_cases h2 : Uj L
    · rw [decide_eq_false (fun h => h h2)] at H24
      have HU : Hid (Uj L) := h2
      clear h1 h2
      go_enter Try.func16, Try.ntmps16
      go_upto_region 2 with (go_at_call 28; refine H28.out.mono ?_; rintro e w1 ⟨pn, kn, cn, rfl, f1⟩)
      have B1 : Hid (Below w.heap.size w w1) := f1.out.2.2
      have F1 : Hid ((fitR T S).2.length = kn ∧ NA w1 pn (fitR T S).2) := ⟨f1.out.1, f1.out.2.1⟩
      obtain ⟨en, hen⟩ : ∃ en, (fitR T S).1 = en := ⟨_, rfl⟩
      have HEN : Hid ((fitR T S).1 = en ∧ (en = 0 ∨ en = 6)) := ⟨hen, by have := HE.out; rw [hen] at this; exact this⟩
      rw [hen]
      clear hen f1 H28
      rcases HEN.out.2 with rfl | rfl
      all_goals
        go_upto_region 6 with (go_at_call 24; refine (H24.out _ B1.out).mono ?_; rintro e w2 ⟨rfl, f2⟩)
        have B2 : Hid (Below w.heap.size w w2 ∧ Below w1.heap.size w1 w2) := ⟨below_from B1.out f2.out B1.out.size, f2.out⟩
        clear f2 H24
        have HA2 : Hid (ChA w2 q n c T qv nv L r m d S) := HA.out.below B2.out.1
        go_wp2_with fail
        go_loopw [13, 14] (fun x y wr => ∃ (i : Nat) (r' : Option Addr) (d' : Nat), x = .slice r' m d' ∧ y = .int .i64 i ∧ i ≤ nv ∧ Hid (∃ S', gvG (L.take i) S = (0, S') ∧ SlS wr r' m d' S' ∧ Below w2.heap.size w2 wr)) (fun _ y _ => nv - (intOf y).toNat)
        case atStart => exact ⟨0, r, d, rfl, rfl, Nat.zero_le _, S, rfl, HA2.out.s, Below.refl _ _⟩
        case round =>
          obtain ⟨i, r', d', rfl, rfl, hi, HT⟩ := hrel
          by_cases h0 : i = nv
          · subst h0
            have HG : Hid (chk T S = 0 ∧ Gv L S ∧ allS S = true) := by
              obtain ⟨S', h1, h2, h3⟩ := HT.out
              rw [List.take_of_length_le (Nat.le_of_eq HA.out.vl)] at h1
              have hS := (chk_ok (fitR_chk HE.out)).2.1
              exact ⟨fitR_chk HE.out, all_give L S hS (by rw [h1]), hS⟩
            have HH : Hid (chR T p L S = goA T (blw p (srtV L)) S) := chR_some HE.out HU.out (by rw [give_all L S HG.out.2.2 HG.out.2.1])
            have B3 : Hid (Below w.heap.size w wr ∧ Below w1.heap.size w1 wr) := by
              obtain ⟨S', h1, h2, h3⟩ := HT.out
              exact ⟨below_from B2.out.1 h3 B2.out.1.size, below_from B2.out.2 h3 B2.out.2.size⟩
            have H25 : Hid (Calls Try.prog 25 #[.slice qv i cv] wr fun e w' => ∃ p c', e = .returned (.slice p i c') ∧ Hid (WR wr.heap.size w' (.slice p i c') (srtV L) ∧ Below wr.heap.size wr w')) := sorted_any wr qv i cv L HA.out.vl hnv (HA.out.v.below B3.out.1) HU.out
            have HF : Hid (∀ k, (fitR T (slA ((blw p (srtV L)).take k) S)).1 = 0 ∨ (fitR T (slA ((blw p (srtV L)).take k) S)).1 = 6) := fun k => go_fit HG.out.1 HG.out.2.1 k
            have HP : Hid (∀ k u, (blw p (srtV L))[k]? = some u → movR addR u.T u.N (slA ((blw p (srtV L)).take k) S) = (0, slA ((blw p (srtV L)).take (k + 1)) S)) := fun k u hu => go_step HG.out.2.2 HG.out.2.1 hu
            have HTW : Hid (∀ k u, k ≤ (blw p (srtV L)).length → (srtV L)[k]? = some u → (u.p < p → (blw p (srtV L))[k]? = some u) ∧ (¬ u.p < p → k = (blw p (srtV L)).length)) := fun k u hk hu => by
              rw [blw_take p (srtV_tu L HU.out)] at hk ⊢
              exact tw_at hk hu
            have HRL : Hid ((blw p (srtV L)).length ≤ i ∧ (srtV L).length = i) := by
              have h1 := blw_le p (srtV L)
              have h2 := (srtV_perm L).length_eq
              have := HA.out.vl
              exact ⟨by omega, by omega⟩
            have HO : Hid (∀ u ∈ srtV L, u.ok w) := fun u hu => HA.out.o u ((srtV_perm L).mem_iff.1 hu)
            clear HT HA2 HE HU HG hi
            generalize blw p (srtV L) = R at *
            go_upto_region 15 with (go_at_call 25; refine H25.out.mono ?_; rintro e w3 ⟨ps, cs, rfl, h3⟩)
            have B4 : Hid (Below w.heap.size w w3 ∧ VA w3 ps (srtV L)) := ⟨below_from B3.out.1 h3.out.2 B3.out.1.size, h3.out.1.ga viC_len⟩
            have R0 : Hid (∃ e0, e0 = (fitR T S).1 ∧ RcS w3 w3 T R S 0 r m d pn kn e0 (.slice none 0 0) ∧ ∀ g, r.map Addr.block = some g → 0 < m → (Value.slice none 0 0).ownBlock ≠ some g) := by
              refine ⟨_, rfl, ⟨?_, ?_, ?_, by rw [List.take_zero, slA_nil], fun j hj => absurd hj (Nat.not_lt_zero _), GRow.nil _ _ _ _ _, Below.refl _ _⟩, fun g _ _ e => by cases e⟩
              · rw [List.take_zero, slA_nil]; exact HA.out.s.below B4.out.1
              · rw [List.take_zero, slA_nil]; exact F1.out.2.below (below_from B3.out.2 h3.out.2 B3.out.2.size)
              · rw [List.take_zero, slA_nil]; exact F1.out.1
            rw [HEN.out.1] at R0
            obtain ⟨e0, he0, R1⟩ := R0.out
            subst he0
            have R2 : Hid (RcS w3 w3 T R S 0 r m d pn kn _ (.slice none 0 0) ∧ ∀ g, r.map Addr.block = some g → 0 < m → (Value.slice none 0 0).ownBlock ≠ some g) := R1
            clear R0 R1 H25 h3 HEN F1 B3
            go_wp2_with fail
            go_loopw [3, 11, 12, 18, 19] (fun x3 x11 x12 x18 x19 wr => ∃ (k : Nat) (r' : Option Addr) (d' : Nat) (pn : Option Addr) (kn cn en : Nat) (pj : Option Addr) (cj : Nat), x3 = .slice r' m d' ∧ x11 = .slice pn kn cn ∧ x12 = .int .i64 (en : Nat) ∧ x18 = .slice pj k cj ∧ x19 = .int .i64 k ∧ k ≤ R.length ∧ Hid (RcS w3 wr T R S k r' m d' pn kn en (.slice pj k cj) ∧ ∀ g, r'.map Addr.block = some g → 0 < m → (Value.slice pj k cj).ownBlock ≠ some g)) (fun _ _ _ _ x19 _ => R.length - (intOf x19).toNat)
            case atStart => exact ⟨0, r, d, pn, kn, cn, _, none, 0, rfl, rfl, rfl, rfl, rfl, Nat.zero_le _, R2.out⟩
            case round =>
              clear R2
              obtain ⟨k, r', d', pn, kn, cn, en, pj, cj, rfl, rfl, rfl, rfl, rfl, hk, HC⟩ := hrel
              have hE := HF.out k
              rw [HC.out.1.er] at hE
              rcases hE with rfl | rfl
              · have HD : Hid (chR T p L S = (0, R.take k, (fitR T (slA (R.take k) S)).2)) := HH.out.trans (goA_some (goN_some hk HC.out.1.er HC.out.1.pr))
                have HX : Hid (ChoP w T p L S (.returned (.tuple #[.slice pj k cj, .slice pn kn cn, .int .i64 0])) wr) := by
                  unfold ChoP
                  rw [HD.out]
                  exact ⟨pj, k, cj, pn, kn, cn, rfl, by show (R.take k).length = k; rw [List.length_take]; omega, HC.out.1.ln, ir_mono HC.out.1.j B4.out.1.size, HC.out.1.na, below_from B4.out.1 HC.out.1.b B4.out.1.size⟩
                clear HC HD
                by_cases hkn : (k : Int) < (i : Int)
                · go_wp2_with fail
                  go_ret3
                  exact HX.out
                · go_wp2_with fail
                  go_ret3
                  exact HX.out
              · have BX : Hid (Below w.heap.size w wr) := below_from B4.out.1 HC.out.1.b B4.out.1.size
                by_cases hkR : k = R.length
                · have HD : Hid (chR T p L S = (6, [], [])) := HH.out.trans (goA_none (goN_none fun j hj => by
                    by_cases q : j = k
                    · rw [q, HC.out.1.er]; decide
                    · exact HC.out.1.pr j (by omega)))
                  by_cases hkn : k < i
                  · have hkn' : (k : Int) < (i : Int) := by omega
                    obtain ⟨u, hu⟩ : ∃ u, (srtV L)[k]? = some u := ⟨(srtV L)[k]'(by have := HRL.out.2; omega), List.getElem?_eq_getElem _⟩
                    obtain ⟨g, o, rfl, c0, c1, _⟩ := VA.at (B4.out.2.below HC.out.1.b) hu
                    have hup : ¬ u.p < p := fun h => by
                      have h1 := (HTW.out k u hk hu).1 h
                      have := (List.getElem?_eq_some_iff.1 h1).1
                      omega
                    have hup2 : decide (u.p < p) = false := decide_eq_false hup
                    clear hu HC hkR hkn
                    go_wp2_with fail
                    go_ret3
                    exact ChoP.bad HD.out BX.out
                  · have hkn' : ¬ (k : Int) < (i : Int) := by omega
                    clear HC hkn hkR
                    go_wp2_with fail
                    go_ret3
                    exact ChoP.bad HD.out BX.out
                · have hkn : k < i := by have := HRL.out.1; omega
                  have hkn' : (k : Int) < (i : Int) := by omega
                  obtain ⟨u, hu⟩ : ∃ u, (srtV L)[k]? = some u := ⟨(srtV L)[k]'(by have := HRL.out.2; omega), List.getElem?_eq_getElem _⟩
                  obtain ⟨g, o, rfl, c0, c1, c2, c3, c4⟩ := VA.at (B4.out.2.below HC.out.1.b) hu
                  have hgl := cell_lt c0
                  simp only at hgl
                  have hup : u.p < p := by
                    by_cases h : u.p < p
                    · exact h
                    · exact absurd ((HTW.out k u hk hu).2 (by omega)) hkR
                  have hup2 : decide (u.p < p) = true := decide_eq_true hup
                  have huR := (HTW.out k u hk hu).1 hup
                  have huo := (HO.out u (List.mem_of_getElem? hu)).below BX.out
                  have hmv := HP.out k u huR
                  have HJ : Hid ((R.take (k + 1)).map Vi.j = (R.take k).map Vi.j ++ [u.j]) := by show _ = _; rw [take_next huR, List.map_append]; rfl
                  have HPR : Hid (∀ j, j < k + 1 → (fitR T (slA (R.take j) S)).1 ≠ 0) := fun j hj => by
                    by_cases q : j = k
                    · rw [q, HC.out.1.er]; decide
                    · exact HC.out.1.pr j (by omega)
                  have hk6 : k ≤ 1000000 := by omega
                  have hkl : Hid (k + 1 ≤ R.length) := by show _ ≤ _; omega
                  have HCW : Hid (∀ W, Below wr.heap.size wr W → IR w3.heap.size W (.slice pj k cj) ((R.take k).map Vi.j) ∧ Below w3.heap.size w3 W) := fun W b => ⟨HC.out.1.j.below b, below_from HC.out.1.b b HC.out.1.b.size⟩
                  have HOB : Hid (∀ g, (Value.slice pj k cj).ownBlock = some g → g < wr.heap.size) := fun g e => HC.out.1.j.lt e
                  have H29 : Hid (∀ j, Calls Try.prog 29 #[.slice u.qT u.nT u.cT, .slice u.qN u.nN u.cN, .slice r' m d', .bool true] (wr.drewN j) fun e w' => ∃ p2 c2 e2, e = .returned (.tuple #[.slice p2 m c2, .int .i64 e2]) ∧ Hid (Below wr.heap.size wr w' ∧ SlS w' p2 m c2 (slA (R.take (k + 1)) S) ∧ ∀ g, p2.map Addr.block = some g → wr.heap.size ≤ g ∧ g < w'.heap.size)) := fun j => by
                    have bj : Below wr.heap.size wr (wr.drewN j) := below_drewN (Below.refl _ _) j
                    refine (moved_vi u (slA (R.take k) S) r' m d' _ (huo.below bj) (HC.out.1.ss.below bj) HA.out.m1).mono ?_
                    rintro e w' ⟨p2, k2, c2, rfl, h4⟩
                    rw [hmv] at h4 ⊢
                    obtain ⟨q1, q2⟩ := h4.out.2 rfl
                    have : k2 = m := by rw [← q1.m, ← HC.out.1.ss.m, slA_length, slA_length]
                    subst this
                    exact ⟨p2, c2, 0, rfl, below_from bj h4.out.1 bj.size, q1, q2⟩
                  have H28 : Hid (∀ W p2 c2, Below w.heap.size w W → SlS W p2 m c2 (slA (R.take (k + 1)) S) → Calls Try.prog 28 #[.slice q n c, .slice p2 m c2] W (FtO W T (slA (R.take (k + 1)) S))) := fun W p2 c2 b s => rfit_o T _ q p2 n c m c2 W (HA.out.t.below b) HA.out.tn s HA.out.n1 HA.out.m1
                  have HCJ : Hid (∀ W, Below wr.heap.size wr W → W.cell? ⟨g, o + k * 5, none⟩ = some (.int .i64 u.j) ∧ g < W.heap.size) := fun W b => ⟨cell_below c0 b, Nat.lt_of_lt_of_le hgl b.size⟩
                  clear hkR hkn hu huR huo hmv HC HTW HF HP HH HRL HO
                  go_upto_region 19 with fail
                  go_region_with (go_at_call 29; refine (H29.out _).mono ?_; rintro e w6 ⟨p2, c2', e2, rfl, h6⟩)
                  all_goals
                    have J6 := HCW.out w6 h6.out.1
                    obtain ⟨c0, hgl⟩ := HCJ.out w6 h6.out.1
                    have B6 : Hid (Below w.heap.size w w6) := below_from BX.out h6.out.1 BX.out.size
                    have J6' : Hid (IR w3.heap.size w6 (.slice pj k cj) ((R.take k).map Vi.j) ∧ Below w3.heap.size w3 w6) := J6
                    clear J6
                    go_upto_region 21 with (at_builtin; refine append_j (B := w3.heap.size) rfl _ _ rfl pj k cj ((R.take k).map Vi.j) u.j rfl (J6'.out.1.below ((Below.refl _ _).alloc (Nat.le_refl _) _)) (Nat.le_trans J6'.out.2.size (by simp)) _ 1 rfl (Lib.cell_of_heap new0 0) (by omega) ?_; intro p3 c3' w7 hr7 hg7 hn7)
                    have K7 : Hid (SlS w7 p2 m c2' (slA (R.take (k + 1)) S) ∧ Below w3.heap.size w3 w7 ∧ (∀ g, p2.map Addr.block = some g → 0 < m → (Value.slice p3 (k + 1) c3').ownBlock ≠ some g) ∧ IR w3.heap.size w7 (.slice p3 (k + 1) c3') ((R.take k).map Vi.j ++ [u.j])) := rc_app J6'.out.1 J6'.out.2 h6.out.2.1 h6.out.2.2 HOB.out hr7 hg7 hn7
                    have B7 : Hid (Below w.heap.size w w7) := below_from B4.out.1 K7.out.2.1 B4.out.1.size
                    clear hr7 hg7 hn7 h6 J6' c0
                    go_wp2_with (go_at_call 28; refine (H28.out _ _ _ B7.out K7.out.1).mono ?_; rintro e w8 ⟨pn', kn', cn', rfl, h8⟩)
                    refine ⟨⟨k + 1, p2, c2', pn', kn', cn', _, p3, c3', rfl, rfl, rfl, rfl, by simp, hkl.out, ⟨K7.out.1.below h8.out.2.2, h8.out.2.1, h8.out.1, rfl, HPR.out, ?_, below_from K7.out.2.1 h8.out.2.2 K7.out.2.1.size⟩, K7.out.2.2.1⟩, by have := hkl.out; simp only [intOf]; omega⟩
                    rw [HJ.out]
                    exact K7.out.2.2.2.below h8.out.2.2
          · have hlt' : (i : Int) < (nv : Int) := by omega
            obtain ⟨v, hv⟩ : ∃ v, L[i]? = some v := ⟨L[i]'(by have := HA.out.vl; omega), List.getElem?_eq_getElem _⟩
            obtain ⟨S', h1, h2, h3⟩ := HT.out
            obtain ⟨g, o, rfl, c0, c1, c2, c3, c4⟩ := VA.at (HA2.out.v.below h3) hv
            have hvo := HA2.out.o v (List.mem_of_getElem? hv)
            have hnx := gvG_next hv h1
            have hgl := cell_lt c0
            simp only at hgl
            have HF : Hid (S'.length = m ∧ i + 1 ≤ nv) := ⟨h2.m, by omega⟩
            have HW : Hid (∀ j, Below w2.heap.size w2 (wr.drewN j) ∧ SlS (wr.drewN j) r' m d' S' ∧ v.ok (wr.drewN j)) := fun j => ⟨below_drewN h3 j, h2.below (below_drewN (Below.refl _ _) j), (hvo.below h3).below (below_drewN (Below.refl _ _) j)⟩
            by_cases hz : (movR addR v.T v.N S').1 = 0
            · rw [if_pos hz] at hnx
              have HN : Hid (gvG (L.take (i + 1)) S = (0, (movR addR v.T v.N S').2)) := hnx
              have H29 : Hid (∀ j, Calls Try.prog 29 #[.slice v.qT v.nT v.cT, .slice v.qN v.nN v.cN, .slice r' m d', .bool true] (wr.drewN j) fun e w' => ∃ p2 c2, e = .returned (.tuple #[.slice p2 m c2, .int .i64 0]) ∧ Hid (Below w2.heap.size w2 w' ∧ SlS w' p2 m c2 (movR addR v.T v.N S').2)) := fun j => by
                refine (moved_vi v S' r' m d' _ (HW.out j).2.2 (HW.out j).2.1 HA.out.m1).mono ?_
                rintro e w' ⟨p2, k2, c2, rfl, h4⟩
                have h5 := h4.out.2 hz
                have : k2 = m := h5.1.m.symm.trans ((movR_length hz).trans HF.out.1)
                subst this
                exact ⟨p2, c2, by rw [hz]; rfl, below_from (HW.out j).1 h4.out.1 (HW.out j).1.size, h5.1⟩
              clear hz hnx h1 h2 h3 hvo hv HT HW
              go_upto_region 10 with fail
              go_region_with (go_at_call 29; refine (H29.out _).mono ?_; rintro e w6 ⟨p2, c2, rfl, h6⟩)
              all_goals
                go_wp2_with fail
                exact ⟨⟨i + 1, p2, c2, rfl, by simp, HF.out.2, _, HN.out, h6.out.2, h6.out.1⟩, by simp only [intOf]; omega⟩
            · rw [if_neg hz] at hnx
              have HN : Hid ((gvG L S).1 = (movR addR v.T v.N S').1) := by
                have := gvG_bad (L := L) (k := i + 1) (S := S) (by rw [hnx]; exact hz)
                rw [hnx] at this
                exact this
              have HD : Hid (chR T p L S = ((movR addR v.T v.N S').1, [], [])) := by
                show _ = _
                unfold chR
                rw [if_neg (fun h => h HE.out), if_neg (fun h => h HU.out), if_pos (by rw [HN.out]; exact hz), HN.out]
              have H29 : Hid (∀ j, Calls Try.prog 29 #[.slice v.qT v.nT v.cT, .slice v.qN v.nN v.cN, .slice r' m d', .bool true] (wr.drewN j) fun e w' => ∃ p2 k2 c2, e = .returned (.tuple #[.slice p2 k2 c2, .int .i64 ((movR addR v.T v.N S').1 : Nat)]) ∧ Hid (Below w2.heap.size w2 w')) := fun j => by
                refine (moved_vi v S' r' m d' _ (HW.out j).2.2 (HW.out j).2.1 HA.out.m1).mono ?_
                rintro e w' ⟨p2, k2, c2, rfl, h4⟩
                exact ⟨p2, k2, c2, rfl, below_from (HW.out j).1 h4.out.1 (HW.out j).1.size⟩
              generalize (movR addR v.T v.N S').1 = fn at *
              have e1 : ¬ (fn : Int) = 0 := by omega
              have e2 : ((fn : Int) == 0) = false := by rw [beq_eq_false_iff_ne]; exact e1
              clear hz hnx h1 h2 h3 hvo hv HT HW HN
              go_upto_region 10 with fail
              go_region_with (go_at_call 29; refine (H29.out _).mono ?_; rintro e w6 ⟨p2, k2, c2, rfl, h6⟩)
              all_goals
                go_wp2_with fail
                go_ret3
                exact ChoP.bad HD.out (below_from B2.out.1 h6.out B2.out.1.size)
    · rw [decide_eq_true h2] at H24
      have HD : Hid (chR T p L S = (5, [], [])) := by
        show _ = _
        unfold chR
        rw [if_neg (fun h => h h1), if_pos h2]
      clear h1 h2
      go_enter Try.func16, Try.ntmps16
      go_upto_region 2 with (go_at_call 28; refine H28.out.mono ?_; rintro e w1 ⟨pn, kn, cn, rfl, f1⟩)
      have B1 : Hid (Below w.heap.size w w1) := f1.out.2.2
      clear f1 H28
      generalize (fitR T S).1 = en at *
      rcases HE.out with rfl | rfl
      all_goals
        go_wp2_with (go_at_call 24; refine (H24.out _ B1.out).mono ?_; rintro e w2 ⟨rfl, f2⟩)
        go_ret3
        exact ChoP.bad HD.out (below_from B1.out f2.out B1.out.size)
  · have HD : Hid (chR T p L S = ((fitR T S).1, [], [])) := by
      show _ = _
      unfold chR
      rw [if_pos h1]
    have H28' : Hid (Calls Try.prog 28 #[.slice q n c, .slice r m d] w fun e w' => ∃ pn kn cn, e = .returned (.tuple #[.slice pn kn cn, .int .i64 ((fitR T S).1 : Nat)]) ∧ Hid (Below w.heap.size w w')) := H28.out.mono fun e w' ⟨pn, kn, cn, h, f⟩ => ⟨pn, kn, cn, h, f.out.2.2⟩
    clear H28
    generalize (fitR T S).1 = en at *
    have e0 : ¬ en = 0 := fun h => h1 (.inl h)
    have e6 : ¬ en = 6 := fun h => h1 (.inr h)
    have e1 : ¬ (en : Int) = 0 := by omega
    have e2 : ((en : Int) == 0) = false := by rw [beq_eq_false_iff_ne]; exact e1
    have e3 : ¬ (en : Int) = 6 := by omega
    have e4 : ((en : Int) == 6) = false := by rw [beq_eq_false_iff_ne]; exact e3
    have e5 : ((en : Int) != 0 && (en : Int) != 6) = true := by unfold bne; rw [e2, e4]; rfl
    clear h1 e0 e6
    go_enter Try.func16, Try.ntmps16
    go_wp2_with (go_at_call 28; refine H28'.out.mono ?_; rintro e w1 ⟨pn, kn, cn, rfl, f1⟩)
    go_ret3
    exact ChoP.bad HD.out f1.out
end Go.Proofs.Ytcfnonfghlgphaa
