/-
  What ShareFirst's law leans on. ShareFirst's law.
-/
import Derived.Test.YtcgaekaollhmpaaUg
import Derived.Test.YtcgaekaollhmpaaSl
import Derived.Deep.RegionWith
namespace Go.Proofs.Ytcgaekaollhmpaa
open Go.RowKit Go.Maps

theorem elem26 : Try.prog.underlying 26 = some (.slice (Try.prog.elem 26)) := by kernel_rfl
theorem size26 : ∀ w, (sizeOf (Try.prog.elem 26)).run Try.prog w = .ok 1 w := fun w => by kernel_rfl
theorem elem24 : Try.prog.underlying 24 = some (.slice (Try.prog.elem 24)) := by kernel_rfl
theorem size24 : ∀ w, (sizeOf (Try.prog.elem 24)).run Try.prog w = .ok 6 w := fun w => by kernel_rfl
theorem slice26 (g i k cc : Nat) (h : 1 ≤ k) : ∃ q', (∀ w, (Instr.sliceAt 26 (.slice (some ⟨g, i, none⟩) k cc) (some (.int .i64 1)) none none).run Try.prog w = .ok (.slice q' (k - 1) (cc - 1)) w) ∧ (∀ w, (Instr.slice 26 (.slice (some ⟨g, i, none⟩) k cc) (some (.int .i64 1)) none none).run Try.prog w = .ok (.slice q' (k - 1) (cc - 1)) w) ∧ (1 < cc → q' = some ⟨g, i + 1, none⟩) := by
  have e : ∀ w, (Instr.slice 26 (.slice (some ⟨g, i, none⟩) k cc) (some (.int .i64 1)) none none).run Try.prog w = .ok (sliced (some ⟨g, i, none⟩) 1 k cc 1) w := fun w => by
    rw [run_slice_l (ht := elem26) (h0 := by omega) (h1 := by omega), size26]
    rfl
  refine ⟨_, fun w => ?_, fun w => e w, fun hc => ?_⟩
  · rw [run_sliceAt_slice (h := elem26)]
    exact e w
  · have : ¬ cc = 1 := by omega
    simp [this, Addr.add_lit]
theorem slice24 (g i k cc : Nat) (h : 1 ≤ k) : ∃ q', (∀ w, (Instr.sliceAt 24 (.slice (some ⟨g, i, none⟩) k cc) (some (.int .i64 1)) none none).run Try.prog w = .ok (.slice q' (k - 1) (cc - 1)) w) ∧ (∀ w, (Instr.slice 24 (.slice (some ⟨g, i, none⟩) k cc) (some (.int .i64 1)) none none).run Try.prog w = .ok (.slice q' (k - 1) (cc - 1)) w) ∧ (1 < cc → q' = some ⟨g, i + 6, none⟩) := by
  have e : ∀ w, (Instr.slice 24 (.slice (some ⟨g, i, none⟩) k cc) (some (.int .i64 1)) none none).run Try.prog w = .ok (sliced (some ⟨g, i, none⟩) 1 k cc 6) w := fun w => by
    rw [run_slice_l (ht := elem24) (h0 := by omega) (h1 := by omega), size24]
    rfl
  refine ⟨_, fun w => ?_, fun w => e w, fun hc => ?_⟩
  · rw [run_sliceAt_slice (h := elem24)]
    exact e w
  · have : ¬ cc = 1 := by omega
    simp [this, Addr.add_lit]
/-- the order's names are there once each -/
theorem ord_nodup {all : Vs.V} {L : List U} {R : List Tn} (h : OrdR all L 0 R) : (R.map Tn.nm).Nodup := by
  obtain ⟨h1, h2, -, h4, h5⟩ : fstE all L = 0 ∧ Nd L ∧ (0 : Nat) = 0 ∧ R.Perm (L.map (ten all)) ∧ R.Pairwise tb := by
    rcases h with ⟨_, e, _⟩ | ⟨_, _, e, _⟩ | e
    · exact absurd rfl e
    · cases e
    · exact e
  have hp := h4.map Tn.nm
  rw [hp.nodup_iff, List.map_map]
  exact List.pairwise_map.2 h2
theorem filter_drop {R : List Tn} (hd : (R.map Tn.nm).Nodup) (i : Nat) : R.filter (keep ((R.map Tn.nm).drop i)) = R.drop i := by
  have hsp : R = R.take i ++ R.drop i := (List.take_append_drop i R).symm
  have hk : ∀ x, keep ((R.map Tn.nm).drop i) x = decide (x.nm ∈ (R.drop i).map Tn.nm) := fun x => by
    unfold keep nask
    rw [Bool.not_not, List.map_drop]
  have h1 : (R.take i).filter (keep ((R.map Tn.nm).drop i)) = [] := List.filter_eq_nil_iff.2 fun x hx => by
    rw [hk]
    simp only [decide_eq_true_eq]
    intro hm
    have hd2 := hd
    rw [hsp, List.map_append, List.nodup_append] at hd2
    exact hd2.2.2 x.nm (List.mem_map_of_mem hx) x.nm hm rfl
  have h2 : (R.drop i).filter (keep ((R.map Tn.nm).drop i)) = R.drop i := List.filter_eq_self.2 fun x hx => by
    rw [hk]
    exact decide_eq_true (List.mem_map_of_mem hx)
  conv => lhs; rw [hsp]
  rw [List.filter_append]
  rw [← hsp, h1, h2]
  rfl
theorem filter_none (R : List Tn) : R.filter (keep []) = [] := List.filter_eq_nil_iff.2 fun x _ => by unfold keep nask; simp
/-- a tenant that is taken away leaves the order of the others -/
theorem ord_less {all : Vs.V} {u : U} {r : List U} {R R' : List Tn} {e' i : Nat} (h : OrdR all (u :: r) 0 R) (hi : R[i]? = some (ten all u)) (h' : OrdR all r e' R') : e' = 0 ∧ R' = R.eraseIdx i := by
  obtain ⟨h1, h2, -, h4, h5⟩ : fstE all (u :: r) = 0 ∧ Nd (u :: r) ∧ (0 : Nat) = 0 ∧ R.Perm ((u :: r).map (ten all)) ∧ R.Pairwise tb := by
    rcases h with ⟨_, e, _⟩ | ⟨_, _, e, _⟩ | e
    · exact absurd rfl e
    · cases e
    · exact e
  obtain ⟨hl, he⟩ := List.getElem?_eq_some_iff.1 hi
  have hp : (R.eraseIdx i).Perm (r.map (ten all)) := by
    have e1 : R.Perm (ten all u :: R.eraseIdx i) := by
      rw [List.eraseIdx_eq_take_drop_succ]
      have : R = R.take i ++ ten all u :: R.drop (i + 1) := by rw [← he, ← List.drop_eq_getElem_cons hl, List.take_append_drop]
      conv => lhs; rw [this]
      exact List.perm_middle
    exact List.Perm.cons_inv (e1.symm.trans h4)
  have hz := fstE_zero.1 h1
  have hO : OrdR all r 0 (R.eraseIdx i) := .inr (.inr ⟨fstE_zero.2 fun x hx => hz x (List.mem_cons_of_mem _ hx), (List.pairwise_cons.1 h2).2, rfl, hp, h5.sublist (List.eraseIdx_sublist _ _)⟩)
  exact h'.uniq hO
end Go.Proofs.Ytcgaekaollhmpaa

namespace Go.Proofs.Ytcgaekaollhmpaa
open Go.RowKit Go.Maps

def slen (v : Value) : Nat := match v with
  | .slice _ k _ => k
  | _ => 0
theorem nma_nil {n₀ : Nat} {W : World} {q : Option Addr} : NmA n₀ W q [] := fun j s h => by simp at h
theorem sr_nma {b : Nat} {w : World} {g m c : Nat} {l : List (List UInt8)} (h : SR b w (.slice (some ⟨g, 0, none⟩) m c) l) (i : Nat) : NmA w.heap.size w (some ⟨g, i, none⟩) (l.drop i) := fun j s hs => by
  rw [List.getElem?_drop] at hs
  obtain ⟨g', e, hc⟩ := SR.get h hs
  cases e
  exact ⟨g, i, rfl, h.lt rfl, hc⟩
theorem uarg_tail {w : World} {g f : Nat} {u : U} {r : List U} (h : UArg w (some ⟨g, f, none⟩) (u :: r)) : UArg w (some ⟨g, f + 6, none⟩) r := by
  refine ⟨fun i x hx => ?_, fun x hx => h.s x (List.mem_cons_of_mem _ hx)⟩
  obtain ⟨g', f', e, h0, h1, h2, h3, h4, h5⟩ := h.c (i + 1) x (by simpa using hx)
  cases e
  have e1 : f + (i + 1) * 6 = f + 6 + i * 6 := by omega
  rw [e1] at h0 h1 h2 h3 h4 h5
  exact ⟨g, f + 6, rfl, h0, h1, h2, h3, h4, h5⟩
theorem uarg_nil {w : World} {q : Option Addr} : UArg w q [] := ⟨fun i x hx => by simp at hx, fun x hx => by cases hx⟩
set_option maxHeartbeats 8000000 in
set_option maxRecDepth 100000 in
theorem first_law (all : Vs.V) (q : Option Addr) (n c : Nat) (L : List U) (w : World) (hn : n = L.length) (hr : UArg w q L) (hm : n ≤ 9223372036854775807) (hc : n ≤ c) :
    Calls Try.prog 6 #[.agg #[.int .i64 all.a, .int .i64 all.b, .int .i64 all.c, .int .i64 all.d], .slice q n c] w fun e w' => e = .returned (.bool true) ∧ Below w.heap.size w w' := by
  have HA : Hid (∀ W, Calls Try.prog 7 #[] W fun e w' => e = .returned (.bool true) ∧ Hid (Below W.heap.size W w')) := awake_any
  have HR : Hid (UArg w q L ∧ n = L.length) := ⟨hr, hn⟩
  obtain ⟨l0, l1, l2, l3⟩ := all
  simp only []
  clear hr hn
  have B0 : Hid (Below w.heap.size w (w.alloc (.cells #[.int .i64 l0, .int .i64 l1, .int .i64 l2, .int .i64 l3] 23))) := (Below.refl _ w).alloc (Nat.le_refl _) _
  have N0 : Hid ((w.alloc (.cells #[.int .i64 l0, .int .i64 l1, .int .i64 l2, .int .i64 l3] 23)).heap[w.heap.size]? = some (.cells #[.int .i64 l0, .int .i64 l1, .int .i64 l2, .int .i64 l3] 23 (0, 0))) := new0
  by_cases h20 : 60 < n
  · clear HR N0
    go_enter Try.func6, Try.ntmps6
    go_upto_region 1 with fail
    generalize w.alloc (.cells #[.int .i64 l0, .int .i64 l1, .int .i64 l2, .int .i64 l3] 23) = W1 at *
    have g1 : (60 : Int) < (n : Int) := by omega
    have g3 : decide ((60 : Int) < (n : Int)) = true := decide_eq_true g1
    go_wp2_with (first
      | (go_at_call 7; have _ := b1; refine (HA.out _).mono ?_; rintro e w3 ⟨rfl, b3⟩)
      | (go_at_call 7; refine (HA.out _).mono ?_; rintro e w1 ⟨rfl, b1⟩))
    go_ret
    exact ⟨rfl, (B0.out.trans (b1.out.mono B0.out.size)).trans (b3.out.mono (Nat.le_trans B0.out.size b1.out.size))⟩
  have g20 : ¬ (60 : Int) < (n : Int) := by omega
  have g20' : decide ((60 : Int) < (n : Int)) = false := decide_eq_false g20
  have h60 : n ≤ 60 := by omega
  clear hm h20
  go_enter Try.func6, Try.ntmps6
  go_upto_region 1 with fail
  obtain ⟨bw, hbw⟩ : ∃ bw, bw = w.heap.size := ⟨_, rfl⟩
  rw [← hbw] at N0 ⊢
  clear hbw
  generalize w.alloc (.cells #[.int .i64 l0, .int .i64 l1, .int .i64 l2, .int .i64 l3] 23) = W1 at *
  go_upto_region 3 with (go_at_call 7; refine (HA.out _).mono ?_; rintro e w1 ⟨rfl, b1⟩)
  have HB1 : Hid (Below w.heap.size w w1 ∧ w1.heap[bw]? = some (.cells #[.int .i64 l0, .int .i64 l1, .int .i64 l2, .int .i64 l3] 23 (0, 0))) := ⟨B0.out.trans (b1.out.mono B0.out.size), at_below b1.out (Nat.le_refl _) N0.out⟩
  clear b1 B0 N0 HA g20 g20'
  have H8 : Hid (Calls Try.prog 8 #[.agg #[.int .i64 l0, .int .i64 l1, .int .i64 l2, .int .i64 l3], .slice q n c] w1 (OrdP w1 ⟨l0, l1, l2, l3⟩ L)) := order_any ⟨l0, l1, l2, l3⟩ q n c L w1 HR.out.2 (HR.out.1.below HB1.out.1) (by omega)
  obtain ⟨d0, d1, d2, d3⟩ := c4b HB1.out.2
  go_upto_region 4 with (go_at_call 8; refine H8.out.mono ?_; rintro e w2 ⟨p, m, c', err, R, rfl, hm1, h2⟩)
  clear H8 d0 d1 d2 d3
  have HB2 : Hid (Below w.heap.size w w2 ∧ w2.heap[bw]? = some (.cells #[.int .i64 l0, .int .i64 l1, .int .i64 l2, .int .i64 l3] 23 (0, 0)) ∧ OrdR ⟨l0, l1, l2, l3⟩ L err R ∧ SR w1.heap.size w2 (.slice p m c') (R.map Tn.nm)) := ⟨HB1.out.1.trans (h2.out.2.2.mono HB1.out.1.size), at_below h2.out.2.2 (Nat.le_refl _) HB1.out.2, h2.out.1, h2.out.2.1⟩
  clear h2 HB1
  have HF : Hid (∀ W, Below w2.heap.size w2 W → ∀ (qn : Option Addr) (ln cn : Nat) (N : List (List UInt8)), N.length = ln → ln ≤ 1000000 → NmA W.heap.size W qn N → Calls Try.prog 14 #[.agg #[.int .i64 l0, .int .i64 l1, .int .i64 l2, .int .i64 l3], .slice qn ln cn, .slice q n c] W (FirP W err R N)) := fun W b qn ln cn N h1 h2 h3 => first_any ⟨l0, l1, l2, l3⟩ q n c L qn ln cn N err R W HR.out.2 ((HR.out.1.below HB2.out.1).below b) (by omega) h1 h2 h3 HB2.out.2.2.1
  have HBX : Hid (∀ W, Below w2.heap.size w2 W → W.cell? ⟨bw, 0, none⟩ = some (.int .i64 l0) ∧ W.cell? ⟨bw, 1, none⟩ = some (.int .i64 l1) ∧ W.cell? ⟨bw, 2, none⟩ = some (.int .i64 l2) ∧ W.cell? ⟨bw, 3, none⟩ = some (.int .i64 l3)) := fun W b => c4b (at_below b (Nat.le_refl _) HB2.out.2.1)
  by_cases he : err = 0
  · subst he
    rw [show (((0 : Nat) : Int)) = 0 from rfl]
    have hml : m = R.length := by have := HB2.out.2.2.2.len; rw [List.length_map] at this; exact this
    have hRL : R.length = L.length := by
      rcases HB2.out.2.2.1 with ⟨_, e, _⟩ | ⟨_, _, e, _⟩ | ⟨_, _, _, e, _⟩
      · exact absurd rfl e
      · cases e
      · have := e.length_eq; rwa [List.length_map] at this
    have hmn : m = n := by have := HR.out.2; omega
    have HRL : Hid (R.length = n ∧ L.length = n) := ⟨by have := HR.out.2; omega, HR.out.2.symm⟩
    have HF3 : Hid (∀ W, Below w2.heap.size w2 W → ∀ (qn : Option Addr) (cn : Nat), Calls Try.prog 14 #[.agg #[.int .i64 l0, .int .i64 l1, .int .i64 l2, .int .i64 l3], .slice qn 0 cn, .slice q n c] W fun e w' => ∃ nm, e = .returned (.tuple #[.string ⟨⟨nm⟩⟩, .int .i64 3]) ∧ Hid (Below W.heap.size W w')) := fun W b qn cn => by
      refine (HF.out W b qn 0 cn [] rfl (by omega) nma_nil).mono ?_
      rintro e w' ⟨nm, er, rfl, h⟩
      rcases h.out.1 with ⟨e, _⟩ | ⟨_, ⟨_, e⟩ | ⟨t, r, e, _⟩⟩
      · exact absurd rfl e
      · exact ⟨nm, by rw [e]; rfl, h.out.2⟩
      · rw [filter_none] at e; cases e
    subst hmn
    clear hml hRL
    rcases Nat.eq_zero_or_pos m with h0 | hpos
    · subst h0
      go_wp2_with fail
      go_loopw [9] (fun x wr => x = .slice p 0 c' ∧ Hid (Below w2.heap.size w2 wr)) (fun _ _ => 0)
      case atStart => exact ⟨rfl, Below.refl _ _⟩
      case round =>
        obtain ⟨rfl, HI⟩ := hrel
        obtain ⟨d0, d1, d2, d3⟩ := HBX.out wr HI.out
        have H14 := HF3.out wr HI.out p c'
        go_wp2_with (go_at_call 14; refine H14.mono ?_; rintro e w3 ⟨nm, rfl, h3⟩)
        go_ret
        exact ⟨rfl, HB2.out.1.trans ((HI.out.trans (h3.out.mono HI.out.size)).mono HB2.out.1.size)⟩
    · obtain ⟨t0, ht0⟩ : ∃ t0, R[0]? = some t0 := ⟨_, List.getElem?_eq_getElem (by have := HRL.out.1; omega)⟩
      obtain ⟨gO, rfl, -⟩ := SR.get HB2.out.2.2.2 (show (R.map Tn.nm)[0]? = some t0.nm by rw [List.getElem?_map, ht0]; rfl)
      clear t0 ht0
      have hcap := HB2.out.2.2.2.cap
      obtain ⟨u, rr, hL⟩ : ∃ u rr, L = u :: rr := by
        cases hq : L with
        | nil => have := HRL.out.2; rw [hq] at this; simp at this; omega
        | cons u rr => exact ⟨u, rr, rfl⟩
      obtain ⟨gu, fu, rfl⟩ : ∃ gu fu, q = some ⟨gu, fu, none⟩ := by
        obtain ⟨g, f, e, _⟩ := HR.out.1.c 0 u (by rw [hL]; rfl)
        exact ⟨g, f, e⟩
      have HNO : Hid ((R.map Tn.nm).Nodup) := ord_nodup HB2.out.2.2.1
      go_wp2_with fail
      go_loopw [9] (fun x wr => ∃ (i k cc : Nat) (q' : Option Addr), x = .slice q' k cc ∧ i + k = m ∧ k ≤ cc ∧ Hid ((1 ≤ k → q' = some ⟨gO, i, none⟩) ∧ Below w2.heap.size w2 wr)) (fun x _ => slen x)
      case atStart => exact ⟨0, m, c', some ⟨gO, 0, none⟩, rfl, by omega, hcap.1, (fun _ => rfl), Below.refl _ _⟩
      case round =>
        obtain ⟨i, k, cc, q', rfl, hik, hkc, HI⟩ := hrel
        obtain ⟨d0, d1, d2, d3⟩ := HBX.out wr HI.out.2
        cases k with
        | succ t =>
          obtain rfl := HI.out.1 (by omega)
          have hk1 : (0 : Int) < ((t + 1 : Nat) : Int) := by omega
          have hk2 : (0 : Int) < (t : Int) + 1 := by omega
          obtain ⟨ti, hti⟩ : ∃ ti, R[i]? = some ti := ⟨_, List.getElem?_eq_getElem (by have := HRL.out.1; omega)⟩
          have hnm : (R.map Tn.nm)[i]? = some ti.nm := by rw [List.getElem?_map, hti]; rfl
          obtain ⟨g', e', cO⟩ := SR.get (HB2.out.2.2.2.below HI.out.2) hnm
          cases e'
          have H14 : Hid (Calls Try.prog 14 #[.agg #[.int .i64 l0, .int .i64 l1, .int .i64 l2, .int .i64 l3], .slice (some ⟨gO, i, none⟩) (t + 1) cc, .slice (some ⟨gu, fu, none⟩) m c] wr fun e w' => e = .returned (.tuple #[.string ⟨⟨ti.nm⟩⟩, .int .i64 0]) ∧ w'.cell? ⟨gO, i, none⟩ = some (.string ⟨⟨ti.nm⟩⟩) ∧ Hid (Below w2.heap.size w2 w')) := by
            refine (HF.out wr HI.out.2 (some ⟨gO, i, none⟩) (t + 1) cc ((R.map Tn.nm).drop i) (by rw [List.length_drop, List.length_map]; have := HRL.out.1; omega) (by omega) (sr_nma (HB2.out.2.2.2.below HI.out.2) i)).mono ?_
            rintro e w' ⟨nm, er, rfl, h⟩
            rcases h.out.1 with ⟨e, _⟩ | ⟨_, ⟨e, _⟩ | ⟨t1, r1, e, rfl, rfl⟩⟩
            · exact absurd rfl e
            · rw [filter_drop HNO.out] at e
              have h1 := congrArg List.length e
              rw [List.length_drop, List.length_nil] at h1
              have h2 := HRL.out.1
              omega
            · rw [filter_drop HNO.out] at e
              have e2 : R[i]? = some t1 := by
                have := congrArg (fun l => l[0]?) e
                simpa using this
              rw [hti] at e2
              cases e2
              exact ⟨rfl, cell_kept h.out.2 cO, HI.out.2.trans (h.out.2.mono HI.out.2.size)⟩
          obtain ⟨q2, hs1, hs2, hs3⟩ := slice26 gO i (t + 1) cc (by omega)
          have HQ : Hid (1 ≤ t → q2 = some ⟨gO, i + 1, none⟩) := fun h => hs3 (by omega)
          have hsb : ¬ ((t : Int) + 1 < 1) := by omega
          clear hs3 hti hnm HI cO
          generalize ti.nm = nm at *
          simp only [Nat.add_sub_cancel] at hs1 hs2
          go_wp2_with (go_at_call 14; refine H14.out.mono ?_; rintro e w3 ⟨rfl, cO, h3⟩)
          exact ⟨⟨i + 1, t, cc - 1, q2, rfl, by omega, by omega, HQ.out, h3.out⟩, by simp only [slen]; omega⟩
        | zero =>
          obtain ⟨at', ha1, ha2, ha3⟩ := name_at HB2.out.2.2.1 (show u ∈ L by rw [hL]; exact List.mem_cons_self ..)
          have HAT : Hid (R[at']? = some (ten ⟨l0, l1, l2, l3⟩ u) ∧ (R.map Tn.nm)[at']? = some u.nm ∧ (∀ (j : Nat) s, j < at' → (R.map Tn.nm)[j]? = some s → s ≠ u.nm) ∧ L = u :: rr) := ⟨ha1, ha2, ha3, hL⟩
          have hatm : at' < m := by have := (List.getElem?_eq_some_iff.1 ha1).1; have := HRL.out.1; omega
          have H14 : Hid (Calls Try.prog 14 #[.agg #[.int .i64 l0, .int .i64 l1, .int .i64 l2, .int .i64 l3], .slice q' 0 cc, .slice (some ⟨gu, fu, none⟩) m c] wr fun e w' => ∃ nm, e = .returned (.tuple #[.string ⟨⟨nm⟩⟩, .int .i64 3]) ∧ Hid (Below wr.heap.size wr w')) := HF3.out wr HI.out.2 q' cc
          obtain ⟨q2, hs1, hs2, hs3⟩ := slice24 gu fu m c hpos
          have m0 : ¬ (m : Int) = 0 := by omega
          have m0' : ((m : Int) == 0) = false := by rw [beq_eq_false_iff_ne]; exact m0
          have HRR : Hid (m - 1 = rr.length) := by have := HRL.out.2; rw [hL, List.length_cons] at this; show _ = _; omega
          have H8b : Hid (∀ W, Below w2.heap.size w2 W → Calls Try.prog 8 #[.agg #[.int .i64 l0, .int .i64 l1, .int .i64 l2, .int .i64 l3], .slice q2 (m - 1) (c - 1)] W (OrdP W ⟨l0, l1, l2, l3⟩ rr)) := fun W b => by
            refine order_any ⟨l0, l1, l2, l3⟩ q2 (m - 1) (c - 1) rr W HRR.out ?_ (by omega)
            have hU := (HR.out.1.below HB2.out.1).below b
            rw [hL] at hU
            by_cases h1 : 1 < m
            · rw [hs3 (by omega)]
              exact uarg_tail hU
            · have : rr = [] := List.eq_nil_of_length_eq_zero (by have := HRR.out; omega)
              rw [this]
              exact uarg_nil
          have HB3 : Hid (Below w2.heap.size w2 wr) := HI.out.2
          clear ha1 ha2 ha3 hL hs3 HI HF
          go_upto_region 18 with (go_at_call 14; refine H14.out.mono ?_; rintro e w3 ⟨nm, rfl, h3⟩)
          clear H14 d0 d1 d2 d3 m0 m0'
          have HB4 : Hid (Below w2.heap.size w2 w3) := HB3.out.trans (h3.out.mono HB3.out.size)
          clear h3 HB3
          obtain ⟨d0, d1, d2, d3⟩ := HBX.out w3 HB4.out
          go_region_with (go_at_call 8; refine (H8b.out _ (by first | exact HB4.out | exact HB4.out.drew | exact below_drewN HB4.out _)).mono ?_; rintro e w4 ⟨p4, m4, c4, err4, R4, rfl, hm4, h4⟩; have B4 : Hid (Below w2.heap.size w2 w4) := (by first | exact HB4.out.trans (h4.out.2.2.mono HB4.out.size) | exact HB4.out.drew.trans (h4.out.2.2.mono HB4.out.size) | exact (below_drewN HB4.out _).trans (h4.out.2.2.mono HB4.out.size)))
          all_goals
            have hord := HB2.out.2.2.1
            rw [HAT.out.2.2.2] at hord
            obtain ⟨e4, hR4⟩ := ord_less hord HAT.out.1 h4.out.1
            subst e4
            have HR4 : Hid (R4 = R.eraseIdx at' ∧ R4.length = m4 ∧ R.length = m) := ⟨hR4, by have := h4.out.2.1.len; rw [List.length_map] at this; exact this.symm, HRL.out.1⟩
            have hm4e : m4 + 1 = m := by
              have h1 := HR4.out.2.1
              rw [hR4, List.length_eraseIdx, if_pos (by have := HRL.out.1; omega)] at h1
              have := HRL.out.1
              omega
            obtain ⟨b4, hrow4⟩ : ∃ b4, SR b4 w4 (.slice p4 m4 c4) (R4.map Tn.nm) := ⟨_, h4.out.2.1⟩
            have HROW : Hid (SR b4 w4 (.slice p4 m4 c4) (R4.map Tn.nm) ∧ SR w1.heap.size w4 (.slice (some ⟨gO, 0, none⟩) m c') (R.map Tn.nm)) := ⟨hrow4, HB2.out.2.2.2.below B4.out⟩
            have H12 : Hid (Calls Try.prog 12 #[.slice (some ⟨gO, 0, none⟩) m c', .string ⟨⟨u.nm⟩⟩] w4 fun e w' => e = .returned (.int .i64 (at' : Int)) ∧ Hid (Below w4.heap.size w4 w')) := (place_at w4 w1.heap.size m c' (some ⟨gO, 0, none⟩) (R.map Tn.nm) u.nm at' HROW.out.2 HAT.out.2.1 HAT.out.2.2.1 (by omega)).mono (by { rintro e w' ⟨rfl, rfl⟩; exact ⟨rfl, Below.refl _ _⟩ })
            obtain ⟨gx, fx, ex, cu, -⟩ := ((HR.out.1.below HB2.out.1).below B4.out).c 0 u (by rw [HAT.out.2.2.2]; rfl)
            cases ex
            rw [Nat.zero_mul, Nat.add_zero] at cu
            have w1' : IntKind.i64.wrap ((m : Int) - 1) = (m4 : Int) := by simp [IntKind.wrap, IntKind.bits, IntKind.signed]; omega
            have a0 : ¬ (at' : Int) < 0 := by omega
            have a1 : (0 : Int) < (m : Int) := by omega
            clear hord hR4 hrow4 h4 H8b d0 d1 d2 d3 hs1 hs2
            rw [show (((0 : Nat) : Int)) = 0 from rfl]
            go_wp2_with (go_at_call 12; refine H12.out.mono ?_; rintro e w5 ⟨rfl, b5⟩)
            clear H12 cu w1' a0 a1
            go_loopw [17] (fun x wr => ∃ j : Nat, x = .int .i64 j ∧ j ≤ m4 ∧ Hid (Below w4.heap.size w4 wr)) (fun x _ => m4 - (intOf x).toNat)
            case atStart => exact ⟨0, rfl, Nat.zero_le _, b5.out⟩
            case round =>
              clear b5
              obtain ⟨j, rfl, hj, HJ⟩ := hrel
              by_cases hjm : j < m4
              · have j1 : (j : Int) < (m4 : Int) := by omega
                have j2 : decide ((j : Int) < (m4 : Int)) = true := decide_eq_true j1
                obtain ⟨t4, ht4⟩ : ∃ t4, R4[j]? = some t4 := ⟨_, List.getElem?_eq_getElem (by have := HR4.out.2.1; omega)⟩
                obtain ⟨g4, rfl, c4x⟩ := SR.get (HROW.out.1.below HJ.out) (show (R4.map Tn.nm)[j]? = some t4.nm by rw [List.getElem?_map, ht4]; rfl)
                have hE : R[if at' ≤ j then j + 1 else j]? = some t4 := by
                  have := ht4
                  rw [HR4.out.1, List.getElem?_eraseIdx] at this
                  by_cases q : j < at'
                  · rw [if_pos q] at this
                    rw [if_neg (by omega)]
                    exact this
                  · rw [if_neg q] at this
                    rw [if_pos (by omega)]
                    exact this
                have HD : Hid (∀ i, Below w4.heap.size w4 (wr.drewN i)) := fun i => below_drewN HJ.out i
                by_cases q : at' ≤ j
                · rw [if_pos q] at hE
                  obtain ⟨g5, e5, c5x⟩ := SR.get (HROW.out.2.below HJ.out) (show (R.map Tn.nm)[j + 1]? = some t4.nm by rw [List.getElem?_map, hE]; rfl)
                  cases e5
                  have q1 : (at' : Int) ≤ (j : Int) := by omega
                  have q2 : decide ((at' : Int) ≤ (j : Int)) = true := decide_eq_true q1
                  have q3 : (j : Int) + 1 < (m : Int) := by omega
                  clear hE ht4
                  go_wp2_with fail
                  go_region
                  all_goals go_wp2_with fail
                  all_goals exact ⟨⟨j + 1, by simp, by omega, HD.out _⟩, by simp only [intOf]; omega⟩
                · rw [if_neg q] at hE
                  obtain ⟨g5, e5, c5x⟩ := SR.get (HROW.out.2.below HJ.out) (show (R.map Tn.nm)[j]? = some t4.nm by rw [List.getElem?_map, hE]; rfl)
                  cases e5
                  have q1 : ¬ (at' : Int) ≤ (j : Int) := by omega
                  have q2 : decide ((at' : Int) ≤ (j : Int)) = false := decide_eq_false q1
                  have q3 : (j : Int) < (m : Int) := by omega
                  clear hE ht4
                  go_wp2_with fail
                  go_region
                  all_goals go_wp2_with fail
                  all_goals exact ⟨⟨j + 1, by simp, by omega, HD.out _⟩, by simp only [intOf]; omega⟩
              · have j1 : ¬ (j : Int) < (m4 : Int) := by omega
                have j2 : decide ((j : Int) < (m4 : Int)) = false := decide_eq_false j1
                go_wp2_with fail
                go_ret
                exact ⟨rfl, HB2.out.1.trans ((B4.out.trans (HJ.out.mono B4.out.size)).mono HB2.out.1.size)⟩
  · have H14 : Hid (Calls Try.prog 14 #[.agg #[.int .i64 l0, .int .i64 l1, .int .i64 l2, .int .i64 l3], .slice none 0 0, .slice q n c] w2 fun e w' => ∃ nm, e = .returned (.tuple #[.string ⟨⟨nm⟩⟩, .int .i64 (err : Nat)]) ∧ Hid (Below w2.heap.size w2 w')) := by
      refine (HF.out w2 (Below.refl _ _) none 0 0 [] rfl (by omega) nma_nil).mono ?_
      rintro e w' ⟨nm, er, rfl, h⟩
      rcases h.out.1 with ⟨_, e⟩ | ⟨e, _⟩
      · exact ⟨nm, by rw [e], h.out.2⟩
      · exact absurd e he
    obtain ⟨d0, d1, d2, d3⟩ := HBX.out w2 (Below.refl _ _)
    have e1 : ¬ ((err : Nat) : Int) = 0 := by omega
    have e2 : (((err : Nat) : Int) == 0) = false := by rw [beq_eq_false_iff_ne]; exact e1
    clear HF
    go_wp2_with (go_at_call 14; refine H14.out.mono ?_; rintro e w3 ⟨nm, rfl, h3⟩)
    go_ret
    exact ⟨by simp, HB2.out.1.trans (h3.out.mono HB2.out.1.size)⟩
end Go.Proofs.Ytcgaekaollhmpaa
