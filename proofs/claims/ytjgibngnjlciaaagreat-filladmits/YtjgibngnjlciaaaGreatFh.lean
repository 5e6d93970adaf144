/-
  The slots at a tick: at.
-/
import Derived.Test.YtjgibngnjlciaaaGreatFe
import Derived.Test.YtjgibngnjlciaaaGreatPg
import Derived.Deep.RegionWith
namespace Go.Proofs.YtjgibngnjlciaaaGreat
open Go.RowKit Go.Maps Go.WideMaps Go.Sort

theorem plc_nod {W : List Sl} (hN : Nod W) {k : Nat} {s : Sl} (h : W[k]? = some s) : plc s.nm W = some k := by
  cases q : plc s.nm W with
  | none => exact absurd rfl (plc_none q s (List.mem_of_getElem? h))
  | some i =>
    obtain ⟨a, ha, e⟩ := plc_some q
    by_cases hik : i = k
    · rw [hik]
    · exact absurd e (nod_ne hN ha h hik)
theorem drop_at_cons {α : Type} {l : List α} {k : Nat} {x : α} (h : l[k]? = some x) : l.drop k = x :: l.drop (k + 1) := by
  obtain ⟨h1, rfl⟩ := List.getElem?_eq_some_iff.1 h
  exact List.drop_eq_getElem_cons h1
theorem grow_base {α : Type} {f : α → List Value} {e sz b b' : Nat} {w : World} {v : Value} {L : List α} (h : GRow e sz f b w v L) (hb : b' ≤ b) : GRow e sz f b' w v L := by
  refine ⟨h.1, ?_⟩
  rcases h.2 with q | ⟨g, cap, cur, q1, q2, q3⟩
  · exact .inl q
  · exact .inr ⟨g, cap, cur, q1, Nat.le_trans hb q2, q3⟩
/-- the slots with what is free of each profile -/
def atS (W : List Sl) (F : List UInt8 → List Opr) (t : Int) : List Sl := W.map fun s => ⟨s.nm, plF (fun _ => s.v) (F s.nm) t⟩
theorem atS_len (W : List Sl) (F : List UInt8 → List Opr) (t : Int) : (atS W F t).length = W.length := by unfold atS; rw [List.length_map]
def atK (W : List Sl) (F : List UInt8 → List Opr) (t : Int) (k : Nat) : List Sl := (atS W F t).take k ++ W.drop k
theorem atK_at {W : List Sl} {F : List UInt8 → List Opr} {t : Int} {k : Nat} {s : Sl} (h : W[k]? = some s) : (atK W F t k)[k]? = some s := by
  have hk := (List.getElem?_eq_some_iff.1 h).1
  unfold atK
  rw [List.getElem?_append_right (by rw [List.length_take]; omega), List.length_take, atS_len, Nat.min_eq_left (by omega), Nat.sub_self, List.getElem?_drop, Nat.add_zero]
  exact h
theorem atK_next {W : List Sl} {F : List UInt8 → List Opr} {t : Int} {k : Nat} {s : Sl} (h : W[k]? = some s) : (atK W F t k).set k ⟨s.nm, plF (fun _ => s.v) (F s.nm) t⟩ = atK W F t (k + 1) := by
  have hk := (List.getElem?_eq_some_iff.1 h).1
  have hl := atS_len W F t
  unfold atK
  rw [List.set_append_right _ _ (by rw [List.length_take]; omega), List.length_take, hl, Nat.min_eq_left (by omega), Nat.sub_self, drop_at_cons h, List.set_cons_zero, take_next (x := ⟨s.nm, plF (fun _ => s.v) (F s.nm) t⟩) (by unfold atS; rw [List.getElem?_map, h]; rfl), List.append_assoc]
  rfl
def AtP (w : World) (m : Nat) (L : List Sl) (e : Ending) (w' : World) : Prop := ∃ p c', e = .returned (.slice p m c') ∧ Hid (SR w.heap.size w' (.slice p m c') L ∧ Below w.heap.size w w')
set_option maxHeartbeats 4000000 in
set_option maxRecDepth 100000 in
theorem at_any (now t : Int) (B mb : Nat) (W : List Sl) (F : List UInt8 → List Opr) (pb : Nat → Nat) (Q : Nat → PS) (r : Option Addr) (m d : Nat) (w : World) (h : Hid (Crs w B mb W F pb Q)) (hW : Hid (SA w r W ∧ Short W ∧ W.length = m ∧ Nod W ∧ (r = none → d = 0))) (m1 : m ≤ 1000000) :
    Calls Tryz.prog 21 #[.agg #[.int .i64 now, .slice r m d, .map (some mb)], .int .i64 t] w (AtP w m (atS W F t)) := by
  have H30 : Hid (Calls Tryz.prog 23 #[.slice r m d] (w.alloc (.cells #[.int .i64 now, .slice r m d, .map (some mb)] 61)) fun e w' => ∃ p c', e = .returned (.slice p m c') ∧ Hid (SR (w.alloc (.cells #[.int .i64 now, .slice r m d, .map (some mb)] 61)).heap.size w' (.slice p m c') W ∧ Below (w.alloc (.cells #[.int .i64 now, .slice r m d, .map (some mb)] 61)).heap.size (w.alloc (.cells #[.int .i64 now, .slice r m d, .map (some mb)] 61)) w')) :=
    clone_slots _ r m d W (hW.out.1.below ((Below.refl _ _).alloc (Nat.le_refl _) _)) hW.out.2.2.1 hW.out.2.2.2.2 m1
  go_enter Tryz.func21, Tryz.ntmps21
  go_wp2_with (go_at_call 23; refine H30.out.mono ?_; rintro e w1 ⟨p, c', rfl, h1⟩)
  clear H30
  have H0 : Hid (SR w.heap.size w1 (.slice p m c') W ∧ Below w.heap.size w w1 ∧ w1.heap[w.heap.size]? = some (.cells #[.int .i64 now, .slice r m d, .map (some mb)] 61 (0, 0))) := by
    refine ⟨?_, ?_, ?_⟩
    · exact grow_base h1.out.1 (by simp)
    · exact below_from ((Below.refl _ _).alloc (Nat.le_refl _) _) h1.out.2 (by simp)
    · exact at_below h1.out.2 (Nat.le_refl _) new0
  clear h1
  go_wp2_with fail
  go_loopw [12] (fun x wr => ∃ k : Nat, x = .int .i64 k ∧ k ≤ m ∧ Hid (SR w.heap.size wr (.slice p m c') (atK W F t k) ∧ Below w.heap.size w wr ∧ wr.heap[w.heap.size]? = some (.cells #[.int .i64 now, .slice r m d, .map (some mb)] 61 (0, 0)))) (fun x _ => m - (intOf x).toNat)
  case atStart => exact ⟨0, rfl, Nat.zero_le _, H0.out⟩
  case round =>
    clear H0
    obtain ⟨k, rfl, hk, HB⟩ := hrel
    by_cases h0 : k = m
    · subst h0
      have HE : Hid (SR w.heap.size wr (.slice p k c') (atS W F t) ∧ Below w.heap.size w wr) := by
        have h1 := HB.out.1
        have hl := hW.out.2.2.1
        unfold atK at h1
        rw [List.take_of_length_le (by rw [atS_len]; omega), List.drop_of_length_le (by omega), List.append_nil] at h1
        exact ⟨h1, HB.out.2.1⟩
      clear HB hk
      go_wp2_with fail
      go_ret
      exact ⟨p, c', rfl, HE⟩
    · have hlt' : (k : Int) < (m : Int) := by omega
      have hd : decide ((k : Int) < (m : Int)) = true := decide_eq_true hlt'
      obtain ⟨s, hs⟩ : ∃ s, W[k]? = some s := ⟨W[k]'(by have := hW.out.2.2.1; omega), List.getElem?_eq_getElem _⟩
      have hak := atK_at (F := F) (t := t) hs
      obtain ⟨gl, rfl, -⟩ := GRow.at slC_len HB.out.1 hak
      have HN : Hid ((atK W F t k).set k ⟨s.nm, plF (fun _ => s.v) (F s.nm) t⟩ = atK W F t (k + 1) ∧ (atK W F t k)[k]? = some s ∧ w.heap.size ≤ gl ∧ w.heap.size ≠ gl) := by
        refine ⟨atK_next hs, hak, HB.out.1.ge rfl, fun e => ?_⟩
        obtain ⟨cur, hb⟩ := grow_blk HB.out.1
        rw [← e, HB.out.2.2] at hb
        cases hb
      obtain ⟨⟨y0, y1, y2, y3, y4⟩, f0⟩ := grow_at HB.out.1 hak
      have b2 := Lib.cell_of_heap HB.out.2.2 2
      have hC := h.out.keep HB.out.2.1
      have hlk := hC.mp.get s.nm (hW.out.2.1 s (List.mem_of_getElem? hs)) (plc_nod hW.out.2.2.2.1 hs)
      have hlk2 := (hC.keep ((Below.refl _ wr).drew)).mp.get s.nm (hW.out.2.1 s (List.mem_of_getElem? hs)) (plc_nod hW.out.2.2.2.1 hs)
      obtain ⟨z, hz⟩ : ∃ z : V, plF (fun _ => s.v) (F s.nm) t = z := ⟨_, rfl⟩
      rw [hz] at HN
      have HQ : Hid (∀ W1, Below wr.heap.size wr W1 → Calls Tryz.prog 47 #[.pointer (some ⟨pb k, 0, none⟩), .int .i64 t] W1 fun e w' => e = .returned (.agg #[.int .i64 z.a, .int .i64 z.b, .int .i64 z.c, .int .i64 z.d]) ∧ Hid (Below wr.heap.size wr w' ∧ SR w.heap.size w' (.slice (some ⟨gl, 0, none⟩) m c') (atK W F t k))) := fun W1 b => by
        have hp := (hC.keep b).m k s hs
        have hn := hp.o.n
        have hl := hp.o.l
        refine (Free_any hp.m hp.o.p.srt (by omega) t).mono ?_
        rintro e w' ⟨rfl, b1⟩
        rw [hp.f, hz]
        have b3 := below_from b b1 b.size
        exact ⟨rfl, b3, HB.out.1.below b3⟩
      clear hC hz hs
      have hpk : pb k = pb k := rfl
      generalize pb k = pk at *
      clear hpk
      go_upto_region 5 with fail
      go_region_with (go_at_call 47; refine (HQ.out _ (by first | exact Below.refl _ _ | exact (Below.refl _ _).drew)).mono ?_; rintro e w6 ⟨rfl, b6⟩; obtain ⟨⟨x0, x1, x2, x3, x4⟩, g0⟩ := grow_at b6.out.2 HN.out.2.1; have g1 := g0 (k * 5 + 1); have g2 := g0 (k * 5 + 1 + 1); have g3 := g0 (k * 5 + 1 + 2); have g4 := g0 (k * 5 + 1 + 3))
      all_goals
        have HX : Hid (SR w.heap.size ((((w6.setCell ⟨gl, k * 5 + 1, none⟩ (.int .i64 z.a)).setCell ⟨gl, k * 5 + 1 + 1, none⟩ (.int .i64 z.b)).setCell ⟨gl, k * 5 + 1 + 2, none⟩ (.int .i64 z.c)).setCell ⟨gl, k * 5 + 1 + 3, none⟩ (.int .i64 z.d)) (.slice (some ⟨gl, 0, none⟩) m c') (atK W F t (k + 1)) ∧ Below w.heap.size w ((((w6.setCell ⟨gl, k * 5 + 1, none⟩ (.int .i64 z.a)).setCell ⟨gl, k * 5 + 1 + 1, none⟩ (.int .i64 z.b)).setCell ⟨gl, k * 5 + 1 + 2, none⟩ (.int .i64 z.c)).setCell ⟨gl, k * 5 + 1 + 3, none⟩ (.int .i64 z.d)) ∧ ((((w6.setCell ⟨gl, k * 5 + 1, none⟩ (.int .i64 z.a)).setCell ⟨gl, k * 5 + 1 + 1, none⟩ (.int .i64 z.b)).setCell ⟨gl, k * 5 + 1 + 2, none⟩ (.int .i64 z.c)).setCell ⟨gl, k * 5 + 1 + 3, none⟩ (.int .i64 z.d)).heap[w.heap.size]? = some (.cells #[.int .i64 now, .slice r m d, .map (some mb)] 61 (0, 0))) := by
          obtain ⟨n1, n2, n3, n4⟩ := HN.out
          refine ⟨by rw [← n1]; exact grow_free z b6.out.2 n2, ((((below_from HB.out.2.1 b6.out.1 HB.out.2.1.size).setCell n3 _).setCell n3 _).setCell n3 _).setCell n3 _, ?_⟩
          exact at_other (at_other (at_other (at_other (at_below b6.out.1 (Nat.le_refl _) HB.out.2.2) n4) n4) n4) n4
        clear HQ hlk hlk2 y0 y1 y2 y3 y4 f0 x0 x1 x2 x3 x4 g0 g1 g2 g3 g4 b2 b6 HB
        go_wp2_with fail
        exact ⟨⟨k + 1, by simp, by omega, HX.out⟩, by simp only [intOf]; omega⟩
end Go.Proofs.YtjgibngnjlciaaaGreat
