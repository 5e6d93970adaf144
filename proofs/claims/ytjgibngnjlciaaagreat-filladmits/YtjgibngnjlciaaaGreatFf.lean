/-
  foreseen: the course laid out.
-/
import Derived.Test.YtjgibngnjlciaaaGreatFe
import Derived.Deep.RegionWith
namespace Go.Proofs.YtjgibngnjlciaaaGreat
open Go.RowKit Go.Maps Go.WideMaps Go.Sort

theorem below_undrew {B : Nat} {w wx : World} (b : Below B w.drew wx) : Below B w wx := (below_drewN (Below.refl _ _) 1 : Below B w (w.drewN 1)).trans b
theorem size55 : (Tryz.prog.info? 61).map (·.size) = some 3 := by kernel_rfl
theorem res20 : Tryz.f19.results = #[.cell 6 61] := rfl
theorem back20 (tmps : Array Value) (w : World) (g : Nat) (cs : Array Value) (hp : tmps.getD 6 undef = .pointer (some ⟨g, 0, none⟩)) (hg : w.heap[g]? = some (.cells cs 61 (0, 0))) (hs : cs.size = 3) : (results Tryz.f19 tmps).run Tryz.prog w = .ok (.agg cs) w :=
  results_cell_row res20 tmps w g 61 cs (0, 0) _ hp hg Tryz.underlying61 rfl (by rw [hs]; exact size55)
theorem set3 {w : World} {g : Nat} {x y z a b c : Value} {t : TypeId} (h : w.heap[g]? = some (.cells #[x, y, z] t (0, 0))) : (((w.setCell ⟨g, 0, none⟩ a).setCell ⟨g, 1, none⟩ b).setCell ⟨g, 2, none⟩ c).heap[g]? = some (.cells #[a, b, c] t (0, 0)) := setB (i := 2) (setB (i := 1) (setB (i := 0) h _) _) _
theorem Crs.set {w : World} {B mb rb : Nat} {W : List Sl} {F : List UInt8 → List Opr} {pb : Nat → Nat} {Q : Nat → PS} (h : Crs w B mb W F pb Q) (h1 : rb < B) (h2 : rb ≠ mb) (i : Nat) (v : Value) : Crs (w.setCell ⟨rb, i, none⟩ v) B mb W F pb Q := by
  have hk : ∀ k, k ≠ rb → (w.setCell ⟨rb, i, none⟩ v).heap[k]? = w.heap[k]? := fun k hk => Below.heap_setCell _ _ _ _ hk
  refine ⟨h.mp.keep (hk mb (Ne.symm h2)), fun a s hs => (h.m a s hs).keep fun k q => hk k fun e => ?_, h.lo, h.ap, ?_⟩
  · have := (h.lo a (List.getElem?_eq_some_iff.1 hs).1 k q).1
    omega
  · have := h.bs
    simp only [World.setCell]
    simpa using this
def ForP (w : World) (now : Int) (R : List Vi) (W : List Sl) (r : Option Addr) (m d : Nat) (e : Ending) (w' : World) : Prop := ∃ mb, e = .returned (.agg #[.int .i64 now, .slice r m d, .map (some mb)]) ∧ Hid (∃ B pb Q, Crs w' B mb W (fun nm => oprs now R nm) pb Q ∧ Below w.heap.size w w')
set_option maxHeartbeats 4000000 in
set_option maxRecDepth 100000 in
theorem foreseen_any (now : Int) (R : List Vi) (W : List Sl) (q r : Option Addr) (n c m d : Nat) (w : World) (hR : Hid (VA w q R)) (hO : Hid (VOk w R)) (hn : Hid (R.length = n)) (hW : Hid (SA w r W ∧ Short W ∧ W.length = m ∧ Nod W ∧ allS W = true)) (n1 : n ≤ 100) (m1 : m ≤ 1000000)
    (hA : Hid (∀ s ∈ W, AllT (fun _ => s.v) (oprs now R s.nm))) (hK : Hid (∀ v ∈ R, v.N.length = v.T.length ∧ v.T.length ≤ 6 ∧ knB v.N W = true)) (h0 : 0 ≤ now) (h1 : now < 1099511627776) :
    Calls Tryz.prog 19 #[.int .i64 now, .slice q n c, .slice r m d] w (ForP w now R W r m d) := by
  have HM := mk53
  go_enter Tryz.func19, Tryz.ntmps19
  go_upto_region 2 with fail
  have F0 : Hid (∃ pb Q, Fo w (((w.alloc (.cells #[.int .i64 0, .slice none 0 0, .map none] 61)).alloc (.map #[] 0)).alloc (.cells #[.int .i64 now, .slice r m d, .map (some (w.heap.size + 1))] 61)) NX now r m d w.heap.size (w.heap.size + 1) (w.heap.size + 1 + 1) (W.take 0) (fun _ => []) pb Q) := ⟨fun _ => 0, fun _ => ⟨V.nil, .slice none 0 0, [], 0⟩, fo_start w now r m d _ _⟩
  generalize ((w.alloc (.cells #[.int .i64 0, .slice none 0 0, .map none] 61)).alloc (.map #[] 0)).alloc (.cells #[.int .i64 now, .slice r m d, .map (some (w.heap.size + 1))] 61) = W0 at *
  obtain ⟨cb, hcb⟩ : ∃ cb, cb = w.heap.size + 1 + 1 := ⟨_, rfl⟩
  rw [← hcb] at F0 ⊢
  clear hcb
  obtain ⟨mb, hmb⟩ : ∃ mb, mb = w.heap.size + 1 := ⟨_, rfl⟩
  rw [← hmb] at F0 ⊢
  clear hmb
  obtain ⟨rb, hrb⟩ : ∃ rb, rb = w.heap.size := ⟨_, rfl⟩
  rw [← hrb] at F0 ⊢
  clear hrb HM
  go_wp2_with fail
  go_loopw [23] (fun x wr => ∃ k : Nat, x = .int .i64 k ∧ k ≤ m ∧ Hid (∃ pb Q, Fo w wr NX now r m d rb mb cb (W.take k) (fun _ => []) pb Q)) (fun x _ => m - (intOf x).toNat)
  case atStart => exact ⟨0, rfl, Nat.zero_le _, F0.out⟩
  case round =>
    clear F0
    obtain ⟨k, rfl, hk, HF⟩ := hrel
    by_cases hkm : k = m
    · subst hkm
      have F1 : Hid (∃ pb Q, Fo w wr NX now r k d rb mb cb W (fun nm => oprs now (R.take 0) nm) pb Q) := by
        obtain ⟨pb, Q, h⟩ := HF.out
        rw [List.take_of_length_le (by have := hW.out.2.2.1; omega)] at h
        exact ⟨pb, Q, h⟩
      clear HF hk
      go_wp2_with fail
      go_loopw [40] (fun x wr => ∃ j : Nat, x = .int .i64 j ∧ j ≤ n ∧ Hid (∃ pb Q, Fo w wr NX now r k d rb mb cb W (fun nm => oprs now (R.take j) nm) pb Q)) (fun x _ => n - (intOf x).toNat)
      case atStart => exact ⟨0, rfl, Nat.zero_le _, F1.out⟩
      case round =>
        clear F1
        obtain ⟨j, rfl, hj, HF⟩ := hrel
        by_cases hjn : j = n
        · subst hjn
          have HE : Hid (wr.heap[cb]? = some (.cells #[.int .i64 now, .slice r k d, .map (some mb)] 61 (0, 0)) ∧ wr.heap[rb]? = some (.cells #[.int .i64 0, .slice none 0 0, .map none] 61 (0, 0)) ∧ ∃ pb Q, Crs wr (cb + 1) mb W (fun nm => oprs now R nm) pb Q ∧ Below w.heap.size w wr) := by
            obtain ⟨pb, Q, h⟩ := HF.out
            rw [List.take_of_length_le (Nat.le_of_eq hn.out)] at h
            exact ⟨h.c, h.z, pb, Q, h.g, h.b⟩
          have o4 : Hid (rb < cb + 1) := by
            obtain ⟨pb, Q, h⟩ := HF.out
            have := h.o
            show rb < cb + 1
            omega
          have HO : Hid (w.heap.size ≤ rb ∧ rb ≠ cb ∧ rb ≠ mb) := by
            obtain ⟨pb, Q, h⟩ := HF.out
            have := h.o
            exact ⟨this.1, by omega, this.2.2.2.2⟩
          clear HF hj
          have e0 := Lib.cell_of_heap HE.out.1 0
          have e1 := Lib.cell_of_heap HE.out.1 1
          have e2 := Lib.cell_of_heap HE.out.1 2
          have f0 := fz HE.out.2.1 0
          have f1 := fz HE.out.2.1 1
          have f2 := fz HE.out.2.1 2
          have g0 := Lib.cell_of_heap HE.out.2.1 0
          have g1 := Lib.cell_of_heap HE.out.2.1 1
          have g2 := Lib.cell_of_heap HE.out.2.1 2
          go_wp2_with fail
          refine bodyPost_ret (back20 _ _ rb #[.int .i64 now, .slice r k d, .map (some mb)] rfl (set3 HE.out.2.1) rfl) rfl ?_
          obtain ⟨z1, z2, pb, Q, z3, z4⟩ := HE.out
          obtain ⟨o1, o2, o3⟩ := HO.out
          have l4 : rb < cb + 1 := o4.out
          exact ⟨mb, rfl, cb + 1, pb, Q, ((z3.set l4 o3 _ _).set l4 o3 _ _).set l4 o3 _ _, ((z4.setCell o1 _).setCell o1 _).setCell o1 _⟩
        · have hlt2 : (j : Int) < (n : Int) := by omega
          have hd2 : decide ((j : Int) < (n : Int)) = true := decide_eq_true hlt2
          obtain ⟨pb, Q, hF⟩ := HF.out
          obtain ⟨v, hv⟩ : ∃ v, R[j]? = some v := ⟨R[j]'(by have := hn.out; omega), List.getElem?_eq_getElem _⟩
          obtain ⟨g, o, rfl, c0, c1, c2, c3⟩ := VA.at (hR.out.below hF.b) hv
          obtain ⟨vj, vp, qT, nT, cT, qN, nN, cN, T, N⟩ := v
          simp only [] at c0 c1 c2 c3
          have HV : Hid (R[j]? = some ⟨vj, vp, qT, nT, cT, qN, nN, cN, T, N⟩ ∧ Vi.ok w ⟨vj, vp, qT, nT, cT, qN, nN, cN, T, N⟩) := ⟨hv, hO.out _ (List.mem_of_getElem? hv)⟩
          have HT : Hid (TA w qT T) := HV.out.2.t
          have HN : Hid (NA w qN N) := HV.out.2.n
          have HS : Hid (∀ s ∈ N, s.length ≤ 281474976710656) := HV.out.2.sn
          have HL : Hid (T.length = nT ∧ N.length = T.length ∧ nT ≤ 6) := by
            have h1 := hK.out _ (List.mem_of_getElem? hv)
            have h2 := HV.out.2.lt
            have h3 : N.length = T.length := h1.1
            have h4 : T.length ≤ 6 := h1.2.1
            have h5 : T.length = nT := h2
            exact ⟨h5, h3, by omega⟩
          have N1 := new0 (w := wr) (o := .cells #[.int .i64 vj, .int .i64 vp, .slice qT nT cT, .slice qN nN cN] 42)
          have HF1 : Hid (∃ pb Q, Fo w (wr.alloc (.cells #[.int .i64 vj, .int .i64 vp, .slice qT nT cT, .slice qN nN cN] 42)) (adX NX wr.heap.size (.cells #[.int .i64 vj, .int .i64 vp, .slice qT nT cT, .slice qN nN cN] 42)) now r k d rb mb cb W (fun nm => oprs now (R.take j) nm ++ opz now ⟨vj, vp, qT, nT, cT, qN, nN, cN, T, N⟩ 0 nm) pb Q) := ⟨pb, Q, (hF.alloc _).congr fun s _ => List.append_nil _⟩
          clear hF HF hv
          go_upto_region 10 with fail
          generalize wr.alloc (.cells #[.int .i64 vj, .int .i64 vp, .slice qT nT cT, .slice qN nN cN] 42) = W1 at *
          generalize wr.heap.size = vb at *
          have d1 := Lib.cell_of_heap N1 1
          have d2 := Lib.cell_of_heap N1 2
          obtain ⟨E, hE⟩ : ∃ E, max vp (now + 1) = E := ⟨_, rfl⟩
          have HE : Hid (en now ⟨vj, vp, qT, nT, cT, qN, nN, cN, T, N⟩ = E) := hE
          clear c0 c1 c2 c3 N1
          go_wp2_with fail
          clear hE d1 d2
          go_loopw [52] (fun x wr => ∃ i : Nat, x = .int .i64 i ∧ i ≤ nT ∧ Hid (∃ pb Q, Fo w wr (adX NX vb (.cells #[.int .i64 vj, .int .i64 vp, .slice qT nT cT, .slice qN nN cN] 42)) now r k d rb mb cb W (fun nm => oprs now (R.take j) nm ++ opz now ⟨vj, vp, qT, nT, cT, qN, nN, cN, T, N⟩ i nm) pb Q)) (fun x _ => nT - (intOf x).toNat)
          case atStart => exact ⟨0, rfl, Nat.zero_le _, HF1.out⟩
          case round =>
            clear HF1
            obtain ⟨i, rfl, hi, HF⟩ := hrel
            by_cases hin : i = nT
            · subst hin
              have HX : Hid (∃ pb Q, Fo w wr NX now r k d rb mb cb W (fun nm => oprs now (R.take (j + 1)) nm) pb Q) := by
                obtain ⟨pb, Q, h⟩ := HF.out
                refine ⟨pb, Q, (h.forget fun j o q => by cases q).congr fun s _ => ?_⟩
                show oprs now (R.take (j + 1)) s.nm = _
                rw [oprs_next HV.out.1, opz_all HL.out.2.1 (Nat.le_of_eq HL.out.1)]
              clear HF hi
              go_wp2_with fail
              exact ⟨⟨j + 1, by simp, by omega, HX.out⟩, by simp only [intOf]; omega⟩
            · have hlt3 : (i : Int) < (nT : Int) := by omega
              have hd3 : decide ((i : Int) < (nT : Int)) = true := decide_eq_true hlt3
              obtain ⟨pb, Q, hF⟩ := HF.out
              obtain ⟨x, hx⟩ : ∃ x, T[i]? = some x := ⟨T[i]'(by have := HL.out.1; omega), List.getElem?_eq_getElem _⟩
              obtain ⟨s, hs⟩ : ∃ s, N[i]? = some s := ⟨N[i]'(by have := HL.out; omega), List.getElem?_eq_getElem _⟩
              have hF2 := hF.below ((Below.refl _ _).alloc (Nat.le_refl _) (.cells #[.int .i64 x.a, .int .i64 x.b, .int .i64 x.c, .int .i64 x.d] 40))
              obtain ⟨g1, o1, rfl, c0, c1, c2, c3⟩ := TA.at (HT.out.below hF.b) hx
              obtain ⟨g2, o2, rfl, n0⟩ := NA.at (HN.out.below hF2.b) hs
              have hNN : (i : Int) < (nN : Int) := by have h1 := HV.out.2.ln; have h2 := HL.out; have h3 : N.length = nN := h1; omega
              obtain ⟨p, hlk, hcl⟩ := hF2.task HV.out.1 hx hs hW.out.2.2.2.1 hA.out hK.out (by have := hn.out; omega) (HS.out s (List.mem_of_getElem? hs))
              rw [HE.out] at hcl
              have HC : Hid (∀ w1, Below (wr.alloc (.cells #[.int .i64 x.a, .int .i64 x.b, .int .i64 x.c, .int .i64 x.d] 40)).heap.size (wr.alloc (.cells #[.int .i64 x.a, .int .i64 x.b, .int .i64 x.c, .int .i64 x.d] 40)) w1 → Calls Tryz.prog 43 #[.pointer (some ⟨p, 0, none⟩), .int .i64 now, .int .i64 E, .agg #[.int .i64 x.a, .int .i64 x.b, .int .i64 x.c, .int .i64 x.d]] w1 fun e w' => e = .returned (.int .i64 0) ∧ Hid (∃ pb Q, Fo w w' (adX NX vb (.cells #[.int .i64 vj, .int .i64 vp, .slice (some ⟨g1, o1, none⟩) nT cT, .slice (some ⟨g2, o2, none⟩) nN cN] 42)) now r k d rb mb cb W (fun nm => oprs now (R.take j) nm ++ opz now ⟨vj, vp, some ⟨g1, o1, none⟩, nT, cT, some ⟨g2, o2, none⟩, nN, cN, T, N⟩ (i + 1) nm) pb Q)) := hcl
              have e2 := Lib.cell_of_heap hF2.c 2
              have v3 := Lib.cell_of_heap (hF2.x vb _ (adX_self _ _ _)).1 3
              have T1 := new0 (w := wr) (o := .cells #[.int .i64 x.a, .int .i64 x.b, .int .i64 x.c, .int .i64 x.d] 40)
              have HLK : Hid (∀ w1, Below (wr.alloc (.cells #[.int .i64 x.a, .int .i64 x.b, .int .i64 x.c, .int .i64 x.d] 40)).heap.size (wr.alloc (.cells #[.int .i64 x.a, .int .i64 x.b, .int .i64 x.c, .int .i64 x.d] 40)) w1 → (Instr.lookup 59 (.map (some mb)) (.string ⟨⟨s⟩⟩) false).run Tryz.prog w1 = .ok (.pointer (some ⟨p, 0, none⟩)) w1) := hlk
              clear hF hF2 HF hcl hlk hx hs
              go_upto_region 14 with fail
              generalize wr.alloc (.cells #[.int .i64 x.a, .int .i64 x.b, .int .i64 x.c, .int .i64 x.d] 40) = W2 at *
              generalize wr.heap.size = tb at *
              have t0 := Lib.cell_of_heap T1 0
              have t1 := Lib.cell_of_heap T1 1
              have t2 := Lib.cell_of_heap T1 2
              have t3 := Lib.cell_of_heap T1 3
              have l1 := HLK.out W2 (Below.refl _ _)
              have l2 := HLK.out W2.drew ((Below.refl _ _).drew)
              clear c0 c1 c2 c3 T1 HLK
              have nT6 : nT ≤ 6 := HL.out.2.2
              go_region_with (go_at_call 43; refine (HC.out _ (by first | exact Below.refl _ _ | exact (Below.refl _ _).drew)).mono ?_; rintro e w1 ⟨rfl, H2⟩)
              all_goals
                clear l1 l2 t0 t1 t2 t3 e2 v3 n0 HC
                go_wp2_with fail
                exact ⟨⟨i + 1, by simp, by omega, H2.out⟩, by simp only [intOf]; omega⟩
    · have hlt' : (k : Int) < (m : Int) := by omega
      have hd : decide ((k : Int) < (m : Int)) = true := decide_eq_true hlt'
      obtain ⟨pb, Q, hF⟩ := HF.out
      obtain ⟨w1, w2, w3, w4, w5⟩ := hW.out
      obtain ⟨s, hs⟩ : ∃ s, W[k]? = some s := ⟨W[k]'(by omega), List.getElem?_eq_getElem _⟩
      obtain ⟨g, o, rfl, c0, c1, c2, c3, c4⟩ := SA.at (w1.below hF.b) hs
      have HV : Hid (W.take (k + 1) = W.take k ++ [s] ∧ (∀ a ∈ W.take k, a.nm ≠ s.nm) ∧ s.nm.length ≤ 281474976710656 ∧ (W.take k).length ≤ 1000000 ∧ s.v.ok = true) := by
        have ht : W.take (k + 1) = W.take k ++ [s] := by rw [List.take_add_one, hs]; rfl
        have hN : Nod (W.take (k + 1)) := List.Pairwise.sublist (List.take_sublist _ _) w4
        rw [ht, nod_add] at hN
        exact ⟨ht, hN.2, w2 s (List.mem_of_getElem? hs), by rw [List.length_take]; omega, List.all_eq_true.1 w5 s (List.mem_of_getElem? hs)⟩
      have H37 : Hid (∀ w, Calls Tryz.prog 42 #[.agg #[.int .i64 s.v.a, .int .i64 s.v.b, .int .i64 s.v.c, .int .i64 s.v.d]] w fun e w' => ∃ w1, e = .returned (.tuple #[.pointer (some ⟨w1.heap.size, 0, none⟩), .int .i64 0]) ∧ Below w.heap.size w w1 ∧ w' = w1.alloc (pObj s.v)) := fun w => new_raw w s.v HV.out.2.2.2.2
      clear w1 w2 w3 w4 w5 hs HF
      have N1 := new0 (w := wr) (o := .cells #[.string ⟨⟨s.nm⟩⟩, .int .i64 s.v.a, .int .i64 s.v.b, .int .i64 s.v.c, .int .i64 s.v.d] 46)
      have HF1 : Hid (Fo w (wr.alloc (.cells #[.string ⟨⟨s.nm⟩⟩, .int .i64 s.v.a, .int .i64 s.v.b, .int .i64 s.v.c, .int .i64 s.v.d] 46)) NX now (some ⟨g, o, none⟩) m d rb mb cb (W.take k) (fun _ => []) pb Q) := hF.below ((Below.refl _ _).alloc (Nat.le_refl _) _)
      clear hF
      go_upto_region 5 with fail
      generalize wr.alloc (.cells #[.string ⟨⟨s.nm⟩⟩, .int .i64 s.v.a, .int .i64 s.v.b, .int .i64 s.v.c, .int .i64 s.v.d] 46) = W1 at *
      have d0 := Lib.cell_of_heap N1 0
      have d1 := Lib.cell_of_heap N1 1
      have d2 := Lib.cell_of_heap N1 2
      have d3 := Lib.cell_of_heap N1 3
      have d4 := Lib.cell_of_heap N1 4
      have e2 := Lib.cell_of_heap HF1.out.c 2
      have HN1 : Hid (W1.heap[wr.heap.size]? = some (.cells #[.string ⟨⟨s.nm⟩⟩, .int .i64 s.v.a, .int .i64 s.v.b, .int .i64 s.v.c, .int .i64 s.v.d] 46)) := N1
      clear N1 c0 c1 c2 c3 c4
      generalize wr.heap.size = sb at *
      go_region_with (go_at_call 42; refine (H37.out _).mono ?_; rintro e w1 ⟨wx, rfl, b1, rfl⟩; obtain ⟨e0', w2, hr2, H2⟩ := Fo.more HF1.out (below_undrew b1) HV.out.2.1 HV.out.2.2.1 HV.out.2.2.2.1 HV.out.2.2.2.2; have d0' := Lib.cell_of_heap (at_alloc (o := pObj s.v) (at_below b1 (Nat.le_refl _) HN1.out)) 0; clear b1)
      all_goals
        clear hr2 e0' d0' d0 d1 d2 d3 d4 e2 H37
        go_wp2_with fail
        exact ⟨⟨k + 1, by simp, by omega, by rw [HV.out.1]; exact H2.out⟩, by simp only [intOf]; omega⟩
end Go.Proofs.YtjgibngnjlciaaaGreat
