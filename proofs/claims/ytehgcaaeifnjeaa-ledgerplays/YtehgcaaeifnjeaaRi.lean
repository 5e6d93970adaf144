/-
  The document's ledger: Take, where there is no room.
-/
import Derived.Test.YtehgcaaeifnjeaaRh
import Derived.BigQuiet
namespace Go.Proofs.Ytehgcaaeifnjeaa
open Go.RowKit Go.Maps Go.WideMaps

theorem cells9 {w : World} {b : Nat} {v0 v1 v2 v3 v4 v5 v6 v7 v8 : Value} {t : TypeId} {q : Nat × Nat} (h : w.heap[b]? = some (.cells #[v0, v1, v2, v3, v4, v5, v6, v7, v8] t q)) : w.cell? ⟨b, 0, none⟩ = some v0 ∧ w.cell? ⟨b, 1, none⟩ = some v1 ∧ w.cell? ⟨b, 2, none⟩ = some v2 ∧ w.cell? ⟨b, 3, none⟩ = some v3 ∧ w.cell? ⟨b, 4, none⟩ = some v4 ∧ w.cell? ⟨b, 5, none⟩ = some v5 ∧ w.cell? ⟨b, 6, none⟩ = some v6 ∧ w.cell? ⟨b, 7, none⟩ = some v7 ∧ w.cell? ⟨b, 8, none⟩ = some v8 :=
  ⟨(cell_of h).trans rfl, (cell_of h).trans rfl, (cell_of h).trans rfl, (cell_of h).trans rfl, (cell_of h).trans rfl, (cell_of h).trans rfl, (cell_of h).trans rfl, (cell_of h).trans rfl, (cell_of h).trans rfl⟩
/-- the copy that Take works with -/
def cpy (a : A) : Obj := .cells (aC a).toArray 65 (0, 0)
theorem room_le {D : List A} {es : List E} {e : E} {a : A} (hs : fnd A.nm e.n D = some a) (h : ∀ i, i < 4 → a.us.i i + pt es e.n i ≤ a.lim.i i) : ((u0 D e.n).add (tot es e.n)).le a.lim = true := by
  have e0 : u0 D e.n = a.us := by unfold u0; rw [hs]
  rw [e0]
  refine V.le_iff.2 ⟨?_, ?_, ?_, ?_⟩
  · exact h 0 (by omega)
  · exact h 1 (by omega)
  · exact h 2 (by omega)
  · exact h 3 (by omega)
set_option maxHeartbeats 4000000 in
set_option maxRecDepth 100000 in
theorem rtake_no (w : World) (rb : Nat) (q : Option Addr) (m c : Nat) (D : List A) (s : Option Addr) (es : List E) (n cc : Nat) (hR : Hid (RAt w rb q m c D)) (hl : Hid (es.length = n)) (hn : n < 1152921504606846976) (hr : Hid (ERow w s es)) (hok : Hid (∀ e ∈ es, e.am.ok = true)) (hth : Hid (∀ e ∈ es, ∃ a, fnd A.nm e.n D = some a)) (hroom : Hid (¬ Room D (u0 D) es))
    (H40 : Hid (Calls Try.prog 40 #[.pointer (some ⟨rb, 0, none⟩), .slice s n cc] w fun e w' => e = .returned (.int .i64 0) ∧ Hid (Below w.heap.size w w'))) :
    Calls Try.prog 24 #[.pointer (some ⟨rb, 0, none⟩), .slice s n cc] w fun e w' => e = .returned (.int .i64 9) ∧ Hid (Below w.heap.size w w') := by
  have H41 : Hid (∀ (w1 : World) (nm : List UInt8) (i : Nat), Below w.heap.size w w1 → i < 4 → Calls Try.prog 41 #[.slice s n cc, .string ⟨⟨nm⟩⟩, .int .i64 i] w1 fun e w' => (∃ z, e = .returned (.int .i64 z) ∧ Hid (Smd es nm i z)) ∧ w' = w1) := fun w1 nm i b hi => rsum_raw s es n cc nm i w1 hi hl hn (hr.out.keep b) hok
  have H32 : Hid (∀ (w1 : World) (k : Nat) (a : A), Below w.heap.size w w1 → D[k]? = some a → Calls Try.prog 32 #[.pointer (some ⟨rb, 0, none⟩), .string ⟨⟨a.nm⟩⟩] w1 fun e w' => e = .returned (.int .i64 k) ∧ w' = w1) := fun w1 k a b hk => rfind_yes (hR.out.below b) hk rfl
  go_enter Try.func24, Try.ntmps24
  go_upto_region 5 with (go_at_call 40; refine H40.out.mono ?_; first | rintro e w1 rfl b1 | rintro e w1 ⟨rfl, b1⟩)
  have B1 : Hid (Below w.heap.size w w1) := b1
  clear b1 H40
  go_loopw [6] (fun x wr => ∃ k : Nat, x = .int .i64 k ∧ k ≤ n ∧ Hid ((∀ (j : Nat) (e : E), j < k → es[j]? = some e → ∃ a, fnd A.nm e.n D = some a ∧ ((u0 D e.n).add (tot es e.n)).le a.lim = true) ∧ Below w.heap.size w wr)) (fun x _ => (n : Int).toNat - (intOf x).toNat)
  case atStart => exact ⟨0, rfl, by omega, fun _ _ h => absurd h (by omega), B1.out⟩
  case round =>
    obtain ⟨k, rfl, hk, HI⟩ := hrel
    clear B1
    have h0 : k ≠ n := fun e => hroom.out fun x hx => by
      obtain ⟨i, hi⟩ := List.mem_iff_getElem?.1 hx
      exact HI.out.1 i x (by have := (List.getElem?_eq_some_iff.1 hi).1; have := hl.out; omega) hi
    have hlt : k < es.length := by have := hl.out; omega
    have hlt' : (k : Int) < (n : Int) := by omega
    obtain ⟨v, hv⟩ : ∃ v, es[k]? = some v := ⟨es[k], List.getElem?_eq_getElem hlt⟩
    obtain ⟨a, ha⟩ := hth.out v (List.mem_of_getElem? hv)
    obtain ⟨ka, hka⟩ := fnd_place ha
    have hnm : a.nm = v.n := (fnd_some ha).2
    obtain ⟨g, rfl⟩ := hR.out.row.some hka
    have hkm : ka < m := by have := (List.getElem?_eq_some_iff.1 hka).1; have := hR.out.n; omega
    have hkm' : (ka : Int) < (m : Int) := by omega
    obtain ⟨p, o, rfl, d0, -⟩ := (hr.out.keep HI.out.2) k _ hv
    have d1 : wr.cell? ⟨p, o + k * 5, none⟩ = some (.string ⟨⟨a.nm⟩⟩) := by rw [hnm]; exact d0
    have R1 : RAt wr rb (some ⟨g, 0, none⟩) m c D := hR.out.below (below_from HI.out.2 (Below.refl _ _) HI.out.2.size)
    have e0 := c1 R1.cell
    obtain ⟨a0, a1, a2, a3, a4, a5, a6, a7, a8⟩ := R1.row.cells hka
    have G32 : Hid (∀ (w1 : World), Below w.heap.size w w1 → Calls Try.prog 32 #[.pointer (some ⟨rb, 0, none⟩), .string ⟨⟨a.nm⟩⟩] w1 fun e w' => e = .returned (.int .i64 ka) ∧ w' = w1) := fun w1 b => H32.out w1 ka a b hka
    have hrbl : rb < wr.heap.size := R1.lt
    have hgl : g < wr.heap.size := R1.row.lt rfl
    have hpl : p < wr.heap.size := cell_lt d1
    have HX : Hid (es[k]? = some v ∧ fnd A.nm v.n D = some a ∧ a.nm = v.n ∧ a ∈ D) := ⟨hv, ha, hnm, (fnd_some ha).1⟩
    clear d0 hv ha hka hnm R1 H32 hth
    go_wp2_with fail
    have SS : Hid (∀ W, Below wr.heap.size wr W → W.cell? ⟨rb, 0, none⟩ = some (.slice (some ⟨g, 0, none⟩) m c) ∧ W.cell? ⟨p, o + k * 5, none⟩ = some (.string ⟨⟨a.nm⟩⟩) ∧ W.cell? ⟨g, ka * 9, none⟩ = some (.string ⟨⟨a.nm⟩⟩) ∧ W.cell? ⟨g, ka * 9 + 1, none⟩ = some (.int .i64 a.lim.a) ∧ W.cell? ⟨g, ka * 9 + 2, none⟩ = some (.int .i64 a.lim.b) ∧ W.cell? ⟨g, ka * 9 + 3, none⟩ = some (.int .i64 a.lim.c) ∧ W.cell? ⟨g, ka * 9 + 4, none⟩ = some (.int .i64 a.lim.d) ∧ W.cell? ⟨g, ka * 9 + 5, none⟩ = some (.int .i64 a.us.a) ∧ W.cell? ⟨g, ka * 9 + 6, none⟩ = some (.int .i64 a.us.b) ∧ W.cell? ⟨g, ka * 9 + 7, none⟩ = some (.int .i64 a.us.c) ∧ W.cell? ⟨g, ka * 9 + 8, none⟩ = some (.int .i64 a.us.d)) := fun W b => ⟨cell_below e0 b, cell_below d1 b, cell_below a0 b, cell_below a1 b, cell_below a2 b, cell_below a3 b, cell_below a4 b, cell_below a5 b, cell_below a6 b, cell_below a7 b, cell_below a8 b⟩
    have zz := SS.out _ (Below.refl _ wr)
    have zd := SS.out _ (Below.refl _ wr).drew
    have za := SS.out _ ((Below.refl _ wr).drew.alloc (Nat.le_refl _) (.cells #[.string ⟨#[]⟩, .int .i64 0, .int .i64 0, .int .i64 0, .int .i64 0, .int .i64 0, .int .i64 0, .int .i64 0, .int .i64 0] 65))
    have D32 : Hid (Calls Try.prog 32 #[.pointer (some ⟨rb, 0, none⟩), .string ⟨⟨a.nm⟩⟩] wr.drew fun e w' => e = .returned (.int .i64 ka) ∧ w' = wr.drew) := G32.out _ HI.out.2.drew
    have A32 : Hid (Calls Try.prog 32 #[.pointer (some ⟨rb, 0, none⟩), .string ⟨⟨a.nm⟩⟩] (wr.drew.alloc (.cells #[.string ⟨#[]⟩, .int .i64 0, .int .i64 0, .int .i64 0, .int .i64 0, .int .i64 0, .int .i64 0, .int .i64 0, .int .i64 0] 65)) fun e w' => e = .returned (.int .i64 ka) ∧ w' = (wr.drew.alloc (.cells #[.string ⟨#[]⟩, .int .i64 0, .int .i64 0, .int .i64 0, .int .i64 0, .int .i64 0, .int .i64 0, .int .i64 0, .int .i64 0] 65))) := G32.out _ (HI.out.2.drew.alloc (by have := HI.out.2.size; simpa using this) _)
    have hn1 : rb ≠ wr.heap.size := by omega
    have hn2 : g ≠ wr.heap.size := by omega
    have hn3 : p ≠ wr.heap.size := by omega
    clear e0 d1 a0 a1 a2 a3 a4 a5 a6 a7 a8
    have HZ : Hid (Below wr.heap.size wr (wr.alloc (.cells #[.string ⟨⟨a.nm⟩⟩, .int .i64 a.lim.a, .int .i64 a.lim.b, .int .i64 a.lim.c, .int .i64 a.lim.d, .int .i64 a.us.a, .int .i64 a.us.b, .int .i64 a.us.c, .int .i64 a.us.d] 65)).drew ∧ (wr.alloc (.cells #[.string ⟨⟨a.nm⟩⟩, .int .i64 a.lim.a, .int .i64 a.lim.b, .int .i64 a.lim.c, .int .i64 a.lim.d, .int .i64 a.us.a, .int .i64 a.us.b, .int .i64 a.us.c, .int .i64 a.us.d] 65)).drew.heap[wr.heap.size]? = some (cpy a)) := ⟨((Below.refl _ wr).alloc (Nat.le_refl _) _).drew, new0⟩
    go_cut [7] from 17 to 35 (fun s7 wx => s7 = .pointer (some ⟨wr.heap.size, 0, none⟩) ∧ Hid (Below wr.heap.size wr wx ∧ wx.heap[wr.heap.size]? = some (cpy a)))
    case first =>
      go_region_held3 (fun W : World => W.cell? ⟨rb, 0, none⟩ = some (.slice (some ⟨g, 0, none⟩) m c) ∧ W.cell? ⟨p, o + k * 5, none⟩ = some (.string ⟨⟨a.nm⟩⟩) ∧ W.cell? ⟨g, ka * 9, none⟩ = some (.string ⟨⟨a.nm⟩⟩) ∧ W.cell? ⟨g, ka * 9 + 1, none⟩ = some (.int .i64 a.lim.a) ∧ W.cell? ⟨g, ka * 9 + 2, none⟩ = some (.int .i64 a.lim.b) ∧ W.cell? ⟨g, ka * 9 + 3, none⟩ = some (.int .i64 a.lim.c) ∧ W.cell? ⟨g, ka * 9 + 4, none⟩ = some (.int .i64 a.lim.d) ∧ W.cell? ⟨g, ka * 9 + 5, none⟩ = some (.int .i64 a.us.a) ∧ W.cell? ⟨g, ka * 9 + 6, none⟩ = some (.int .i64 a.us.b) ∧ W.cell? ⟨g, ka * 9 + 7, none⟩ = some (.int .i64 a.us.c) ∧ W.cell? ⟨g, ka * 9 + 8, none⟩ = some (.int .i64 a.us.d)) (first | (with_reducible assumption) | (with_reducible exact zd) | (with_reducible exact zz) | (with_reducible exact za) | (exact za) | go_keep) (first | (go_at_call 32; refine D32.out.mono ?_; rintro e w4 ⟨rfl, hw4⟩; rw [hw4]; clear hw4 w4) | (go_at_call 32; refine A32.out.mono ?_; rintro e w4 ⟨rfl, hw4⟩; rw [hw4]; clear hw4 w4))
      all_goals (go_wp2_with fail; go_meet)
      all_goals exact ⟨rfl, HZ⟩
    case rest =>
      obtain ⟨rfl, HC⟩ := hcut
      clear HZ D32 A32 G32 zz zd za SS hn1 hn2 hn3 hrbl hgl hpl
      have hbl : w.heap.size ≤ wr.heap.size := HI.out.2.size
      generalize wr.heap.size = b7 at *
      have HB7 : Hid (Below w.heap.size w wc ∧ wc.heap[b7]? = some (cpy a)) := ⟨HI.out.2.trans (HC.out.1.mono hbl), HC.out.2⟩
      have HO : Hid (a.lim.ok = true ∧ a.us.ok = true) := hR.out.ok a HX.out.2.2.2
      have HQ : Hid (∀ (j : Nat) (e : E), j < k → es[j]? = some e → ∃ a, fnd A.nm e.n D = some a ∧ ((u0 D e.n).add (tot es e.n)).le a.lim = true) := HI.out.1
      clear HC HI
      go_wp2_with fail
      go_loopw [8] (fun x wr => ∃ j : Nat, x = .int .i64 j ∧ j ≤ 4 ∧ Hid ((∀ i, i < j → a.us.i i + pt es a.nm i ≤ a.lim.i i) ∧ Below w.heap.size w wr ∧ wr.heap[b7]? = some (cpy a))) (fun x _ => 4 - (intOf x).toNat)
      case atStart => exact ⟨0, rfl, by omega, fun _ h => absurd h (by omega), HB7.out⟩
      case round =>
        obtain ⟨j, rfl, hj, HJ⟩ := hrel
        clear HB7
        by_cases hj4 : j = 4
        · subst hj4
          have HN : Hid (∀ (j : Nat) (e : E), j < k + 1 → es[j]? = some e → ∃ a, fnd A.nm e.n D = some a ∧ ((u0 D e.n).add (tot es e.n)).le a.lim = true) := fun i e hi he => by
            by_cases hik : i = k
            · subst hik
              obtain rfl := Option.some.inj (HX.out.1.symm.trans he)
              exact ⟨a, HX.out.2.1, room_le HX.out.2.1 (by have := HJ.out.1; rwa [HX.out.2.2.1] at this)⟩
            · exact HQ.out i e (by omega) he
          clear HQ
          go_wp2_with fail
          refine ⟨⟨k + 1, by simp, by omega, HN.out, HJ.out.2.1⟩, ?_⟩
          simp only [intOf]
          omega
        · have hj3 : j < 4 := by omega
          have hj3' : (j : Int) < 4 := by omega
          obtain ⟨c0, c1, c2, c3, c4, c5, c6, c7, c8⟩ := cells9 HJ.out.2.2
          have cu : wr.cell? ⟨b7, 5 + j, none⟩ = some (.int .i64 (a.us.i j)) := by
            rcases (by omega : j = 0 ∨ j = 1 ∨ j = 2 ∨ j = 3) with rfl | rfl | rfl | rfl
            · exact c5
            · exact c6
            · exact c7
            · exact c8
          have cl : wr.cell? ⟨b7, 1 + j, none⟩ = some (.int .i64 (a.lim.i j)) := by
            rcases (by omega : j = 0 ∨ j = 1 ∨ j = 2 ∨ j = 3) with rfl | rfl | rfl | rfl
            · exact c1
            · exact c2
            · exact c3
            · exact c4
          have zz : wr.cell? ⟨b7, 0, none⟩ = some (.string ⟨⟨a.nm⟩⟩) ∧ wr.cell? ⟨b7, 5 + j, none⟩ = some (.int .i64 (a.us.i j)) ∧ wr.cell? ⟨b7, 1 + j, none⟩ = some (.int .i64 (a.lim.i j)) := ⟨c0, cu, cl⟩
          have zd : wr.drew.cell? ⟨b7, 0, none⟩ = some (.string ⟨⟨a.nm⟩⟩) ∧ wr.drew.cell? ⟨b7, 5 + j, none⟩ = some (.int .i64 (a.us.i j)) ∧ wr.drew.cell? ⟨b7, 1 + j, none⟩ = some (.int .i64 (a.lim.i j)) := ⟨c0, cu, cl⟩
          have D41 : Hid (Calls Try.prog 41 #[.slice (some ⟨p, o, none⟩) n cc, .string ⟨⟨a.nm⟩⟩, .int .i64 j] wr.drew fun e w' => (∃ z, e = .returned (.int .i64 z) ∧ Hid (Smd es a.nm j z)) ∧ w' = wr.drew) := H41.out _ _ _ HJ.out.2.1.drew hj3
          have ou := V.i_ok HO.out.2 j
          have ol := V.i_ok HO.out.1 j
          generalize hU : a.us.i j = U at *
          generalize hL : a.lim.i j = L at *
          have HJ2 : Hid ((∀ i, i < j → a.us.i i + pt es a.nm i ≤ a.lim.i i) ∧ a.us.i j = U ∧ a.lim.i j = L ∧ Below w.heap.size w wr.drew ∧ wr.drew.heap[b7]? = some (cpy a)) := ⟨HJ.out.1, hU, hL, HJ.out.2.1.drew, HJ.out.2.2⟩
          clear c0 c1 c2 c3 c4 c5 c6 c7 c8 cu cl HJ hU hL H41
          go_wp2_with fail
          go_cut [54] from 40 to 53 (fun x wx => wx = wr.drew ∧ ∃ z, x = .bool (decide (L < U + z)) ∧ Hid (Smd es a.nm j z))
          case first =>
            go_region_held3 (fun W : World => W.cell? ⟨b7, 0, none⟩ = some (.string ⟨⟨a.nm⟩⟩) ∧ W.cell? ⟨b7, 5 + j, none⟩ = some (.int .i64 U) ∧ W.cell? ⟨b7, 1 + j, none⟩ = some (.int .i64 L)) (first | (with_reducible assumption) | (with_reducible exact zd) | (with_reducible exact zz) | (exact zz) | go_keep) (first | (go_at_call 41; refine D41.out.mono ?_; rintro e w4 ⟨⟨z, rfl, hz⟩, hw4⟩; rw [hw4]; clear hw4 w4; have hw9 : IntKind.i64.wrap (U + z) = U + z := by have h1 := hz.out.1; have h2 := hz.out.2.1; rw [IntKind.wrap_i64]; omega))
            all_goals (go_wp2_with fail; go_meet)
            all_goals exact ⟨rfl, z, rfl, hz⟩
          case rest =>
            obtain ⟨rfl, z, rfl, hz⟩ := hcut
            generalize wr.drew = wd at *
            by_cases hb : L < U + z
            · have HE : Hid (Below w.heap.size w wd) := HJ2.out.2.2.2.1
              go_wp2_with fail
              go_ret
              exact ⟨rfl, HE⟩
            · have HE : Hid ((∀ i, i < j + 1 → a.us.i i + pt es a.nm i ≤ a.lim.i i) ∧ Below w.heap.size w wd ∧ wd.heap[b7]? = some (cpy a)) := by
                refine ⟨fun i hi => ?_, HJ2.out.2.2.2⟩
                by_cases e : i = j
                · subst e
                  rw [HJ2.out.2.1, HJ2.out.2.2.1]
                  have := hz.out.gt (x := L - U) (by omega)
                  omega
                · exact HJ2.out.1 i (by omega)
              clear HJ2
              go_wp2_with fail
              refine ⟨⟨j + 1, by simp, by omega, HE⟩, ?_⟩
              simp only [intOf]
              omega
end Go.Proofs.Ytehgcaaeifnjeaa
