/-
  Those that are below; all give back, one behind the other.
-/
import Derived.Test.YtcfnonfghlgphaaEb
import Derived.Test.YtcfnonfghlgphaaGe
namespace Go.Proofs.Ytcfnonfghlgphaa
open Go.RowKit Go.Maps

theorem info49 : (Try.prog.info? 49).map (fun i => (i.zero, i.size, i.bytes)) = some (some (.agg #[.int .i64 0, .int .i64 0, .int .i64 0, .slice none 0 0, .slice none 0 0]), 5, 72) := by kernel_rfl
/-- rows of victims -/
abbrev VR (b : Nat) (w : World) (v : Value) (L : List Vi) : Prop := GRow 49 5 viC b w v L
def BlwP (w : World) (p : Int) (L : List Vi) (e : Ending) (w' : World) : Prop := ∃ q m c, e = .returned (.slice q m c) ∧ (blw p L).length = m ∧ Hid (VR w.heap.size w' (.slice q m c) (blw p L) ∧ Below w.heap.size w w')
theorem blw_next {p : Int} {L : List Vi} {k : Nat} {v : Vi} (h : L[k]? = some v) : blw p (L.take (k + 1)) = if v.p < p then blw p (L.take k) ++ [v] else blw p (L.take k) := by
  rw [take_next h]
  unfold blw
  rw [List.filter_append]
  by_cases q : v.p < p
  · rw [if_pos q, List.filter_cons_of_pos (by simpa using q)]; rfl
  · rw [if_neg q, List.filter_cons_of_neg (by simpa using q), List.filter_nil, List.append_nil]
theorem blw_le (p : Int) (L : List Vi) : (blw p L).length ≤ L.length := List.length_filter_le _ _
set_option maxHeartbeats 2000000 in
set_option maxRecDepth 100000 in
theorem below_any (p : Int) (L : List Vi) (q : Option Addr) (n c : Nat) (w : World) (hL : Hid (VA w q L)) (hn : Hid (L.length = n)) (n1 : n ≤ 1000000) :
    Calls Try.prog 27 #[.int .i64 p, .slice q n c] w (BlwP w p L) := by
  go_enter Try.func27, Try.ntmps27
  go_wp2_with fail
  go_loopw [5, 10] (fun x y wr => ∃ (k : Nat) (r : Option Addr) (m c' : Nat), x = .slice r m c' ∧ y = .int .i64 k ∧ k ≤ n ∧ m ≤ k ∧ Hid (VR w.heap.size wr (.slice r m c') (blw p (L.take k)) ∧ Below w.heap.size w wr)) (fun _ y _ => n - (intOf y).toNat)
  case atStart => exact ⟨0, none, 0, 0, rfl, rfl, Nat.zero_le _, Nat.le_refl _, GRow.nil _ _ _ _ _, Below.refl _ _⟩
  case round =>
    obtain ⟨k, r, m, c', rfl, rfl, hk, hmk, HT⟩ := hrel
    by_cases h0 : k = n
    · subst h0
      have HE : Hid (VR w.heap.size wr (.slice r m c') (blw p L) ∧ Below w.heap.size w wr) := by
        have h1 := HT.out
        rw [List.take_of_length_le (Nat.le_of_eq hn.out)] at h1
        exact h1
      clear HT
      go_wp2_with fail
      go_ret
      exact ⟨r, m, c', rfl, HE.out.1.len.symm, HE.out⟩
    · have hlt' : (k : Int) < (n : Int) := by omega
      have hd : decide ((k : Int) < (n : Int)) = true := decide_eq_true hlt'
      obtain ⟨v, hv⟩ : ∃ v, L[k]? = some v := ⟨L[k]'(by have := hn.out; omega), List.getElem?_eq_getElem _⟩
      obtain ⟨g, o, rfl, c0, c1, c2, c3, c4⟩ := VA.at (hL.out.below HT.out.2) hv
      have hbn := blw_next (p := p) hv
      have N1 := new0 (w := wr) (o := .cells #[.int .i64 v.j, .int .i64 v.p, .int .i64 v.s, .slice v.qT v.nT v.cT, .slice v.qN v.nN v.cN] 49)
      have B1 : Hid (Below wr.heap.size wr (wr.alloc (.cells #[.int .i64 v.j, .int .i64 v.p, .int .i64 v.s, .slice v.qT v.nT v.cT, .slice v.qN v.nN v.cN] 49))) := (Below.refl _ _).alloc (Nat.le_refl _) _
      by_cases hp : v.p < p
      · rw [if_pos hp] at hbn
        have HB : Hid (blw p (L.take (k + 1)) = blw p (L.take k) ++ [v]) := hbn
        have HV : Hid (∀ w g, w.heap[g]? = some (.cells #[.int .i64 v.j, .int .i64 v.p, .int .i64 v.s, .slice v.qT v.nT v.cT, .slice v.qN v.nN v.cN] 49 (0, 0)) → RowV w g 0 ([v].flatMap viC)) := fun w g h => row_one h rfl
        clear hv hbn
        generalize hj : v.j = vj at *
        generalize hpp : v.p = vp at *
        generalize hs : v.s = vs at *
        generalize v.qT = vqT at *
        generalize v.nT = vnT at *
        generalize v.cT = vcT at *
        generalize v.qN = vqN at *
        generalize v.nN = vnN at *
        generalize v.cN = vcN at *
        clear hj hpp hs
        go_upto_region 5 with fail
        generalize wr.alloc (.cells #[.int .i64 vj, .int .i64 vp, .int .i64 vs, .slice vqT vnT vcT, .slice vqN vnN vcN] 49) = W1 at *
        have d0 := Lib.cell_of_heap N1 0
        have d1 := Lib.cell_of_heap N1 1
        have d2 := Lib.cell_of_heap N1 2
        have d3 := Lib.cell_of_heap N1 3
        have d4 := Lib.cell_of_heap N1 4
        have hd1 := (Array.getElem?_eq_some_iff.1 N1).1
        go_wp2_with (at_builtin; refine append_g (B := w.heap.size) viC_len viC_one Try.underlying22 info49 rfl (by decide) rfl _ _ rfl r m c' (blw p (L.take k)) rfl ((HT.out.1.below B1.out).below ((Below.refl _ _).alloc (Nat.le_refl _) _)) (Nat.le_trans (Nat.le_trans HT.out.2.size B1.out.size) (by simp)) _ 0 1 1 [v] rfl rfl (HV.out _ _ new0) (by unfold maxLen; omega) (by omega) ?_; intro p3 c3 w3 hr3 hb3; have h3 : Hid (VR w.heap.size w3 (.slice p3 (m + 1) c3) (blw p (L.take (k + 1))) ∧ Below w.heap.size w w3) := (by show _ ∧ _; rw [HB.out]; exact ⟨hr3, ((below_from HT.out.2 B1.out HT.out.2.size).alloc (Nat.le_trans HT.out.2.size B1.out.size) _).trans hb3⟩))
        refine ⟨⟨k + 1, p3, m + 1, c3, by simp, by simp, by omega, by omega, h3.out⟩, by simp only [intOf]; omega⟩
      · rw [if_neg hp] at hbn
        have HB : Hid (blw p (L.take (k + 1)) = blw p (L.take k)) := hbn
        clear hv hbn
        generalize hj : v.j = vj at *
        generalize hpp : v.p = vp at *
        generalize hs : v.s = vs at *
        clear hj hpp hs
        go_upto_region 5 with fail
        generalize wr.alloc (.cells #[.int .i64 vj, .int .i64 vp, .int .i64 vs, .slice v.qT v.nT v.cT, .slice v.qN v.nN v.cN] 49) = W1 at *
        have d1 := Lib.cell_of_heap N1 1
        have hd1 := (Array.getElem?_eq_some_iff.1 N1).1
        go_wp2_with fail
        refine ⟨⟨k + 1, r, m, c', by simp, by simp, by omega, by omega, ?_, below_from HT.out.2 B1.out HT.out.2.size⟩, by simp only [intOf]; omega⟩
        rw [HB.out]
        exact HT.out.1.below B1.out
end Go.Proofs.Ytcfnonfghlgphaa
