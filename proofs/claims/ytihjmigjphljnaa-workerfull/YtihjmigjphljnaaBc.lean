/-
  The document's Register of a node that is there.
-/
import Derived.Test.YtihjmigjphljnaaBb
import Derived.Deep.RegionHeld3
import Derived.Deep.MidRow
import Derived.Laws.Cover1
set_option linter.unusedSimpArgs false
namespace Go.Proofs.Ytihjmigjphljnaa
open Go.RowKit Go.Maps
open Tk

theorem info46 : (Try.prog.info? 46).map (fun i => (i.zero, i.size, i.bytes)) = some (some (.agg #[.string ⟨#[]⟩, .int .i64 0, .int .i64 0, .int .i64 0, .int .i64 0, .int .i64 0, .int .i64 0, .bool false]), 8, 72) := by kernel_rfl
theorem set_upd {α : Type} {nm : α → List UInt8} {x : α} : ∀ {l : List α} {k : Nat} {f : α}, Srt nm l → l[k]? = some f → l.set k x = upd nm (nm f) x l
  | [], _, _, _, h => by simp at h
  | y :: r, 0, f, hs, h => by
    obtain rfl : y = f := by simpa using h
    have h1 := List.pairwise_cons.1 hs
    simp only [List.set_cons_zero, upd, List.map_cons, beq_self_eq_true, if_true]
    congr 1
    refine ((List.map_congr_left fun z hz => ?_).trans (List.map_id r)).symm
    have hne : (nm z == nm y) = false := by
      refine beq_false_of_ne fun e => ?_
      have := h1.1 z hz
      rw [e, WideAt.bytes_irrefl] at this
      cases this
    simp [hne]
  | y :: r, k + 1, f, hs, h => by
    have h1 := List.pairwise_cons.1 hs
    have hr : r[k]? = some f := by simpa using h
    have hne : (nm y == nm f) = false := by
      refine beq_false_of_ne fun e => ?_
      have := h1.1 f (List.mem_of_getElem? hr)
      rw [e, WideAt.bytes_irrefl] at this
      cases this
    rw [List.set_cons_succ, set_upd h1.2 hr]
    simp only [upd, List.map_cons, hne, Bool.false_eq_true, if_false]
theorem less_before : ∀ (a b : List UInt8), Op.bytesLess a b = bytesBefore a b
  | [], [] => rfl
  | [], _ :: _ => rfl
  | _ :: _, [] => rfl
  | x :: r, y :: s => by
    unfold Op.bytesLess bytesBefore
    rw [less_before r s]
theorem gt_before (a b : List UInt8) : (!(Op.bytesLess a b || a == b)) = bytesBefore b a := by
  rw [less_before]
  by_cases h : a = b
  · subst h
    simp [WideAt.bytes_irrefl]
  · rw [beq_false_of_ne h, Bool.or_false]
    rcases WideAt.bytes_total a b h with h1 | h1
    · rw [h1]
      cases h2 : bytesBefore b a with
      | false => rfl
      | true => have := WideShapes.bytes_trans _ _ _ h1 h2; rw [WideAt.bytes_irrefl] at this; cases this
    · rw [h1]
      cases h2 : bytesBefore a b with
      | false => rfl
      | true => have := WideShapes.bytes_trans _ _ _ h1 h2; rw [WideAt.bytes_irrefl] at this; cases this
theorem gtB (a b : ByteArray) : (!(Op.bytesLess a.toList b.toList || a.toList == b.toList)) = bytesBefore b.data.toList a.data.toList := by rw [Lib.toList_data, Lib.toList_data, gt_before]
theorem gtr_run (a b : ByteArray) (w : World) : (binOp .gtr 9 (.string a) (.string b)).run Try.prog w = .ok (.bool (bytesBefore b.data.toList a.data.toList)) w := by
  rw [binOp_string_gtr, gtB]
  rfl
theorem gtK (z : Nd) (s : ByteArray) : (!(Op.bytesLess z.nm.toList s.toList || z.nm.toList == s.toList)) = bytesBefore s.data.toList z.k := gtB z.nm s
theorem gtrK (z : Nd) (s : ByteArray) (w : World) : (binOp .gtr 9 (.string z.nm) (.string s)).run Try.prog w = .ok (.bool (bytesBefore s.data.toList z.k)) w := gtr_run z.nm s w
theorem cells_ne {w : World} {g h : Nat} {cs ds : Array Value} {t u : TypeId} {f k : Nat × Nat} (a : w.heap[g]? = some (.cells cs t f)) (b : w.heap[h]? = some (.cells ds u k)) (hn : t ≠ u) : g ≠ h := by
  rintro rfl
  rw [a] at b
  cases b
  exact hn rfl
section
variable {w : World} {g n c k : Nat} {L : List Nd} {a : Nd}
/-- a node is written whole -/
def set8 (w : World) (g o : Nat) (x : Nd) : World := (((((((w.setCell ⟨g, o, none⟩ (.string x.nm)).setCell ⟨g, o + 1, none⟩ (.int .i64 x.ep)).setCell ⟨g, o + 2, none⟩ (.int .i64 x.v.a)).setCell ⟨g, o + 3, none⟩ (.int .i64 x.v.b)).setCell ⟨g, o + 4, none⟩ (.int .i64 x.v.c)).setCell ⟨g, o + 5, none⟩ (.int .i64 x.v.d)).setCell ⟨g, o + 6, none⟩ (.int .i64 x.sn)).setCell ⟨g, o + 7, none⟩ (.bool x.lv)
theorem ar_set8 (h : AR w (.slice (some ⟨g, 0, none⟩) n c) L) (hlt : k < L.length) (x : Nd) : AR (set8 w g (k * 8) x) (.slice (some ⟨g, 0, none⟩) n c) (L.set k x) := by
  obtain ⟨a, hk⟩ : ∃ a, L[k]? = some a := ⟨_, List.getElem?_eq_getElem hlt⟩
  have s : ∀ (L : List Nd) (x : Nd), k < L.length → (L.set k x)[k]? = some x := fun L x h => by rw [List.getElem?_set_self h]
  have h0 := h.set1 hk (j := 0) (u := .string x.nm) (a' := ⟨x.nm, a.ep, a.v, a.sn, a.lv⟩) (by omega) rfl
  have h1 := AR.set1 h0 (s _ _ hlt) (j := 1) (u := .int .i64 x.ep) (a' := ⟨x.nm, x.ep, a.v, a.sn, a.lv⟩) (by omega) rfl
  rw [List.set_set] at h1
  have h2 := AR.set1 h1 (s _ _ hlt) (j := 2) (u := .int .i64 x.v.a) (a' := ⟨x.nm, x.ep, ⟨x.v.a, a.v.b, a.v.c, a.v.d⟩, a.sn, a.lv⟩) (by omega) rfl
  rw [List.set_set] at h2
  have h3 := AR.set1 h2 (s _ _ hlt) (j := 3) (u := .int .i64 x.v.b) (a' := ⟨x.nm, x.ep, ⟨x.v.a, x.v.b, a.v.c, a.v.d⟩, a.sn, a.lv⟩) (by omega) rfl
  rw [List.set_set] at h3
  have h4 := AR.set1 h3 (s _ _ hlt) (j := 4) (u := .int .i64 x.v.c) (a' := ⟨x.nm, x.ep, ⟨x.v.a, x.v.b, x.v.c, a.v.d⟩, a.sn, a.lv⟩) (by omega) rfl
  rw [List.set_set] at h4
  have h5 := AR.set1 h4 (s _ _ hlt) (j := 5) (u := .int .i64 x.v.d) (a' := ⟨x.nm, x.ep, x.v, a.sn, a.lv⟩) (by omega) rfl
  rw [List.set_set] at h5
  have h6 := AR.set1 h5 (s _ _ hlt) (j := 6) (u := .int .i64 x.sn) (a' := ⟨x.nm, x.ep, x.v, x.sn, a.lv⟩) (by omega) rfl
  rw [List.set_set] at h6
  have h7 := AR.set1 h6 (s _ _ hlt) (j := 7) (u := .bool x.lv) (a' := x) (by omega) rfl
  rw [List.set_set] at h7
  exact h7
end
theorem kp_one {S : Nat → Prop} {w W : World} {g i : Nat} {v : Value} (h : Kp S w W) (hg : S g) : Kp S w (W.setCell ⟨g, i, none⟩ v) := h.trans (Kp.of_set (S := S) _ _ _ hg) fun _ _ h => h
theorem kp_set8 {S : Nat → Prop} {w W : World} {g o : Nat} {x : Nd} (h : Kp S w W) (hg : S g) : Kp S w (set8 W g o x) := kp_one (kp_one (kp_one (kp_one (kp_one (kp_one (kp_one (kp_one h hg) hg) hg) hg) hg) hg) hg) hg
theorem ar_there {w : World} {g n c k : Nat} {L : List Nd} (h : AR w (.slice (some ⟨g, 0, none⟩) n c) L) (hk : k < L.length) : w.there g (k * 8) 8 := fun j hj => by
  obtain ⟨a, ha⟩ : ∃ a, L[k]? = some a := ⟨_, List.getElem?_eq_getElem hk⟩
  refine ⟨?_, h.fz _⟩
  obtain ⟨g', e, hc⟩ := h.at aC_len ha
  simp only [Option.some.injEq, Addr.mk.injEq, and_true] at e
  subst e
  rw [hc j _ (List.getElem?_eq_getElem (by rw [aC_len]; exact hj))]
  rfl
theorem ar_range {w : World} {g n c k : Nat} {L : List Nd} {a : Nd} (h : AR w (.slice (some ⟨g, 0, none⟩) n c) L) (ha : L[k]? = some a) : w.rangeAt g (k * 8) (aC a) := fun j u hj => by
  obtain ⟨g', e, hc⟩ := h.at aC_len ha
  simp only [Option.some.injEq, Addr.mk.injEq, and_true] at e
  subst e
  exact hc j u hj
theorem set8_eq (w : World) (g o : Nat) (x : Nd) : w.setCells g o (aC x) = set8 w g o x := rfl
theorem setC_eq (w : World) (g o : Nat) (x : Nd) : w.setCells g o (aC x).toArray.toList = set8 w g o x := rfl
theorem range_set8 {w : World} {g o b o' : Nat} {x y : Nd} (h : w.rangeAt b o' (aC y)) (hap : b ≠ g ∨ o' + (aC y).length ≤ o ∨ o + (aC x).length ≤ o') : (set8 w g o x).rangeAt b o' (aC y) := by
  rw [← set8_eq]
  exact World.rangeAt_setCells_apart h g o (aC x) hap
theorem info46s : (Try.prog.info? 46).map (·.size) = some 8 := by kernel_rfl
theorem cell_set8 {w : World} {g o rb : Nat} {x : Nd} (h : rb ≠ g) : (set8 w g o x).cell? ⟨rb, 0, none⟩ = w.cell? ⟨rb, 0, none⟩ := by
  rw [← set8_eq]
  exact World.cell?_setCells_out g (aC x) o w ⟨rb, 0, none⟩ (fun e => absurd e h)
theorem RAt.set {w w' : World} {rb g n c k : Nat} {D : List Nd} {x : Nd} (h : RAt w rb (some ⟨g, 0, none⟩) n c D) {a : Nd} (hk : D[k]? = some a) (hn : x.k = a.k) (hok : x.ok) (hr : AR w' (.slice (some ⟨g, 0, none⟩) n c) (D.set k x)) (hp : Kp (· = g) w w') : RAt w' rb (some ⟨g, 0, none⟩) n c (upd Nd.k a.k x D) := by
  have e := set_upd (x := x) h.srt hk
  rw [e] at hr
  exact ⟨(hp.block rb h.lt fun q => h.ne q.symm).trans h.cell, hr, srt_upd hn h.srt, by rw [upd_length]; exact h.len, fun b hb => by
    rcases mem_upd hb with rfl | ⟨hb, _⟩
    · exact hok
    · exact h.ok b hb⟩
theorem Ref.set {w w' : World} {T : Nat → Prop} {rb g n c : Nat} {D' : List Nd} (hT : ∀ k, (k = rb ∨ (Value.slice (some ⟨g, 0, none⟩) n c).ownBlock = some k) → T k) (hlt : ∀ k, T k → k < w.heap.size) (h : RAt w' rb (some ⟨g, 0, none⟩) n c D') (hp : Kp (· = g) w w') : Ref w' T rb D' ∧ Step T T w w' := ⟨⟨⟨_, _, _, h, hT⟩, fun k hk => Nat.lt_of_lt_of_le (hlt k hk) hp.size⟩, hp.mono fun k _ e => hT k (.inr (by rw [show k = g from e]; rfl)), fun _ h => .inl h⟩

set_option maxHeartbeats 4000000 in
set_option maxRecDepth 100000 in
theorem rreg_set (w : World) (rb g n c k : Nat) (D : List Nd) (a : Nd) (s : ByteArray) (hs : s.size ≤ 281474976710656) (ep now : Int) (v : V) (hnm : Txt.name s = true) (hv : v.ok = true) (hr : inR ep now) (ha : Hid (D[k]? = some a)) (hl : a.ep < ep) (hR : Hid (RAt w rb (some ⟨g, 0, none⟩) n c D)) (H : Hid (∀ w1, Below w.heap.size w w1 → Calls Try.prog 39 #[.pointer (some ⟨rb, 0, none⟩), .string s] w1 fun e w' => e = .returned (.int .i64 k) ∧ w' = w1)) : Calls Try.prog 22 #[.pointer (some ⟨rb, 0, none⟩), .string s, .int .i64 ep, .agg #[.int .i64 v.a, .int .i64 v.b, .int .i64 v.c, .int .i64 v.d], .int .i64 now] w fun e w' => e = ansR (a.lv, 0) ∧ Hid (∃ U, Below w.heap.size w U ∧ w' = set8 U g (k * 8) ⟨s, ep, v, now, true⟩) := by
  obtain ⟨q0, q1, q2, q3, -⟩ := cells4 (new0 (w := w) (o := .cells #[.int .i64 v.a, .int .i64 v.b, .int .i64 v.c, .int .i64 v.d] 32 (0, 0)))
  have Y : Hid (Below w.heap.size w (w.alloc (.cells #[.int .i64 v.a, .int .i64 v.b, .int .i64 v.c, .int .i64 v.d] 32 (0, 0)))) := (Below.refl _ w).alloc (Nat.le_refl _) _
  have ZZ : Hid ((w.alloc (.cells #[.int .i64 v.a, .int .i64 v.b, .int .i64 v.c, .int .i64 v.d] 32 (0, 0))).heap[w.heap.size]? = some (.cells #[.int .i64 v.a, .int .i64 v.b, .int .i64 v.c, .int .i64 v.d] 32 (0, 0))) := new0
  have HN := rname_hid hs hnm
  have HC := rok_hid hv
  have hkl := (List.getElem?_eq_some_iff.1 ha.out).1
  have hki : (k : Int) < (n : Int) := by have := hR.out.n; omega
  have hk0 : (0 : Int) ≤ (k : Int) := by omega
  obtain ⟨⟨i1, i2⟩, i3, i4⟩ := hr
  clear hv hs hnm hkl
  go_enter Try.func22, Try.ntmps22
  go_upto_region 3 with (first | (go_at_call 37; refine (HN.out _).mono ?_; rintro e w1 ⟨rfl, rfl⟩; clear HN) | (go_at_call 38; refine (HC.out _).mono ?_; rintro e w1 ⟨rfl, hb⟩))
  have Y1 : Hid (Below w.heap.size w w1) := below_from Y.out hb.out Y.out.size
  have Z1 := at_below hb.out (Nat.le_refl _) ZZ.out
  clear q0 q1 q2 q3 Y HC hb ZZ
  go_upto_region 6 with (go_at_call 39; refine (H.out _ Y1.out).mono ?_; rintro e w2 ⟨rfl, h2⟩; obtain rfl := h2.symm)
  have R1 : Hid (RAt w1 rb (some ⟨g, 0, none⟩) n c D) := hR.out.below Y1.out
  obtain ⟨q0, q1, q2, q3, -⟩ := cells4 Z1
  have e0 := c1 R1.out.cell
  obtain ⟨-, l1, -, -, -, -, -, l7⟩ := R1.out.row.cells ha.out
  have hrb : rb < w1.heap.size := R1.out.lt
  have hgl : g < w1.heap.size := R1.out.row.lt rfl
  have hgr : Hid (rb ≠ g) := fun e => R1.out.ne e.symm
  clear Z1 hR H
  go_upto_region 13 with fail
  have B2 : Hid (Below w1.heap.size w1 (w1.alloc (.cells #[.string s, .int .i64 ep, .int .i64 v.a, .int .i64 v.b, .int .i64 v.c, .int .i64 v.d, .int .i64 now, .bool true] 46))) := (Below.refl _ w1).alloc (Nat.le_refl _) _
  have HX8 : Hid ((w1.alloc (.cells #[.string s, .int .i64 ep, .int .i64 v.a, .int .i64 v.b, .int .i64 v.c, .int .i64 v.d, .int .i64 now, .bool true] 46)).rangeAt w1.heap.size 0 (aC ⟨s, ep, v, now, true⟩)) := fun j u hj => by
    rw [Nat.zero_add, cell_of new0]
    simpa [aC] using hj
  have HG : Hid (rb ≠ g ∧ w1.heap.size ≠ g) := ⟨hgr.out, by omega⟩
  have R2 : Hid (RAt (w1.alloc (.cells #[.string s, .int .i64 ep, .int .i64 v.a, .int .i64 v.b, .int .i64 v.c, .int .i64 v.d, .int .i64 now, .bool true] 46)) rb (some ⟨g, 0, none⟩) n c D) := R1.out.below B2.out
  have HT : Hid ((w1.alloc (.cells #[.string s, .int .i64 ep, .int .i64 v.a, .int .i64 v.b, .int .i64 v.c, .int .i64 v.d, .int .i64 now, .bool true] 46)).there g (k * 8) 8) := ar_there R2.out.row (List.getElem?_eq_some_iff.1 ha.out).1
  have YB : Hid (Below w.heap.size w (w1.alloc (.cells #[.string s, .int .i64 ep, .int .i64 v.a, .int .i64 v.b, .int .i64 v.c, .int .i64 v.d, .int .i64 now, .bool true] 46))) := below_from Y1.out B2.out Y1.out.size
  clear q0 q1 q2 q3 l1 l7 e0 R1
  have d1 := c1 R2.out.cell
  generalize (w1.alloc (.cells #[.string s, .int .i64 ep, .int .i64 v.a, .int .i64 v.b, .int .i64 v.c, .int .i64 v.d, .int .i64 now, .bool true] 46)) = W at *
  refine wp_region_held_drew (S := fun w' => w'.cell? ⟨rb, 0, none⟩ = some (.slice (some ⟨g, 0, none⟩) n c) ∧ w'.rangeAt w1.heap.size 0 (aC ⟨s, ep, v, now, true⟩)) (by kernel_rfl) ⟨d1, HX8.out⟩ (fun h0 => ?_)
  refine wpAnyH_take (i := 0) (v := (.pointer (some ⟨rb, 0, none⟩))) rfl (by kernel_rfl) (by kernel_rfl) (by kernel_rfl) (fun _ _ _ h => h) (Or.inl ⟨by rfl, fun w hSw => ?_⟩) h0 ?_
  next => (clear hSw; first | rfl | go_simp)
  simp only [Act.put, List.setIfInBounds_toArray, List.set_cons_zero, List.set_cons_succ, List.getElem_toArray, List.getElem_cons_succ, List.getElem_cons_zero]
  refine wpAnyH_take (i := 1) (v := (.pointer (some ⟨rb, 0, none⟩))) rfl (by kernel_rfl) (by kernel_rfl) (by kernel_rfl) (fun _ _ _ h => h) (Or.inl ⟨by rfl, fun w hSw => ?_⟩) h0 ?_
  next => (clear hSw; first | rfl | go_simp)
  simp only [Act.put, List.setIfInBounds_toArray, List.set_cons_zero, List.set_cons_succ, List.getElem_toArray, List.getElem_cons_succ, List.getElem_cons_zero]
  refine wpAnyH_take (i := 2) (v := (.pointer (some ⟨rb, 0, none⟩))) rfl (by kernel_rfl) (by kernel_rfl) (by kernel_rfl) (fun _ _ _ h => h) (Or.inl ⟨by rfl, fun w hSw => ?_⟩) h0 ?_
  next => (clear hSw; first | rfl | go_simp)
  simp only [Act.put, List.setIfInBounds_toArray, List.set_cons_zero, List.set_cons_succ, List.getElem_toArray, List.getElem_cons_succ, List.getElem_cons_zero]
  refine wpAnyH_take (i := 3) (v := (.slice (some ⟨g, 0, none⟩) n c)) rfl (by kernel_rfl) (by kernel_rfl) (by kernel_rfl) (fun _ _ _ h => h) (Or.inl ⟨by rfl, fun w hSw => ?_⟩) h0 ?_
  next => (have hc := hSw.1; go_simp)
  simp only [Act.put, List.setIfInBounds_toArray, List.set_cons_zero, List.set_cons_succ, List.getElem_toArray, List.getElem_cons_succ, List.getElem_cons_zero]
  refine wpAnyH_take (i := 4) (v := (.int .i64 (k : Nat))) rfl (by kernel_rfl) (by kernel_rfl) (by kernel_rfl) (fun _ _ _ h => h) (Or.inl ⟨by rfl, fun w hSw => ?_⟩) h0 ?_
  next => (clear hSw; first | rfl | go_simp)
  simp only [Act.put, List.setIfInBounds_toArray, List.set_cons_zero, List.set_cons_succ, List.getElem_toArray, List.getElem_cons_succ, List.getElem_cons_zero]
  refine wpAnyH_take (i := 5) (v := (.agg (aC ⟨s, ep, v, now, true⟩).toArray)) rfl (by kernel_rfl) (by kernel_rfl) (by kernel_rfl) (fun _ _ _ h => h) (yieldsIf_load_mid (by rfl) _ _ rfl _ _ rfl (aC ⟨s, ep, v, now, true⟩) _ (fun _ h => h.2) Try.underlying46 rfl info46s) h0 ?_
  simp only [Act.put, List.setIfInBounds_toArray, List.set_cons_zero, List.set_cons_succ, List.getElem_toArray, List.getElem_cons_succ, List.getElem_cons_zero]
  refine wpAnyH_take (i := 6) (v := (.pointer (some ⟨g, k * 8, none⟩))) rfl (by kernel_rfl) (by kernel_rfl) (by kernel_rfl) (fun _ _ _ h => h) (Or.inl ⟨by rfl, fun w hSw => ?_⟩) h0 ?_
  next => (clear hSw; go_simp)
  simp only [Act.put, List.setIfInBounds_toArray, List.set_cons_zero, List.set_cons_succ, List.getElem_toArray, List.getElem_cons_succ, List.getElem_cons_zero]
  refine wpAnyH_ready (rs := [7]) (by kernel_rfl) (by simp) (AllReadyH.cons rfl (fun K hK => ?_) AllReadyH.nil)
  rw [if_pos (by rfl)]
  refine wp_store_mid 46 _ _ rfl g (k * 8) (aC ⟨s, ep, v, now, true⟩).toArray rfl rfl HT.out info46s (all_oneCell_toArray (aC_one _)) ?_
  rw [setC_eq]
  refine hK.out _ _ ⟨(cell_set8 HG.out.1).trans d1, range_set8 HX8.out (.inl HG.out.2)⟩ (fun h1 => ?_)
  have YD : Hid (Below w.heap.size w W.drew) := below_drewN YB.out 1
  clear h0 h1 hK HT HG d1 HX8
  refine wpAnyH_done (by kernel_rfl) ?_ _
  have HE : Hid (∃ U, Below w.heap.size w U ∧ set8 W.drew g (k * 8) ⟨s, ep, v, now, true⟩ = set8 U g (k * 8) ⟨s, ep, v, now, true⟩) := ⟨_, YD.out, rfl⟩
  generalize set8 W.drew g (k * 8) ⟨s, ep, v, now, true⟩ = W9 at *
  go_wp2_with fail
  go_ret2
  exact ⟨rfl, HE.out⟩
end Go.Proofs.Ytihjmigjphljnaa
