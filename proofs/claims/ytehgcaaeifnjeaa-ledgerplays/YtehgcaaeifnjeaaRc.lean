/-
  The document's ledger: Open.
-/
import Derived.Test.YtehgcaaeifnjeaaRa
import Derived.Deep.RegionLaw
import Derived.Deep.AppendLies
import Derived.Laws.Cover1
namespace Go.Proofs.Ytehgcaaeifnjeaa
open Go.RowKit Go.Maps

theorem info65 : (Try.prog.info? 65).map (fun i => (i.zero, i.size, i.bytes)) = some (some (.agg #[.string ⟨#[]⟩, .int .i64 0, .int .i64 0, .int .i64 0, .int .i64 0, .int .i64 0, .int .i64 0, .int .i64 0, .int .i64 0]), 9, 80) := by kernel_rfl
theorem set_upd {α : Type} {nm : α → List UInt8} {x : α} : ∀ {l : List α} {k : Nat} {f : α}, Srt nm l → l[k]? = some f → l.set k x = upd nm (nm f) x l
  | [], _, _, _, h => by simp at h
  | y :: r, 0, f, hs, h => by
    obtain rfl : y = f := by simpa using h
    have h1 := List.pairwise_cons.1 hs
    simp only [List.set_cons_zero, upd, List.map_cons, beq_self_eq_true, if_true]
    congr 1
    refine ((List.map_congr_left fun z hz => ?_).trans (List.map_id r)).symm
    have hne : (nm z == nm y) = false := by
      refine beq_false_of_ne fun e => ?_
      have := h1.1 z hz
      rw [e, WideAt.bytes_irrefl] at this
      cases this
    simp [hne]
  | y :: r, k + 1, f, hs, h => by
    have h1 := List.pairwise_cons.1 hs
    have hr : r[k]? = some f := by simpa using h
    have hne : (nm y == nm f) = false := by
      refine beq_false_of_ne fun e => ?_
      have := h1.1 f (List.mem_of_getElem? hr)
      rw [e, WideAt.bytes_irrefl] at this
      cases this
    rw [List.set_cons_succ, set_upd h1.2 hr]
    simp only [upd, List.map_cons, hne, Bool.false_eq_true, if_false]
section
variable {w : World} {g n c k : Nat} {L : List A} {a : A}
/-- the limit is written -/
theorem ar_setLim (h : AR w (.slice (some ⟨g, 0, none⟩) n c) L) (hk : L[k]? = some a) (v : V) : AR ((((w.setCell ⟨g, k * 9 + 1, none⟩ (.int .i64 v.a)).setCell ⟨g, k * 9 + 1 + 1, none⟩ (.int .i64 v.b)).setCell ⟨g, k * 9 + 1 + 2, none⟩ (.int .i64 v.c)).setCell ⟨g, k * 9 + 1 + 3, none⟩ (.int .i64 v.d)) (.slice (some ⟨g, 0, none⟩) n c) (L.set k ⟨a.nm, v, a.us⟩) := by
  have hlt := (List.getElem?_eq_some_iff.1 hk).1
  have s : ∀ (L : List A) (x : A), k < L.length → (L.set k x)[k]? = some x := fun L x h => by rw [List.getElem?_set_self h]
  have h1 := h.set1 hk (j := 1) (u := .int .i64 v.a) (a' := ⟨a.nm, ⟨v.a, a.lim.b, a.lim.c, a.lim.d⟩, a.us⟩) (by omega) rfl
  have h2 := AR.set1 h1 (s _ _ hlt) (j := 2) (u := .int .i64 v.b) (a' := ⟨a.nm, ⟨v.a, v.b, a.lim.c, a.lim.d⟩, a.us⟩) (by omega) rfl
  rw [List.set_set] at h2
  have h3 := AR.set1 h2 (s _ _ hlt) (j := 3) (u := .int .i64 v.c) (a' := ⟨a.nm, ⟨v.a, v.b, v.c, a.lim.d⟩, a.us⟩) (by omega) rfl
  rw [List.set_set] at h3
  have h4 := AR.set1 h3 (s _ _ hlt) (j := 4) (u := .int .i64 v.d) (a' := ⟨a.nm, ⟨v.a, v.b, v.c, v.d⟩, a.us⟩) (by omega) rfl
  rw [List.set_set] at h4
  exact h4
/-- an account is written whole -/
def set9 (w : World) (g o : Nat) (x : A) : World := ((((((((w.setCell ⟨g, o, none⟩ (.string ⟨⟨x.nm⟩⟩)).setCell ⟨g, o + 1, none⟩ (.int .i64 x.lim.a)).setCell ⟨g, o + 2, none⟩ (.int .i64 x.lim.b)).setCell ⟨g, o + 3, none⟩ (.int .i64 x.lim.c)).setCell ⟨g, o + 4, none⟩ (.int .i64 x.lim.d)).setCell ⟨g, o + 5, none⟩ (.int .i64 x.us.a)).setCell ⟨g, o + 6, none⟩ (.int .i64 x.us.b)).setCell ⟨g, o + 7, none⟩ (.int .i64 x.us.c)).setCell ⟨g, o + 8, none⟩ (.int .i64 x.us.d)
theorem ar_set9 (h : AR w (.slice (some ⟨g, 0, none⟩) n c) L) (hlt : k < L.length) (x : A) : AR (set9 w g (k * 9) x) (.slice (some ⟨g, 0, none⟩) n c) (L.set k x) := by
  obtain ⟨a, hk⟩ : ∃ a, L[k]? = some a := ⟨_, List.getElem?_eq_getElem hlt⟩
  have s : ∀ (L : List A) (x : A), k < L.length → (L.set k x)[k]? = some x := fun L x h => by rw [List.getElem?_set_self h]
  have l : ∀ (x : A), k < (L.set k x).length := fun x => by rw [List.length_set]; exact hlt
  have h0 := h.set1 hk (j := 0) (u := .string ⟨⟨x.nm⟩⟩) (a' := ⟨x.nm, a.lim, a.us⟩) (by omega) rfl
  have h1 := AR.set1 h0 (s _ _ hlt) (j := 1) (u := .int .i64 x.lim.a) (a' := ⟨x.nm, ⟨x.lim.a, a.lim.b, a.lim.c, a.lim.d⟩, a.us⟩) (by omega) rfl
  rw [List.set_set] at h1
  have h2 := AR.set1 h1 (s _ _ hlt) (j := 2) (u := .int .i64 x.lim.b) (a' := ⟨x.nm, ⟨x.lim.a, x.lim.b, a.lim.c, a.lim.d⟩, a.us⟩) (by omega) rfl
  rw [List.set_set] at h2
  have h3 := AR.set1 h2 (s _ _ hlt) (j := 3) (u := .int .i64 x.lim.c) (a' := ⟨x.nm, ⟨x.lim.a, x.lim.b, x.lim.c, a.lim.d⟩, a.us⟩) (by omega) rfl
  rw [List.set_set] at h3
  have h4 := AR.set1 h3 (s _ _ hlt) (j := 4) (u := .int .i64 x.lim.d) (a' := ⟨x.nm, x.lim, a.us⟩) (by omega) rfl
  rw [List.set_set] at h4
  have h5 := AR.set1 h4 (s _ _ hlt) (j := 5) (u := .int .i64 x.us.a) (a' := ⟨x.nm, x.lim, ⟨x.us.a, a.us.b, a.us.c, a.us.d⟩⟩) (by omega) rfl
  rw [List.set_set] at h5
  have h6 := AR.set1 h5 (s _ _ hlt) (j := 6) (u := .int .i64 x.us.b) (a' := ⟨x.nm, x.lim, ⟨x.us.a, x.us.b, a.us.c, a.us.d⟩⟩) (by omega) rfl
  rw [List.set_set] at h6
  have h7 := AR.set1 h6 (s _ _ hlt) (j := 7) (u := .int .i64 x.us.c) (a' := ⟨x.nm, x.lim, ⟨x.us.a, x.us.b, x.us.c, a.us.d⟩⟩) (by omega) rfl
  rw [List.set_set] at h7
  have h8 := AR.set1 h7 (s _ _ hlt) (j := 8) (u := .int .i64 x.us.d) (a' := x) (by omega) rfl
  rw [List.set_set] at h8
  exact h8
end
theorem kp_one {S : Nat → Prop} {w W : World} {g i : Nat} {v : Value} (h : Kp S w W) (hg : S g) : Kp S w (W.setCell ⟨g, i, none⟩ v) := h.trans (Kp.of_set (S := S) _ _ _ hg) fun _ _ h => h
theorem kp_set9 {S : Nat → Prop} {w W : World} {g o : Nat} {x : A} (h : Kp S w W) (hg : S g) : Kp S w (set9 W g o x) := kp_one (kp_one (kp_one (kp_one (kp_one (kp_one (kp_one (kp_one (kp_one h hg) hg) hg) hg) hg) hg) hg) hg) hg
theorem RAt.set {w w' : World} {rb g n c k : Nat} {D : List A} {x : A} (h : RAt w rb (some ⟨g, 0, none⟩) n c D) {a : A} (hk : D[k]? = some a) (hn : x.nm = a.nm) (hok : x.lim.ok = true ∧ x.us.ok = true) (hr : AR w' (.slice (some ⟨g, 0, none⟩) n c) (D.set k x)) (hp : Kp (· = g) w w') : RAt w' rb (some ⟨g, 0, none⟩) n c (upd A.nm a.nm x D) := by
  have e := set_upd (x := x) h.srt hk
  rw [e] at hr
  exact ⟨(hp.block rb h.lt fun q => h.ne q.symm).trans h.cell, hr, srt_upd hn h.srt, by rw [upd_length]; exact h.len, fun b hb => by
    rcases mem_upd hb with rfl | ⟨hb, _⟩
    · exact hok
    · exact h.ok b hb⟩
theorem Ref.set {w w' : World} {T : Nat → Prop} {rb g n c : Nat} {D' : List A} (hT : ∀ k, (k = rb ∨ (Value.slice (some ⟨g, 0, none⟩) n c).ownBlock = some k) → T k) (hlt : ∀ k, T k → k < w.heap.size) (h : RAt w' rb (some ⟨g, 0, none⟩) n c D') (hp : Kp (· = g) w w') : Ref w' T rb D' ∧ Step T T w w' := ⟨⟨⟨_, _, _, h, hT⟩, fun k hk => Nat.lt_of_lt_of_le (hlt k hk) hp.size⟩, hp.mono fun k _ e => hT k (.inr (by rw [show k = g from e]; rfl)), fun _ h => .inl h⟩
set_option maxHeartbeats 2000000 in
set_option maxRecDepth 100000 in
theorem ropen_form (w : World) (p : Value) (s : List UInt8) (a b c d : Int) (hf : fm a b c d = false) : Calls Try.prog 23 #[p, .string ⟨⟨s⟩⟩, .agg #[.int .i64 a, .int .i64 b, .int .i64 c, .int .i64 d]] w fun e w' => e = .returned (.int .i64 4) ∧ Below w.heap.size w w' := by
  have HC : Hid (∀ (w : World), Calls Try.prog 21 #[.agg #[.int .i64 a, .int .i64 b, .int .i64 c, .int .i64 d]] w fun e w' => e = .returned (.bool false) ∧ Below w.heap.size w w') := fun w => by have := rformed_any a b c d w; rwa [hf] at this
  obtain ⟨q0, q1, q2, q3, -⟩ := cells4 (new0 (w := w) (o := .cells #[.int .i64 a, .int .i64 b, .int .i64 c, .int .i64 d] 33 (0, 0)))
  have Y : Hid (Below w.heap.size w (w.alloc (.cells #[.int .i64 a, .int .i64 b, .int .i64 c, .int .i64 d] 33 (0, 0)))) := (Below.refl _ w).alloc (Nat.le_refl _) _
  go_enter Try.func23, Try.ntmps23
  go_wp2_with (go_at_call 21; refine (HC.out _).mono ?_)
  rintro e w1 ⟨rfl, b1⟩
  go_wp2_with fail
  go_ret
  exact ⟨rfl, below_from Y.out b1 Y.out.size⟩
/-- behind Open of an account that is there -/
structure Rop (w w' : World) (rb g k : Nat) (n c : Nat) (v : V) (D : List A) : Prop where
  kp : Kp (· = g) w w'
  rw : ∀ a, D[k]? = some a → AR w' (.slice (some ⟨g, 0, none⟩) n c) (D.set k ⟨a.nm, v, a.us⟩)
set_option maxHeartbeats 4000000 in
set_option maxRecDepth 100000 in
theorem ropen_set (w : World) (rb g n c k : Nat) (D : List A) (s : List UInt8) (v : V) (hk : k < n) (hv : fm v.a v.b v.c v.d = true) (hR : Hid (RAt w rb (some ⟨g, 0, none⟩) n c D)) (H : Hid (∀ w1, Below w.heap.size w w1 → Calls Try.prog 32 #[.pointer (some ⟨rb, 0, none⟩), .string ⟨⟨s⟩⟩] w1 fun e w' => e = .returned (.int .i64 k) ∧ w' = w1)) : Calls Try.prog 23 #[.pointer (some ⟨rb, 0, none⟩), .string ⟨⟨s⟩⟩, .agg #[.int .i64 v.a, .int .i64 v.b, .int .i64 v.c, .int .i64 v.d]] w fun e w' => e = .returned (.int .i64 0) ∧ Hid (Rop w w' rb g k n c v D) := by
  have HC : Hid (∀ (w : World), Calls Try.prog 21 #[.agg #[.int .i64 v.a, .int .i64 v.b, .int .i64 v.c, .int .i64 v.d]] w fun e w' => e = .returned (.bool true) ∧ Below w.heap.size w w') := fun w => by have := rformed_any v.a v.b v.c v.d w; rwa [hv] at this
  have hki : (k : Int) < (n : Int) := by omega
  obtain ⟨q0, q1, q2, q3, -⟩ := cells4 (new0 (w := w) (o := .cells #[.int .i64 v.a, .int .i64 v.b, .int .i64 v.c, .int .i64 v.d] 33 (0, 0)))
  have Y : Hid (Below w.heap.size w (w.alloc (.cells #[.int .i64 v.a, .int .i64 v.b, .int .i64 v.c, .int .i64 v.d] 33 (0, 0)))) := (Below.refl _ w).alloc (Nat.le_refl _) _
  have Z := new0 (w := w) (o := .cells #[.int .i64 v.a, .int .i64 v.b, .int .i64 v.c, .int .i64 v.d] 33 (0, 0))
  have ZZ : Hid ((w.alloc (.cells #[.int .i64 v.a, .int .i64 v.b, .int .i64 v.c, .int .i64 v.d] 33 (0, 0))).heap[w.heap.size]? = some (.cells #[.int .i64 v.a, .int .i64 v.b, .int .i64 v.c, .int .i64 v.d] 33 (0, 0))) := Z
  clear Z hv
  go_enter Try.func23, Try.ntmps23
  go_wp2_with (go_at_call 21; refine (HC.out _).mono ?_)
  rintro e w1 ⟨rfl, b1⟩
  have Y1 : Hid (Below w.heap.size w w1) := below_from Y.out b1 Y.out.size
  have Z1 := at_below b1 (Nat.le_refl _) ZZ.out
  clear q0 q1 q2 q3 b1 ZZ Y HC
  go_upto_region 5 with (go_at_call 32; refine (H.out _ Y1.out).mono ?_; rintro e w2 ⟨rfl, h2⟩; obtain rfl := h2.symm)
  have R1 : Hid (RAt w1 rb (some ⟨g, 0, none⟩) n c D) := hR.out.below Y1.out
  obtain ⟨q0, q1, q2, q3, -⟩ := cells4 Z1
  have e0 := c1 R1.out.cell
  obtain ⟨a, ha⟩ : ∃ a, D[k]? = some a := ⟨D[k]'(by have := R1.out.n; omega), List.getElem?_eq_getElem _⟩
  obtain ⟨-, l1, l2, l3, l4, -⟩ := R1.out.row.cells ha
  have l1 : w1.cell? ⟨g, k * 9 + 1, none⟩ = some (.int .i64 a.lim.a) := l1
  have l2 : w1.cell? ⟨g, k * 9 + 1 + 1, none⟩ = some (.int .i64 a.lim.b) := l2
  have l3 : w1.cell? ⟨g, k * 9 + 1 + 2, none⟩ = some (.int .i64 a.lim.c) := l3
  have l4 : w1.cell? ⟨g, k * 9 + 1 + 3, none⟩ = some (.int .i64 a.lim.d) := l4
  have f1 := R1.out.row.fz (k * 9 + 1)
  have f2 := R1.out.row.fz (k * 9 + 1 + 1)
  have f3 := R1.out.row.fz (k * 9 + 1 + 2)
  have f4 := R1.out.row.fz (k * 9 + 1 + 3)
  have HF : Hid (∀ W', Below w1.heap.size w1 W' → Rop w ((((W'.setCell ⟨g, k * 9 + 1, none⟩ (.int .i64 v.a)).setCell ⟨g, k * 9 + 1 + 1, none⟩ (.int .i64 v.b)).setCell ⟨g, k * 9 + 1 + 2, none⟩ (.int .i64 v.c)).setCell ⟨g, k * 9 + 1 + 3, none⟩ (.int .i64 v.d)) rb g k n c v D) := fun W' b => ⟨kp_one (kp_one (kp_one (kp_one (Kp.of_below (below_from Y1.out b Y1.out.size)) rfl) rfl) rfl) rfl, fun a' ha' => ar_setLim (R1.out.below b).row ha' v⟩
  clear ha H hR Z1 R1
  go_region
  all_goals go_wp2_with fail
  all_goals go_ret
  all_goals exact ⟨rfl, HF.out _ (below_drewN (Below.refl _ w1) _)⟩
end Go.Proofs.Ytehgcaaeifnjeaa
