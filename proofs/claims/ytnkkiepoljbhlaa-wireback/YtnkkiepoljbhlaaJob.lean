/-
  The contracts of copied, submittedJob, Job and SameJob.
-/
import Derived.Test.YtnkkiepoljbhlaaCpy
namespace Go.Proofs.Ytnkkiepoljbhlaa
open Go.RowKit

/-- a job's lists -/
structure JL where
  pa : List Int
  tk : List V4
  nd : List ByteArray
  dn : List ByteArray
def JL.nil : JL := ⟨[], [], [], []⟩
def JB.has (w : World) (j : JB) (L : JL) : Prop := SLh w j.pa L.pa.length (intsV L.pa) ∧ SLh w j.tk L.tk.length (flat L.tk) ∧ SLh w j.nd L.nd.length (textsV L.nd) ∧ SLh w j.dn L.dn.length (textsV L.dn)
theorem JB.has.keep {w w1 : World} {j : JB} {L : JL} {B : Nat} (h : j.has w L) (b : Below B w w1) (hB : w.heap.size ≤ B) : j.has w1 L := ⟨h.1.keep b hB, h.2.1.keep b hB, h.2.2.1.keep b hB, h.2.2.2.keep b hB⟩

def JB.far (j : JB) (B : Nat) : Prop := j.pa.far B ∧ j.tk.far B ∧ j.nd.far B ∧ j.dn.far B
theorem SL.far.low {s : SL} {B B' : Nat} (h : s.far B) (hB : B' ≤ B) : s.far B' := fun ad e => Nat.le_trans hB (h ad e)
theorem JB.far.low {j : JB} {B B' : Nat} (h : j.far B) (hB : B' ≤ B) : j.far B' := ⟨h.1.low hB, h.2.1.low hB, h.2.2.1.low hB, h.2.2.2.low hB⟩
theorem c11 {w : World} {g : Nat} {v0 v1 v2 v3 v4 v5 v6 v7 v8 v9 v10 : Value} {ty : TypeId} (h : w.heap[g]? = some (.cells #[v0, v1, v2, v3, v4, v5, v6, v7, v8, v9, v10] ty)) :
    (w.cell? ⟨g, 1, none⟩ = some v1 ∧ w.cell? ⟨g, 4, none⟩ = some v4 ∧ w.cell? ⟨g, 5, none⟩ = some v5 ∧ w.cell? ⟨g, 8, none⟩ = some v8 ∧ w.cell? ⟨g, 10, none⟩ = some v10) ∧
    (w.frozen? ⟨g, 1, none⟩ = false ∧ w.frozen? ⟨g, 4, none⟩ = false ∧ w.frozen? ⟨g, 5, none⟩ = false ∧ w.frozen? ⟨g, 8, none⟩ = false ∧ w.frozen? ⟨g, 10, none⟩ = false) :=
  ⟨⟨Lib.cell_of_heap h 1, Lib.cell_of_heap h 4, Lib.cell_of_heap h 5, Lib.cell_of_heap h 8, Lib.cell_of_heap h 10⟩, ⟨Lib.frozen_of_heap h 1, Lib.frozen_of_heap h 4, Lib.frozen_of_heap h 5, Lib.frozen_of_heap h 8, Lib.frozen_of_heap h 10⟩⟩
theorem at_other {W : World} {g g' k : Nat} {v : Value} {o : Obj} (h : W.heap[g]? = some o) (hne : g ≠ g') : (W.setCell ⟨g', k, none⟩ v).heap[g]? = some o := (Below.heap_setCell _ _ _ _ hne).trans h
theorem new1 {w : World} {o o' : Obj} : ((w.alloc o).alloc o').heap[w.heap.size + 1]? = some o' := by
  have := new0 (w := w.alloc o) (o := o')
  rwa [World.size_alloc] at this
theorem jsize30 : (Try.prog.info? 30).map (·.size) = some 11 := by kernel_rfl

theorem SLh.same {W W' : World} {s : SL} {n B : Nat} {xs : List Value} (h : SLh W s n xs) (hf : s.far B) (hb : ∀ g, B ≤ g → W'.heap[g]? = W.heap[g]?) : SLh W' s n xs := by
  refine ⟨?_, h.2⟩
  rcases h.1 with hx | ⟨g', o, ha, hr⟩
  · exact .inl hx
  · exact .inr ⟨g', o, ha, fun k u hu => (World.cell?_of_block (w := W) (a := ⟨g', o + k, none⟩) (hb g' (hf _ ha))).trans (hr k u hu)⟩
theorem SLh.set {W : World} {s : SL} {n B g i : Nat} {xs : List Value} (h : SLh W s n xs) (hf : s.far B) (hg : g < B) (v : Value) : SLh (W.setCell ⟨g, i, none⟩ v) s n xs :=
  h.same hf fun _ hg' => Below.heap_setCell _ _ _ _ (by show _ ≠ g; omega)
theorem SLh.row {W : World} {s : SL} {n B g : Nat} {xs : List Value} (h : SLh W s n xs) (hf : s.far B) (hg : g < B) (c : Array Value) : SLh (W.setRow g c) s n xs :=
  h.same hf fun _ hg' => setRow_other W g _ _ (by omega)
/-- a copied list: it lies behind the box and the result -/
structure Cp (w W : World) (s : SL) (n : Nat) (xs : List Value) : Prop where
  lies : SLh W s n xs
  far : s.far (w.heap.size + 2)
theorem Cp.later {w W W1 : World} {s : SL} {n : Nat} {xs : List Value} (h : Cp w W s n xs) (b : Below W.heap.size W W1) : Cp w W1 s n xs := ⟨h.lies.keep b (Nat.le_refl _), h.far⟩
theorem Cp.set {w W : World} {s : SL} {n i : Nat} {xs : List Value} (h : Cp w W s n xs) (v : Value) : Cp w (W.setCell ⟨w.heap.size, i, none⟩ v) s n xs := ⟨h.lies.set h.far (by omega) v, h.far⟩
theorem Cp.row {w W : World} {s : SL} {n : Nat} {xs : List Value} (h : Cp w W s n xs) (c : Array Value) : Cp w (W.setRow (w.heap.size + 1) c) s n xs := ⟨h.lies.row h.far (by omega) c, h.far⟩
theorem cp_new {w W W1 : World} {s : SL} {n : Nat} {xs : List Value} (h : SLh W1 s n xs ∧ s.far W.heap.size) (o : Obj) (hr : W.heap[w.heap.size + 1]? = some o) : Cp w W1 s n xs :=
  ⟨h.1, fun ad e => Nat.le_trans (by have := (Array.getElem?_eq_some_iff.1 hr).1; omega) (h.2 ad e)⟩
theorem job_all (j : JB) : j.cells.all (·.oneCell') = true := by kernel_rfl

/-- the box of a job and the result's block, within 'copied' -/
structure St (w W : World) (i p r s a q : Int) (v1 v4 v5 v8 v10 : Value) : Prop where
  box : W.heap[w.heap.size]? = some (.cells #[.int .i64 i, v1, .int .i64 p, .int .i64 r, v4, v5, .int .i64 s, .int .i64 a, v8, .int .i64 q, v10] 30 (0, 0))
  res : W.heap[w.heap.size + 1]? = some (.cells #[.int .i64 0, .string ⟨#[]⟩, .int .i64 0, .int .i64 0, .slice none 0 0, .slice none 0 0, .int .i64 0, .int .i64 0, .slice none 0 0, .int .i64 0, .slice none 0 0] 30 (0, 0))
  below : Below w.heap.size w W
theorem St.later {w W W1 : World} {i p r s a q : Int} {v1 v4 v5 v8 v10 : Value} (h : St w W i p r s a q v1 v4 v5 v8 v10) (b : Below W.heap.size W W1) : St w W1 i p r s a q v1 v4 v5 v8 v10 :=
  ⟨at_below b (Nat.le_refl _) h.box, at_below b (Nat.le_refl _) h.res, below_from h.below b h.below.size⟩
theorem St.put1 {w W : World} {i p r s a q : Int} {v1 v4 v5 v8 v10 : Value} (h : St w W i p r s a q v1 v4 v5 v8 v10) (v : Value) : St w (W.setCell ⟨w.heap.size, 1, none⟩ v) i p r s a q v v4 v5 v8 v10 :=
  ⟨heap_setCell_same W w.heap.size 1 _ 30 v h.box, at_other h.res (by omega), h.below.setCell (Nat.le_refl w.heap.size) _⟩
theorem St.put4 {w W : World} {i p r s a q : Int} {v1 v4 v5 v8 v10 : Value} (h : St w W i p r s a q v1 v4 v5 v8 v10) (v : Value) : St w (W.setCell ⟨w.heap.size, 4, none⟩ v) i p r s a q v1 v v5 v8 v10 :=
  ⟨heap_setCell_same W w.heap.size 4 _ 30 v h.box, at_other h.res (by omega), h.below.setCell (Nat.le_refl w.heap.size) _⟩
theorem St.put5 {w W : World} {i p r s a q : Int} {v1 v4 v5 v8 v10 : Value} (h : St w W i p r s a q v1 v4 v5 v8 v10) (v : Value) : St w (W.setCell ⟨w.heap.size, 5, none⟩ v) i p r s a q v1 v4 v v8 v10 :=
  ⟨heap_setCell_same W w.heap.size 5 _ 30 v h.box, at_other h.res (by omega), h.below.setCell (Nat.le_refl w.heap.size) _⟩
theorem St.put8 {w W : World} {i p r s a q : Int} {v1 v4 v5 v8 v10 : Value} (h : St w W i p r s a q v1 v4 v5 v8 v10) (v : Value) : St w (W.setCell ⟨w.heap.size, 8, none⟩ v) i p r s a q v1 v4 v5 v v10 :=
  ⟨heap_setCell_same W w.heap.size 8 _ 30 v h.box, at_other h.res (by omega), h.below.setCell (Nat.le_refl w.heap.size) _⟩
theorem St.put10 {w W : World} {i p r s a q : Int} {v1 v4 v5 v8 v10 : Value} (h : St w W i p r s a q v1 v4 v5 v8 v10) (v : Value) : St w (W.setCell ⟨w.heap.size, 10, none⟩ v) i p r s a q v1 v4 v5 v8 v :=
  ⟨heap_setCell_same W w.heap.size 10 _ 30 v h.box, at_other h.res (by omega), h.below.setCell (Nat.le_refl w.heap.size) _⟩

set_option maxHeartbeats 2000000 in
set_option maxRecDepth 100000 in
theorem copied_at (id pr rt st at' sr : Int) (tn : ByteArray) (pa tk nd dn : SL) (L : JL) (w : World) (hz : Hid (tn.size ≤ 281474976710656)) (hp : Hid (SLh w pa L.pa.length (intsV L.pa))) (ht : Hid (SLh w tk L.tk.length (flat L.tk))) (hn : Hid (SLh w nd L.nd.length (textsV L.nd))) (hd : Hid (SLh w dn L.dn.length (textsV L.dn)))
    (HP : Hid (∀ W, SLh W pa L.pa.length (intsV L.pa) → Calls Try.prog 76 #[.slice pa.a pa.n pa.c] W fun e w' => ∃ s' : SL, e = .returned (.slice s'.a s'.n s'.c) ∧ (SLh w' s' L.pa.length (intsV L.pa) ∧ s'.far W.heap.size) ∧ Below W.heap.size W w'))
    (HT : Hid (∀ W, SLh W tk L.tk.length (flat L.tk) → Calls Try.prog 77 #[.slice tk.a tk.n tk.c] W fun e w' => ∃ s' : SL, e = .returned (.slice s'.a s'.n s'.c) ∧ (SLh w' s' L.tk.length (flat L.tk) ∧ s'.far W.heap.size) ∧ Below W.heap.size W w'))
    (HN : Hid (∀ W, SLh W nd L.nd.length (textsV L.nd) → Calls Try.prog 78 #[.slice nd.a nd.n nd.c] W fun e w' => ∃ s' : SL, e = .returned (.slice s'.a s'.n s'.c) ∧ (SLh w' s' L.nd.length (textsV L.nd) ∧ s'.far W.heap.size) ∧ Below W.heap.size W w'))
    (HD : Hid (∀ W, SLh W dn L.dn.length (textsV L.dn) → Calls Try.prog 78 #[.slice dn.a dn.n dn.c] W fun e w' => ∃ s' : SL, e = .returned (.slice s'.a s'.n s'.c) ∧ (SLh w' s' L.dn.length (textsV L.dn) ∧ s'.far W.heap.size) ∧ Below W.heap.size W w')) :
    Calls Try.prog 65 #[.agg #[.int .i64 id, .string tn, .int .i64 pr, .int .i64 rt, .slice pa.a pa.n pa.c, .slice tk.a tk.n tk.c, .int .i64 st, .int .i64 at', .slice nd.a nd.n nd.c, .int .i64 sr, .slice dn.a dn.n dn.c]] w
      fun e w' => ∃ j : JB, e = .returned (.agg j.cells) ∧ (j.id = id ∧ j.tn = tn ∧ j.pr = pr ∧ j.rt = rt ∧ j.st = st ∧ j.at' = at' ∧ j.sr = sr) ∧ j.has w' L ∧ j.far w.heap.size ∧ Below w.heap.size w w' := by
  go_enter Try.func65, Try.ntmps65
  go_upto_region 2 with (go_at_call 75; refine (strClone tn _ hz.out).mono ?_)
  rintro e w1 ⟨rfl, b1⟩
  have S1 : Hid (St w w1 id pr rt st at' sr (.string tn) (.slice pa.a pa.n pa.c) (.slice tk.a tk.n tk.c) (.slice nd.a nd.n nd.c) (.slice dn.a dn.n dn.c)) := ⟨at_below b1 (Nat.le_refl _) (at_alloc new0), at_below b1 (Nat.le_refl _) new1, below_from (((Below.refl _ w).alloc (Nat.le_refl _) _).alloc (by simp) _) b1 (by simp; omega)⟩
  clear b1
  obtain ⟨⟨e1, e4, e5, e8, e10⟩, f1, f4, f5, f8, f10⟩ := c11 S1.out.box
  go_upto_region 2 with fail
  have S1' : Hid _ := S1.out.put1 (.string tn)
  clear S1 e1 e4 e5 e8 e10 f1 f4 f5 f8 f10
  generalize w1.setCell ⟨w.heap.size, 1, none⟩ (.string tn) = w2 at *
  obtain ⟨⟨e1, e4, e5, e8, e10⟩, f1, f4, f5, f8, f10⟩ := c11 S1'.out.box
  go_upto_region 3 with (go_at_call 76; refine (HP.out _ (hp.out.keep S1'.out.below (Nat.le_refl _))).mono ?_)
  rintro e u0 ⟨p, rfl, hp, bp⟩
  have T0 : Hid _ := S1'.out.later bp
  have cp : Hid _ := cp_new hp _ S1'.out.res
  clear S1' bp hp e1 e4 e5 e8 e10 f1 f4 f5 f8 f10
  obtain ⟨⟨e1, e4, e5, e8, e10⟩, f1, f4, f5, f8, f10⟩ := c11 T0.out.box
  go_upto_region 3 with fail
  have S2' : Hid _ := T0.out.put4 (.slice p.a p.n p.c)
  replace cp : Hid _ := cp.out.set (i := 4) (.slice p.a p.n p.c)
  clear T0 e1 e4 e5 e8 e10 f1 f4 f5 f8 f10
  generalize u0.setCell ⟨w.heap.size, 4, none⟩ (.slice p.a p.n p.c) = x0 at *
  obtain ⟨⟨e1, e4, e5, e8, e10⟩, f1, f4, f5, f8, f10⟩ := c11 S2'.out.box
  go_upto_region 4 with (go_at_call 77; refine (HT.out _ (ht.out.keep S2'.out.below (Nat.le_refl _))).mono ?_)
  rintro e u1 ⟨q, rfl, hq, bq⟩
  have T1 : Hid _ := S2'.out.later bq
  have cq : Hid _ := cp_new hq _ S2'.out.res
  replace cp : Hid _ := cp.out.later bq
  clear S2' bq hq e1 e4 e5 e8 e10 f1 f4 f5 f8 f10
  obtain ⟨⟨e1, e4, e5, e8, e10⟩, f1, f4, f5, f8, f10⟩ := c11 T1.out.box
  go_upto_region 4 with fail
  have S3' : Hid _ := T1.out.put5 (.slice q.a q.n q.c)
  replace cp : Hid _ := cp.out.set (i := 5) (.slice q.a q.n q.c)
  replace cq : Hid _ := cq.out.set (i := 5) (.slice q.a q.n q.c)
  clear T1 e1 e4 e5 e8 e10 f1 f4 f5 f8 f10
  generalize u1.setCell ⟨w.heap.size, 5, none⟩ (.slice q.a q.n q.c) = x1 at *
  obtain ⟨⟨e1, e4, e5, e8, e10⟩, f1, f4, f5, f8, f10⟩ := c11 S3'.out.box
  go_upto_region 5 with (go_at_call 78; refine (HN.out _ (hn.out.keep S3'.out.below (Nat.le_refl _))).mono ?_)
  rintro e u2 ⟨r, rfl, hr, br⟩
  have T2 : Hid _ := S3'.out.later br
  have cr : Hid _ := cp_new hr _ S3'.out.res
  replace cp : Hid _ := cp.out.later br
  replace cq : Hid _ := cq.out.later br
  clear S3' br hr e1 e4 e5 e8 e10 f1 f4 f5 f8 f10
  obtain ⟨⟨e1, e4, e5, e8, e10⟩, f1, f4, f5, f8, f10⟩ := c11 T2.out.box
  go_upto_region 5 with fail
  have S4' : Hid _ := T2.out.put8 (.slice r.a r.n r.c)
  replace cp : Hid _ := cp.out.set (i := 8) (.slice r.a r.n r.c)
  replace cq : Hid _ := cq.out.set (i := 8) (.slice r.a r.n r.c)
  replace cr : Hid _ := cr.out.set (i := 8) (.slice r.a r.n r.c)
  clear T2 e1 e4 e5 e8 e10 f1 f4 f5 f8 f10
  generalize u2.setCell ⟨w.heap.size, 8, none⟩ (.slice r.a r.n r.c) = x2 at *
  obtain ⟨⟨e1, e4, e5, e8, e10⟩, f1, f4, f5, f8, f10⟩ := c11 S4'.out.box
  go_upto_region 6 with (go_at_call 78; refine (HD.out _ (hd.out.keep S4'.out.below (Nat.le_refl _))).mono ?_)
  rintro e u3 ⟨s, rfl, hs, bs⟩
  have T3 : Hid _ := S4'.out.later bs
  have cs : Hid _ := cp_new hs _ S4'.out.res
  replace cp : Hid _ := cp.out.later bs
  replace cq : Hid _ := cq.out.later bs
  replace cr : Hid _ := cr.out.later bs
  clear S4' bs hs e1 e4 e5 e8 e10 f1 f4 f5 f8 f10
  obtain ⟨⟨e1, e4, e5, e8, e10⟩, f1, f4, f5, f8, f10⟩ := c11 T3.out.box
  go_upto_region 6 with fail
  have S5' : Hid _ := T3.out.put10 (.slice s.a s.n s.c)
  replace cp : Hid _ := cp.out.set (i := 10) (.slice s.a s.n s.c)
  replace cq : Hid _ := cq.out.set (i := 10) (.slice s.a s.n s.c)
  replace cr : Hid _ := cr.out.set (i := 10) (.slice s.a s.n s.c)
  replace cs : Hid _ := cs.out.set (i := 10) (.slice s.a s.n s.c)
  clear T3 e1 e4 e5 e8 e10 f1 f4 f5 f8 f10
  generalize u3.setCell ⟨w.heap.size, 10, none⟩ (.slice s.a s.n s.c) = x3 at *
  iterate 1 go_step
  refine wpList_load_row rfl 30 _ rfl w.heap.size rfl 30 #[.int .i64 id, .string tn, .int .i64 pr, .int .i64 rt, .slice p.a p.n p.c, .slice q.a q.n q.c, .int .i64 st, .int .i64 at', .slice r.a r.n r.c, .int .i64 sr, .slice s.a s.n s.c] (0, 0) _ S5'.out.box Try.underlying30 rfl jsize30 ?_
  refine wpList_store_row rfl 30 _ _ rfl (w.heap.size + 1) #[.int .i64 id, .string tn, .int .i64 pr, .int .i64 rt, .slice p.a p.n p.c, .slice q.a q.n q.c, .int .i64 st, .int .i64 at', .slice r.a r.n r.c, .int .i64 sr, .slice s.a s.n s.c] rfl rfl 30 _ S5'.out.res jsize30 rfl (job_all ⟨id, tn, pr, rt, p, q, st, at', r, sr, s⟩) ?_
  go_wp2_with fail
  refine bodyPost_ret (results_cell_row Try.results65 _ _ (w.heap.size + 1) 30 #[.int .i64 id, .string tn, .int .i64 pr, .int .i64 rt, .slice p.a p.n p.c, .slice q.a q.n q.c, .int .i64 st, .int .i64 at', .slice r.a r.n r.c, .int .i64 sr, .slice s.a s.n s.c] (0, 0) _ rfl (set_row S5'.out.res) Try.underlying30 rfl jsize30) rfl ?_
  exact ⟨⟨id, tn, pr, rt, p, q, st, at', r, sr, s⟩, rfl, ⟨rfl, rfl, rfl, rfl, rfl, rfl, rfl⟩, ⟨(cp.out.row _).lies, (cq.out.row _).lies, (cr.out.row _).lies, (cs.out.row _).lies⟩, ⟨cp.out.far.low (by omega), cq.out.far.low (by omega), cr.out.far.low (by omega), cs.out.far.low (by omega)⟩, below_setRow S5'.out.below (by omega)⟩

theorem JB.has.row {W : World} {j : JB} {L : JL} {B g : Nat} (h : j.has W L) (hf : j.far B) (hg : g < B) (c : Array Value) : j.has (W.setRow g c) L := ⟨h.1.row hf.1 hg c, h.2.1.row hf.2.1 hg c, h.2.2.1.row hf.2.2.1 hg c, h.2.2.2.row hf.2.2.2 hg c⟩

end Go.Proofs.Ytnkkiepoljbhlaa
