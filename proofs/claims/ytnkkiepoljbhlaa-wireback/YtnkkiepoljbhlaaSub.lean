/-
  The contracts of submittedJob and Job.
-/
import Derived.Test.YtnkkiepoljbhlaaJob
namespace Go.Proofs.Ytnkkiepoljbhlaa
open Go.RowKit

/-- a job's texts and lists are of sizes that a machine can hold -/
structure Fits (j : JB) (L : JL) : Prop where
  tn : j.tn.size ≤ 281474976710656
  pa : L.pa.length ≤ 17592186044416
  tk : L.tk.length ≤ 4398046511104
  nd : L.nd.length ≤ 8796093022208
  dn : L.dn.length ≤ 8796093022208
  nds : ∀ s ∈ L.nd, s.size ≤ 281474976710656
  dns : ∀ s ∈ L.dn, s.size ≤ 281474976710656
/-- the same numbers and name -/
def JB.like (i j : JB) : Prop := i.id = j.id ∧ i.tn = j.tn ∧ i.pr = j.pr ∧ i.rt = j.rt ∧ i.st = j.st ∧ i.at' = j.at' ∧ i.sr = j.sr

theorem copied (j : JB) (L : JL) (w : World) (h : j.has w L) (hf : Fits j L) :
    Calls Try.prog 65 #[.agg j.cells] w fun e w' => ∃ i : JB, e = .returned (.agg i.cells) ∧ i.like j ∧ i.has w' L ∧ i.far w.heap.size ∧ Below w.heap.size w w' := by
  obtain ⟨id, tn, pr, rt, pa, tk, st, at', nd, sr, dn⟩ := j
  obtain ⟨h1, h2, h3, h4⟩ := h
  exact copied_at id pr rt st at' sr tn pa tk nd dn L w hf.tn h1 h2 h3 h4 (fun W h => cloneInts L.pa pa W h hf.pa) (fun W h => cloneVecs L.tk tk W h hf.tk) (fun W h => copiedTexts L.nd nd W h hf.nd hf.nds) (fun W h => copiedTexts L.dn dn W h hf.dn hf.dns)

theorem jz_cells : JB.zero.cells = #[.int .i64 0, .string ⟨#[]⟩, .int .i64 0, .int .i64 0, .slice none 0 0, .slice none 0 0, .int .i64 0, .int .i64 0, .slice none 0 0, .int .i64 0, .slice none 0 0] := rfl
theorem results_row_tmp {P : Program} {fn : Func} {p q : Tmp} {ty : TypeId} (h : fn.results = #[.cell p ty, .tmp q]) (tmps : Array Value) (w : World) (g : Nat) (t : TypeId) (cs : Array Value) (fr : Nat × Nat) (d : TypeDesc)
    (hp : tmps.getD p undef = .pointer (some ⟨g, 0, none⟩)) (hg : w.heap[g]? = some (.cells cs t fr))
    (hu : P.underlying ty = some d) (hd : (match d with | .struct _ | .array _ _ => true | _ => false) = true) (hi : (P.info? ty).map (·.size) = some cs.size) :
    (results fn tmps).run P w = .ok (.tuple #[.agg cs, tmps.getD q undef]) w := by
  have hp' : tmps[p]?.getD undef = .pointer (some ⟨g, 0, none⟩) := by simpa using hp
  simp [results, h, hp', asAddr, run_loadVar_row w g t ty cs fr d hg hu hd hi]
theorem size66 : (Try.prog.info? 66).map (·.size) = some 11 := by kernel_rfl
theorem job_size (j : JB) : j.cells.size = 11 := rfl
set_option maxHeartbeats 1000000 in
set_option maxRecDepth 100000 in
theorem submitted_yes (j : JB) (L : JL) (w : World) (h : Hid (j.has w L)) (hf : Hid (Fits j L)) :
    Calls Try.prog 36 #[.iface 66 (.agg j.cells)] w fun e w' => ∃ i : JB, e = .returned (.tuple #[.agg i.cells, .bool true]) ∧ i.like j ∧ i.has w' L ∧ i.far w.heap.size ∧ Below w.heap.size w w' := by
  have HC : Hid (∀ W, j.has W L → Calls Try.prog 65 #[.agg j.cells] W fun e w' => ∃ i : JB, e = .returned (.agg i.cells) ∧ i.like j ∧ i.has w' L ∧ i.far W.heap.size ∧ Below W.heap.size W w') := fun W h => copied j L W h hf.out
  have a1 := assert_yes (x := 35) (v := .agg j.cells) Try.underlying66
  have JS : Hid (j.cells.size = 11) := rfl
  have JA : Hid (j.cells.all (·.oneCell') = true) := job_all j
  generalize j.cells = J at *
  have JI : Hid ((Try.prog.info? 66).map (·.size) = some J.size) := by rw [JS.out]; exact size66
  have JI3 : Hid ((Try.prog.info? 30).map (·.size) = some J.size) := by rw [JS.out]; exact jsize30
  go_enter Try.func36, Try.ntmps36
  go_upto_region 1 with fail
  iterate 19 go_step
  refine wpList_store_row rfl 66 _ _ rfl (w.heap.size + 1) J rfl rfl 66 _ new1 JI.out JS.out.symm JA.out ?_
  have q1 := set_row (c' := J) (new1 (w := w) (o := .cells #[.int .i64 0, .string ⟨#[]⟩, .int .i64 0, .int .i64 0, .slice none 0 0, .slice none 0 0, .int .i64 0, .int .i64 0, .slice none 0 0, .int .i64 0, .slice none 0 0] 30) (o' := .cells #[.int .i64 0, .string ⟨#[]⟩, .int .i64 0, .int .i64 0, .slice none 0 0, .slice none 0 0, .int .i64 0, .int .i64 0, .slice none 0 0, .int .i64 0, .slice none 0 0] 66))
  have p1 := (setRow_other ((w.alloc (.cells #[.int .i64 0, .string ⟨#[]⟩, .int .i64 0, .int .i64 0, .slice none 0 0, .slice none 0 0, .int .i64 0, .int .i64 0, .slice none 0 0, .int .i64 0, .slice none 0 0] 30)).alloc (.cells #[.int .i64 0, .string ⟨#[]⟩, .int .i64 0, .int .i64 0, .slice none 0 0, .slice none 0 0, .int .i64 0, .int .i64 0, .slice none 0 0, .int .i64 0, .slice none 0 0] 66)) (w.heap.size + 1) w.heap.size J (by omega)).trans (at_alloc (o := .cells #[.int .i64 0, .string ⟨#[]⟩, .int .i64 0, .int .i64 0, .slice none 0 0, .slice none 0 0, .int .i64 0, .int .i64 0, .slice none 0 0, .int .i64 0, .slice none 0 0] 66) (new0 (w := w) (o := .cells #[.int .i64 0, .string ⟨#[]⟩, .int .i64 0, .int .i64 0, .slice none 0 0, .slice none 0 0, .int .i64 0, .int .i64 0, .slice none 0 0, .int .i64 0, .slice none 0 0] 30)))
  have y1 : Hid (Below w.heap.size w (((w.alloc (.cells #[.int .i64 0, .string ⟨#[]⟩, .int .i64 0, .int .i64 0, .slice none 0 0, .slice none 0 0, .int .i64 0, .int .i64 0, .slice none 0 0, .int .i64 0, .slice none 0 0] 30)).alloc (.cells #[.int .i64 0, .string ⟨#[]⟩, .int .i64 0, .int .i64 0, .slice none 0 0, .slice none 0 0, .int .i64 0, .int .i64 0, .slice none 0 0, .int .i64 0, .slice none 0 0] 66)).setRow (w.heap.size + 1) J)) := below_setRow (((Below.refl _ w).alloc (Nat.le_refl _) _).alloc (by simp) _) (by omega)
  have P1 : Hid _ := p1
  have Q1 : Hid _ := q1
  clear p1 q1
  generalize ((w.alloc (.cells #[.int .i64 0, .string ⟨#[]⟩, .int .i64 0, .int .i64 0, .slice none 0 0, .slice none 0 0, .int .i64 0, .int .i64 0, .slice none 0 0, .int .i64 0, .slice none 0 0] 30)).alloc (.cells #[.int .i64 0, .string ⟨#[]⟩, .int .i64 0, .int .i64 0, .slice none 0 0, .slice none 0 0, .int .i64 0, .int .i64 0, .slice none 0 0, .int .i64 0, .slice none 0 0] 66)).setRow (w.heap.size + 1) J = W1 at *
  go_upto_region 3 with fail
  iterate 4 go_step
  refine wpList_load_row rfl 30 _ rfl (w.heap.size + 1) rfl 66 J (0, 0) _ Q1.out Try.underlying30 rfl JI3.out ?_
  go_wp2_with (go_at_call 65; refine (HC.out _ (h.out.keep y1.out (Nat.le_refl _))).mono ?_)
  rintro e w2 ⟨i, rfl, hl, hh, hfar, b2⟩
  have P2 : Hid _ := at_below b2 (Nat.le_refl _) P1.out
  have y2 : Hid _ := below_from y1.out b2 y1.out.size
  have hp : w.heap.size < W1.heap.size := (Array.getElem?_eq_some_iff.1 P1.out).1
  dsimp only
  iterate 1 go_step
  refine wpList_store_row rfl 30 _ _ rfl w.heap.size i.cells rfl rfl 30 _ P2.out jsize30 rfl (job_all i) ?_
  go_wp2_with fail
  refine bodyPost_ret (results_row_tmp Try.results36 _ _ w.heap.size 30 i.cells (0, 0) _ rfl (set_row P2.out) Try.underlying30 rfl jsize30) rfl ?_
  exact ⟨i, rfl, hl, hh.row hfar hp _, hfar.low (Nat.le_of_lt hp), below_setRow y2.out (Nat.le_refl _)⟩

theorem built30 : Try.prog.built 30 [] = some JB.zero.cells := by kernel_rfl
set_option maxHeartbeats 1000000 in
set_option maxRecDepth 100000 in
theorem submitted_no (v : Value) (w : World) (ha : ∀ w, (Instr.typeAssert v 35 66 true).run Try.prog w = .ok (.tuple #[.agg #[.int .i64 0, .string ⟨#[]⟩, .int .i64 0, .int .i64 0, .slice none 0 0, .slice none 0 0, .int .i64 0, .int .i64 0, .slice none 0 0, .int .i64 0, .slice none 0 0], .bool false]) w) :
    Calls Try.prog 36 #[v] w fun e w' => e = .returned (.tuple #[.agg JB.zero.cells, .bool false]) ∧ Below w.heap.size w w' := by
  have HZ : Hid (#[.int .i64 0, .string ⟨#[]⟩, .int .i64 0, .int .i64 0, .slice none 0 0, .slice none 0 0, .int .i64 0, .int .i64 0, .slice none 0 0, .int .i64 0, .slice none 0 0] = JB.zero.cells) := rfl
  have JB0 : Hid (Try.prog.built 30 [] = some JB.zero.cells) := built30
  have JS : Hid (JB.zero.cells.size = 11) := rfl
  have JA : Hid (JB.zero.cells.all (·.oneCell') = true) := job_all _
  rw [HZ.out] at ha
  generalize JB.zero.cells = J at *
  have JI : Hid ((Try.prog.info? 66).map (·.size) = some J.size) := by rw [JS.out]; exact size66
  have JI3 : Hid ((Try.prog.info? 30).map (·.size) = some J.size) := by rw [JS.out]; exact jsize30
  clear HZ
  go_enter Try.func36, Try.ntmps36
  go_upto_region 1 with fail
  iterate 19 go_step
  refine wpList_store_row rfl 66 _ _ rfl (w.heap.size + 1) J rfl rfl 66 _ new1 JI.out JS.out.symm JA.out ?_
  have p1 := (setRow_other ((w.alloc (.cells #[.int .i64 0, .string ⟨#[]⟩, .int .i64 0, .int .i64 0, .slice none 0 0, .slice none 0 0, .int .i64 0, .int .i64 0, .slice none 0 0, .int .i64 0, .slice none 0 0] 30)).alloc (.cells #[.int .i64 0, .string ⟨#[]⟩, .int .i64 0, .int .i64 0, .slice none 0 0, .slice none 0 0, .int .i64 0, .int .i64 0, .slice none 0 0, .int .i64 0, .slice none 0 0] 66)) (w.heap.size + 1) w.heap.size J (by omega)).trans (at_alloc (o := .cells #[.int .i64 0, .string ⟨#[]⟩, .int .i64 0, .int .i64 0, .slice none 0 0, .slice none 0 0, .int .i64 0, .int .i64 0, .slice none 0 0, .int .i64 0, .slice none 0 0] 66) (new0 (w := w) (o := .cells #[.int .i64 0, .string ⟨#[]⟩, .int .i64 0, .int .i64 0, .slice none 0 0, .slice none 0 0, .int .i64 0, .int .i64 0, .slice none 0 0, .int .i64 0, .slice none 0 0] 30)))
  have y1 : Hid (Below w.heap.size w (((w.alloc (.cells #[.int .i64 0, .string ⟨#[]⟩, .int .i64 0, .int .i64 0, .slice none 0 0, .slice none 0 0, .int .i64 0, .int .i64 0, .slice none 0 0, .int .i64 0, .slice none 0 0] 30)).alloc (.cells #[.int .i64 0, .string ⟨#[]⟩, .int .i64 0, .int .i64 0, .slice none 0 0, .slice none 0 0, .int .i64 0, .int .i64 0, .slice none 0 0, .int .i64 0, .slice none 0 0] 66)).setRow (w.heap.size + 1) J)) := below_setRow (((Below.refl _ w).alloc (Nat.le_refl _) _).alloc (by simp) _) (by omega)
  have P1 : Hid _ := p1
  clear p1
  generalize ((w.alloc (.cells #[.int .i64 0, .string ⟨#[]⟩, .int .i64 0, .int .i64 0, .slice none 0 0, .slice none 0 0, .int .i64 0, .int .i64 0, .slice none 0 0, .int .i64 0, .slice none 0 0] 30)).alloc (.cells #[.int .i64 0, .string ⟨#[]⟩, .int .i64 0, .int .i64 0, .slice none 0 0, .slice none 0 0, .int .i64 0, .int .i64 0, .slice none 0 0, .int .i64 0, .slice none 0 0] 66)).setRow (w.heap.size + 1) J = W1 at *
  go_upto_region 4 with fail
  iterate 1 go_step
  refine build_row rfl 30 _ rfl [] J (by simp [Act.eval]) JB0.out ?_
  refine wpList_store_row rfl 30 _ _ rfl w.heap.size J rfl rfl 30 _ P1.out JI3.out JS.out.symm JA.out ?_
  go_wp2_with fail
  refine bodyPost_ret (results_row_tmp Try.results36 _ _ w.heap.size 30 J (0, 0) _ rfl (set_row P1.out) Try.underlying30 rfl JI3.out) rfl ?_
  exact ⟨rfl, below_setRow y1.out (Nat.le_refl _)⟩

set_option maxHeartbeats 1000000 in
set_option maxRecDepth 100000 in
/-- Job, out of what remade and submittedJob answer -/
theorem job_at (v r : Value) (b : Bool) (w : World) (Pp : JB → World → Nat → Prop) (hP : Hid (∀ i W g c B, Pp i W B → g < B → Pp i (W.setRow g c) B)) (hQ : Hid (∀ i W B B', Pp i W B → B' ≤ B → Pp i W B'))
    (H1 : Hid (∀ W, Calls Try.prog 20 #[v] W fun e w' => e = .returned r ∧ Below W.heap.size W w'))
    (H2 : Hid (∀ W, Below w.heap.size w W → Calls Try.prog 36 #[r] W fun e w' => ∃ i : JB, e = .returned (.tuple #[.agg i.cells, .bool b]) ∧ Pp i w' W.heap.size ∧ Below W.heap.size W w')) :
    Calls Try.prog 18 #[v] w fun e w' => ∃ i : JB, e = .returned (.tuple #[.agg i.cells, .bool b]) ∧ Pp i w' w.heap.size ∧ Below w.heap.size w w' := by
  go_enter Try.func18, Try.ntmps18
  go_wp2_with (go_at_call 20; refine (H1.out _).mono ?_)
  rintro e w1 ⟨rfl, b1⟩
  have P1 : Hid _ := at_below b1 (Nat.le_refl _) (new0 (w := w) (o := .cells #[.int .i64 0, .string ⟨#[]⟩, .int .i64 0, .int .i64 0, .slice none 0 0, .slice none 0 0, .int .i64 0, .int .i64 0, .slice none 0 0, .int .i64 0, .slice none 0 0] 30))
  have y1 : Hid (Below w.heap.size w w1) := below_from ((Below.refl _ w).alloc (Nat.le_refl _) _) b1 (by simp)
  clear b1
  go_wp2_with (go_at_call 36; refine (H2.out _ y1.out).mono ?_)
  rintro e w2 ⟨i, rfl, hi, b2⟩
  have P2 : Hid _ := at_below b2 (Nat.le_refl _) P1.out
  have hp : w.heap.size < w1.heap.size := (Array.getElem?_eq_some_iff.1 P1.out).1
  have y2 : Hid _ := below_from y1.out b2 (Nat.le_of_lt hp)
  have HI : Hid _ := hi
  clear hi b2
  have JS : Hid (i.cells.size = 11) := rfl
  have JA : Hid (i.cells.all (·.oneCell') = true) := job_all i
  have JI3 : Hid ((Try.prog.info? 30).map (·.size) = some i.cells.size) := jsize30
  dsimp only
  iterate 7 go_step
  refine wpList_store_row rfl 30 _ _ rfl w.heap.size i.cells rfl rfl 30 _ P2.out JI3.out JS.out.symm JA.out ?_
  go_wp2_with fail
  refine bodyPost_ret (results_row_tmp Try.results18 _ _ w.heap.size 30 i.cells (0, 0) _ rfl (set_row P2.out) Try.underlying30 rfl JI3.out) rfl ?_
  exact ⟨i, rfl, hQ.out _ _ _ _ (hP.out _ _ _ _ _ HI.out hp) (Nat.le_of_lt hp), below_setRow y2.out (Nat.le_refl _)⟩

end Go.Proofs.Ytnkkiepoljbhlaa
