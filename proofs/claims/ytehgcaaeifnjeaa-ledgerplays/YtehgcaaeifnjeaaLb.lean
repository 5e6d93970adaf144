/-
  LedgerNil's law.
-/
import Derived.Test.YtehgcaaeifnjeaaLa
import Derived.Deep.RegionHeld3
namespace Go.Proofs.Ytehgcaaeifnjeaa
open Go.RowKit Go.Maps Go.WideMaps

def vB (v : V) : Obj := .cells #[.int .i64 v.a, .int .i64 v.b, .int .i64 v.c, .int .i64 v.d] 33 (0, 0)
def eB (s : ByteArray) (v : V) : Obj := .cells #[.string s, .int .i64 v.a, .int .i64 v.b, .int .i64 v.c, .int .i64 v.d] 50 (0, 0)
def nlD (s : ByteArray) (v : V) : List A := (openD [] s.data.toList v).2
theorem nl_open (s : ByteArray) (v : V) : (openD [] s.data.toList v).1 = if v.ok then 0 else 4 := by
  unfold openD
  split <;> rfl
theorem nl_take (s : ByteArray) (v : V) : (takeD (nlD s v) [⟨s, v⟩]).1 = if v.ok then 0 else 4 := by
  unfold takeD postD checkD nlD openD
  by_cases h : v.ok = true
  · have hf : fnd A.nm s.data.toList [(⟨s.data.toList, v, V.nil⟩ : A)] = some ⟨s.data.toList, v, V.nil⟩ := by unfold fnd; simp
    have hl : (V.nil.add v).le v = true := by rw [nil_add]; exact V.le_iff.2 ⟨Int.le_refl _, Int.le_refl _, Int.le_refl _, Int.le_refl _⟩
    have hu : u0 [(⟨s.data.toList, v, V.nil⟩ : A)] s.data.toList = V.nil := by unfold u0; rw [hf]
    have hn : fnd A.nm s.data.toList ([] : List A) = none := rfl
    simp only [h, hn, List.length_nil, ins, E.n, hf, List.all_cons, List.all_nil, seqU, hu, takeF, hl, Bool.and_true, Option.isSome_some, if_true, Nat.reduceLeDiff, if_false]
  · simp [h]
theorem nl_nil (s : ByteArray) (v : V) : nilD [⟨s, v⟩] = if v.ok then 3 else 4 := by
  unfold nilD
  cases h : v.ok <;> simp [h]
/-- the law's own boxes, kept -/
def KX (w W : World) (X : Nat → Option Obj) : Prop := Below w.heap.size w W ∧ ∀ k o, X k = some o → W.heap[k]? = some o
theorem KX.below {w W W' : World} {X : Nat → Option Obj} (h : KX w W X) (b : Below W.heap.size W W') : KX w W' X := ⟨h.1.trans (b.mono h.1.size), fun k o hk => at_below b (Nat.le_refl _) (h.2 k o hk)⟩
theorem KX.alloc {w W : World} {X : Nat → Option Obj} (h : KX w W X) (o : Obj) : KX w (W.alloc o) X := h.below ((Below.refl _ W).alloc (Nat.le_refl _) o)
theorem KX.call {w W : World} {X : Nat → Option Obj} (h : KX w W X) {f : Nat} {args : Array Value} {r : Ending} (hc : Calls Try.prog f args W fun e w' => e = r ∧ Below W.heap.size W w') : Calls Try.prog f args W fun e w' => e = r ∧ Hid (KX w w' X) := hc.mono fun _ _ ⟨he, hb⟩ => ⟨he, h.below hb⟩
set_option maxHeartbeats 4000000 in
set_option maxRecDepth 100000 in
theorem nil_law (s : ByteArray) (hs : s.size ≤ 281474976710656) (v : V) (w : World) :
    Calls Try.prog 8 #[.string s, .agg #[.int .i64 v.a, .int .i64 v.b, .int .i64 v.c, .int .i64 v.d]] w fun e w' => e = .returned (.bool true) ∧ Below w.heap.size w w' := by
  obtain ⟨W, hW⟩ : ∃ W, W = w.alloc (vB v) := ⟨_, rfl⟩
  have hBW : Below w.heap.size w W := by rw [hW]; exact (Below.refl _ w).alloc (Nat.le_refl _) _
  have hbx : ∀ k o, XS NX w.heap.size (vB v) k = some o → W.heap[k]? = some o := fun k o hk => by
    unfold XS NX at hk
    split at hk
    · rename_i e
      rw [e, ← Option.some.inj hk, hW]
      exact new0
    · cases hk
  have HA0 : Hid (Calls Try.prog 9 #[] W fun e w' => e = .returned (.bool true) ∧ Hid (Below w.heap.size w w' ∧ ∀ k o, XS NX w.heap.size (vB v) k = some o → w'.heap[k]? = some o)) := awake_any w W _ hBW hbx
  rw [hW] at HA0
  clear hW hBW hbx
  have H14 : Hid (∀ X W, KX w W X → Calls Try.prog 14 #[.pointer none, .string s] W fun e w' => e = .returned (.tuple #[.agg #[.int .i64 0, .int .i64 0, .int .i64 0, .int .i64 0], .int .i64 3]) ∧ Hid (KX w w' X)) := fun X W h => h.call (used_no W _ s fun w1 _ => find_nil w1 s)
  have H27 : Hid (∀ X W, KX w W X → Calls Try.prog 27 #[.pointer none, .string s] W fun e w' => e = .returned (.tuple #[.agg #[.int .i64 0, .int .i64 0, .int .i64 0, .int .i64 0], .int .i64 3]) ∧ Hid (KX w w' X)) := fun X W h => h.call (left_no W _ s fun w1 _ => find_nil w1 s)
  have H18 : Hid (∀ X W, KX w W X → Calls Try.prog 18 #[.pointer none, .string s, .agg #[.int .i64 v.a, .int .i64 v.b, .int .i64 v.c, .int .i64 v.d]] W fun e w' => e = .returned (.int .i64 10) ∧ Hid (KX w w' X)) := fun X W h => h.call (open_nil _ _ _ _ W s)
  have H25 : Hid (∀ W, Calls Try.prog 25 #[.pointer none, .string s] W fun e w' => e = .returned (.int .i64 3) ∧ w' = W) := fun W => close_nil W s
  have H17 : Hid (∀ W, Calls Try.prog 17 #[.pointer none] W fun e w' => e = .returned (.slice none 0 0) ∧ w' = W) := fun W => names_nil W
  have H19n : Hid (∀ X W, KX w W X → Calls Try.prog 19 #[.pointer none, .slice none 0 0] W fun e w' => e = .returned (.int .i64 0) ∧ Hid (KX w w' X)) := fun X W h => h.call (take_nil W none [] 0 (by decide) (ERow.nil _ _) (fun e he => by cases he))
  have H20n : Hid (∀ X W, KX w W X → Calls Try.prog 20 #[.pointer none, .slice none 0 0] W fun e w' => e = .returned (.int .i64 0) ∧ Hid (KX w w' X)) := fun X W h => h.call (give_nil W none [] 0 (by decide) (ERow.nil _ _) (fun e he => by cases he))
  have hz1 : ∀ e ∈ [(⟨s, v⟩ : E)], e.nm.size ≤ 281474976710656 := fun e he => by rw [List.mem_singleton.1 he]; exact hs
  have H19 : Hid (∀ X W g, KX w W X → W.heap[g]? = some (eB s v) → Calls Try.prog 19 #[.pointer none, .slice (some ⟨g, 0, none⟩) 1 1] W fun e w' => e = .returned (.int .i64 (if v.ok then 3 else 4)) ∧ Hid (KX w w' X)) := fun X W g h hg => by
    rw [← nl_nil s v]
    exact h.call (take_nil W (some ⟨g, 0, none⟩) [⟨s, v⟩] 1 (by simp) (erow1 hg) hz1)
  have H20 : Hid (∀ X W g, KX w W X → W.heap[g]? = some (eB s v) → Calls Try.prog 20 #[.pointer none, .slice (some ⟨g, 0, none⟩) 1 1] W fun e w' => e = .returned (.int .i64 (if v.ok then 3 else 4)) ∧ Hid (KX w w' X)) := fun X W g h hg => by
    rw [← nl_nil s v]
    exact h.call (give_nil W (some ⟨g, 0, none⟩) [⟨s, v⟩] 1 (by simp) (erow1 hg) hz1)
  have H21 : Hid (∀ X W, KX w W X → Calls Try.prog 21 #[.agg #[.int .i64 v.a, .int .i64 v.b, .int .i64 v.c, .int .i64 v.d]] W fun e w' => e = .returned (.bool v.ok) ∧ Hid (KX w w' X)) := fun X W h => h.call (rformed_any _ _ _ _ W)
  have HO : Hid (∀ X pb W, LL w W X pb [] → Calls Try.prog 18 #[.pointer (some ⟨pb, 0, none⟩), .string s, .agg #[.int .i64 v.a, .int .i64 v.b, .int .i64 v.c, .int .i64 v.d]] W fun e w' => e = .returned (.int .i64 (if v.ok then 0 else 4)) ∧ Hid (LL w w' X pb (nlD s v))) := fun X pb W h => by
    rw [← nl_open s v]
    exact l_open h s hs v
  have HT : Hid (∀ X pb W g, LL w W X pb (nlD s v) → W.heap[g]? = some (eB s v) → Calls Try.prog 19 #[.pointer (some ⟨pb, 0, none⟩), .slice (some ⟨g, 0, none⟩) 1 1] W fun e w' => e = .returned (.int .i64 (if v.ok then 0 else 4)) ∧ Hid (LL w w' X pb (takeD (nlD s v) [⟨s, v⟩]).2)) := fun X pb W g h hg => by
    rw [← nl_take s v]
    exact l_take h (some ⟨g, 0, none⟩) [⟨s, v⟩] 1 (by simp) (erow1 hg) hz1
  have HF : Hid (∀ X pb D W, LL w W X pb D → Calls Try.prog 21 #[.agg #[.int .i64 v.a, .int .i64 v.b, .int .i64 v.c, .int .i64 v.d]] W fun e w' => e = .returned (.bool v.ok) ∧ Hid (LL w w' X pb D)) := fun X pb D W h => (rformed_any _ _ _ _ W).mono fun e w' ⟨he, hb⟩ => ⟨he, h.below hb⟩
  unfold vB at HA0
  clear hz1 hs
  go_enter Try.func8, Try.ntmps8
  go_upto_region 4 with (go_at_call 9; refine HA0.out.mono ?_; rintro e w1 ⟨rfl, h1⟩)
  obtain ⟨q0, q1, q2, q3, -⟩ := cells4 (h1.out.2 w.heap.size _ (if_pos rfl))
  go_upto_region 5 with fail
  obtain ⟨X, hX⟩ : ∃ X, X = XS (XS NX w.heap.size (vB v)) w1.heap.size (eB s v) := ⟨_, rfl⟩
  have hlt : w.heap.size < w1.heap.size := (Array.getElem?_eq_some_iff.1 (h1.out.2 w.heap.size _ (if_pos rfl))).1
  have X3 : Hid (X w.heap.size = some (vB v)) := by
    show X w.heap.size = _
    rw [hX]
    unfold XS
    rw [if_neg (by omega), if_pos rfl]
  have X6 : Hid (X w1.heap.size = some (eB s v)) := by
    show X w1.heap.size = _
    rw [hX]
    unfold XS
    rw [if_pos rfl]
  have KK : Hid (KX w (w1.alloc (eB s v)) X) := by
    refine ⟨h1.out.1.alloc h1.out.1.size _, fun k o hk => ?_⟩
    rw [hX] at hk
    unfold XS at hk
    split at hk
    · rename_i e
      rw [e, ← Option.some.inj hk]
      exact new0
    · refine at_alloc (h1.out.2 k o ?_)
      exact hk
  unfold eB at KK
  clear hX hlt h1 q0 q1 q2 q3 HA0
  generalize w1.alloc (.cells #[.string s, .int .i64 v.a, .int .i64 v.b, .int .i64 v.c, .int .i64 v.d] 50 (0, 0)) = W1 at *
  generalize w1.heap.size = g6 at *
  go_upto_region 6 with (go_at_call 14; refine (H14.out X _ KK.out).mono ?_; rintro e w2 ⟨rfl, k2⟩)
  have K2 : Hid (KX w (w2.alloc (.cells #[.int .i64 0, .int .i64 0, .int .i64 0, .int .i64 0] 33 (0, 0))) X) := k2.out.alloc _
  generalize w2.alloc (.cells #[.int .i64 0, .int .i64 0, .int .i64 0, .int .i64 0] 33 (0, 0)) = W2 at *
  generalize w2.heap.size = g7 at *
  clear k2 KK H14
  go_upto_region 8 with (go_at_call 27; refine (H27.out X _ K2.out).mono ?_; rintro e w3 ⟨rfl, k3⟩)
  have K3 : Hid (KX w (w3.alloc (.cells #[.int .i64 0, .int .i64 0, .int .i64 0, .int .i64 0] 33 (0, 0))) X) := k3.out.alloc _
  generalize w3.alloc (.cells #[.int .i64 0, .int .i64 0, .int .i64 0, .int .i64 0] 33 (0, 0)) = W3 at *
  generalize w3.heap.size = g9 at *
  clear k3 K2 H27
  have X3' : Hid (∀ W, KX w W X → W.heap[w.heap.size]? = some (.cells #[.int .i64 v.a, .int .i64 v.b, .int .i64 v.c, .int .i64 v.d] 33 (0, 0))) := fun W h => h.2 _ _ X3.out
  have X6' : Hid (∀ W, KX w W X → W.heap[g6]? = some (.cells #[.string s, .int .i64 v.a, .int .i64 v.b, .int .i64 v.c, .int .i64 v.d] 50 (0, 0))) := fun W h => h.2 _ _ X6.out
  have LK : Hid (∀ W pb D, LL w W X pb D → KX w W X) := fun W pb D h => ⟨h.bel, h.kept⟩
  obtain ⟨nd, hnd⟩ : ∃ nd, nd = nlD s v := ⟨_, rfl⟩
  rw [← hnd] at HO HT
  clear hnd X3 X6
  generalize v.ok = ok at *
  unfold eB at H19 H20 HT
  obtain ⟨va, vb, vc, vd⟩ := v
  simp only [] at H18 H19 H20 H21 HO HT HF X3' X6'
  generalize (takeD nd [{ nm := s, am := { a := va, b := vb, c := vc, d := vd } }]).snd = nt at *
  obtain ⟨c0, c1, c2, c3, -⟩ := cells4 (X3'.out _ K3.out)
  cases ok
  · rw [if_neg (by decide)] at H19 H20 HO HT
    go_upto_region 10 with (go_at_call 21; refine (H21.out X _ K3.out).mono ?_; rintro e w4 ⟨rfl, k4⟩)
    clear c0 c1 c2 c3
    obtain ⟨c0, c1, c2, c3, -⟩ := cells4 (X3'.out _ k4.out)
    go_wp2_with (go_at_call 18; refine (H18.out X _ k4.out).mono ?_)
    first | rintro e w5 rfl k5 | rintro e w5 ⟨rfl, k5⟩
    clear c0 c1 c2 c3
    obtain ⟨c0, c1, c2, c3, c4, -⟩ := cells5 (X6'.out _ k5.out)
    go_wp2_with (first | (go_at_call 25; refine (H25.out _).mono ?_; rintro e w6 ⟨rfl, h6⟩; obtain rfl := h6.symm) | (go_at_call 19; refine (H19.out X _ _ (k5.out.alloc _) new0).mono ?_))
    first | rintro e w7 rfl k7 | rintro e w7 ⟨rfl, k7⟩
    clear c0 c1 c2 c3 c4
    obtain ⟨c0, c1, c2, c3, c4, -⟩ := cells5 (X6'.out _ k7.out)
    go_wp2_with (go_at_call 20; refine (H20.out X _ _ (k7.out.alloc _) new0).mono ?_)
    first | rintro e w8 rfl k8 | rintro e w8 ⟨rfl, k8⟩
    clear c0 c1 c2 c3 c4
    go_wp2_with (go_at_call 19; refine (H19n.out X _ k8.out).mono ?_)
    first | rintro e w9 rfl k9 | rintro e w9 ⟨rfl, k9⟩
    go_wp2_with (go_at_call 20; refine (H20n.out X _ k9.out).mono ?_)
    first | rintro e wA rfl kA | rintro e wA ⟨rfl, kA⟩
    go_upto_region 13 with (go_at_call 17; refine (H17.out _).mono ?_; rintro e wB ⟨rfl, hB⟩; obtain rfl := hB.symm)
    have hL : Hid (LL w (wA.alloc (.cells #[.map none] 61 (0, 0))) X wA.heap.size []) := l_new w wA X kA.out.1 kA.out.2
    clear k4 k5 k7 k8 k9 kA H17 H18 H19 H20 H21 H19n H20n H25 K3
    generalize wA.alloc (.cells #[.map none] 61 (0, 0)) = WC at *
    generalize wA.heap.size = pb at *
    have SS : Hid (∀ W, KX w W X → W.cell? ⟨w.heap.size, 0, none⟩ = some (.int .i64 va) ∧ W.cell? ⟨w.heap.size, 1, none⟩ = some (.int .i64 vb) ∧ W.cell? ⟨w.heap.size, 2, none⟩ = some (.int .i64 vc) ∧ W.cell? ⟨w.heap.size, 3, none⟩ = some (.int .i64 vd) ∧ W.cell? ⟨g6, 0, none⟩ = some (.string s) ∧ W.cell? ⟨g6, 1, none⟩ = some (.int .i64 va) ∧ W.cell? ⟨g6, 2, none⟩ = some (.int .i64 vb) ∧ W.cell? ⟨g6, 3, none⟩ = some (.int .i64 vc) ∧ W.cell? ⟨g6, 4, none⟩ = some (.int .i64 vd)) := fun W h => by
      obtain ⟨d0, d1, d2, d3, -⟩ := cells4 (X3'.out _ h)
      obtain ⟨e0, e1, e2, e3, e4, -⟩ := cells5 (X6'.out _ h)
      exact ⟨d0, d1, d2, d3, e0, e1, e2, e3, e4⟩
    have zz := SS.out _ (LK.out _ _ _ hL.out)
    have zd := SS.out _ (LK.out _ _ _ (hL.out.drew 1))
    go_region_held3 (fun W : World => W.cell? ⟨w.heap.size, 0, none⟩ = some (.int .i64 va) ∧ W.cell? ⟨w.heap.size, 1, none⟩ = some (.int .i64 vb) ∧ W.cell? ⟨w.heap.size, 2, none⟩ = some (.int .i64 vc) ∧ W.cell? ⟨w.heap.size, 3, none⟩ = some (.int .i64 vd) ∧ W.cell? ⟨g6, 0, none⟩ = some (.string s) ∧ W.cell? ⟨g6, 1, none⟩ = some (.int .i64 va) ∧ W.cell? ⟨g6, 2, none⟩ = some (.int .i64 vb) ∧ W.cell? ⟨g6, 3, none⟩ = some (.int .i64 vc) ∧ W.cell? ⟨g6, 4, none⟩ = some (.int .i64 vd)) (first | (with_reducible assumption) | (with_reducible exact zd) | (exact zd) | (exact zz) | go_keep) (first
      | (go_at_call 18; refine (HO.out X pb _ (hL.out.drew 1)).mono ?_; rintro e wD ⟨rfl, hD⟩; have zz := SS.out _ (LK.out _ _ _ hD.out); have ns := (Array.getElem?_eq_some_iff.1 (X3'.out _ (LK.out _ _ _ hD.out))).1)
      | (go_at_call 21; refine (HF.out X pb _ _ (Hid.out (by assumption))).mono ?_; rintro e wE ⟨rfl, hE⟩; have zz := SS.out _ (LK.out _ _ _ hE.out); have zw := SS.out _ (LK.out _ _ _ (hE.out.below ((Below.refl _ _).alloc (Nat.le_refl _) (.cells #[.string s, .int .i64 va, .int .i64 vb, .int .i64 vc, .int .i64 vd] 50 (0, 0))))))
      | (go_at_call 19; refine (HT.out X pb _ _ ((Hid.out (by assumption) : LL w _ X pb nd).below ((Below.refl _ _).alloc (Nat.le_refl _) _)) new0).mono ?_; rintro e wG ⟨rfl, hG⟩; have zz := SS.out _ (LK.out _ _ _ hG.out)))
    all_goals go_wp2_with fail
    all_goals go_ret
    all_goals exact ⟨rfl, LL.bel (Hid.out (by assumption))⟩
  · rw [if_pos rfl] at H19 H20 HO HT
    go_upto_region 10 with (go_at_call 21; refine (H21.out X _ K3.out).mono ?_; rintro e w4 ⟨rfl, k4⟩)
    clear c0 c1 c2 c3
    obtain ⟨c0, c1, c2, c3, -⟩ := cells4 (X3'.out _ k4.out)
    go_wp2_with (go_at_call 18; refine (H18.out X _ k4.out).mono ?_)
    first | rintro e w5 rfl k5 | rintro e w5 ⟨rfl, k5⟩
    clear c0 c1 c2 c3
    obtain ⟨c0, c1, c2, c3, c4, -⟩ := cells5 (X6'.out _ k5.out)
    go_wp2_with (first | (go_at_call 25; refine (H25.out _).mono ?_; rintro e w6 ⟨rfl, h6⟩; obtain rfl := h6.symm) | (go_at_call 19; refine (H19.out X _ _ (k5.out.alloc _) new0).mono ?_))
    first | rintro e w7 rfl k7 | rintro e w7 ⟨rfl, k7⟩
    clear c0 c1 c2 c3 c4
    obtain ⟨c0, c1, c2, c3, c4, -⟩ := cells5 (X6'.out _ k7.out)
    go_wp2_with (go_at_call 20; refine (H20.out X _ _ (k7.out.alloc _) new0).mono ?_)
    first | rintro e w8 rfl k8 | rintro e w8 ⟨rfl, k8⟩
    clear c0 c1 c2 c3 c4
    go_wp2_with (go_at_call 19; refine (H19n.out X _ k8.out).mono ?_)
    first | rintro e w9 rfl k9 | rintro e w9 ⟨rfl, k9⟩
    go_wp2_with (go_at_call 20; refine (H20n.out X _ k9.out).mono ?_)
    first | rintro e wA rfl kA | rintro e wA ⟨rfl, kA⟩
    go_upto_region 13 with (go_at_call 17; refine (H17.out _).mono ?_; rintro e wB ⟨rfl, hB⟩; obtain rfl := hB.symm)
    have hL : Hid (LL w (wA.alloc (.cells #[.map none] 61 (0, 0))) X wA.heap.size []) := l_new w wA X kA.out.1 kA.out.2
    clear k4 k5 k7 k8 k9 kA H17 H18 H19 H20 H21 H19n H20n H25 K3
    generalize wA.alloc (.cells #[.map none] 61 (0, 0)) = WC at *
    generalize wA.heap.size = pb at *
    have SS : Hid (∀ W, KX w W X → W.cell? ⟨w.heap.size, 0, none⟩ = some (.int .i64 va) ∧ W.cell? ⟨w.heap.size, 1, none⟩ = some (.int .i64 vb) ∧ W.cell? ⟨w.heap.size, 2, none⟩ = some (.int .i64 vc) ∧ W.cell? ⟨w.heap.size, 3, none⟩ = some (.int .i64 vd) ∧ W.cell? ⟨g6, 0, none⟩ = some (.string s) ∧ W.cell? ⟨g6, 1, none⟩ = some (.int .i64 va) ∧ W.cell? ⟨g6, 2, none⟩ = some (.int .i64 vb) ∧ W.cell? ⟨g6, 3, none⟩ = some (.int .i64 vc) ∧ W.cell? ⟨g6, 4, none⟩ = some (.int .i64 vd)) := fun W h => by
      obtain ⟨d0, d1, d2, d3, -⟩ := cells4 (X3'.out _ h)
      obtain ⟨e0, e1, e2, e3, e4, -⟩ := cells5 (X6'.out _ h)
      exact ⟨d0, d1, d2, d3, e0, e1, e2, e3, e4⟩
    have zz := SS.out _ (LK.out _ _ _ hL.out)
    have zd := SS.out _ (LK.out _ _ _ (hL.out.drew 1))
    go_region_held3 (fun W : World => W.cell? ⟨w.heap.size, 0, none⟩ = some (.int .i64 va) ∧ W.cell? ⟨w.heap.size, 1, none⟩ = some (.int .i64 vb) ∧ W.cell? ⟨w.heap.size, 2, none⟩ = some (.int .i64 vc) ∧ W.cell? ⟨w.heap.size, 3, none⟩ = some (.int .i64 vd) ∧ W.cell? ⟨g6, 0, none⟩ = some (.string s) ∧ W.cell? ⟨g6, 1, none⟩ = some (.int .i64 va) ∧ W.cell? ⟨g6, 2, none⟩ = some (.int .i64 vb) ∧ W.cell? ⟨g6, 3, none⟩ = some (.int .i64 vc) ∧ W.cell? ⟨g6, 4, none⟩ = some (.int .i64 vd)) (first | (with_reducible assumption) | (with_reducible exact zd) | (exact zd) | (exact zz) | go_keep) (first
      | (go_at_call 18; refine (HO.out X pb _ (hL.out.drew 1)).mono ?_; rintro e wD ⟨rfl, hD⟩; have zz := SS.out _ (LK.out _ _ _ hD.out); have ns := (Array.getElem?_eq_some_iff.1 (X3'.out _ (LK.out _ _ _ hD.out))).1)
      | (go_at_call 21; refine (HF.out X pb _ _ (Hid.out (by assumption))).mono ?_; rintro e wE ⟨rfl, hE⟩; have zz := SS.out _ (LK.out _ _ _ hE.out); have zw := SS.out _ (LK.out _ _ _ (hE.out.below ((Below.refl _ _).alloc (Nat.le_refl _) (.cells #[.string s, .int .i64 va, .int .i64 vb, .int .i64 vc, .int .i64 vd] 50 (0, 0))))))
      | (go_at_call 19; refine (HT.out X pb _ _ ((Hid.out (by assumption) : LL w _ X pb nd).below ((Below.refl _ _).alloc (Nat.le_refl _) _)) new0).mono ?_; rintro e wG ⟨rfl, hG⟩; have zz := SS.out _ (LK.out _ _ _ hG.out)))
    all_goals go_wp2_with fail
    all_goals go_ret
    all_goals exact ⟨rfl, LL.bel (Hid.out (by assumption))⟩
end Go.Proofs.Ytehgcaaeifnjeaa
