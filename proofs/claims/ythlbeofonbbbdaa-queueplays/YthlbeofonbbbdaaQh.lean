/-
  Head.
-/
import Derived.Test.YthlbeofonbbbdaaQg
namespace Go.Proofs.Ythlbeofonbbbdaa
open Go.RowKit Go.Maps Go.WideMaps

theorem look_H {w : World} {mh : Option Nat} {q : List Hq} (h : MH w mh q) (s : ByteArray) (hs : s.size ≤ maxLen) :
    (Instr.lookup 52 (.map mh) (.string s) false).run Try.prog w = .ok (optp ((fndN Hq.nm s.data.toList q).map Hq.hb)) w := by
  have hkey := keyOf_string_mk (P := Try.prog) Try.underlying9 hs
  unfold MH at h
  cases mh with
  | none =>
    subst h
    have := Maps.look_nil (w := w) false law9 Try.underlying52 (zero72 w) hkey
    simpa [fndN, optp] using this
  | some m =>
    obtain ⟨v, ps, hr, hv⟩ := World.ownsMap.lookup h law9 Try.underlying52 (zero72 w) (zd := .nil) (zp := []) rfl hkey
    rw [mapH_at] at hv
    rw [hr]
    cases hf : fndN Hq.nm s.data.toList q with
    | none => rw [hf] at hv; rw [pE_nil hv]; rfl
    | some x => rw [hf] at hv; rw [pE_held hv]; rfl
theorem head_nil (w : World) (s : ByteArray) : Calls Try.prog 15 #[.pointer none, .string s] w fun e w' => e = .returned (.tuple #[.agg #[.int .i64 0, .string ⟨#[]⟩, .int .i64 0], .int .i64 3]) ∧ Below w.heap.size w w' := by
  go_enter Try.func15, Try.ntmps15
  go_wp2_with fail
  refine bodyPost_ret (v := .tuple #[.agg #[.int .i64 0, .string ⟨#[]⟩, .int .i64 0], .int .i64 3]) (by rw [results_cell_tmp rfl]; go_simp) rfl ?_
  exact ⟨rfl, by go_grown⟩
set_option maxHeartbeats 1000000 in
set_option maxRecDepth 100000 in
theorem head_raw3 (w : World) (pb : Nat) (mh : Option Nat) (a : Value) (s : ByteArray) (v : Value) (x : Int) (k : K) (hc : Hid (w.heap[pb]? = some (.cells #[a, .map mh] 54 (0, 0)))) (HLK : Hid (∀ w1, Below w.heap.size w w1 → (Instr.lookup 52 (.map mh) (.string s) false).run Try.prog w1 = .ok v w1))
    (H34 : Hid (∀ w1, Below w.heap.size w w1 → Calls Try.prog 34 #[v] w1 fun e w' => e = .returned (.tuple #[.int .i64 x, .agg #[.int .i64 k.a, .int .i64 k.b, .int .i64 k.c], .int .i64 3]) ∧ Below w1.heap.size w1 w')) :
    Calls Try.prog 15 #[.pointer (some ⟨pb, 0, none⟩), .string s] w fun e w' => e = .returned (.tuple #[.agg #[.int .i64 0, .string ⟨#[]⟩, .int .i64 0], .int .i64 3]) ∧ Below w.heap.size w w' := by
  have B0 : Below w.heap.size w (w.alloc (.cells #[.int .i64 0, .string ⟨#[]⟩, .int .i64 0] 32)) := (Below.refl _ w).alloc (Nat.le_refl _) _
  have hl := HLK.out _ B0
  have H := H34.out _ B0
  have hlt := (Array.getElem?_eq_some_iff.1 hc.out).1
  obtain ⟨-, q1⟩ := c2 hc.out
  clear HLK H34 B0
  go_enter Try.func15, Try.ntmps15
  go_upto_region 4 with (go_at_call 34; refine H.mono ?_; rintro e w1 ⟨rfl, b1⟩)
  have hq := at_below b1 (Nat.le_refl _) new0
  have hlt2 := (Array.getElem?_eq_some_iff.1 hq).1
  obtain ⟨z0, z1, z2⟩ := c3 hq
  have f0 := fz hq 0
  have f1 := fz hq 1
  have f2 := fz hq 2
  go_wp2_with fail
  refine bodyPost_ret (v := .tuple #[.agg #[.int .i64 0, .string ⟨#[]⟩, .int .i64 0], .int .i64 3]) (by rw [results_cell_tmp rfl]; go_simp) rfl ?_
  have B1 : Below w.heap.size w w1 := ((Below.refl _ w).alloc (Nat.le_refl _) _).trans (b1.mono (by simp))
  refine ⟨rfl, ?_⟩
  first | go_grown | exact (((B1.setCell (Nat.le_refl _) _).setCell (Nat.le_refl _) _).setCell (Nat.le_refl _) _).alloc (by have := B1.size; simp; omega) _
set_option maxHeartbeats 1000000 in
set_option maxRecDepth 100000 in
theorem head_raw0 (w : World) (pb : Nat) (mh : Option Nat) (a : Value) (s : ByteArray) (v : Value) (x : Int) (k : K) (j p er : Int) (u : ByteArray) (hc : Hid (w.heap[pb]? = some (.cells #[a, .map mh] 54 (0, 0)))) (HLK : Hid (∀ w1, Below w.heap.size w w1 → (Instr.lookup 52 (.map mh) (.string s) false).run Try.prog w1 = .ok v w1))
    (H34 : Hid (∀ w1, Below w.heap.size w w1 → Calls Try.prog 34 #[v] w1 fun e w' => e = .returned (.tuple #[.int .i64 x, .agg #[.int .i64 k.a, .int .i64 k.b, .int .i64 k.c], .int .i64 0]) ∧ Below w1.heap.size w1 w'))
    (H18 : Hid (∀ w1, Below w.heap.size w w1 → Calls Try.prog 18 #[.pointer (some ⟨pb, 0, none⟩), .int .i64 k.b] w1 fun e w' => e = .returned (.tuple #[.agg #[.int .i64 j, .string u, .int .i64 p], .int .i64 er]) ∧ Below w1.heap.size w1 w')) :
    Calls Try.prog 15 #[.pointer (some ⟨pb, 0, none⟩), .string s] w fun e w' => e = .returned (.tuple #[.agg #[.int .i64 j, .string u, .int .i64 p], .int .i64 er]) ∧ Below w.heap.size w w' := by
  have B0 : Below w.heap.size w (w.alloc (.cells #[.int .i64 0, .string ⟨#[]⟩, .int .i64 0] 32)) := (Below.refl _ w).alloc (Nat.le_refl _) _
  have hl := HLK.out _ B0
  have H := H34.out _ B0
  have hlt := (Array.getElem?_eq_some_iff.1 hc.out).1
  obtain ⟨-, q1⟩ := c2 hc.out
  have H35 : Hid (∀ w, Calls Try.prog 35 #[.agg #[.int .i64 k.a, .int .i64 k.b, .int .i64 k.c]] w fun e w' => e = .returned (.int .i64 k.b) ∧ Below w.heap.size w w') := fun w => jobOf_any w _ _ _
  clear HLK H34 B0
  go_enter Try.func15, Try.ntmps15
  go_upto_region 4 with (go_at_call 34; refine H.mono ?_; rintro e w1 ⟨rfl, b1⟩)
  have B1 : Hid (Below w.heap.size w (w1.alloc (.cells #[.int .i64 k.a, .int .i64 k.b, .int .i64 k.c] 78))) := by
    have q : Below w.heap.size w w1 := ((Below.refl _ w).alloc (Nat.le_refl _) _).trans (b1.mono (by simp))
    exact q.alloc q.size _
  have HQ : Hid ((w1.alloc (.cells #[.int .i64 k.a, .int .i64 k.b, .int .i64 k.c] 78)).heap[w.heap.size]? = some (.cells #[.int .i64 0, .string ⟨#[]⟩, .int .i64 0] 32)) := at_alloc (at_below b1 (Nat.le_refl _) new0)
  clear b1 H hl q1 hlt
  go_wp2_with (go_at_call 35; refine (H35.out _).mono ?_; rintro e w2 ⟨rfl, b2⟩)
  have B2 : Hid (Below w.heap.size w w2) := B1.out.trans (b2.mono B1.out.size)
  have H := H18.out w2 B2.out
  go_wp2_with (go_at_call 18; refine H.mono ?_)
  first | rintro e w3 rfl b3 | rintro e w3 ⟨rfl, b3⟩
  have hq := at_below b3 (Nat.le_refl _) (at_below b2 (Nat.le_refl _) HQ.out)
  have hlt2 := (Array.getElem?_eq_some_iff.1 hq).1
  obtain ⟨z0, z1, z2⟩ := c3 hq
  have f0 := fz hq 0
  have f1 := fz hq 1
  have f2 := fz hq 2
  have B3 : Below w.heap.size w w3 := B2.out.trans (b3.mono B2.out.size)
  clear b2 b3 H HQ H18 H35
  go_wp2_with fail
  refine bodyPost_ret (v := .tuple #[.agg #[.int .i64 j, .string u, .int .i64 p], .int .i64 er]) (by rw [results_cell_tmp rfl]; go_simp) rfl ?_
  refine ⟨rfl, ?_⟩
  first | go_grown | exact (((B3.setCell (Nat.le_refl _) _).setCell (Nat.le_refl _) _).setCell (Nat.le_refl _) _)
/-- of a tenant's the first -/
theorem head_of {D : List J} {t : List UInt8} {a : J} (hs : SJ D) (ha : a ∈ D) (ht : a.tn = t) (hm : ∀ b ∈ D, b.tn = t → jl b a = false) : (ofT t D).head? = some a := by
  have hp : SJ (ofT t D) := List.Pairwise.filter _ hs
  have hin : a ∈ ofT t D := List.mem_filter.2 ⟨ha, by simp [ht]⟩
  cases hx : ofT t D with
  | nil => rw [hx] at hin; cases hin
  | cons b r =>
    rw [hx] at hin hp
    rcases List.mem_cons.1 hin with rfl | hr
    · rfl
    · have h1 := (List.pairwise_cons.1 hp).1 a hr
      have hb : b ∈ ofT t D := by rw [hx]; exact List.mem_cons_self ..
      obtain ⟨hb1, hb2⟩ := List.mem_filter.1 hb
      have hb3 : b.tn = t := by simpa using hb2
      unfold bf at h1
      rw [if_pos (hb3.trans ht.symm), hm b hb1 hb3] at h1
      cases h1
theorem head_none {D : List J} {t : List UInt8} (h : ∀ b ∈ D, b.tn ≠ t) : (ofT t D).head? = none := by
  have : ofT t D = [] := List.filter_eq_nil_iff.2 fun a ha => by simpa using h a ha
  rw [this]
  rfl
theorem enc_jl {a b : J} {h h' : Nat} (oa : a.ok = true) (ob : b.ok = true) (hh : h < 1048576) (hh' : h' < 1048576) (e : sg 0 (enc (ky a) h) ≤ sg 0 (enc (ky b) h')) : jl b a = false := by
  obtain ⟨a1, a2, a3, a4⟩ := ok_pr oa
  obtain ⟨b1, b2, b3, b4⟩ := ok_pr ob
  unfold sg enc ky at e
  rw [if_pos rfl, if_pos rfl] at e
  simp only [] at e
  unfold jl
  simp only [Bool.or_eq_false_iff, decide_eq_false_iff_not, Bool.and_eq_false_iff]
  omega
theorem ext_same {C : Ct} {s x y : Nat} {k k' : K} (hs : s ≤ 1) (h : C.ext s x k) (h' : C.ext s y k') (o : k.ok) (o' : k'.ok) (hx : x < 1048576) (hy : y < 1048576) : x = y ∧ k = k' := by
  have e1 := h.2 y k' h'.1
  have e2 := h'.2 x k h.1
  have a1 := o.b
  have a2 := o.c
  have a3 := o'.b
  have a4 := o'.c
  have hh : x = y := by
    rcases (by omega : s = 0 ∨ s = 1) with rfl | rfl
    · unfold sg enc at e1 e2
      rw [if_pos rfl, if_pos rfl] at e1 e2
      omega
    · unfold sg enc at e1 e2
      rw [if_neg (by decide), if_neg (by decide)] at e1 e2
      omega
  subst hh
  exact ⟨rfl, Option.some.inj (h.1.symm.trans h'.1)⟩
theorem wf_of {x : Int} (h : -9223372036854775808 ≤ x ∧ x < 9223372036854775808) : wf x := by
  unfold wf
  simp [Lit.wf, IntKind.min, IntKind.max, IntKind.bits, IntKind.signed]
  omega
theorem wf_ok {a : J} (h : a.ok = true) : wf a.job := wf_of (by have := ok_pr h; omega)
theorem qhead_any {w : World} {S : Nat → Prop} {pb N : Nat} {D : List J} (h : Que w S pb D N) (s : ByteArray) (hs : s.size ≤ maxLen) : Calls Try.prog 15 #[.pointer (some ⟨pb, 0, none⟩), .string s] w fun e w' => e = ansJ (headD D s.data.toList) ∧ Below w.heap.size w w' := by
  have hQ := h
  obtain ⟨⟨ow, mw, mh, l, q, h1, h2, h3, h4⟩, h5⟩ := h
  have hlk : ∀ w1, Below w.heap.size w w1 → (Instr.lookup 52 (.map mh) (.string s) false).run Try.prog w1 = .ok (optp ((fndN Hq.nm s.data.toList q).map Hq.hb)) w1 := fun w1 b => look_H (h1.below b).H.hm s hs
  unfold headD
  cases hf : fndN Hq.nm s.data.toList q with
  | none =>
    rw [hf] at hlk
    rw [head_none fun b hb e => by
      obtain ⟨a, ha, rfl⟩ := List.mem_map.1 (h2.mem_iff.2 hb)
      obtain ⟨x, hx, hxn⟩ := h1.H.has a ha
      exact fndN_none hf x hx (hxn.trans e)]
    exact head_raw3 w pb mh _ s _ 0 kz h1.W.cell hlk (fun w1 _ => min_nil w1)
  | some x =>
    rw [hf] at hlk
    obtain ⟨hx, hxn⟩ := fndN_some hf
    obtain ⟨hc, hg⟩ := h1.H.hp x hx
    have hn := h1.H.ne x hx
    obtain ⟨y, k, he, -⟩ := min_C hc hn
    obtain ⟨a, ha, hat, hah, hak⟩ := (h1.H.ct x hx y k).1 he.1
    have hmin : ∀ w1, Below w.heap.size w w1 → Calls Try.prog 34 #[ptr x.hb] w1 fun e w' => e = .returned (.tuple #[.int .i64 y, ktup k, .int .i64 0]) ∧ Below w1.heap.size w1 w' := fun w1 b => by
      obtain ⟨y', k', he', hm⟩ := min_C (hc.below b) hn
      obtain ⟨o1, z1, e1, e2, -⟩ := hc.ok he.1
      obtain ⟨o2, z2, e3, e4, -⟩ := hc.ok he'.1
      obtain ⟨rfl, rfl⟩ := ext_same (by decide) he he' o1 o2 (by omega) (by omega)
      exact hm
    rw [head_of (a := a.j) h3 (h2.mem_iff.1 (List.mem_map.2 ⟨a, ha, rfl⟩)) (hat.trans hxn) fun b hb hbt => by
      obtain ⟨c, hc', rfl⟩ := List.mem_map.1 (h2.mem_iff.2 hb)
      have := he.2 c.h (ky c.j) ((h1.H.ct x hx c.h (ky c.j)).2 ⟨c, hc', hbt.trans hxn.symm, rfl, rfl⟩)
      rw [← hak] at this
      obtain ⟨-, z1, e1, e2, -⟩ := hc.ok he.1
      obtain ⟨-, z2, e3, e4, -⟩ := hc.ok ((h1.H.ct x hx c.h (ky c.j)).2 ⟨c, hc', hbt.trans hxn.symm, rfl, rfl⟩)
      exact enc_jl (h1.W.ok a ha) (h1.W.ok c hc') (by omega) (by omega) this]
    have hk2 : k.b = a.j.job := by rw [← hak]; rfl
    refine head_raw0 w pb mh _ s _ y k a.j.job a.j.pr 0 ⟨⟨a.j.tn⟩⟩ h1.W.cell hlk hmin fun w1 b => ?_
    have hg := qget_any (hQ.keepB b) k.b (by rw [hk2]; exact wf_ok (h1.W.ok a ha))
    have e1 : getD D k.b = (a.j, 0) := by
      unfold getD
      rw [hk2, fJ_self hQ.nj (h2.mem_iff.1 (List.mem_map.2 ⟨a, ha, rfl⟩))]
    rw [e1] at hg
    exact hg
end Go.Proofs.Ythlbeofonbbbdaa
