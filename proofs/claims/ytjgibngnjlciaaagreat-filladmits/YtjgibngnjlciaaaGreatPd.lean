/-
  Appends of any rows; slices.Clone; strings.Clone; holder.
-/
import Derived.Test.YtjgibngnjlciaaaGreatPc
import Derived.Test.YtjgibngnjlciaaaGreatVc
namespace Go.Proofs.YtjgibngnjlciaaaGreat
open Go.RowKit Go.Maps Go.Sort

theorem GA.nil {α : Type} {sz : Nat} {f : α → List Value} {w : World} {L : List α} (h : GA sz f w none L) : L = [] := by
  cases L with
  | nil => rfl
  | cons a r =>
    obtain ⟨g, o, e, _⟩ := h 0 a rfl
    cases e
theorem GA.none {α : Type} {sz : Nat} {f : α → List Value} {w : World} {q : Option Addr} : GA (α := α) sz f w q [] := fun i a h => by simp at h
theorem GA.vals {α : Type} {sz : Nat} {f : α → List Value} {w : World} {ad : Addr} {L : List α} (hf : ∀ a, (f a).length = sz) (hz : 0 < sz) (h : GA sz f w (some ad) L) : ∀ j u, (L.flatMap f)[j]? = some u → w.cell? (ad.add j) = some u := fun j u hu => by
  have hj := (List.getElem?_eq_some_iff.1 hu).1
  rw [flat_length hf] at hj
  have hi : j / sz < L.length := Nat.div_lt_of_lt_mul (by rw [Nat.mul_comm]; exact hj)
  obtain ⟨g, o, e, hc⟩ := h (j / sz) _ (List.getElem?_eq_getElem hi)
  cases e
  have := cs_get hf (List.getElem?_eq_getElem hi) (j % sz) (Nat.mod_lt _ hz)
  rw [show j / sz * sz + j % sz = j by rw [Nat.mul_comm]; exact Nat.div_add_mod j sz, hu] at this
  rw [Addr.add_lit]
  have h2 := hc (j % sz) u this.symm
  rwa [Nat.add_assoc, show j / sz * sz + j % sz = j by rw [Nat.mul_comm]; exact Nat.div_add_mod j sz] at h2
theorem GRow.nilc {α : Type} {e sz b : Nat} {f : α → List Value} {w : World} {n c : Nat} {L : List α} (h : GRow e sz f b w (.slice none n c) L) : c = 0 := by
  rcases h.2 with ⟨e1, _⟩ | ⟨g, cap, cur, e1, _⟩
  · cases e1; rfl
  · cases e1
theorem append_ga {α : Type} {f : α → List Value} {t e size bytes : Nat} {z : Value} (hf : ∀ a, (f a).length = size) (h1 : ∀ a, ∀ u ∈ f a, u.oneCell' = true) (hu : Tryz.prog.underlying t = some (.slice e)) (hinfo : (Tryz.prog.info? e).map (fun i => (i.zero, i.size, i.bytes)) = some (some z, size, bytes)) (hzs : z.cells.size = size) (hsz : 0 < size)
    {ops : Array Oper} {rest : List Oper} {o : Oper} {a : Act} {Q : Exit → Act → World → Prop} {wr : World} {B : Nat} (hgd : o.guard = none) (s x : Operand) (ho : o.op = .call { callee := .builtin .append, args := #[s, x], argTypes := #[t, t] }) (p : Option Addr) (m c : Nat) (E : List α) (hs : a.eval s = .slice p m c) (hr : GRow e size f B wr (.slice p m c) E) (hB : B ≤ wr.heap.size)
    (q : Option Addr) (n cc : Nat) (F : List α) (hx : a.eval x = .slice q n cc) (hn : F.length = n) (hF : GA size f wr q F) (hq : q = none → cc = 0) (h9 : m + n ≤ maxLen) (hb : (m + n) * bytes ≤ 140737488355328)
    (h : ∀ p3 c3 w3, GRow e size f B w3 (.slice p3 (m + n) c3) (E ++ F) → Below B wr w3 → wpList Tryz.prog ops Q rest (a.put o.dst (.slice p3 (m + n) c3)) w3) :
    wpList Tryz.prog ops Q (o :: rest) a wr := by
  have hm := hr.len
  obtain ⟨i0, hi, hz0, hz1, hz2⟩ := info_parts hinfo
  have hown : wr.ownsRow B e size (.slice p m c) m (E.flatMap f) := by have := hr; unfold GRow at this; rw [← hm] at this; exact this
  cases q with
  | none =>
    obtain rfl := hF.nil
    obtain rfl : n = 0 := hn.symm
    rw [hq rfl] at hx
    refine wpList_append_own_none hgd s x t ho B e i0 size hu hi (.slice p m c) m (E.flatMap f) hs hown hx ?_
    have := h p c wr (by rw [List.append_nil]; exact hr) (Below.refl _ _)
    exact this
  | some ad =>
    refine wpList_append_own _ hgd s x t ho B e i0 z size bytes hu hi hz0 hz1 hz2 hzs hsz (.slice p m c) m (E.flatMap f) hs hown ad n cc (F.flatMap f) hx (by rw [flat_length hf, hn]) (hF.vals hf hsz) (fun u hu => ?_) h9 hb hB fun v' w3 ho3 hg3 _ => ?_
    · obtain ⟨y, _, hy⟩ := List.mem_flatMap.1 hu
      exact h1 y u hy
    · have R3 : GRow e size f B w3 v' (E ++ F) := by
        unfold GRow
        rw [List.length_append, ← hm, hn, List.flatMap_append]
        exact ho3
      have hB3 : Below B wr w3 := below_grown hg3 hB (fun g e => hr.ge e)
      obtain ⟨p3, c3, e3⟩ := R3.shape
      rw [List.length_append, ← hm, hn] at e3
      subst e3
      exact h p3 c3 w3 R3 hB3
theorem info43 : (Tryz.prog.info? 46).map (fun i => (i.zero, i.size, i.bytes)) = some (some (.agg #[.string ⟨#[]⟩, .int .i64 0, .int .i64 0, .int .i64 0, .int .i64 0]), 5, 48) := by kernel_rfl
theorem info62 : (Tryz.prog.info? 55).map (fun i => (i.zero, i.size, i.bytes)) = some (some (.agg #[.string ⟨#[]⟩, .int .i64 0, .int .i64 0, .int .i64 0, .int .i64 0]), 5, 48) := by kernel_rfl
theorem info41 : (Tryz.prog.info? 40).map (fun i => (i.zero, i.size, i.bytes)) = some (some (.agg #[.int .i64 0, .int .i64 0, .int .i64 0, .int .i64 0]), 4, 32) := by kernel_rfl
abbrev SR (b : Nat) (w : World) (v : Value) (S : List Sl) : Prop := GRow 46 5 slC b w v S
abbrev RR (b : Nat) (w : World) (v : Value) (S : List Sl) : Prop := GRow 55 5 slC b w v S
theorem q23 (ad : Addr) (n c : Nat) : ∀ w, (binOp .eql 26 (.slice (some ad) n c) (.slice none 0 0)).run Tryz.prog w = .ok (.bool false) w := fun _ => by kernel_rfl
theorem q23n : ∀ w, (binOp .eql 26 (.slice none 0 0) (.slice none 0 0)).run Tryz.prog w = .ok (.bool true) w := fun _ => by kernel_rfl
set_option maxHeartbeats 400000 in
theorem clone_slots (w : World) (q : Option Addr) (n c : Nat) (S : List Sl) (hS : SA w q S) (hn : S.length = n) (hq : q = none → c = 0) (n1 : n ≤ 1000000) :
    Calls Tryz.prog 23 #[.slice q n c] w fun e w' => ∃ p c', e = .returned (.slice p n c') ∧ Hid (SR w.heap.size w' (.slice p n c') S ∧ Below w.heap.size w w') := by
  cases q with
  | none =>
    obtain rfl := hS.nil
    obtain rfl : n = 0 := hn.symm
    obtain rfl := hq rfl
    have q := q23n
    go_enter Tryz.func23, Tryz.ntmps23
    go_wp2_with fail
    go_ret
    exact ⟨none, 0, rfl, GRow.nil _ _ _ _ _, Below.refl _ _⟩
  | some ad =>
    have OW : Hid (SR w.heap.size (w.alloc (.cells #[] 46)) (.slice (some ⟨w.heap.size, 0, none⟩) 0 0) []) := World.ownsRow_made w #[] 0 (Nat.le_refl _) (Nat.zero_le _) rfl
    have y1 : Hid (Below w.heap.size w (w.alloc (.cells #[] 46))) := (Below.refl _ w).alloc (Nat.le_refl _) _
    have HL : Hid (SA (w.alloc (.cells #[] 46)) (some ad) S ∧ S.length = n) := ⟨hS.below y1.out, hn⟩
    have q := q23 ad n c
    clear hS hn hq
    have e9 : Hid (0 + n ≤ maxLen) := by show _ ≤ _; unfold maxLen; omega
    have e8 : Hid ((0 + n) * 48 ≤ 140737488355328) := by show _ ≤ _; omega
    have Z1 : Hid (w.heap.size ≤ (w.alloc (.cells #[] 46)).heap.size) := by show _ ≤ _; simp
    go_enter Tryz.func23, Tryz.ntmps23
    go_wp2_with (at_builtin; refine append_ga (B := w.heap.size) slC_len slC_one Tryz.underlying26 info43 rfl (by decide) rfl _ _ rfl (some ⟨w.heap.size, 0, none⟩) 0 0 [] rfl OW.out Z1.out (some ad) n c S rfl HL.out.2 HL.out.1 (fun e => nomatch e) e9.out e8.out ?_; intro p3 c3 w3 hr3 hb3)
    go_ret
    rw [Nat.zero_add] at hr3
    exact ⟨p3, c3, by simp, hr3, y1.out.trans hb3⟩
set_option maxHeartbeats 400000 in
theorem clone_any (s : List UInt8) (w : World) (hs : s.length ≤ 281474976710656) : Calls Tryz.prog 27 #[.string ⟨⟨s⟩⟩] w fun e w' => e = .returned (.string ⟨⟨s⟩⟩) ∧ Below w.heap.size w w' := by
  go_enter Tryz.func27, Tryz.ntmps27
  go_wp2_with (go_at_call 54; refine (Tryz.stringslite_Clone ⟨⟨s⟩⟩ w hs).mono ?_; rintro e w1 ⟨rfl, b1⟩)
  go_ret
  exact ⟨rfl, b1⟩
/-! ### the first slot that holds a task -/
def ftV (v u : V) : Bool := ft v.a v.b v.c v.d u.a u.b u.c u.d
def hold (v : V) (S : List Sl) : Option Nat := S.findIdx? fun s => ftV v s.v
def hptr (p : Option Addr) (o : Option Nat) : Value := match p, o with
  | some a, some k => .pointer (some ⟨a.block, k * 5, none⟩)
  | _, _ => .pointer none
theorem hold_at {v : V} {S : List Sl} {k : Nat} {s : Sl} (hs : S[k]? = some s) (hb : ∀ i x, i < k → S[i]? = some x → ftV v x.v = false) (hf : ftV v s.v = true) : hold v S = some k := by
  unfold hold
  obtain ⟨hk, rfl⟩ := List.getElem?_eq_some_iff.1 hs
  rw [List.findIdx?_eq_some_iff_getElem]
  exact ⟨hk, hf, fun j hj => by rw [hb j _ hj (List.getElem?_eq_getElem (by omega))]; decide⟩
theorem hold_none {v : V} {S : List Sl} (hb : ∀ (i : Nat) x, S[i]? = some x → ftV v x.v = false) : hold v S = none := by
  unfold hold
  rw [List.findIdx?_eq_none_iff]
  intro x hx
  obtain ⟨i, hi⟩ := List.mem_iff_getElem?.1 hx
  exact hb i x hi
theorem hold_some {v : V} {S : List Sl} {k : Nat} (h : hold v S = some k) : ∃ s, S[k]? = some s ∧ ftV v s.v = true ∧ ∀ i x, i < k → S[i]? = some x → ftV v x.v = false := by
  unfold hold at h
  rw [List.findIdx?_eq_some_iff_getElem] at h
  obtain ⟨h1, h2, h3⟩ := h
  refine ⟨S[k], List.getElem?_eq_getElem h1, h2, fun i x hi hx => ?_⟩
  obtain ⟨l, rfl⟩ := List.getElem?_eq_some_iff.1 hx
  have := h3 i hi
  simpa using this
set_option maxHeartbeats 2000000 in
set_option maxRecDepth 100000 in
theorem holder_any (w : World) (v : V) (p : Option Addr) (n c b : Nat) (S : List Sl) (hS : SR b w (.slice p n c) S) (n1 : n ≤ 1000000) :
    Calls Tryz.prog 25 #[.agg #[.int .i64 v.a, .int .i64 v.b, .int .i64 v.c, .int .i64 v.d], .slice p n c] w fun e w' => e = .returned (hptr p (hold v S)) ∧ Hid (Below w.heap.size w w') := by
  have HS : Hid (SR b w (.slice p n c) S ∧ n = S.length) := ⟨hS, hS.len⟩
  clear hS
  obtain ⟨va, vb, vc, vd⟩ := v
  have N0 := new0 (w := w) (o := .cells #[.int .i64 va, .int .i64 vb, .int .i64 vc, .int .i64 vd] 40)
  have B0 : Hid (Below w.heap.size w (w.alloc (.cells #[.int .i64 va, .int .i64 vb, .int .i64 vc, .int .i64 vd] 40))) := (Below.refl _ w).alloc (Nat.le_refl _) _
  have HN : Hid ((w.alloc (.cells #[.int .i64 va, .int .i64 vb, .int .i64 vc, .int .i64 vd] 40)).heap[w.heap.size]? = some (.cells #[.int .i64 va, .int .i64 vb, .int .i64 vc, .int .i64 vd] 40)) := N0
  clear N0
  simp only []
  go_enter Tryz.func25, Tryz.ntmps25
  go_upto_region 1 with fail
  obtain ⟨bx, hbx⟩ : ∃ bx, bx = w.heap.size := ⟨_, rfl⟩
  rw [← hbx] at HN ⊢
  clear hbx
  generalize w.alloc (.cells #[.int .i64 va, .int .i64 vb, .int .i64 vc, .int .i64 vd] 40) = W0 at *
  go_wp2_with fail
  go_loopw [8] (fun x wr => ∃ k : Nat, x = .int .i64 k ∧ k ≤ n ∧ Hid ((∀ i x, i < k → S[i]? = some x → ftV ⟨va, vb, vc, vd⟩ x.v = false) ∧ wr.heap[bx]? = some (.cells #[.int .i64 va, .int .i64 vb, .int .i64 vc, .int .i64 vd] 40) ∧ Below w.heap.size w wr)) (fun x _ => n - (intOf x).toNat)
  case atStart => exact ⟨0, rfl, Nat.zero_le _, (fun i x hi => absurd hi (by omega)), HN.out, B0.out⟩
  case round =>
    clear HN B0
    obtain ⟨k, rfl, hk, HI⟩ := hrel
    by_cases h0 : k < n
    · have hlt' : (k : Int) < (n : Int) := by omega
      have hd : decide ((k : Int) < (n : Int)) = true := decide_eq_true hlt'
      obtain ⟨s, hs⟩ : ∃ s, S[k]? = some s := ⟨S[k]'(by have := HS.out.2; omega), List.getElem?_eq_getElem _⟩
      obtain ⟨g, rfl, hc⟩ := (HS.out.1.below HI.out.2.2).at slC_len hs
      have c1 := hc 1 _ rfl
      have c2 := hc 2 _ rfl
      have c3 := hc 3 _ rfl
      have c4 := hc 4 _ rfl
      obtain ⟨t0, t1, t2, t3, -⟩ := cells4 HI.out.2.1
      have HX : Hid (S[k]? = some s) := hs
      have H40 : Hid (∀ w, Calls Tryz.prog 52 #[.agg #[.int .i64 va, .int .i64 vb, .int .i64 vc, .int .i64 vd], .agg #[.int .i64 s.v.a, .int .i64 s.v.b, .int .i64 s.v.c, .int .i64 s.v.d]] w fun r w' => r = .returned (.bool (ftV ⟨va, vb, vc, vd⟩ s.v)) ∧ Below w.heap.size w w') := fun w => fits_any _ _ _ _ _ _ _ _ w
      clear hc hs
      obtain ⟨fb, hfb⟩ : ∃ fb, fb = ftV ⟨va, vb, vc, vd⟩ s.v := ⟨_, rfl⟩
      have HF : Hid (ftV ⟨va, vb, vc, vd⟩ s.v = fb) := hfb.symm
      rw [← hfb] at H40
      clear hfb
      obtain ⟨nm, ⟨a, b', c', d'⟩⟩ := s
      simp only [] at c1 c2 c3 c4 H40
      have c2 : wr.cell? ⟨g, k * 5 + 1 + 1, none⟩ = some (.int .i64 b') := c2
      have c3 : wr.cell? ⟨g, k * 5 + 1 + 2, none⟩ = some (.int .i64 c') := c3
      have c4 : wr.cell? ⟨g, k * 5 + 1 + 3, none⟩ = some (.int .i64 d') := c4
      go_upto_region 4 with fail
      have G40 := grown (W := wr) H40
      have m0 := cell_regrown t0
      have m1 := cell_regrown t1
      have m2 := cell_regrown t2
      have m3 := cell_regrown t3
      have n1 := cell_regrown c1
      have n2 := cell_regrown c2
      have n3 := cell_regrown c3
      have n4 := cell_regrown c4
      refine wp_region_quiet_below (by kernel_rfl) (by kernel_rfl) ?_
      repeat (first | go_big_quiet_step ((go_at_call 52; exact G40.out _ _)) | quiet_step ((go_at_call 52; exact G40.out _ _)))
      refine wpQuiet_nil ?_
      intro _ hw'
      obtain ⟨⟨dq, osq⟩, hw''⟩ := hw'
      subst hw''
      have BN : Hid (Below w.heap.size w (grow (redrawn wr dq) osq) ∧ (grow (redrawn wr dq) osq).heap[bx]? = some (.cells #[.int .i64 va, .int .i64 vb, .int .i64 vc, .int .i64 vd] 40)) := ⟨below_from HI.out.2.2 (below_regrown wr dq osq) HI.out.2.2.size, at_below (below_regrown wr dq osq) (Nat.le_refl _) HI.out.2.1⟩
      clear m0 m1 m2 m3 n1 n2 n3 n4 c1 c2 c3 c4 t0 t1 t2 t3 G40 H40
      generalize grow (redrawn wr dq) osq = W7 at *
      cases fb with
      | true =>
        go_wp2_with fail
        go_ret
        refine ⟨?_, BN.out.1⟩
        rw [hold_at HX.out HI.out.1 HF.out]
        rfl
      | false =>
        go_wp2_with fail
        refine ⟨⟨k + 1, by simp, by omega, (fun i x hi hx => ?_), BN.out.2, BN.out.1⟩, by simp only [intOf]; omega⟩
        by_cases e : i < k
        · exact HI.out.1 i x e hx
        · obtain rfl : i = k := by omega
          rw [HX.out] at hx
          cases hx
          exact HF.out
    · have hlt' : ¬ (k : Int) < (n : Int) := by omega
      have hd : decide ((k : Int) < (n : Int)) = false := decide_eq_false hlt'
      go_wp2_with fail
      go_ret
      refine ⟨?_, HI.out.2.2⟩
      rw [hold_none fun i x hx => HI.out.1 i x (by have := (List.getElem?_eq_some_iff.1 hx).1; have := HS.out.2; omega) hx]
      cases p <;> rfl
end Go.Proofs.YtjgibngnjlciaaaGreat
