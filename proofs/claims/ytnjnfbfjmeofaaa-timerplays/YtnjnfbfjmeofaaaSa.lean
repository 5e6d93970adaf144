/-
  Both clocks in a law: each call on each side; what the law compares.
-/
import Derived.Test.YtnjnfbfjmeofaaaRe
import Derived.Test.YtnjnfbfjmeofaaaRd
namespace Go.Proofs.Ytnjnfbfjmeofaaa
open Go.RowKit Go.Maps Go.WideMaps

theorem rset_R {w : World} {rb : Nat} {v : Value} {l : List Al} (h : Rf w rb v l) (hn : Nod l) (hs : Srt l) (hl : l.length ≤ 1024) (s : ByteArray) (x : Int) :
    Calls Try.prog 21 #[.pointer (some ⟨rb, 0, none⟩), .string s, .int .i64 x] w fun e w' => e = .returned (.int .i64 (setC s.data.toList l)) ∧ ∃ v', Rg2 w w' rb v v' (setR s x l) := by
  have hf := rfind_any h s hl
  obtain ⟨q, c, ev⟩ := h.r.shape
  have c0 := h.c
  rw [ev] at c0
  cases hp : plc s.data.toList l with
  | none =>
    rw [hp] at hf
    have hno : fnd s.data.toList l = none := by rw [plc_fnd, hp]; rfl
    by_cases hl' : 1024 ≤ l.length
    · obtain ⟨e1, e2⟩ := setR_full (x := x) hno hl'
      rw [e1, e2]
      refine (rset_full w rb s x l.length q c (by omega) c0 hf).mono ?_
      rintro e w' ⟨rfl, rfl⟩
      exact ⟨rfl, v, h.stay⟩
    · obtain ⟨e1, e2⟩ := setR_new (x := x) hno (by omega)
      rw [e1, e2]
      exact rset_go w rb v l s x (-1) hs q l.length c c0 hf (.inl ⟨rfl, by omega, h.stay, by omega⟩)
  | some i =>
    rw [hp] at hf
    obtain ⟨a, h1, h2⟩ := plc_some hp
    have hi := (List.getElem?_eq_some_iff.1 h1).1
    have hyes : fnd s.data.toList l = some (gt l i) := by rw [plc_fnd, hp]; rfl
    obtain ⟨e1, e2⟩ := setR_old (x := x) hyes
    rw [e1, e2]
    refine rset_go w rb v (drp s.data.toList l) s x (i : Int) (srt_drp hs) q l.length c c0 hf (.inr ⟨by omega, ?_⟩)
    have := rtake_R h hi hl
    rw [erase_drp hn h1, h2] at this
    refine this.mono ?_
    rintro e w' ⟨rfl, v', g⟩
    refine ⟨rfl, v', g, ?_⟩
    have hlt : (drp s.data.toList l).length < l.length := by
      have := (drp_cons_perm hn (List.mem_of_getElem? h1)).length_eq
      rw [h2, List.length_cons] at this
      omega
    omega
structure Bo (w0 w : World) (cb rb : Nat) (X : Nat → Option Obj) (S : HS) (v : Value) (Rc Rr : List Al) : Prop where
  c : Ck w cb S Rc
  r : Rf w rb v Rr
  bl : Below w0.heap.size w0 w
  fc : ∀ j, Fp cb S j → w0.heap.size ≤ j
  fr : ∀ j, Fr rb v j → w0.heap.size ≤ j
  d : ∀ j, Fp cb S j → ¬ Fr rb v j
  x : ∀ j o, X j = some o → w.heap[j]? = some o ∧ ¬ Fp cb S j ∧ ¬ Fr rb v j
def BB (w0 w : World) (cb rb : Nat) (X : Nat → Option Obj) (Rc Rr : List Al) : Prop := ∃ S v, Bo w0 w cb rb X S v Rc Rr
section
variable {w0 w w' : World} {cb rb : Nat} {X : Nat → Option Obj} {S S' : HS} {v v' : Value} {R Rc Rr R' : List Al}
theorem Rf.lt (h : Rf w rb v Rr) {j : Nat} (q : Fr rb v j) : j < w.heap.size := by
  rcases q with rfl | q
  · exact (Array.getElem?_eq_some_iff.1 h.b).1
  · exact h.r.lt q
theorem Rf.keep (h : Rf w rb v Rr) (e : ∀ j, Fr rb v j → w'.heap[j]? = w.heap[j]?) : Rf w' rb v Rr := ⟨(e rb (.inl rfl)).trans h.b, h.r.keep fun g q => e g (.inr q)⟩
theorem Bo.prog (h : Bo w0 w cb rb X S v Rc Rr) (c : Cg w w' cb S S' R') : Bo w0 w' cb rb X S' v R' Rr := by
  have hs := h.bl.size
  refine ⟨c.c, h.r.keep fun j q => c.g.kp.block j (h.r.lt q) fun q' => h.d j q' q, ⟨c.g.kp.os.trans h.bl.os, c.g.kp.tape.trans h.bl.tape, c.g.kp.output.trans h.bl.output, Nat.le_trans h.bl.size c.g.kp.size, fun j hj => (c.g.kp.block j (by omega) fun q => by have := h.fc j q; omega).trans (h.bl.block j hj)⟩, fun j q => ?_, h.fr, fun j q q' => ?_, fun j o q => ?_⟩
  · rcases c.g.fp j q with q | q
    · exact h.fc j q
    · omega
  · rcases c.g.fp j q with q | q
    · exact h.d j q q'
    · have := h.r.lt q'; omega
  · obtain ⟨h1, h2, h3⟩ := h.x j o q
    have hj := (Array.getElem?_eq_some_iff.1 h1).1
    refine ⟨(c.g.kp.block j hj h2).trans h1, fun q => ?_, h3⟩
    rcases c.g.fp j q with q | q
    · exact h2 q
    · omega
theorem Bo.ref (h : Bo w0 w cb rb X S v Rc Rr) (c : Rg2 w w' rb v v' R') : Bo w0 w' cb rb X S v' Rc R' := by
  have hs := h.bl.size
  refine ⟨h.c.off c.kp fun j q => h.d j q, c.r, ⟨c.kp.os.trans h.bl.os, c.kp.tape.trans h.bl.tape, c.kp.output.trans h.bl.output, Nat.le_trans h.bl.size c.kp.size, fun j hj => (c.kp.block j (by omega) fun q => by have := h.fr j q; omega).trans (h.bl.block j hj)⟩, h.fc, fun j q => ?_, fun j q q' => ?_, fun j o q => ?_⟩
  · rcases c.fp j q with q | q
    · exact h.fr j q
    · omega
  · rcases c.fp j q' with q' | q'
    · exact h.d j q q'
    · have := h.c.c.m.lt j q; omega
  · obtain ⟨h1, h2, h3⟩ := h.x j o q
    have hj := (Array.getElem?_eq_some_iff.1 h1).1
    refine ⟨(c.kp.block j hj h3).trans h1, h2, fun q => ?_⟩
    rcases c.fp j q with q | q
    · exact h3 q
    · omega
theorem Bo.below (h : Bo w0 w cb rb X S v Rc Rr) (b : Below w.heap.size w w') : Bo w0 w' cb rb X S v Rc Rr :=
  ⟨h.c.below b, h.r.keep fun j q => b.block j (h.r.lt q), h.bl.trans (b.mono h.bl.size), h.fc, h.fr, h.d, fun j o q => by
    obtain ⟨h1, h2, h3⟩ := h.x j o q
    exact ⟨(b.block j (Array.getElem?_eq_some_iff.1 h1).1).trans h1, h2, h3⟩⟩
theorem BB.below (h : BB w0 w cb rb X Rc Rr) (b : Below w.heap.size w w') : BB w0 w' cb rb X Rc Rr := by
  obtain ⟨S, v, h⟩ := h
  exact ⟨S, v, h.below b⟩
theorem BB.bel (h : BB w0 w cb rb X Rc Rr) : Below w0.heap.size w0 w := by
  obtain ⟨S, v, h⟩ := h
  exact h.bl
theorem BB.box (h : BB w0 w cb rb X Rc Rr) {j : Nat} {o : Obj} (hj : X j = some o) : w.heap[j]? = some o := by
  obtain ⟨S, v, h⟩ := h
  exact (h.x j o hj).1
theorem BB.alloc (h : BB w0 w cb rb X Rc Rr) (o : Obj) : BB w0 (w.alloc o) cb rb (adX X w.heap.size o) Rc Rr := by
  obtain ⟨S, v, h⟩ := h
  have h1 := h.below ((Below.refl _ w).alloc (Nat.le_refl _) o)
  refine ⟨S, v, h1.c, h1.r, h1.bl, h1.fc, h1.fr, h1.d, fun j o' q => ?_⟩
  unfold adX at q
  split at q
  · rename_i e
    subst e
    cases q
    exact ⟨new0, fun q => Nat.lt_irrefl _ (h.c.c.m.lt _ q), fun q => Nat.lt_irrefl _ (h.r.lt q)⟩
  · exact h1.x j o' q
theorem BB.forget (h : BB w0 w cb rb X Rc Rr) {Y : Nat → Option Obj} (hY : ∀ j o, Y j = some o → X j = some o) : BB w0 w cb rb Y Rc Rr := by
  obtain ⟨S, v, h⟩ := h
  exact ⟨S, v, h.c, h.r, h.bl, h.fc, h.fr, h.d, fun j o q => h.x j o (hY j o q)⟩
theorem BB.srt (h : BB w0 w cb rb X Rc Rr) : Srt Rc ∧ Nod Rc ∧ Rc.length ≤ 1024 := by
  obtain ⟨S, v, h⟩ := h
  exact ⟨h.c.s, h.c.nod, h.c.sm⟩
theorem b_set (h : BB w0 w cb rb X R R) (s : ByteArray) (x : Int) (hs : s.size ≤ 281474976710656) : Calls Try.prog 16 #[.pointer (some ⟨cb, 0, none⟩), .string s, .int .i64 x] w fun e w' => e = .returned (.int .i64 (setC s.data.toList R)) ∧ BB w0 w' cb rb X (setR s x R) R := by
  obtain ⟨S, v, h⟩ := h
  refine (set_C h.c s x hs).mono ?_
  rintro e w' ⟨rfl, S', q⟩
  exact ⟨rfl, S', v, h.prog q⟩
theorem b_rset (h : BB w0 w cb rb X Rc R) (hR : Srt R ∧ Nod R ∧ R.length ≤ 1024) (s : ByteArray) (x : Int) : Calls Try.prog 21 #[.pointer (some ⟨rb, 0, none⟩), .string s, .int .i64 x] w fun e w' => e = .returned (.int .i64 (setC s.data.toList R)) ∧ BB w0 w' cb rb X Rc (setR s x R) := by
  obtain ⟨S, v, h⟩ := h
  refine (rset_R h.r hR.2.1 hR.1 hR.2.2 s x).mono ?_
  rintro e w' ⟨rfl, v', q⟩
  exact ⟨rfl, S, v', h.ref q⟩
theorem b_get (h : BB w0 w cb rb X R R) (s : ByteArray) (hs : s.size ≤ maxLen) : Calls Try.prog 18 #[.pointer (some ⟨cb, 0, none⟩), .string s] w fun e w' => e = .returned (getV (fnd s.data.toList R)) ∧ w' = w := by
  obtain ⟨S, v, h⟩ := h
  exact get_C h.c s hs
theorem b_rget (h : BB w0 w cb rb X R R) (s : ByteArray) : Calls Try.prog 22 #[.pointer (some ⟨rb, 0, none⟩), .string s] w fun e w' => e = .returned (getV (fnd s.data.toList R)) ∧ w' = w := by
  have hR := h.srt
  obtain ⟨S, v, h⟩ := h
  exact rget_R h.r s hR.2.2
theorem b_cancel (h : BB w0 w cb rb X R R) (s : ByteArray) (hs : s.size ≤ maxLen) : Calls Try.prog 19 #[.pointer (some ⟨cb, 0, none⟩), .string s] w fun e w' => e = .returned (.int .i64 (canC s.data.toList R)) ∧ BB w0 w' cb rb X (drp s.data.toList R) R := by
  obtain ⟨S, v, h⟩ := h
  refine (cancel_C h.c s hs).mono ?_
  rintro e w' ⟨rfl, S', q⟩
  exact ⟨rfl, S', v, h.prog q⟩
theorem b_rcancel (h : BB w0 w cb rb X Rc R) (hR : Srt R ∧ Nod R ∧ R.length ≤ 1024) (s : ByteArray) : Calls Try.prog 23 #[.pointer (some ⟨rb, 0, none⟩), .string s] w fun e w' => e = .returned (.int .i64 (canC s.data.toList R)) ∧ BB w0 w' cb rb X Rc (drp s.data.toList R) := by
  obtain ⟨S, v, h⟩ := h
  refine (rcan_R h.r hR.2.1 s hR.2.2).mono ?_
  rintro e w' ⟨rfl, v', q⟩
  exact ⟨rfl, S, v', h.ref q⟩
theorem b_next (h : BB w0 w cb rb X R R) : Calls Try.prog 20 #[.pointer (some ⟨cb, 0, none⟩)] w fun e w' => e = .returned (nextV R.head?) ∧ BB w0 w' cb rb X R R := by
  have h' := h
  obtain ⟨S, v, h⟩ := h
  refine (next_C h.c).mono ?_
  rintro e w' ⟨rfl, b⟩
  exact ⟨rfl, h'.below b⟩
theorem b_rnext (h : BB w0 w cb rb X R R) : Calls Try.prog 24 #[.pointer (some ⟨rb, 0, none⟩)] w fun e w' => e = .returned (nextV R.head?) ∧ BB w0 w' cb rb X R R := by
  have h' := h
  obtain ⟨S, v, h⟩ := h
  refine (rnext_R h.r).mono ?_
  rintro e w' ⟨rfl, b⟩
  exact ⟨rfl, h'.below b⟩
theorem b_len (h : BB w0 w cb rb X R R) : Calls Try.prog 12 #[.pointer (some ⟨cb, 0, none⟩)] w fun e w' => e = .returned (.int .i64 R.length) ∧ w' = w := by
  obtain ⟨S, v, h⟩ := h
  exact len_C h.c
theorem BB.rcell (h : BB w0 w cb rb X Rc Rr) : ∃ q c, w.cell? ⟨rb, 0, none⟩ = some (.slice q Rr.length c) := by
  obtain ⟨S, v, h⟩ := h
  obtain ⟨q, c, e⟩ := h.r.r.shape
  exact ⟨q, c, by rw [h.r.c, e]⟩
/-- both rows told -/
def DD (w0 w : World) (cb rb : Nat) (X : Nat → Option Obj) (R : List Al) (u1 u2 : Value) (T : List Al) : Prop := BB w0 w cb rb X R R ∧ Row w u1 T ∧ w.ownsRow 0 47 2 u2 T.length (flat T)
theorem b_dues (h : BB w0 w cb rb X R R) (now : Int) : Calls Try.prog 14 #[.pointer (some ⟨cb, 0, none⟩), .int .i64 now] w fun e w' => ∃ u1, e = .returned u1 ∧ Hid (BB w0 w' cb rb X (dw now R) R ∧ ∀ W, Below w'.heap.size w' W → Calls Try.prog 15 #[.pointer (some ⟨rb, 0, none⟩), .int .i64 now] W fun e w2 => ∃ u2, e = .returned u2 ∧ Hid (DD w0 w2 cb rb X (dw now R) u1 u2 (pw now R))) := by
  have hR := h.srt
  obtain ⟨S, v, h⟩ := h
  refine (due_C h.c now).mono ?_
  rintro e w' ⟨u1, S', rfl, d⟩
  have h1 := h.prog d.c
  refine ⟨u1, rfl, ⟨S', v, h1⟩, fun W bW => ?_⟩
  have h1W := h1.below bW
  refine (rdue_R h1W.r hR.2.2 now).mono ?_
  rintro e w2 ⟨u2, v', rfl, d2⟩
  refine ⟨u2, rfl, ⟨S', v', h1W.ref d2.g⟩, (d.r.below bW).keep fun j q => d2.g.kp.block j ((d.r.below bW).lt q) fun q' => ?_, ?_⟩
  · have := (d.n j q).1
    have := h.r.lt q'
    omega
  · refine ⟨d2.u.1, ?_⟩
    rcases d2.u.2 with q | ⟨g, cap, cur, e, _, r⟩
    · exact .inl q
    · exact .inr ⟨g, cap, cur, e, Nat.zero_le _, r⟩
end
set_option maxHeartbeats 1000000 in
theorem same_any {w : World} {u1 u2 : Value} {T : List Al} (h1 : Hid (Row w u1 T)) (h2 : Hid (w.ownsRow 0 47 2 u2 T.length (flat T))) (hl : T.length ≤ 1024) :
    Calls Try.prog 13 #[u1, u2] w fun e w' => e = .returned (.bool true) ∧ Below w.heap.size w w' := by
  obtain ⟨q1, c1, e1⟩ := h1.out.shape
  obtain ⟨q2, c2, e2⟩ := (RS.of_own h2.out rfl).shape
  subst e1 e2
  have hl' : (T.length : Int) ≤ 1024 := by omega
  go_enter Try.func13, Try.ntmps13
  go_wp2_with fail
  go_loopw [5] (fun t wx => ∃ i : Nat, t = .int .i64 i ∧ Hid (i ≤ T.length ∧ wx.heap = w.heap ∧ Below w.heap.size w wx)) (fun t _ => T.length - (intOf t).toNat)
  case atStart => exact ⟨0, rfl, Nat.zero_le _, rfl, Below.refl _ _⟩
  case round =>
    obtain ⟨i, rfl, HI⟩ := hrel
    have ew := HI.out.2.1
    have EW : Hid (wr.heap = w.heap ∧ Below w.heap.size w wr) := HI.out.2
    have ec : ∀ p, wr.cell? p = w.cell? p := fun p => by unfold World.cell?; rw [ew]
    by_cases hi : i < T.length
    · have hi' : (i : Int) < (T.length : Int) := by omega
      obtain ⟨ga, ca, ea⟩ := h1.out.row (by omega)
      obtain ⟨gb, ob, cb', eb, hL⟩ := (RS.of_own h2.out rfl).row (by omega)
      have r1 := h1.out
      rw [ea] at r1
      have eqa : q1 = some ⟨ga, 0, none⟩ ∧ c1 = ca := by simpa using ea
      have eqb : q2 = some ⟨gb, ob, none⟩ ∧ c2 = cb' := by simpa using eb
      have x0 : wr.cell? ⟨ga, i * 2, none⟩ = some (.string (gt T i).nm) := (ec _).trans (r1.c0 (gt_some hi))
      have x1 : wr.cell? ⟨ga, i * 2 + 1, none⟩ = some (.int .i64 (gt T i).at') := (ec _).trans (r1.c1 (gt_some hi))
      have y0 : wr.cell? ⟨gb, ob + i * 2, none⟩ = some (.string (gt T i).nm) := (ec _).trans (hL.c0 (gt_some hi))
      have y1 : wr.cell? ⟨gb, ob + i * 2 + 1, none⟩ = some (.int .i64 (gt T i).at') := (ec _).trans (hL.c1 (gt_some hi))
      generalize (gt T i).nm = xn at *
      generalize (gt T i).at' = xa at *
      obtain ⟨rfl, rfl⟩ := eqa
      obtain ⟨rfl, rfl⟩ := eqb
      have Hi : Hid (i < T.length) := hi
      clear hi HI r1 ea eb hL ec ew
      go_upto_region 6 with fail
      go_quiet (fail)
      go_wp2_with fail
      have := Hi.out
      refine ⟨⟨i + 1, by simp, by show i + 1 ≤ T.length; omega, EW.out.1, below_drewN EW.out.2 _⟩, ?_⟩
      simp [intOf]
      omega
    · have hi' : ¬ (i : Int) < (T.length : Int) := by omega
      have hi2 : decide ((i : Int) < (T.length : Int)) = false := decide_eq_false hi'
      clear hi HI ec ew
      go_wp2_with fail
      go_ret
      exact ⟨rfl, EW.out.2⟩
end Go.Proofs.Ytnjnfbfjmeofaaa
