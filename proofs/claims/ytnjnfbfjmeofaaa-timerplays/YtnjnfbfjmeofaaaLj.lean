/-
  Two clocks in a law; the laws' rows of names and ticks; what many settings leave.
-/
import Derived.Test.YtnjnfbfjmeofaaaLg
namespace Go.Proofs.Ytnjnfbfjmeofaaa
open Go.RowKit Go.Maps Go.WideMaps

/-- a row of the caller's -/
def Arg (w : World) (q : Option Addr) (l : List Value) : Prop := ∀ k x, l[k]? = some x → ∃ g o, q = some ⟨g, o, none⟩ ∧ w.cell? ⟨g, o + k, none⟩ = some x
theorem Arg.below {w w' : World} {q : Option Addr} {l : List Value} (h : Arg w q l) (b : Below w.heap.size w w') : Arg w' q l := fun k x hk => by
  obtain ⟨g, o, h1, h2⟩ := h k x hk
  exact ⟨g, o, h1, cell_below h2 b⟩
structure T2 (w0 w : World) (ca cb : Nat) (Sa Sb : HS) (Ra Rb : List Al) : Prop where
  a : Ck w ca Sa Ra
  b : Ck w cb Sb Rb
  bl : Below w0.heap.size w0 w
  fa : ∀ j, Fp ca Sa j → w0.heap.size ≤ j
  fb : ∀ j, Fp cb Sb j → w0.heap.size ≤ j
  d : ∀ j, Fp ca Sa j → ¬ Fp cb Sb j
def TT (w0 w : World) (ca cb : Nat) (Ra Rb : List Al) : Prop := ∃ Sa Sb, T2 w0 w ca cb Sa Sb Ra Rb
section
variable {w0 w w' : World} {ca cb : Nat} {Sa Sb S' : HS} {Ra Rb R' : List Al}
theorem T2.swap (h : T2 w0 w ca cb Sa Sb Ra Rb) : T2 w0 w cb ca Sb Sa Rb Ra := ⟨h.b, h.a, h.bl, h.fb, h.fa, fun j q q' => h.d j q' q⟩
theorem T2.step (h : T2 w0 w ca cb Sa Sb Ra Rb) (c : Cg w w' ca Sa S' R') : T2 w0 w' ca cb S' Sb R' Rb := by
  have hs := h.bl.size
  refine ⟨c.c, h.b.off c.g.kp fun j q q' => h.d j q' q, ⟨c.g.kp.os.trans h.bl.os, c.g.kp.tape.trans h.bl.tape, c.g.kp.output.trans h.bl.output, Nat.le_trans h.bl.size c.g.kp.size, fun j hj => (c.g.kp.block j (by omega) fun q => by have := h.fa j q; omega).trans (h.bl.block j hj)⟩, fun j q => ?_, h.fb, fun j q q' => ?_⟩
  · rcases c.g.fp j q with q | q
    · exact h.fa j q
    · omega
  · rcases c.g.fp j q with q | q
    · exact h.d j q q'
    · have := h.b.c.m.lt j q'
      omega
theorem TT.swap (h : TT w0 w ca cb Ra Rb) : TT w0 w cb ca Rb Ra := by
  obtain ⟨Sa, Sb, h⟩ := h
  exact ⟨Sb, Sa, h.swap⟩
theorem TT.bel (h : TT w0 w ca cb Ra Rb) : Below w0.heap.size w0 w := by
  obtain ⟨Sa, Sb, h⟩ := h
  exact h.bl
theorem t_set (h : TT w0 w ca cb Ra Rb) (s : ByteArray) (x : Int) (hs : s.size ≤ 281474976710656) : Calls Try.prog 16 #[.pointer (some ⟨ca, 0, none⟩), .string s, .int .i64 x] w fun e w' => e = .returned (.int .i64 (setC s.data.toList Ra)) ∧ TT w0 w' ca cb (setR s x Ra) Rb := by
  obtain ⟨Sa, Sb, h⟩ := h
  refine (set_C h.a s x hs).mono ?_
  rintro e w' ⟨rfl, S', q⟩
  exact ⟨rfl, S', Sb, h.step q⟩
theorem t_new (w0 w : World) (b : Below w0.heap.size w0 w) : TT w0 ((w.alloc (.cells #[.slice none 0 0, .map none] 60 (0, 0))).alloc (.cells #[.slice none 0 0, .map none] 60 (0, 0))) w.heap.size (w.heap.size + 1) [] [] := by
  have h1 := zero_C w
  have h2 := zero_C (w.alloc (.cells #[.slice none 0 0, .map none] 60 (0, 0)))
  have e : (w.alloc (.cells #[.slice none 0 0, .map none] 60 (0, 0))).heap.size = w.heap.size + 1 := by simp
  rw [e] at h2
  have b1 := b.alloc b.size (.cells #[.slice none 0 0, .map none] 60 (0, 0))
  have hb := b.size
  refine ⟨_, _, h1.below ((Below.refl _ _).alloc (Nat.le_refl _) _), h2, b1.alloc (by rw [e]; omega) _, fun j q => ?_, fun j q => ?_, fun j q q' => ?_⟩
  · rcases q with rfl | q | q
    · exact hb
    · cases q
    · cases q
  · rcases q with rfl | q | q
    · omega
    · cases q
    · cases q
  · rcases q with rfl | q | q
    · rcases q' with q' | q' | q'
      · omega
      · cases q'
      · cases q'
    · cases q
    · cases q
end
/-- what the first k settings leave -/
def ro (ss : List ByteArray) (f : Nat → Int) : Nat → List Al
  | 0 => []
  | k + 1 => setR (ss.getD k .empty) (f k) (ro ss f k)
theorem setR_mem {s : ByteArray} {x : Int} {R : List Al} {b : Al} (h : b ∈ setR s x R) : b = ⟨s, x⟩ ∨ b ∈ R := by
  unfold setR at h
  split at h
  · exact .inr h
  · rcases mem_ins.1 h with q | q
    · exact .inl q
    · exact .inr (mem_drp.1 q).1
theorem ro_mem {ss : List ByteArray} {f : Nat → Int} {P : Int → Prop} (hf : ∀ i, P (f i)) : ∀ (k : Nat) (b : Al), b ∈ ro ss f k → P b.at'
  | 0, b, h => by cases h
  | k + 1, b, h => by
    rcases setR_mem h with rfl | h
    · exact hf k
    · exact ro_mem hf k b h
theorem setR_len {s : ByteArray} {x : Int} {R : List Al} : (setR s x R).length ≤ R.length + 1 := by
  unfold setR
  split
  · omega
  · rw [ins_length]
    have : (drp s.data.toList R).length ≤ R.length := List.length_filter_le _ _
    omega
theorem ro_len (ss : List ByteArray) (f : Nat → Int) : ∀ k, (ro ss f k).length ≤ k
  | 0 => Nat.le_refl _
  | k + 1 => Nat.le_trans setR_len (Nat.succ_le_succ (ro_len ss f k))

/-- one clock's row told, another one's parts gathered -/
structure Gp (w0 w : World) (cb : Nat) (X : Nat → Option Obj) (S : HS) (R : List Al) (v : Value) (P : List Al) : Prop where
  l : Lw w0 w cb X S R
  r : Row w v P
  n : ∀ j, v.ownBlock = some j → w0.heap.size ≤ j ∧ ¬ Fp cb S j ∧ X j = none
def GG (w0 w : World) (cb : Nat) (X : Nat → Option Obj) (R : List Al) (v : Value) (P : List Al) : Prop := ∃ S, Gp w0 w cb X S R v P
section
variable {w0 w w' w2 : World} {cb : Nat} {X : Nat → Option Obj} {S S' : HS} {R R' P T : List Al} {v v' u : Value}
theorem Gp.due (h : Gp w0 w cb X S R v P) (d : Dd w w' cb S S' u T R') : Gp w0 w' cb X S' R' v P := by
  refine ⟨h.l.step d.c, h.r.keep fun j q => d.c.g.kp.block j (h.r.lt q) (h.n j q).2.1, fun j q => ?_⟩
  obtain ⟨h1, h2, h3⟩ := h.n j q
  refine ⟨h1, fun q' => ?_, h3⟩
  rcases d.c.g.fp j q' with q' | q'
  · exact h2 q'
  · have := h.r.lt q; omega
theorem Gp.app (h : Gp w0 w cb X S R v P) (hr : Row w2 v' (P ++ T)) (gr : w.grownBy w2 v.ownBlock) (hv : v'.ownBlock = v.ownBlock ∨ v'.ownBlock = some w.heap.size) : Gp w0 w2 cb X S R v' (P ++ T) := by
  have kv : Kp (fun j => v.ownBlock = some j) w w2 := Kp.of_grown gr fun j q => q
  have hs := h.l.b.size
  refine ⟨⟨h.l.k.off kv fun j q q' => (h.n j q').2.1 q, ⟨kv.os.trans h.l.b.os, kv.tape.trans h.l.b.tape, kv.output.trans h.l.b.output, Nat.le_trans h.l.b.size kv.size, fun j hj => (kv.block j (by omega) fun q => by have := (h.n j q).1; omega).trans (h.l.b.block j hj)⟩, h.l.f, fun j o q => ?_⟩, hr, fun j q => ?_⟩
  · obtain ⟨h1, h2⟩ := h.l.x j o q
    refine ⟨(kv.block j (Array.getElem?_eq_some_iff.1 h1).1 fun q' => ?_).trans h1, h2⟩
    have := (h.n j q').2.2
    rw [q] at this
    cases this
  · rcases hv with q1 | q1
    · rw [q1] at q
      exact h.n j q
    · rw [q1] at q
      have := Option.some.inj q
      subst this
      refine ⟨hs, fun q => Nat.lt_irrefl _ (h.l.k.c.m.lt _ q), ?_⟩
      cases hX : X w.heap.size with
      | none => rfl
      | some o =>
        have := (Array.getElem?_eq_some_iff.1 (h.l.x _ o hX).1).1
        omega
/-- behind Due: the row that is told, and what was gathered -/
def GD (w0 w : World) (cb : Nat) (X : Nat → Option Obj) (R : List Al) (v : Value) (P : List Al) (u : Value) (T : List Al) : Prop := GG w0 w cb X R v P ∧ Row w u T
theorem g_due (h : GG w0 w cb X R v P) (now : Int) : Calls Try.prog 14 #[.pointer (some ⟨cb, 0, none⟩), .int .i64 now] w fun e w' => ∃ u, e = .returned u ∧ GD w0 w' cb X (dw now R) v P u (pw now R) := by
  obtain ⟨S, h⟩ := h
  refine (due_C h.l.k now).mono ?_
  rintro e w' ⟨u, S', rfl, d⟩
  exact ⟨u, rfl, ⟨S', h.due d⟩, d.r⟩
theorem GG.len (h : GG w0 w cb X R v P) : Calls Try.prog 12 #[.pointer (some ⟨cb, 0, none⟩)] w fun e w' => e = .returned (.int .i64 R.length) ∧ w' = w := by
  obtain ⟨S, h⟩ := h
  exact len_C h.l.k
theorem GG.row (h : GG w0 w cb X R v P) : Row w v P := by
  obtain ⟨S, h⟩ := h
  exact h.r
theorem GG.bel (h : GG w0 w cb X R v P) : Below w0.heap.size w0 w := by
  obtain ⟨S, h⟩ := h
  exact h.l.b
theorem GG.box (h : GG w0 w cb X R v P) {j : Nat} {o : Obj} (hj : X j = some o) : w.heap[j]? = some o := by
  obtain ⟨S, h⟩ := h
  exact (h.l.x j o hj).1
theorem GG.app (h : GG w0 w cb X R v P) (hr : Row w2 v' (P ++ T)) (gr : w.grownBy w2 v.ownBlock) (hv : v'.ownBlock = v.ownBlock ∨ v'.ownBlock = some w.heap.size) : GG w0 w2 cb X R v' (P ++ T) := by
  obtain ⟨S, h⟩ := h
  exact ⟨S, h.app hr gr hv⟩
end
open Classical in
/-- the first clock is told whole: its row and it are kept aside -/
theorem t_whole {w0 w : World} {ca cb : Nat} {R Rb : List Al} (h : TT w0 w ca cb R Rb) (now : Int) (ha : ∀ a ∈ R, a.at' ≤ now) :
    Calls Try.prog 14 #[.pointer (some ⟨ca, 0, none⟩), .int .i64 now] w fun e w' => ∃ v X, e = .returned v ∧ GG w0 w' cb X Rb (.slice none 0 0) [] ∧ ∀ W R' u P, GG w0 W cb X R' u P → Row W v R ∧ Calls Try.prog 12 #[.pointer (some ⟨ca, 0, none⟩)] W fun e w' => e = .returned (.int .i64 0) ∧ w' = W := by
  obtain ⟨Sa, Sb, h⟩ := h
  refine (due_C h.a now).mono ?_
  rintro e w' ⟨v, S', rfl, d⟩
  have hp : pw now R = R ∧ dw now R = [] := by
    have hd : ∀ a ∈ R, decide (a.at' ≤ now) = true := fun a q => decide_eq_true (ha a q)
    unfold pw dw
    refine ⟨?_, ?_⟩
    · have := List.takeWhile_append_of_pos (l₂ := []) hd
      simpa using this
    · have := List.dropWhile_append_of_pos (l₂ := []) hd
      simpa using this
  rw [hp.1, hp.2] at d
  have t := h.step d.c
  refine ⟨v, fun j => if Fp ca S' j ∨ v.ownBlock = some j then w'.heap[j]? else none, rfl, ⟨Sb, ⟨t.b, t.bl, t.fb, fun j o q => ?_⟩, Row.nil _, fun j q => by cases q⟩, fun W R' u P hG => ?_⟩
  · split at q
    · rename_i q'
      refine ⟨q, fun q2 => ?_⟩
      rcases q' with q' | q'
      · exact t.d j q' q2
      · have := (d.n j q').1
        have := h.b.c.m.lt j q2
        omega
    · cases q
  · have hk : ∀ j, (Fp ca S' j ∨ v.ownBlock = some j) → W.heap[j]? = w'.heap[j]? := fun j q => by
      have hj : j < w'.heap.size := by
        rcases q with q | q
        · exact t.a.c.m.lt j q
        · exact d.r.lt q
      have e1 : w'.heap[j]? = some w'.heap[j] := Array.getElem?_eq_getElem hj
      rw [e1]
      exact hG.box (o := w'.heap[j]) (by rw [if_pos q]; exact e1)
    refine ⟨d.r.keep fun j q => hk j (.inr q), ?_⟩
    have := len_S (t.a.c.m.keep fun j q => hk j (.inl q))
    rw [t.a.len] at this
    exact this
end Go.Proofs.Ytnjnfbfjmeofaaa
