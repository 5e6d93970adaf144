/-
  What a call does to the memory; blocks as functions of their cells; rows of pointers; maps of pointers. Plain mathematics of an interval heap: the ends of pairs as two functions of the pairs' numbers; what sinks, what rises. Plain mathematics of an interval heap: the places of a line, swapped and turned; what is put behind, what is taken off.
-/
import Derived.Test.YtcfnonfghlgphaaRows
import Derived.WalkKit
import Derived.WalkSpells
import Derived.Handy
import Derived.Outline
import Derived.Laws.ResultCell
import Derived.Deep.WholeRow
import Derived.WalkSmall
import Derived.BigQuiet
import Derived.Deep.QuietTactic
import Derived.Sort.AtCall
import Derived.Laws.AppendOwn
import Derived.Laws.AppendOwnNone
import Derived.OwnWalk
import Derived.Maps.OwnSet
import Derived.Maps.AppendAt
import Derived.WideShapes
import Derived.Lib.SmallJoins
namespace Go.Proofs.Ytcfnonfghlgphaa.Hp
open Go.RowKit Go.Maps

theorem below_drewN {B : Nat} {a w : World} (h : Below B a w) (n : Nat) : Below B a (w.drewN n) := ⟨h.os, h.tape, h.output, h.size, h.block⟩
theorem below_from {B : Nat} {w W w1 : World} (h : Below B w W) (b : Below W.heap.size W w1) (hB : B ≤ W.heap.size) : Below B w w1 := h.trans (b.mono hB)
theorem at_below {W w1 : World} {g : Nat} {o : Obj} {B : Nat} (b : Below B W w1) (hB : W.heap.size ≤ B) (h : W.heap[g]? = some o) : w1.heap[g]? = some o :=
  (b.block g (Nat.lt_of_lt_of_le (Array.getElem?_eq_some_iff.1 h).1 hB)).trans h
theorem ret_b {a b : Bool} (h : a = b) : Ending.returned (.bool a) = .returned (.bool b) := by rw [h]
theorem new0 {w : World} {o : Obj} : (w.alloc o).heap[w.heap.size]? = some o := heap_alloc_new w o
theorem fz {w : World} {g : Nat} {cs : Array Value} {t : TypeId} (h : w.heap[g]? = some (.cells cs t (0, 0))) (i : Nat) : w.frozen? ⟨g, i, none⟩ = false := by
  unfold World.frozen?
  rw [h]
  simp
theorem setB {w : World} {g i : Nat} {cs : Array Value} {t : TypeId} (h : w.heap[g]? = some (.cells cs t (0, 0))) (v : Value) : (w.setCell ⟨g, i, none⟩ v).heap[g]? = some (.cells (cs.setIfInBounds i v) t (0, 0)) := Joins.block_setCell h v
theorem info_parts {t : TypeId} {z : Value} {s b : Nat} (h : (Try.prog.info? t).map (fun i => (i.zero, i.size, i.bytes)) = some (some z, s, b)) :
    ∃ i, Try.prog.info? t = some i ∧ i.zero = some z ∧ i.size = s ∧ i.bytes = b := by
  cases hq : Try.prog.info? t with
  | none => simp [hq] at h
  | some i =>
    simp [hq] at h
    exact ⟨i, rfl, h.1, h.2.1, h.2.2⟩

structure Kp (S : Nat → Prop) (w w' : World) : Prop where
  os : w'.os = w.os
  tape : w'.tape = w.tape
  output : w'.output = w.output
  size : w.heap.size ≤ w'.heap.size
  block : ∀ k, k < w.heap.size → ¬ S k → w'.heap[k]? = w.heap[k]?
theorem Kp.refl (S : Nat → Prop) (w : World) : Kp S w w := ⟨rfl, rfl, rfl, Nat.le_refl _, fun _ _ _ => rfl⟩
theorem Kp.trans {S S' : Nat → Prop} {a b c : World} (h : Kp S a b) (k : Kp S' b c) (hS : ∀ k, k < a.heap.size → S' k → S k) : Kp S a c :=
  ⟨k.os.trans h.os, k.tape.trans h.tape, k.output.trans h.output, Nat.le_trans h.size k.size, fun i hi hn => (k.block i (Nat.lt_of_lt_of_le hi h.size) (fun e => hn (hS i hi e))).trans (h.block i hi hn)⟩
theorem Kp.mono {S S' : Nat → Prop} {a b : World} (h : Kp S a b) (hS : ∀ k, k < a.heap.size → S k → S' k) : Kp S' a b := ⟨h.os, h.tape, h.output, h.size, fun k hk hn => h.block k hk fun e => hn (hS k hk e)⟩
theorem Kp.of_below {S : Nat → Prop} {a b : World} (h : Below a.heap.size a b) : Kp S a b := ⟨h.os, h.tape, h.output, h.size, fun k hk _ => h.block k hk⟩
theorem Kp.below {S : Nat → Prop} {B : Nat} {a b : World} (h : Kp S a b) (hB : B ≤ a.heap.size) (hS : ∀ k, k < B → ¬ S k) : Below B a b := ⟨h.os, h.tape, h.output, h.size, fun k hk => h.block k (Nat.lt_of_lt_of_le hk hB) (hS k hk)⟩
theorem Kp.of_grown {S : Nat → Prop} {a b : World} {r : Option Nat} (h : a.grownBy b r) (hS : ∀ k, r = some k → S k) : Kp S a b := ⟨h.os, h.tape, h.output, h.size, fun k hk hn => h.block k hk fun e => hn (hS k e.symm)⟩
theorem Kp.of_set {S : Nat → Prop} (w : World) (p : Addr) (u : Value) (h : S p.block) : Kp S w (w.setCell p u) := ⟨rfl, rfl, rfl, by simp [World.setCell], fun k _ hn => Below.heap_setCell _ _ _ _ (fun e => hn (e ▸ h))⟩
theorem Kp.drew {S : Nat → Prop} {a w : World} (h : Kp S a w) (n : Nat) : Kp S a (w.drewN n) := ⟨h.os, h.tape, h.output, h.size, h.block⟩
theorem Kp.alloc {S : Nat → Prop} (w : World) (o : Obj) : Kp S w (w.alloc o) := Kp.of_below ((Below.refl _ w).alloc (Nat.le_refl _) _)

/-! ### a block as a function of its cells -/
def Blk (w : World) (b : Nat) (t : TypeId) (n : Nat) (f : Nat → Value) : Prop := w.heap[b]? = some (.cells (Array.ofFn (n := n) fun i => f i.val) t (0, 0))
def fset (f : Nat → Value) (i : Nat) (v : Value) : Nat → Value := fun j => if j = i then v else f j
theorem Blk.lt {w : World} {b t n : Nat} {f : Nat → Value} (h : Blk w b t n f) : b < w.heap.size := (Array.getElem?_eq_some_iff.1 h).1
theorem Blk.cell {w : World} {b t n : Nat} {f : Nat → Value} (h : Blk w b t n f) (i : Nat) (hi : i < n) : w.cell? ⟨b, i, none⟩ = some (f i) := by
  unfold Blk at h
  unfold World.cell?
  rw [h]
  simp [hi]
theorem Blk.fz {w : World} {b t n : Nat} {f : Nat → Value} (h : Blk w b t n f) (i : Nat) : w.frozen? ⟨b, i, none⟩ = false := Go.Proofs.Ytcfnonfghlgphaa.Hp.fz h i
theorem Blk.at {w w1 : World} {b t n : Nat} {f : Nat → Value} (h : Blk w b t n f) (e : w1.heap[b]? = w.heap[b]?) : Blk w1 b t n f := e.trans h
theorem Blk.other {w : World} {b t n : Nat} {f : Nat → Value} (h : Blk w b t n f) (p : Addr) (v : Value) (hp : p.block ≠ b) : Blk (w.setCell p v) b t n f :=
  (Below.heap_setCell w p v b (fun e => hp e.symm)).trans h
theorem Blk.set {w : World} {b t n : Nat} {f : Nat → Value} (h : Blk w b t n f) (i : Nat) (v : Value) : Blk (w.setCell ⟨b, i, none⟩ v) b t n (fset f i v) := by
  unfold Blk at *
  rw [setB h v]
  congr 1
  congr 1
  apply Array.ext
  · simp
  · intro j h1 h2
    have h3 : j < n := by simpa using h2
    rw [Array.getElem_ofFn, Array.getElem_setIfInBounds (by simpa using h3)]
    by_cases e : i = j
    · simp [e, fset]
    · simp [e, fset, Ne.symm e]
theorem Blk.same {w : World} {b t n : Nat} {f g : Nat → Value} (h : Blk w b t n f) (e : ∀ i, i < n → f i = g i) : Blk w b t n g := by
  unfold Blk at *
  rw [h]
  congr 1
  congr 1
  apply Array.ext
  · simp
  · intro j h1 h2
    simp at h1 h2 ⊢
    exact e j h1

/-! ### owned rows -/
theorem ownsKeep {w w1 : World} {B t s n : Nat} {v : Value} {xs : List Value} (h : w.ownsRow B t s v n xs) (b : ∀ g, v.ownBlock = some g → w1.heap[g]? = w.heap[g]?) : w1.ownsRow B t s v n xs := by
  refine ⟨h.1, ?_⟩
  rcases h.2 with hn | ⟨g, cap, cur, rfl, hb, hgg, rest⟩
  · exact .inl hn
  · exact .inr ⟨g, cap, cur, rfl, hb, (b g rfl).trans hgg, rest⟩
def RowV (w : World) (g o : Nat) (l : List Value) : Prop := ∀ (k : Nat) (x : Value), l[k]? = some x → w.cell? ⟨g, o + k, none⟩ = some x
theorem append_vals {ops : Array Oper} {rest : List Oper} {o : Oper} {a : Act} {Q : Exit → Act → World → Prop} {w : World} {t e : TypeId} {size bytes : Nat} {z : Value} (hu : Try.prog.underlying t = some (.slice e)) (hinfo : (Try.prog.info? e).map (fun i => (i.zero, i.size, i.bytes)) = some (some z, size, bytes)) (hzs : z.cells.size = size) (hsz : 0 < size)
    (hgd : o.guard = none) (s x : Operand) (ho : o.op = .call { callee := .builtin .append, args := #[s, x], argTypes := #[t, t] }) (B : Nat) (v : Value) (n : Nat) (xs : List Value) (hs : a.eval s = v) (hown : w.ownsRow B e size v n xs)
    (g off : Nat) (c m : Nat) (news : List Value) (hx : a.eval x = .slice (some ⟨g, off, none⟩) m c) (hl : news.length = m * size) (hm : RowV w g off news) (h1 : ∀ u ∈ news, u.oneCell' = true) (h63 : n + m ≤ maxLen) (hb : (n + m) * bytes ≤ 140737488355328) (hB : B ≤ w.heap.size)
    (h : ∀ v' w', w'.ownsRow B e size v' (n + m) (xs ++ news) → w.grownBy w' v.ownBlock → wpList Try.prog ops Q rest (a.put o.dst v') w') :
    wpList Try.prog ops Q (o :: rest) a w := by
  obtain ⟨i0, hi, hz0, hz1, hz2⟩ := info_parts hinfo
  refine wpList_append_own _ hgd s x t ho B e i0 z size bytes hu hi hz0 hz1 hz2 hzs hsz v n xs hs hown _ m c news hx hl (fun j u hj => ?_) h1 h63 hb hB (fun v' w' h1 h2 _ => h v' w' h1 h2)
  rw [Addr.add_lit]
  exact hm j u hj

/-! ### maps -/
theorem keepMap {H : Type} {w w1 : World} {P : Program} {k : TypeId} {R : Value → Option (DataW H × List MemPlace)} {b n : Nat} {D : DataW H} (h : w.ownsMap P k R b n D) (e : w1.heap[b]? = w.heap[b]?) : w1.ownsMap P k R b n D := by
  obtain ⟨es, clock, hb, r⟩ := h
  exact ⟨es, clock, e.trans hb, r⟩
theorem tight {H : Type} {w : World} {P : Program} {k : TypeId} {R : Value → Option (DataW H × List MemPlace)} {b n : Nat} {D : DataW H} (h : w.ownsMap P k R b n D) : w.ownsMap P k R b (Maps.size D) D := by
  obtain ⟨es, clock, hb, F, _, hD⟩ := h
  refine ⟨es, clock, hb, F, ?_, hD⟩
  rw [hD, Maps.size_eq, length_sorted]
  simp
/-- how an entry's pointer reads -/
def pE (v : Value) : Option (DataW Nat × List MemPlace) := match v with
  | .pointer (some ⟨b, 0, none⟩) => some (.held b, [])
  | .pointer none => some (.nil, [])
  | _ => none
theorem pE_held {v : Value} {b : Nat} {ps : List MemPlace} (h : pE v = some (.held b, ps)) : v = .pointer (some ⟨b, 0, none⟩) := by
  unfold pE at h
  split at h
  · cases h; rfl
  · cases h
  · cases h
theorem pE_nil {v : Value} {ps : List MemPlace} (h : pE v = some (.nil, ps)) : v = .pointer none := by
  unfold pE at h
  split at h
  · cases h
  · rfl
  · cases h
def ptr (b : Nat) : Value := .pointer (some ⟨b, 0, none⟩)
def optp : Option Nat → Value
  | none => .pointer none
  | some b => ptr b
end Go.Proofs.Ytcfnonfghlgphaa.Hp

namespace Go.Proofs.Ytcfnonfghlgphaa.Hp

/-- the pair above -/
def up (p : Nat) : Nat := (p - 1) / 2
theorem up_lt {p : Nat} (h : 1 ≤ p) : up p < p := by unfold up; omega
theorem up_le (p : Nat) : up p ≤ p := by unfold up; omega
theorem up_full {p n : Nat} (h : 1 ≤ p) (hn : 2 * p < n) : 2 * up p + 1 < n := by unfold up; omega

/-- pairs are intervals within their parents' -/
structure V (n : Nat) (a b : Nat → Int) : Prop where
  sg : ∀ d, 2 * d + 1 = n → a d = b d
  r1 : ∀ d, 2 * d < n → a d ≤ b d
  rs : ∀ d, 1 ≤ d → 2 * d < n → a (up d) ≤ a d
  ro : ∀ d, 1 ≤ d → 2 * d < n → b d ≤ b (up d)

structure Snk (n : Nat) (a b : Nat → Int) (Q : Nat → Prop) (p c : Nat) : Prop where
  pc : p ≤ c
  hc : 2 * c < n
  sg : ∀ d, 2 * d + 1 = n → a d = b d
  r1 : ∀ d, 2 * d < n → a d ≤ b d
  rs : ∀ d, 1 ≤ d → 2 * d < n → d ≠ p → up d ≠ c → a (up d) ≤ a d
  sk : 1 ≤ c → ∀ d, 1 ≤ d → 2 * d < n → up d = c → a (up c) ≤ a d
  sp : 1 ≤ p → ∀ d, 1 ≤ d → 2 * d < n → up d = p → a (up p) ≤ a d
  mv : c ≠ p → 1 ≤ p → a (up p) ≤ a p
  ro : ∀ d, Q d → 1 ≤ d → 2 * d < n → b d ≤ b (up d)
  so : 1 ≤ p → ∀ d, 1 ≤ d → 2 * d < n → up d = p → b d ≤ b (up p)
  lo : 1 ≤ p → 2 * p + 1 < n → a p ≤ b (up p)
  lo2 : 1 ≤ p → 2 * p + 1 < n → a (up p) ≤ b p
structure Rsn (n : Nat) (a b : Nat → Int) (Q : Nat → Prop) (p c : Nat) : Prop where
  cp : c ≤ p
  hp : 2 * p < n
  sg : ∀ d, 2 * d + 1 = n → a d = b d
  r1 : ∀ d, 2 * d < n → a d ≤ b d
  rs : ∀ d, 1 ≤ d → 2 * d < n → d ≠ c → a (up d) ≤ a d
  sk : 1 ≤ c → ∀ d, 1 ≤ d → 2 * d < n → up d = c → a (up c) ≤ a d
  lo2 : 1 ≤ c → 2 * c + 1 < n → a (up c) ≤ b c
  ro : ∀ d, Q d → 1 ≤ d → 2 * d < n → b d ≤ b (up d)
  so : 1 ≤ p → ∀ d, 1 ≤ d → 2 * d < n → up d = p → b d ≤ b (up p)
  lo : 1 ≤ p → 2 * p + 1 < n → a p ≤ b (up p)
structure Fin' (n : Nat) (a b : Nat → Int) (Q : Nat → Prop) (p : Nat) : Prop where
  hp : 2 * p < n
  sg : ∀ d, 2 * d + 1 = n → a d = b d
  r1 : ∀ d, 2 * d < n → a d ≤ b d
  rs : ∀ d, 1 ≤ d → 2 * d < n → a (up d) ≤ a d
  ro : ∀ d, Q d → 1 ≤ d → 2 * d < n → b d ≤ b (up d)
  so : 1 ≤ p → ∀ d, 1 ≤ d → 2 * d < n → up d = p → b d ≤ b (up p)
  lo : 1 ≤ p → 2 * p + 1 < n → a p ≤ b (up p)

section
variable {n p c d q : Nat} {a b a' b' : Nat → Int} {Q : Nat → Prop}
theorem Snk.step (h : Snk n a b Q p c) (hd1 : 1 ≤ d) (hdn : 2 * d < n) (hdc : up d = c) (hlt : a d < a c) (hmin : ∀ e, 1 ≤ e → 2 * e < n → up e = c → a d ≤ a e)
    (ac : a' c = a d) (ad : 2 * d + 1 < n → a' d = min (a c) (b d) ∧ b' d = max (a c) (b d)) (ads : 2 * d + 1 = n → a' d = a c ∧ b' d = a c) (ax : ∀ x, x ≠ c → x ≠ d → a' x = a x) (bx : ∀ x, x ≠ d → b' x = b x) : Snk n a' b' Q p d := by
  have hcd : c < d := by have := up_lt hd1; omega
  have r1c := h.r1 c h.hc
  have r1d := h.r1 d hdn
  have hsd := h.sg d
  have F : a d ≤ a' d ∧ a' d ≤ b' d ∧ b d ≤ b' d ∧ (b' d = a c ∨ b' d = b d) ∧ a' d ≤ a c := by
    by_cases hf : 2 * d + 1 < n
    · obtain ⟨e1, e2⟩ := ad hf
      rw [e1, e2]
      refine ⟨by omega, by omega, by omega, by omega, by omega⟩
    · have e0 : 2 * d + 1 = n := by omega
      obtain ⟨e1, e2⟩ := ads e0
      have := hsd e0
      rw [e1, e2]
      refine ⟨by omega, by omega, by omega, by omega, by omega⟩
  obtain ⟨F1, F2, F3, F4, F5⟩ := F
  have bc : b' c = b c := bx c (by omega)
  have hpd : p < d := by have := h.pc; omega
  refine ⟨by omega, hdn, fun x hx => ?_, fun x hx => ?_, fun x x1 x2 x3 x4 => ?_, fun _ x x1 x2 x3 => ?_, fun p1 x x1 x2 x3 => ?_, fun _ p1 => ?_, fun x q1 x1 x2 => ?_, fun p1 x x1 x2 x3 => ?_, fun p1 p2 => ?_, fun p1 p2 => ?_⟩
  · by_cases e : x = d
    · subst e; rw [(ads hx).1, (ads hx).2]
    · rw [bx x e, ax x (by omega) e]; exact h.sg x hx
  · by_cases e : x = d
    · subst e; exact F2
    · rw [bx x e]
      by_cases e2 : x = c
      · subst e2; rw [ac]; omega
      · rw [ax x e2 e]; exact h.r1 x hx
  · have hx := up_lt x1
    by_cases e : x = d
    · subst e; rw [hdc, ac]; exact F1
    · by_cases e2 : x = c
      · subst e2
        rw [ac, ax (up x) (by omega) (by omega)]
        exact h.sk (by omega) d hd1 hdn hdc
      · rw [ax x e2 e]
        by_cases e3 : up x = c
        · rw [e3, ac]; exact hmin x x1 x2 e3
        · rw [ax (up x) e3 x4]; exact h.rs x x1 x2 x3 e3
  · rw [hdc, ac, ax x (by have := up_lt x1; omega) (by have := up_lt x1; omega)]
    have := h.rs x x1 x2 (by have := up_lt x1; omega) (by omega)
    rw [x3] at this
    exact this
  · have hup := up_lt p1
    rw [ax (up p) (by have := h.pc; omega) (by omega)]
    have s0 := h.sp p1 x x1 x2 x3
    by_cases e : x = d
    · subst e; omega
    · by_cases e2 : x = c
      · subst e2
        rw [ac]
        have hne : x ≠ p := by have := up_lt x1; omega
        have m0 := h.mv hne p1
        have s1 := h.sk (by omega) d hd1 hdn hdc
        rw [x3] at s1
        omega
      · rw [ax x e2 e]; exact s0
  · rw [ax (up p) (by have := up_lt p1; have := h.pc; omega) (by have := up_lt p1; omega)]
    by_cases e : p = c
    · rw [e, ac, ← e]
      exact h.sp p1 d hd1 hdn (by omega)
    · rw [ax p e (by omega)]; exact h.mv (fun q => e q.symm) p1
  · by_cases e : x = d
    · subst e
      rw [hdc, bc]
      have := h.ro x q1 x1 x2
      rw [hdc] at this
      omega
    · rw [bx x e]
      have := h.ro x q1 x1 x2
      by_cases e2 : up x = d
      · rw [e2] at this ⊢; omega
      · rw [bx _ e2]; exact this
  · have hup := up_lt p1
    rw [bx (up p) (by omega)]
    by_cases e : x = d
    · subst e
      have e2 : c = p := by omega
      have l0 := h.lo p1 (by have := up_full x1 x2; rw [x3] at this; exact this)
      have s0 := h.so p1 x x1 x2 x3
      rw [e2] at F4
      omega
    · rw [bx x e]; exact h.so p1 x x1 x2 x3
  · rw [bx (up p) (by have := up_lt p1; omega)]
    have l0 := h.lo p1 p2
    by_cases e : p = c
    · rw [e, ac, ← e]; rw [← e] at hlt; omega
    · rw [ax p e (by omega)]; exact l0
  · rw [bx p (by omega), ax (up p) (by have := up_lt p1; have := h.pc; omega) (by have := up_lt p1; omega)]
    exact h.lo2 p1 p2
theorem Snk.done (h : Snk n a b Q p c) (hmin : ∀ e, 1 ≤ e → 2 * e < n → up e = c → a c ≤ a e) : Rsn n a b Q p p :=
  ⟨Nat.le_refl _, by have := h.pc; have := h.hc; omega, h.sg, h.r1, fun d d1 d2 d3 => by
    by_cases e : up d = c
    · rw [e]; exact hmin d d1 d2 e
    · exact h.rs d d1 d2 d3 e, h.sp, h.lo2, h.ro, h.so, h.lo⟩
theorem Rsn.step (h : Rsn n a b Q p c) (hc1 : 1 ≤ c) (hlt : a c < a (up c)) (ac : a' c = a (up c)) (aq : a' (up c) = a c) (ax : ∀ x, x ≠ c → x ≠ up c → a' x = a x) (bc : 2 * c + 1 = n → b' c = a (up c)) (bx : ∀ x, (x ≠ c ∨ 2 * c + 1 < n) → b' x = b x) : Rsn n a' b' Q p (up c) := by
  have hcn : 2 * c < n := by have := h.cp; have := h.hp; omega
  have hq := up_lt hc1
  have hqf := up_full hc1 hcn
  have r1q := h.r1 (up c) (by omega)
  have r1c := h.r1 c hcn
  have bq : b' (up c) = b (up c) := bx _ (.inl (by omega))
  have l2 := h.lo2 hc1
  have R1c : a (up c) ≤ b' c := by
    by_cases e : 2 * c + 1 = n
    · rw [bc e]; omega
    · rw [bx c (.inr (by omega))]; exact l2 (by omega)
  have rq : 1 ≤ up c → a (up (up c)) ≤ a (up c) := fun q1 => h.rs (up c) q1 (by omega) (by omega)
  refine ⟨by have := h.cp; omega, h.hp, fun x hx => ?_, fun x hx => ?_, fun x x1 x2 x3 => ?_, fun q1 x x1 x2 x3 => ?_, fun q1 _ => ?_, fun x q1 x1 x2 => ?_, fun p1 x x1 x2 x3 => ?_, fun p1 p2 => ?_⟩
  · by_cases e : x = c
    · subst e; rw [ac, bc hx]
    · rw [bx x (.inl e), ax x e (by omega)]; exact h.sg x hx
  · by_cases e : x = c
    · subst e; rw [ac]; exact R1c
    · rw [bx x (.inl e)]
      by_cases e2 : x = up c
      · rw [e2, aq]; omega
      · rw [ax x e e2]; exact h.r1 x hx
  · by_cases e : x = c
    · subst e; rw [ac, aq]; omega
    · rw [ax x e x3]
      by_cases e2 : up x = c
      · rw [e2, ac]; exact h.sk hc1 x x1 x2 e2
      · by_cases e3 : up x = up c
        · rw [e3, aq]
          have := h.rs x x1 x2 e
          rw [e3] at this
          omega
        · rw [ax _ e2 e3]; exact h.rs x x1 x2 e
  · have hqq := up_lt q1
    rw [ax (up (up c)) (by omega) (by omega)]
    by_cases e : x = c
    · subst e; rw [ac]; exact rq q1
    · rw [ax x e (by have := up_lt x1; omega)]
      have := h.rs x x1 x2 e
      rw [x3] at this
      have := rq q1
      omega
  · have hqq := up_lt q1
    rw [ax (up (up c)) (by omega) (by omega), bq]
    have := rq q1
    omega
  · have h0 := h.ro x q1 x1 x2
    by_cases e : x = c
    · subst e
      by_cases e2 : 2 * x + 1 = n
      · rw [bc e2, bq]; exact r1q
      · rw [bx x (.inr (by omega)), bq]; exact h0
    · rw [bx x (.inl e)]
      have : up x ≠ c ∨ 2 * c + 1 < n := by
        by_cases e2 : up x = c
        · right; rw [← e2]; exact up_full x1 x2
        · exact .inl e2
      rw [bx _ this]
      exact h0
  · have h0 := h.so p1 x x1 x2 x3
    have hup := up_lt p1
    have hxp := up_lt x1
    have hcp := h.cp
    rw [bx x (.inl (by omega))]
    have : up p ≠ c ∨ 2 * c + 1 < n := by
      by_cases e2 : up p = c
      · right; rw [← e2]; exact up_full p1 h.hp
      · exact .inl e2
    rw [bx _ this]
    exact h0
  · have h0 := h.lo p1 p2
    have hup := up_lt p1
    have hcp := h.cp
    have : up p ≠ c ∨ 2 * c + 1 < n := by
      by_cases e2 : up p = c
      · right; rw [← e2]; exact up_full p1 h.hp
      · exact .inl e2
    rw [bx _ this]
    by_cases e : p = c
    · subst e; rw [ac]; exact r1q
    · rw [ax p e (by omega)]; exact h0
theorem Rsn.done (h : Rsn n a b Q p c) (hq : 1 ≤ c → a (up c) ≤ a c) : Fin' n a b Q p :=
  ⟨h.hp, h.sg, h.r1, fun d d1 d2 => by
    by_cases e : d = c
    · subst e; exact hq d1
    · exact h.rs d d1 d2 e, h.ro, h.so, h.lo⟩
/-- the other side's turn -/
theorem Fin'.turn (h : Fin' n a b (fun d => d ≠ p ∧ up d ≠ p) p) : Snk n (fun d => - b d) (fun d => - a d) (fun _ => True) p p := by
  refine ⟨Nat.le_refl _, h.hp, fun d hd => ?_, fun d hd => ?_, fun d d1 d2 d3 d4 => ?_, fun p1 d d1 d2 d3 => ?_, fun p1 d d1 d2 d3 => ?_, fun q => absurd rfl q, fun d _ d1 d2 => ?_, fun p1 d d1 d2 d3 => ?_, fun p1 p2 => ?_, fun p1 p2 => ?_⟩
  · have := h.sg d hd; omega
  · have := h.r1 d hd; omega
  · have := h.ro d ⟨d3, d4⟩ d1 d2; omega
  · have := h.so p1 d d1 d2 d3; omega
  · have := h.so p1 d d1 d2 d3; omega
  · have := h.rs d d1 d2; omega
  · have h1 := h.rs d d1 d2
    have h2 := h.rs p p1 h.hp
    rw [d3] at h1
    omega
  · have h2 := h.rs p p1 h.hp
    have h1 := h.r1 p h.hp
    omega
  · have := h.lo p1 p2; omega
theorem Fin'.v (h : Fin' n a b (fun _ => True) p) : V n a b := ⟨h.sg, h.r1, h.rs, fun d => h.ro d trivial⟩
theorem V.neg (h : V n a b) : V n (fun d => - b d) (fun d => - a d) := by
  refine ⟨fun d hd => ?_, fun d hd => ?_, fun d d1 d2 => ?_, fun d d1 d2 => ?_⟩
  · have := h.sg d hd; omega
  · have := h.r1 d hd; omega
  · have := h.ro d d1 d2; omega
  · have := h.rs d d1 d2; omega
/-- where one pair's entries may be others, turned the right way round -/
theorem V.start (h : V n a b) (hp : 2 * p < n) (h1 : a' p ≤ b' p) (h2 : 2 * p + 1 = n → a' p = b' p) (h3 : 2 * p + 1 < n → a' p ≤ b p ∧ a p ≤ b' p) (ax : ∀ x, x ≠ p → a' x = a x) (bx : ∀ x, x ≠ p → b' x = b x) : Snk n a' b' (fun d => d ≠ p ∧ up d ≠ p) p p := by
  have sk : 1 ≤ p → ∀ d, 1 ≤ d → 2 * d < n → up d = p → a' (up p) ≤ a' d := fun p1 d d1 d2 d3 => by
    have := up_lt d1
    have := up_lt p1
    rw [ax (up p) (by omega), ax d (by omega)]
    have q1 := h.rs d d1 d2
    have q2 := h.rs p p1 hp
    rw [d3] at q1
    omega
  refine ⟨Nat.le_refl _, hp, fun d hd => ?_, fun d hd => ?_, fun d d1 d2 d3 d4 => ?_, sk, sk, fun q => absurd rfl q, fun d q d1 d2 => ?_, fun p1 d d1 d2 d3 => ?_, fun p1 p2 => ?_, fun p1 p2 => ?_⟩
  · by_cases e : d = p
    · subst e; exact h2 hd
    · rw [ax d e, bx d e]; exact h.sg d hd
  · by_cases e : d = p
    · subst e; exact h1
    · rw [ax d e, bx d e]; exact h.r1 d hd
  · rw [ax d d3, ax _ d4]; exact h.rs d d1 d2
  · rw [bx d q.1, bx _ q.2]; exact h.ro d d1 d2
  · have := up_lt d1
    have := up_lt p1
    rw [bx (up p) (by omega), bx d (by omega)]
    have q1 := h.ro d d1 d2
    have q2 := h.ro p p1 hp
    rw [d3] at q1
    omega
  · have := up_lt p1
    rw [bx (up p) (by omega)]
    have q2 := h.ro p p1 hp
    have := (h3 p2).1
    omega
  · have := up_lt p1
    rw [ax (up p) (by omega)]
    have q2 := h.rs p p1 hp
    have := (h3 p2).2
    omega
/-- the first pair has the least and the greatest -/
theorem V.least (h : V n a b) : ∀ d, 2 * d < n → a 0 ≤ a d ∧ b d ≤ b 0 := by
  intro d
  induction d using Nat.strongRecOn with
  | ind d ih =>
    intro hd
    by_cases e : d = 0
    · subst e; omega
    · have h1 := up_lt (p := d) (by omega)
      have h2 := ih (up d) h1 (by omega)
      have h3 := h.rs d (by omega) hd
      have h4 := h.ro d (by omega) hd
      omega
end
end Go.Proofs.Ytcfnonfghlgphaa.Hp

namespace Go.Proofs.Ytcfnonfghlgphaa.Hp

/-- the place of a pair's end -/
def P (n s p : Nat) : Nat := min (2 * p + s) (n - 1)
theorem P_lt {n s p : Nat} (h : 2 * p < n) : P n s p < n := by unfold P; omega
theorem P_half {n s p : Nat} (h : 2 * p < n) (hs : s ≤ 1) : P n s p / 2 = p := by unfold P; omega
def sw (u : Nat → Int) (i j : Nat) : Nat → Int := fun k => if k = i then u j else if k = j then u i else u k
def AA (n s : Nat) (v : Nat → Int) (p : Nat) : Int := if 2 * p < n then (if s = 0 then v (P n 0 p) else - v (P n 1 p)) else 0
def BB (n s : Nat) (v : Nat → Int) (p : Nat) : Int := if 2 * p < n then (if s = 0 then v (P n 1 p) else - v (P n 0 p)) else 0
def tn (n : Nat) (v : Nat → Int) (d : Nat) : Nat → Int := if v (P n 1 d) < v (P n 0 d) then sw v (P n 0 d) (P n 1 d) else v
/-- which comes out first -/
def sg (s : Nat) (x : Int) : Int := if s = 0 then x else - x
section
variable {n s c d p : Nat} {v : Nat → Int} {Q : Nat → Prop}
theorem AA_eq (h : 2 * p < n) (hs : s ≤ 1) : AA n s v p = sg s (v (P n s p)) := by
  unfold AA sg
  rcases (by omega : s = 0 ∨ s = 1) with rfl | rfl <;> simp [h]
theorem sw_at (i j : Nat) : sw v i j i = v j := by unfold sw; rw [if_pos rfl]
theorem sw_at2 (i j : Nat) : sw v i j j = v i := by unfold sw; split <;> simp_all
theorem sw_other (i j : Nat) {k : Nat} (h1 : k ≠ i) (h2 : k ≠ j) : sw v i j k = v k := by unfold sw; rw [if_neg h1, if_neg h2]
structure Own (n s : Nat) (v v' : Nat → Int) (c d : Nat) : Prop where
  ac : AA n s v' c = AA n s v d
  ad : AA n s v' d = AA n s v c
  ax : ∀ x, x ≠ c → x ≠ d → AA n s v' x = AA n s v x
  bd : 2 * d + 1 = n → BB n s v' d = AA n s v c
  bx : ∀ x, (x ≠ d ∨ 2 * d + 1 < n) → BB n s v' x = BB n s v x
theorem own_swap (hs : s ≤ 1) (hc : 2 * c + 1 < n) (hd : 2 * d < n) : Own n s v (sw v (P n s c) (P n s d)) c d := by
  rcases (by omega : s = 0 ∨ s = 1) with rfl | rfl
  · refine ⟨?_, ?_, fun x h1 h2 => ?_, fun h1 => ?_, fun x h1 => ?_⟩
    · unfold AA; rw [if_pos (by omega), if_pos rfl, if_pos hd, if_pos rfl, sw_at]
    · unfold AA; rw [if_pos hd, if_pos rfl, if_pos (by omega), if_pos rfl, sw_at2]
    · unfold AA
      by_cases hx : 2 * x < n
      · rw [if_pos hx, if_pos rfl, if_pos hx, if_pos rfl, sw_other _ _ (by unfold P; omega) (by unfold P; omega)]
      · rw [if_neg hx, if_neg hx]
    · unfold AA BB
      rw [if_pos hd, if_pos rfl, if_pos (by omega), if_pos rfl, show P n 1 d = P n 0 d by unfold P; omega, sw_at2]
    · unfold BB
      by_cases hx : 2 * x < n
      · rw [if_pos hx, if_pos rfl, if_pos hx, if_pos rfl, sw_other _ _ (by unfold P; omega) (by unfold P; omega)]
      · rw [if_neg hx, if_neg hx]
  · have e1 : (1 : Nat) ≠ 0 := by decide
    refine ⟨?_, ?_, fun x h1 h2 => ?_, fun h1 => ?_, fun x h1 => ?_⟩
    · unfold AA; rw [if_pos (by omega), if_neg e1, if_pos hd, if_neg e1, sw_at]
    · unfold AA; rw [if_pos hd, if_neg e1, if_pos (by omega), if_neg e1, sw_at2]
    · unfold AA
      by_cases hx : 2 * x < n
      · rw [if_pos hx, if_neg e1, if_pos hx, if_neg e1, sw_other _ _ (by unfold P; omega) (by unfold P; omega)]
      · rw [if_neg hx, if_neg hx]
    · unfold AA BB
      rw [if_pos hd, if_neg e1, if_pos (by omega), if_neg e1, show P n 0 d = P n 1 d by unfold P; omega, sw_at2]
    · unfold BB
      by_cases hx : 2 * x < n
      · rw [if_pos hx, if_neg e1, if_pos hx, if_neg e1, sw_other _ _ (by unfold P; omega) (by unfold P; omega)]
      · rw [if_neg hx, if_neg hx]
theorem AA_0 (h : 2 * p < n) : AA n 0 v p = v (2 * p) := by unfold AA; rw [if_pos h, if_pos rfl]; congr 1; unfold P; omega
theorem BB_0 (h : 2 * p < n) : BB n 0 v p = v (P n 1 p) := by unfold BB; rw [if_pos h, if_pos rfl]
theorem AA_1 : AA n 1 v = fun d => - BB n 0 v d := by
  funext d
  unfold AA BB
  by_cases h : 2 * d < n <;> simp [h]
theorem BB_1 : BB n 1 v = fun d => - AA n 0 v d := by
  funext d
  unfold AA BB
  by_cases h : 2 * d < n <;> simp [h]
theorem tn_0 (hd : 2 * d < n) : AA n 0 (tn n v d) d = min (AA n 0 v d) (BB n 0 v d) ∧ BB n 0 (tn n v d) d = max (AA n 0 v d) (BB n 0 v d) := by
  unfold tn AA BB
  simp only [hd, if_true]
  split
  · rw [sw_at, sw_at2]; omega
  · omega
theorem tn_x0 {x : Nat} (hx : x ≠ d) : AA n 0 (tn n v d) x = AA n 0 v x ∧ BB n 0 (tn n v d) x = BB n 0 v x := by
  unfold tn AA BB
  by_cases h : 2 * x < n
  · simp only [h, if_true]
    split
    · rename_i q
      by_cases hd : 2 * d < n
      · rw [sw_other _ _ (by unfold P; omega) (by unfold P; omega), sw_other _ _ (by unfold P; omega) (by unfold P; omega)]; exact ⟨rfl, rfl⟩
      · rw [show P n 1 d = P n 0 d by unfold P; omega] at q; omega
    · exact ⟨rfl, rfl⟩
  · simp only [h, if_false]; exact ⟨trivial, trivial⟩
theorem tn_s (hs : s ≤ 1) (hd : 2 * d < n) : AA n s (tn n v d) d = min (AA n s v d) (BB n s v d) ∧ BB n s (tn n v d) d = max (AA n s v d) (BB n s v d) := by
  have := tn_0 (v := v) hd
  rcases (by omega : s = 0 ∨ s = 1) with rfl | rfl
  · exact this
  · rw [AA_1, BB_1, AA_1, BB_1]; simp only; omega
theorem tn_xs (hs : s ≤ 1) {x : Nat} (hx : x ≠ d) : AA n s (tn n v d) x = AA n s v x ∧ BB n s (tn n v d) x = BB n s v x := by
  have := tn_x0 (n := n) (v := v) hx
  rcases (by omega : s = 0 ∨ s = 1) with rfl | rfl
  · exact this
  · rw [AA_1, BB_1, AA_1, BB_1]; simp only [this.1, this.2, and_self]

theorem snk_step (hs : s ≤ 1) (h : Snk n (AA n s v) (BB n s v) Q p c) (hd1 : 1 ≤ d) (hdn : 2 * d < n) (hdc : up d = c) (hlt : AA n s v d < AA n s v c) (hmin : ∀ e, 1 ≤ e → 2 * e < n → up e = c → AA n s v d ≤ AA n s v e) :
    Snk n (AA n s (tn n (sw v (P n s c) (P n s d)) d)) (BB n s (tn n (sw v (P n s c) (P n s d)) d)) Q p d := by
  have hcd : c < d := by have := up_lt hd1; omega
  have hcf : 2 * c + 1 < n := by rw [← hdc]; exact up_full hd1 hdn
  have O := own_swap (v := v) hs hcf hdn
  have T := tn_s (v := sw v (P n s c) (P n s d)) hs hdn
  have X : ∀ x, x ≠ d → _ := fun x hx => tn_xs (n := n) (v := sw v (P n s c) (P n s d)) hs hx
  refine h.step hd1 hdn hdc hlt hmin ?_ (fun hf => ?_) (fun h1 => ?_) (fun x x1 x2 => ?_) (fun x x1 => ?_)
  · rw [(X c (by omega)).1, O.ac]
  · rw [T.1, T.2, O.ad, O.bx d (.inr hf)]; exact ⟨rfl, rfl⟩
  · rw [T.1, T.2, O.ad, O.bd h1]; omega
  · rw [(X x x2).1, O.ax x x1 x2]
  · rw [(X x x1).2, O.bx x (.inl x1)]
theorem rsn_step (hs : s ≤ 1) (h : Rsn n (AA n s v) (BB n s v) Q p c) (hc1 : 1 ≤ c) (hlt : AA n s v c < AA n s v (up c)) :
    Rsn n (AA n s (sw v (P n s c) (P n s (up c)))) (BB n s (sw v (P n s c) (P n s (up c)))) Q p (up c) := by
  have hcn : 2 * c < n := by have := h.cp; have := h.hp; omega
  have hq := up_lt hc1
  have O := own_swap (v := v) hs (up_full hc1 hcn) hcn
  have e : sw v (P n s c) (P n s (up c)) = sw v (P n s (up c)) (P n s c) := by
    funext k
    unfold sw
    split <;> split <;> simp_all
  rw [e]
  exact h.step hc1 hlt O.ad O.ac (fun x x1 x2 => O.ax x x2 x1) O.bd O.bx
/-- the line as an interval heap -/
def Vv (n : Nat) (v : Nat → Int) : Prop := V n (AA n 0 v) (BB n 0 v)
def uo (v : Nat → Int) (i : Nat) (x : Int) : Nat → Int := fun k => if k = i then x else v k
theorem uo_at (i : Nat) (x : Int) : uo v i x i = x := by unfold uo; rw [if_pos rfl]
theorem uo_other {i k : Nat} (x : Int) (h : k ≠ i) : uo v i x k = v k := by unfold uo; rw [if_neg h]
theorem vv_start {at' : Nat} {x : Int} (h : Vv n (uo v at' x)) (ha : at' < n) (hp : at' / 2 = p) : Snk n (AA n 0 (tn n v p)) (BB n 0 (tn n v p)) (fun d => d ≠ p ∧ up d ≠ p) p p := by
  have h2 : 2 * p < n := by omega
  have T := tn_0 (v := v) h2
  have hr := V.r1 h p h2
  have hA : AA n 0 (uo v at' x) p = uo v at' x (2 * p) := AA_0 h2
  have hB : BB n 0 (uo v at' x) p = uo v at' x (P n 1 p) := BB_0 h2
  have kA : AA n 0 v p = v (2 * p) := AA_0 h2
  have kB : BB n 0 v p = v (P n 1 p) := BB_0 h2
  refine V.start h h2 (by omega) (fun e => ?_) (fun e => ?_) (fun y hy => ?_) (fun y hy => ?_)
  · rw [show P n 1 p = 2 * p by unfold P; omega] at kB
    omega
  · rw [show P n 1 p = 2 * p + 1 by unfold P; omega] at kB hB
    rcases (by omega : at' = 2 * p ∨ at' = 2 * p + 1) with e1 | e1
    · rw [uo_other x (by omega)] at hB
      omega
    · rw [uo_other x (by omega)] at hA
      omega
  · rw [(tn_x0 hy).1]
    unfold AA
    by_cases q : 2 * y < n
    · simp only [q, if_true]; rw [uo_other x (by unfold P; omega)]
    · simp only [q, if_false]
  · rw [(tn_x0 hy).2]
    unfold BB
    by_cases q : 2 * y < n
    · simp only [q, if_true]; rw [uo_other x (by unfold P; omega)]
    · simp only [q, if_false]
theorem vv_turn (h : Fin' n (AA n 0 v) (BB n 0 v) (fun d => d ≠ p ∧ up d ≠ p) p) : Snk n (AA n 1 v) (BB n 1 v) (fun _ => True) p p := by
  rw [AA_1, BB_1]; exact h.turn
theorem vv_end (h : Fin' n (AA n 1 v) (BB n 1 v) (fun _ => True) p) : Vv n v := by
  have := h.v.neg
  rw [AA_1, BB_1] at this
  simp only [Int.neg_neg] at this
  exact this
theorem vv_least (h : Vv n v) {i : Nat} (hi : i < n) : v 0 ≤ v i ∧ v i ≤ v (P n 1 0) := by
  have h0 := V.least h (i / 2) (by omega)
  have h1 := V.r1 h (i / 2) (by omega)
  have a0 : AA n 0 v 0 = v (2 * 0) := AA_0 (by omega)
  have b0 : BB n 0 v 0 = v (P n 1 0) := BB_0 (by omega)
  have a1 : AA n 0 v (i / 2) = v (2 * (i / 2)) := AA_0 (by omega)
  have b1 : BB n 0 v (i / 2) = v (P n 1 (i / 2)) := BB_0 (by omega)
  rw [Nat.mul_zero] at a0
  rcases (by omega : i = 2 * (i / 2) ∨ i = 2 * (i / 2) + 1) with e | e
  · rw [← e] at a1; omega
  · rw [show P n 1 (i / 2) = i by unfold P; omega] at b1; omega
theorem vv_same {v' : Nat → Int} (h : Vv n v) (e : ∀ i, i < n → v' i = v i) : Vv n v' := by
  have ea : AA n 0 v' = AA n 0 v := by
    funext d
    unfold AA
    by_cases q : 2 * d < n
    · simp only [q, if_true]; exact e _ (P_lt q)
    · simp only [q, if_false]
  have eb : BB n 0 v' = BB n 0 v := by
    funext d
    unfold BB
    by_cases q : 2 * d < n
    · simp only [q, if_true]; exact e _ (P_lt q)
    · simp only [q, if_false]
  unfold Vv
  rw [ea, eb]
  exact h
theorem vv_zero : Vv 0 v := ⟨fun d h => by omega, fun d h => by omega, fun d _ h => by omega, fun d _ h => by omega⟩
/-- taken off at the end -/
theorem vv_off (h : Vv (n + 1) v) : Vv n v := by
  have A : ∀ d, 2 * d < n → AA n 0 v d = AA (n + 1) 0 v d := fun d hd => by rw [AA_0 hd, AA_0 (by omega)]
  have B : ∀ d, 2 * d + 1 < n → BB n 0 v d = BB (n + 1) 0 v d := fun d hd => by rw [BB_0 (by omega), BB_0 (by omega)]; congr 1; unfold P; omega
  have S : ∀ d, 2 * d + 1 = n → BB n 0 v d = AA (n + 1) 0 v d := fun d hd => by rw [BB_0 (by omega), AA_0 (by omega)]; congr 1; unfold P; omega
  have r1 : ∀ d, 2 * d < n → AA (n + 1) 0 v d ≤ BB n 0 v d ∧ BB n 0 v d ≤ BB (n + 1) 0 v d := fun d hd => by
    have := V.r1 h d (by omega)
    by_cases q : 2 * d + 1 = n
    · rw [S d q]; omega
    · rw [B d (by omega)]; omega
  refine ⟨fun d hd => ?_, fun d hd => ?_, fun d d1 hd => ?_, fun d d1 hd => ?_⟩
  · rw [A d (by omega), S d hd]
  · rw [A d hd]; exact (r1 d hd).1
  · rw [A d hd, A (up d) (by have := up_lt d1; omega)]; exact V.rs h d d1 (by omega)
  · have hf := up_full d1 hd
    rw [B (up d) (by omega)]
    have := V.ro h d d1 (by omega)
    have := (r1 d hd).2
    omega
/-- put behind: some number fits -/
theorem vv_on (h : Vv n v) : ∃ x, Vv (n + 1) (uo v n x) := by
  by_cases hn : n = 0
  · subst hn
    refine ⟨0, ⟨fun d hd => ?_, fun d hd => ?_, fun d d1 hd => by omega, fun d d1 hd => by omega⟩⟩
    · have : d = 0 := by omega
      subst this
      rw [AA_0 (by omega), BB_0 (by omega)]; rfl
    · have : d = 0 := by omega
      subst this
      rw [AA_0 (by omega), BB_0 (by omega)]; exact Int.le_refl _
  · by_cases ho : n % 2 = 1
    · obtain ⟨p, rfl⟩ : ∃ p, n = 2 * p + 1 := ⟨n / 2, by omega⟩
      refine ⟨v (2 * p), ?_⟩
      have A : ∀ d, 2 * d < 2 * p + 1 → AA (2 * p + 1 + 1) 0 (uo v (2 * p + 1) (v (2 * p))) d = AA (2 * p + 1) 0 v d := fun d hd => by rw [AA_0 (by omega), AA_0 hd, uo_other _ (by omega)]
      have B : ∀ d, 2 * d < 2 * p + 1 → BB (2 * p + 1 + 1) 0 (uo v (2 * p + 1) (v (2 * p))) d = BB (2 * p + 1) 0 v d := fun d hd => by
        rw [BB_0 (by omega), BB_0 hd]
        by_cases q : d = p
        · subst q
          rw [show P (2 * d + 1 + 1) 1 d = 2 * d + 1 by unfold P; omega, uo_at, show P (2 * d + 1) 1 d = 2 * d by unfold P; omega]
        · rw [show P (2 * p + 1 + 1) 1 d = 2 * d + 1 by unfold P; omega, show P (2 * p + 1) 1 d = 2 * d + 1 by unfold P; omega, uo_other _ (by omega)]
      refine ⟨fun d hd => by omega, fun d hd => ?_, fun d d1 hd => ?_, fun d d1 hd => ?_⟩
      · rw [A d (by omega), B d (by omega)]; exact V.r1 h d (by omega)
      · have := up_lt d1
        rw [A d (by omega), A _ (by omega)]; exact V.rs h d d1 (by omega)
      · have := up_lt d1
        rw [B d (by omega), B _ (by omega)]; exact V.ro h d d1 (by omega)
    · obtain ⟨p, rfl⟩ : ∃ p, n = 2 * p := ⟨n / 2, by omega⟩
      have p1 : 1 ≤ p := by omega
      have hup := up_lt p1
      refine ⟨v (2 * up p), ?_⟩
      have A : ∀ d, 2 * d < 2 * p → AA (2 * p + 1) 0 (uo v (2 * p) (v (2 * up p))) d = AA (2 * p) 0 v d := fun d hd => by rw [AA_0 (by omega), AA_0 hd, uo_other _ (by omega)]
      have B : ∀ d, 2 * d < 2 * p → BB (2 * p + 1) 0 (uo v (2 * p) (v (2 * up p))) d = BB (2 * p) 0 v d := fun d hd => by
        rw [BB_0 (by omega), BB_0 hd]
        rw [show P (2 * p + 1) 1 d = 2 * d + 1 by unfold P; omega, show P (2 * p) 1 d = 2 * d + 1 by unfold P; omega, uo_other _ (by omega)]
      have Ap : AA (2 * p + 1) 0 (uo v (2 * p) (v (2 * up p))) p = AA (2 * p) 0 v (up p) := by rw [AA_0 (by omega), uo_at, AA_0 (by omega)]
      have Bp : BB (2 * p + 1) 0 (uo v (2 * p) (v (2 * up p))) p = AA (2 * p) 0 v (up p) := by rw [BB_0 (by omega), show P (2 * p + 1) 1 p = 2 * p by unfold P; omega, uo_at, AA_0 (by omega)]
      refine ⟨fun d hd => ?_, fun d hd => ?_, fun d d1 hd => ?_, fun d d1 hd => ?_⟩
      · have : d = p := by omega
        subst this
        rw [Ap, Bp]
      · by_cases e : d = p
        · subst e; rw [Ap, Bp]; exact Int.le_refl _
        · rw [A d (by omega), B d (by omega)]; exact V.r1 h d (by omega)
      · have := up_lt d1
        by_cases e : d = p
        · subst e; rw [Ap, A _ (by omega)]; exact Int.le_refl _
        · rw [A d (by omega), A _ (by omega)]; exact V.rs h d d1 (by omega)
      · have := up_lt d1
        by_cases e : d = p
        · subst e; rw [Bp, B _ (by omega)]; exact V.r1 h (up d) (by omega)
        · rw [B d (by omega), B _ (by omega)]; exact V.ro h d d1 (by omega)
end
end Go.Proofs.Ytcfnonfghlgphaa.Hp
