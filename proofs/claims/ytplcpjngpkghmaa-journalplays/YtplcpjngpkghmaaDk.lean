/-
  A disk as plain data: a list of files, rising by their names, whether it is down, its fuse; and what the program has of it in its memory.
-/
import Derived.Test.YtplcpjngpkghmaaBase
import Derived.Maps.OwnSet
import Derived.Maps.AppendAt
import Derived.WideShapes
import Derived.Lib.SmallJoins
namespace Go.Proofs.Ytplcpjngpkghmaa
open Go.RowKit Go.Maps

/-! ### lists of named things -/
section
variable {α : Type} (nm : α → List UInt8)
def ins (x : α) : List α → List α
  | [] => [x]
  | y :: r => if bytesBefore (nm x) (nm y) then x :: y :: r else y :: ins x r
def drp (n : List UInt8) (l : List α) : List α := l.filter fun y => !(nm y == n)
def fnd (n : List UInt8) (l : List α) : Option α := l.find? fun y => nm y == n
def upd (n : List UInt8) (x : α) (l : List α) : List α := l.map fun y => if nm y == n then x else y
def Srt (l : List α) : Prop := l.Pairwise fun x y => bytesBefore (nm x) (nm y) = true
variable {nm}

theorem mem_ins {x y : α} : ∀ {l : List α}, y ∈ ins nm x l ↔ y = x ∨ y ∈ l
  | [] => by simp [ins]
  | z :: r => by
    unfold ins
    split
    · simp
    · simp [mem_ins (l := r)]
      constructor
      · rintro (h | h | h) <;> simp [h]
      · rintro (h | h | h) <;> simp [h]
theorem ins_length (x : α) : ∀ l : List α, (ins nm x l).length = l.length + 1
  | [] => rfl
  | z :: r => by
    unfold ins
    split
    · rfl
    · simp [ins_length x r]
theorem srt_ins {x : α} : ∀ {l : List α}, Srt nm l → (∀ y ∈ l, nm y ≠ nm x) → Srt nm (ins nm x l)
  | [], _, _ => List.pairwise_singleton _ _
  | z :: r, h, hx => by
    have h1 := List.pairwise_cons.1 h
    unfold ins
    split
    · rename_i hb
      refine List.pairwise_cons.2 ⟨fun y hy => ?_, h⟩
      rcases List.mem_cons.1 hy with rfl | hy
      · exact hb
      · exact WideShapes.bytes_trans _ _ _ hb (h1.1 y hy)
    · rename_i hb
      refine List.pairwise_cons.2 ⟨fun y hy => ?_, srt_ins h1.2 fun y hy => hx y (List.mem_cons_of_mem _ hy)⟩
      rcases mem_ins.1 hy with rfl | hy
      · rcases WideAt.bytes_total (nm y) (nm z) (fun e => hx z (List.mem_cons_self ..) e.symm) with h | h
        · exact absurd h hb
        · exact h
      · exact h1.1 y hy
theorem srt_drp {n : List UInt8} {l : List α} (h : Srt nm l) : Srt nm (drp nm n l) := List.Pairwise.filter _ h
theorem mem_drp {n : List UInt8} {l : List α} {y : α} : y ∈ drp nm n l ↔ y ∈ l ∧ nm y ≠ n := by simp [drp, List.mem_filter]
theorem srt_upd {n : List UInt8} {x : α} {l : List α} (hx : nm x = n) (h : Srt nm l) : Srt nm (upd nm n x l) := by
  refine List.pairwise_map.2 (List.Pairwise.imp (fun {a b} hab => ?_) h)
  have e : ∀ y, nm (if nm y == n then x else y) = nm y := fun y => by
    split
    · rename_i h; rw [hx]; exact (beq_iff_eq.1 h).symm
    · rfl
  rw [e, e]; exact hab
theorem mem_upd {n : List UInt8} {x y : α} {l : List α} (h : y ∈ upd nm n x l) : y = x ∨ (y ∈ l ∧ nm y ≠ n) := by
  obtain ⟨z, hz, rfl⟩ := List.mem_map.1 h
  split
  · exact .inl rfl
  · rename_i hne; exact .inr ⟨hz, fun e => hne (beq_iff_eq.2 e)⟩
theorem upd_length {n : List UInt8} {x : α} {l : List α} : (upd nm n x l).length = l.length := List.length_map ..
theorem fnd_some {n : List UInt8} {x : α} {l : List α} (h : fnd nm n l = some x) : x ∈ l ∧ nm x = n :=
  ⟨List.mem_of_find?_eq_some h, by have := List.find?_some h; exact beq_iff_eq.1 this⟩
theorem fnd_none {n : List UInt8} {l : List α} (h : fnd nm n l = none) : ∀ x ∈ l, nm x ≠ n := fun x hx e => by
  have := List.find?_eq_none.1 h x hx
  simp [e] at this
theorem srt_one {l : List α} (h : Srt nm l) {x y : α} (hx : x ∈ l) (hy : y ∈ l) (e : nm x = nm y) : x = y := by
  induction l with
  | nil => cases hx
  | cons z r ih =>
    have h1 := List.pairwise_cons.1 h
    rcases List.mem_cons.1 hx with ex | hx2
    · rcases List.mem_cons.1 hy with ey | hy2
      · rw [ex, ey]
      · have := h1.1 y hy2; rw [← ex, e, WideAt.bytes_irrefl] at this; cases this
    · rcases List.mem_cons.1 hy with ey | hy2
      · have := h1.1 x hx2; rw [← ey, e, WideAt.bytes_irrefl] at this; cases this
      · exact ih h1.2 hx2 hy2
theorem drp_none {n : List UInt8} {l : List α} (h : fnd nm n l = none) : drp nm n l = l :=
  List.filter_eq_self.2 fun y hy => by simpa using fnd_none h y hy

variable {β : Type} {mn : β → List UInt8} {f : α → β}
theorem map_ins (hf : ∀ x, mn (f x) = nm x) (x : α) : ∀ l : List α, (ins nm x l).map f = ins mn (f x) (l.map f)
  | [] => rfl
  | z :: r => by
    simp only [List.map_cons]
    unfold ins
    rw [hf, hf]
    split
    · rfl
    · rw [List.map_cons, map_ins hf x r]
theorem map_drp (hf : ∀ x, mn (f x) = nm x) (n : List UInt8) (l : List α) : (drp nm n l).map f = drp mn n (l.map f) := by
  unfold drp
  rw [List.filter_map]
  congr 1
  congr 1
  funext x
  simp [hf]
theorem map_fnd (hf : ∀ x, mn (f x) = nm x) (n : List UInt8) (l : List α) : (fnd nm n l).map f = fnd mn n (l.map f) := by
  unfold fnd
  rw [List.find?_map]
  congr 1
  congr 1
  funext x
  simp [hf]
theorem map_upd (hf : ∀ x, mn (f x) = nm x) (n : List UInt8) (x : α) (l : List α) : (upd nm n x l).map f = upd mn n (f x) (l.map f) := by
  unfold upd
  rw [List.map_map, List.map_map]
  refine List.map_congr_left fun y _ => ?_
  simp only [Function.comp, hf]
  split <;> rfl
theorem upd_self {n : List UInt8} {l : List α} {g : α → β} {x y : α} (hs : Srt nm l) (h : fnd nm n l = some y) (hg : g x = g y) : (upd nm n x l).map g = l.map g := by
  unfold upd
  rw [List.map_map]
  refine List.map_congr_left fun z hz => ?_
  simp only [Function.comp]
  split
  · rename_i e
    obtain ⟨h1, h2⟩ := fnd_some h
    rw [hg, srt_one hs h1 hz (h2.trans (beq_iff_eq.1 e).symm)]
  · rfl
end

/-! ### the disk as plain data -/
structure Fil where
  nm : List UInt8
  b : List UInt8
  sy : Nat
structure DK where
  fs : List Fil
  down : Bool
  fuse : Option Nat
def DK.new : DK := ⟨[], false, none⟩
/-- a file as it lies: its block, and its bytes' slice -/
structure Fl where
  nm : List UInt8
  b : List UInt8
  sy : Nat
  fb : Nat
  v : Value
def Fl.s (f : Fl) : Fil := ⟨f.nm, f.b, f.sy⟩
theorem Fl.s_nm (f : Fl) : Fil.nm f.s = f.nm := rfl

/-- one operation is taken off the fuse -/
def burn (D : DK) : Bool × DK := match D.fuse with
  | none => (true, D)
  | some 0 => (false, { D with down := true })
  | some (n + 1) => (true, { D with fuse := some n })
def okB (c : UInt8) : Bool := (decide (97 ≤ c) && decide (c ≤ 122)) || (decide (48 ≤ c) && decide (c ≤ 57)) || c == 46
def okN (n : List UInt8) : Bool := decide (1 ≤ n.length) && decide (n.length ≤ 32) && n.all okB

/-! ### memory -/
inductive Tg where
  | no | dk | mp | fl (n : List UInt8) | rw (n : List UInt8)
deriving DecidableEq

structure Kp (S : Nat → Prop) (w w' : World) : Prop where
  os : w'.os = w.os
  tape : w'.tape = w.tape
  output : w'.output = w.output
  size : w.heap.size ≤ w'.heap.size
  block : ∀ k, k < w.heap.size → ¬ S k → w'.heap[k]? = w.heap[k]?
theorem Kp.refl (S : Nat → Prop) (w : World) : Kp S w w := ⟨rfl, rfl, rfl, Nat.le_refl _, fun _ _ _ => rfl⟩
theorem Kp.trans {S S' : Nat → Prop} {a b c : World} (h : Kp S a b) (k : Kp S' b c) (hS : ∀ k, k < a.heap.size → S' k → S k) : Kp S a c :=
  ⟨k.os.trans h.os, k.tape.trans h.tape, k.output.trans h.output, Nat.le_trans h.size k.size, fun i hi hn => (k.block i (Nat.lt_of_lt_of_le hi h.size) (fun e => hn (hS i hi e))).trans (h.block i hi hn)⟩
theorem Kp.mono {S S' : Nat → Prop} {a b : World} (h : Kp S a b) (hS : ∀ k, k < a.heap.size → S k → S' k) : Kp S' a b := ⟨h.os, h.tape, h.output, h.size, fun k hk hn => h.block k hk fun e => hn (hS k hk e)⟩
theorem Kp.of_below {S : Nat → Prop} {a b : World} (h : Below a.heap.size a b) : Kp S a b := ⟨h.os, h.tape, h.output, h.size, fun k hk _ => h.block k hk⟩
theorem Kp.below {S : Nat → Prop} {B : Nat} {a b : World} (h : Kp S a b) (hB : B ≤ a.heap.size) (hS : ∀ k, k < B → ¬ S k) : Below B a b := ⟨h.os, h.tape, h.output, h.size, fun k hk => h.block k (Nat.lt_of_lt_of_le hk hB) (hS k hk)⟩
theorem Kp.of_grown {S : Nat → Prop} {a b : World} {r : Option Nat} (h : a.grownBy b r) (hS : ∀ k, r = some k → S k) : Kp S a b := ⟨h.os, h.tape, h.output, h.size, fun k hk hn => h.block k hk fun e => hn (hS k e.symm)⟩
theorem Kp.of_set {S : Nat → Prop} (w : World) (p : Addr) (u : Value) (h : S p.block) : Kp S w (w.setCell p u) := ⟨rfl, rfl, rfl, by simp [World.setCell], fun k _ hn => Below.heap_setCell _ _ _ _ (fun e => hn (e ▸ h))⟩
theorem Kp.drew {S : Nat → Prop} {a w : World} (h : Kp S a w) (n : Nat) : Kp S a (w.drewN n) := ⟨h.os, h.tape, h.output, h.size, h.block⟩

/-- what a call on a disk does to the memory: its own blocks, and new ones -/
def Step (tg tg' : Nat → Tg) (w w' : World) : Prop := Kp (fun k => tg k ≠ .no) w w' ∧ ∀ k, tg' k ≠ .no → tg k ≠ .no ∨ w.heap.size ≤ k
theorem Step.refl (tg : Nat → Tg) (w : World) : Step tg tg w w := ⟨Kp.refl _ _, fun _ h => .inl h⟩
theorem Step.trans {t t1 t2 : Nat → Tg} {a b c : World} (h : Step t t1 a b) (k : Step t1 t2 b c) : Step t t2 a c :=
  ⟨h.1.trans k.1 fun i hi e => (h.2 i e).resolve_right (by omega), fun i hi => by
    rcases k.2 i hi with h1 | h1
    · exact h.2 i h1
    · exact .inr (Nat.le_trans h.1.size h1)⟩
theorem Step.below {t t1 : Nat → Tg} {a b : World} {B : Nat} (h : Step t t1 a b) (hB : B ≤ a.heap.size) (ht : ∀ k, t k ≠ .no → B ≤ k) : Below B a b ∧ ∀ k, t1 k ≠ .no → B ≤ k :=
  ⟨h.1.below hB fun k hk e => by have := ht k e; omega, fun k hk => (h.2 k hk).elim (ht k) (Nat.le_trans hB)⟩

theorem Own.keepAt {w w1 : World} {B : Nat} {v : Value} {l : List UInt8} (h : Own w B v l) (b : ∀ g, v.ownBlock = some g → w1.heap[g]? = w.heap[g]?) : Own w1 B v l := by
  refine ⟨h.1, ?_⟩
  rcases h.2 with hn | ⟨g, cap, cur, rfl, hb, hgg, rest⟩
  · exact .inl hn
  · exact .inr ⟨g, cap, cur, rfl, hb, (b g rfl).trans hgg, rest⟩
theorem keepMap {H : Type} {w w1 : World} {P : Program} {k : TypeId} {R : Value → Option (DataW H × List MemPlace)} {b n : Nat} {D : DataW H} (h : w.ownsMap P k R b n D) (e : w1.heap[b]? = w.heap[b]?) : w1.ownsMap P k R b n D := by
  obtain ⟨es, clock, hb, r⟩ := h
  exact ⟨es, clock, e.trans hb, r⟩
theorem tight {H : Type} {w : World} {P : Program} {k : TypeId} {R : Value → Option (DataW H × List MemPlace)} {b n : Nat} {D : DataW H} (h : w.ownsMap P k R b n D) : w.ownsMap P k R b (Maps.size D) D := by
  obtain ⟨es, clock, hb, F, _, hD⟩ := h
  refine ⟨es, clock, hb, F, ?_, hD⟩
  rw [hD, Maps.size_eq, length_sorted]
  simp

/-- how a file's pointer reads -/
def pE (v : Value) : Option (DataW Nat × List MemPlace) := match v with
  | .pointer (some ⟨b, 0, none⟩) => some (.held b, [])
  | .pointer none => some (.nil, [])
  | _ => none
theorem pE_held {v : Value} {b : Nat} {ps : List MemPlace} (h : pE v = some (.held b, ps)) : v = .pointer (some ⟨b, 0, none⟩) := by
  unfold pE at h
  split at h
  · cases h; rfl
  · cases h
  · cases h
theorem pE_nil {v : Value} {ps : List MemPlace} (h : pE v = some (.nil, ps)) : v = .pointer none := by
  unfold pE at h
  split at h
  · cases h
  · rfl
  · cases h

def mapOf (l : List Fl) : DataW Nat := .map (l.map fun f => (.string f.nm, .held f.fb))
theorem mapOf_put (l : List Fl) (n : List UInt8) (f : Fl) (hn : f.nm = n) : (mapOf l).put (.string n) (.held f.fb) = mapOf (ins Fl.nm f (drp Fl.nm n l)) := by
  subst hn
  unfold mapOf
  rw [DataW.put_eq]
  unfold ChangeMaps.putKey
  congr 1
  have e : ∀ l : List Fl, DataW.insert (Lit.string f.nm, DataW.held f.fb) (l.map fun f => (Lit.string f.nm, DataW.held f.fb)) = (ins Fl.nm f l).map fun f => (Lit.string f.nm, DataW.held f.fb) := by
    intro l
    induction l with
    | nil => rfl
    | cons z r ih =>
      simp only [List.map_cons]
      unfold DataW.insert ins
      by_cases hb : bytesBefore f.nm z.nm = true
      · rw [if_pos (show Lit.before (Lit.string f.nm, DataW.held (H := Nat) f.fb).fst (Lit.string z.nm, DataW.held (H := Nat) z.fb).fst = true from hb), if_pos hb]; rfl
      · rw [if_neg (show ¬ Lit.before (Lit.string f.nm, DataW.held (H := Nat) f.fb).fst (Lit.string z.nm, DataW.held (H := Nat) z.fb).fst = true from hb), if_neg hb, ih]; rfl
  rw [← e]
  congr 1
  unfold drp
  rw [List.filter_map]
  congr 1
theorem mapOf_del (l : List Fl) (n : List UInt8) : (mapOf l).del (.string n) = mapOf (drp Fl.nm n l) := by
  unfold mapOf
  rw [DataW.del_eq]
  unfold ChangeMaps.delKey drp
  congr 1
  rw [List.filter_map]
  congr 1
theorem mapOf_at (l : List Fl) (n : List UInt8) : (mapOf l).atKey (.string n) .nil = match fnd Fl.nm n l with | none => .nil | some f => .held f.fb := by
  unfold mapOf DataW.atKey fnd
  simp only [List.find?_map]
  have e : ((fun p : Lit × DataW Nat => p.1.sameKey (.string n)) ∘ fun f : Fl => (Lit.string f.nm, DataW.held f.fb)) = fun f => f.nm == n := by
    funext f; rfl
  rw [e]
  cases l.find? (fun f => f.nm == n) <;> rfl
theorem mapOf_size (l : List Fl) : Maps.size (mapOf l) = l.length := by unfold mapOf; rw [Maps.size_eq, List.length_map]

structure FlAt (w : World) (tg : Nat → Tg) (f : Fl) : Prop where
  cell : w.heap[f.fb]? = some (.cells #[f.v, .int .i64 f.sy] 84 (0, 0))
  own : Own w 0 f.v f.b
  tb : tg f.fb = .fl f.nm
  tr : ∀ g, f.v.ownBlock = some g → tg g = .rw f.nm
  hs : f.sy ≤ f.b.length
  hl : f.b.length ≤ 1048576
theorem FlAt.keep {w w1 : World} {tg tg1 : Nat → Tg} {f : Fl} (h : FlAt w tg f) (e : ∀ k, (tg k = .fl f.nm ∨ tg k = .rw f.nm) → w1.heap[k]? = w.heap[k]?) (et : ∀ k, (tg k = .fl f.nm ∨ tg k = .rw f.nm) → tg1 k = tg k) : FlAt w1 tg1 f :=
  ⟨(e _ (.inl h.tb)).trans h.cell, h.own.keepAt fun g hg => e g (.inr (h.tr g hg)), (et _ (.inl h.tb)).trans h.tb, fun g hg => (et g (.inr (h.tr g hg))).trans (h.tr g hg), h.hs, h.hl⟩

/-- the map's part -/
def MpAt (w : World) (tg : Nat → Tg) (mb : Option Nat) (l : List Fl) : Prop := match mb with
  | none => l = []
  | some m => tg m = .mp ∧ w.ownsMap Try.prog 9 pE m l.length (mapOf l)

structure DkAt (w : World) (tg : Nat → Tg) (pb : Nat) (D : DK) (mb : Option Nat) (l : List Fl) (z : Int) : Prop where
  cell : w.heap[pb]? = some (.cells #[.map mb, .bool D.down, .bool D.fuse.isSome, .int .i64 z] 63 (0, 0))
  tp : tg pb = .dk
  fs : D.fs = l.map Fl.s
  fz : ∀ n, D.fuse = some n → z = n ∧ n < 9223372036854775808
  mp : MpAt w tg mb l
  fl : ∀ f ∈ l, FlAt w tg f
  srt : Srt Fl.nm l
  len : l.length ≤ 64
  lt : ∀ k, tg k ≠ .no → k < w.heap.size
/-- a disk of the program's own make at block pb -/
def Dsk (w : World) (tg : Nat → Tg) (pb : Nat) (D : DK) : Prop := ∃ mb l z, DkAt w tg pb D mb l z

theorem DkAt.keep {w w1 : World} {tg : Nat → Tg} {pb : Nat} {D : DK} {mb : Option Nat} {l : List Fl} {z : Int} (h : DkAt w tg pb D mb l z) (e : ∀ k, tg k ≠ .no → w1.heap[k]? = w.heap[k]?) (hs : w.heap.size ≤ w1.heap.size) : DkAt w1 tg pb D mb l z :=
  ⟨(e _ (by rw [h.tp]; exact nofun)).trans h.cell, h.tp, h.fs, h.fz, by
    have := h.mp
    unfold MpAt at *
    cases mb with
    | none => exact this
    | some m => exact ⟨this.1, keepMap this.2 (e m (by rw [this.1]; exact nofun))⟩,
   fun f hf => (h.fl f hf).keep (fun k hk => e k (by rcases hk with hk | hk <;> rw [hk] <;> exact nofun)) (fun _ _ => rfl), h.srt, h.len, fun k hk => Nat.lt_of_lt_of_le (h.lt k hk) hs⟩
theorem Dsk.keep {w w1 : World} {tg : Nat → Tg} {pb : Nat} {D : DK} (h : Dsk w tg pb D) (e : ∀ k, tg k ≠ .no → w1.heap[k]? = w.heap[k]?) (hs : w.heap.size ≤ w1.heap.size) : Dsk w1 tg pb D := by
  obtain ⟨mb, l, z, h⟩ := h
  exact ⟨mb, l, z, h.keep e hs⟩
theorem Dsk.keepB {w w1 : World} {tg : Nat → Tg} {pb : Nat} {D : DK} (h : Dsk w tg pb D) (b : Below w.heap.size w w1) : Dsk w1 tg pb D := by
  refine h.keep (fun k hk => b.block k ?_) b.size
  obtain ⟨mb, l, z, h⟩ := h
  exact h.lt k hk
theorem DkAt.keepB {w w1 : World} {tg : Nat → Tg} {pb : Nat} {D : DK} {mb : Option Nat} {l : List Fl} {z : Int} (h : DkAt w tg pb D mb l z) (b : Below w.heap.size w w1) : DkAt w1 tg pb D mb l z :=
  h.keep (fun k hk => b.block k (h.lt k hk)) b.size
theorem Step.of_below (tg : Nat → Tg) {w w1 : World} (b : Below w.heap.size w w1) : Step tg tg w w1 := ⟨Kp.of_below b, fun _ h => .inl h⟩
theorem new_no {w : World} {tg : Nat → Tg} (h : ∀ k, tg k ≠ .no → k < w.heap.size) {k : Nat} (hk : w.heap.size ≤ k) : tg k = .no := by
  by_cases e : tg k = .no
  · exact e
  · have := h k e; omega
end Go.Proofs.Ytplcpjngpkghmaa
