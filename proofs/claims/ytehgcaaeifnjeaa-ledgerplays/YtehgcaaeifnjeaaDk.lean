/-
  A ledger as plain data: a list of accounts, rising by their names; what the program has of it in its memory.
-/
import Derived.Test.YtehgcaaeifnjeaaVa
namespace Go.Proofs.Ytehgcaaeifnjeaa
open Go.RowKit Go.Maps

/-! ### lists of named things -/
section
variable {α : Type} (nm : α → List UInt8)
def ins (x : α) : List α → List α
  | [] => [x]
  | y :: r => if bytesBefore (nm x) (nm y) then x :: y :: r else y :: ins x r
def drp (n : List UInt8) (l : List α) : List α := l.filter fun y => !(nm y == n)
def fnd (n : List UInt8) (l : List α) : Option α := l.find? fun y => nm y == n
def upd (n : List UInt8) (x : α) (l : List α) : List α := l.map fun y => if nm y == n then x else y
def Srt (l : List α) : Prop := l.Pairwise fun x y => bytesBefore (nm x) (nm y) = true
variable {nm}

theorem mem_ins {x y : α} : ∀ {l : List α}, y ∈ ins nm x l ↔ y = x ∨ y ∈ l
  | [] => by simp [ins]
  | z :: r => by
    unfold ins
    split
    · simp
    · simp [mem_ins (l := r)]
      constructor
      · rintro (h | h | h) <;> simp [h]
      · rintro (h | h | h) <;> simp [h]
theorem ins_length (x : α) : ∀ l : List α, (ins nm x l).length = l.length + 1
  | [] => rfl
  | z :: r => by
    unfold ins
    split
    · rfl
    · simp [ins_length x r]
theorem srt_ins {x : α} : ∀ {l : List α}, Srt nm l → (∀ y ∈ l, nm y ≠ nm x) → Srt nm (ins nm x l)
  | [], _, _ => List.pairwise_singleton _ _
  | z :: r, h, hx => by
    have h1 := List.pairwise_cons.1 h
    unfold ins
    split
    · rename_i hb
      refine List.pairwise_cons.2 ⟨fun y hy => ?_, h⟩
      rcases List.mem_cons.1 hy with rfl | hy
      · exact hb
      · exact WideShapes.bytes_trans _ _ _ hb (h1.1 y hy)
    · rename_i hb
      refine List.pairwise_cons.2 ⟨fun y hy => ?_, srt_ins h1.2 fun y hy => hx y (List.mem_cons_of_mem _ hy)⟩
      rcases mem_ins.1 hy with rfl | hy
      · rcases WideAt.bytes_total (nm y) (nm z) (fun e => hx z (List.mem_cons_self ..) e.symm) with h | h
        · exact absurd h hb
        · exact h
      · exact h1.1 y hy
theorem srt_drp {n : List UInt8} {l : List α} (h : Srt nm l) : Srt nm (drp nm n l) := List.Pairwise.filter _ h
theorem mem_drp {n : List UInt8} {l : List α} {y : α} : y ∈ drp nm n l ↔ y ∈ l ∧ nm y ≠ n := by simp [drp, List.mem_filter]
theorem srt_upd {n : List UInt8} {x : α} {l : List α} (hx : nm x = n) (h : Srt nm l) : Srt nm (upd nm n x l) := by
  refine List.pairwise_map.2 (List.Pairwise.imp (fun {a b} hab => ?_) h)
  have e : ∀ y, nm (if nm y == n then x else y) = nm y := fun y => by
    split
    · rename_i h; rw [hx]; exact (beq_iff_eq.1 h).symm
    · rfl
  rw [e, e]; exact hab
theorem mem_upd {n : List UInt8} {x y : α} {l : List α} (h : y ∈ upd nm n x l) : y = x ∨ (y ∈ l ∧ nm y ≠ n) := by
  obtain ⟨z, hz, rfl⟩ := List.mem_map.1 h
  split
  · exact .inl rfl
  · rename_i hne; exact .inr ⟨hz, fun e => hne (beq_iff_eq.2 e)⟩
theorem upd_length {n : List UInt8} {x : α} {l : List α} : (upd nm n x l).length = l.length := List.length_map ..
theorem fnd_some {n : List UInt8} {x : α} {l : List α} (h : fnd nm n l = some x) : x ∈ l ∧ nm x = n :=
  ⟨List.mem_of_find?_eq_some h, by have := List.find?_some h; exact beq_iff_eq.1 this⟩
theorem fnd_none {n : List UInt8} {l : List α} (h : fnd nm n l = none) : ∀ x ∈ l, nm x ≠ n := fun x hx e => by
  have := List.find?_eq_none.1 h x hx
  simp [e] at this
theorem srt_one {l : List α} (h : Srt nm l) {x y : α} (hx : x ∈ l) (hy : y ∈ l) (e : nm x = nm y) : x = y := by
  induction l with
  | nil => cases hx
  | cons z r ih =>
    have h1 := List.pairwise_cons.1 h
    rcases List.mem_cons.1 hx with ex | hx2
    · rcases List.mem_cons.1 hy with ey | hy2
      · rw [ex, ey]
      · have := h1.1 y hy2; rw [← ex, e, WideAt.bytes_irrefl] at this; cases this
    · rcases List.mem_cons.1 hy with ey | hy2
      · have := h1.1 x hx2; rw [← ey, e, WideAt.bytes_irrefl] at this; cases this
      · exact ih h1.2 hx2 hy2
theorem drp_none {n : List UInt8} {l : List α} (h : fnd nm n l = none) : drp nm n l = l :=
  List.filter_eq_self.2 fun y hy => by simpa using fnd_none h y hy

variable {β : Type} {mn : β → List UInt8} {f : α → β}
theorem map_ins (hf : ∀ x, mn (f x) = nm x) (x : α) : ∀ l : List α, (ins nm x l).map f = ins mn (f x) (l.map f)
  | [] => rfl
  | z :: r => by
    simp only [List.map_cons]
    unfold ins
    rw [hf, hf]
    split
    · rfl
    · rw [List.map_cons, map_ins hf x r]
theorem map_drp (hf : ∀ x, mn (f x) = nm x) (n : List UInt8) (l : List α) : (drp nm n l).map f = drp mn n (l.map f) := by
  unfold drp
  rw [List.filter_map]
  congr 1
  congr 1
  funext x
  simp [hf]
theorem map_fnd (hf : ∀ x, mn (f x) = nm x) (n : List UInt8) (l : List α) : (fnd nm n l).map f = fnd mn n (l.map f) := by
  unfold fnd
  rw [List.find?_map]
  congr 1
  congr 1
  funext x
  simp [hf]
theorem map_upd (hf : ∀ x, mn (f x) = nm x) (n : List UInt8) (x : α) (l : List α) : (upd nm n x l).map f = upd mn n (f x) (l.map f) := by
  unfold upd
  rw [List.map_map, List.map_map]
  refine List.map_congr_left fun y _ => ?_
  simp only [Function.comp, hf]
  split <;> rfl
theorem upd_self {n : List UInt8} {l : List α} {g : α → β} {x y : α} (hs : Srt nm l) (h : fnd nm n l = some y) (hg : g x = g y) : (upd nm n x l).map g = l.map g := by
  unfold upd
  rw [List.map_map]
  refine List.map_congr_left fun z hz => ?_
  simp only [Function.comp]
  split
  · rename_i e
    obtain ⟨h1, h2⟩ := fnd_some h
    rw [hg, srt_one hs h1 hz (h2.trans (beq_iff_eq.1 e).symm)]
  · rfl
end

/-! ### accounts -/
structure A where
  nm : List UInt8
  lim : V
  us : V
structure E where
  nm : ByteArray
  am : V
def E.n (e : E) : List UInt8 := e.nm.data.toList
def V.le (v u : V) : Bool := ft v.a v.b v.c v.d u.a u.b u.c u.d
theorem V.le_iff {v u : V} : v.le u = true ↔ v.a ≤ u.a ∧ v.b ≤ u.b ∧ v.c ≤ u.c ∧ v.d ≤ u.d := by unfold V.le ft; simp
theorem V.ok_iff {v : V} : v.ok = true ↔ (0 ≤ v.a ∧ v.a ≤ 1099511627776) ∧ (0 ≤ v.b ∧ v.b ≤ 1099511627776) ∧ (0 ≤ v.c ∧ v.c ≤ 1099511627776) ∧ (0 ≤ v.d ∧ v.d ≤ 1099511627776) := by
  unfold V.ok fm okI
  simp
theorem V.ext' {v u : V} (h0 : v.a = u.a) (h1 : v.b = u.b) (h2 : v.c = u.c) (h3 : v.d = u.d) : v = u := by
  cases v; cases u; simp_all
/-- an account as it lies: with its block -/
structure Ac where
  nm : List UInt8
  lim : V
  us : V
  fb : Nat
def Ac.s (a : Ac) : A := ⟨a.nm, a.lim, a.us⟩
theorem Ac.s_nm (a : Ac) : A.nm a.s = a.nm := rfl

/-! ### the ledger's calls on plain data -/
def openD (D : List A) (n : List UInt8) (v : V) : Int × List A := if v.ok then (match fnd A.nm n D with
  | some a => (0, upd A.nm n ⟨n, v, a.us⟩ D)
  | none => if 64 ≤ D.length then (6, D) else (0, ins A.nm ⟨n, v, V.nil⟩ D)) else (4, D)
def closeD (D : List A) (n : List UInt8) : Int × List A := match fnd A.nm n D with
  | none => (3, D)
  | some a => if a.us = V.nil then (0, drp A.nm n D) else (10, D)
def usedD (D : List A) (n : List UInt8) : V × Nat := match fnd A.nm n D with
  | none => (V.nil, 3)
  | some a => (a.us, 0)
def lft (l u : V) : V := ⟨max 0 (l.a - u.a), max 0 (l.b - u.b), max 0 (l.c - u.c), max 0 (l.d - u.d)⟩
def leftD (D : List A) (n : List UInt8) : V × Nat := match fnd A.nm n D with
  | none => (V.nil, 3)
  | some a => (lft a.lim a.us, 0)
/-- ErrForm, ErrNone -/
def checkD (D : List A) (es : List E) : Int := if es.all (fun e => e.am.ok) then (if es.all (fun e => (fnd A.nm e.n D).isSome) then 0 else 3) else 4
def takeF (lim us am : V) : Option V := if (us.add am).le lim then some (us.add am) else none
def giveF (_ us am : V) : Option V := if am.le us then some (us.sub am) else none
/-- one entry behind the other; what is used, by name -/
def seqU (f : V → V → V → Option V) (D : List A) : (List UInt8 → V) → List E → Option (List UInt8 → V)
  | u, [] => some u
  | u, e :: r => match fnd A.nm e.n D with
    | none => none
    | some a => match f a.lim (u e.n) e.am with
      | none => none
      | some x => seqU f D (fun n => if n = e.n then x else u n) r
def u0 (D : List A) (n : List UInt8) : V := match fnd A.nm n D with
  | none => V.nil
  | some a => a.us
def setU (u : List UInt8 → V) (D : List A) : List A := D.map fun a => ⟨a.nm, a.lim, u a.nm⟩
def postD (f : V → V → V → Option V) (c : Int) (D : List A) (es : List E) : Int × List A := if checkD D es = 0 then (match seqU f D (u0 D) es with
  | none => (c, D)
  | some u => (0, setU u D)) else (checkD D es, D)
def takeD := postD takeF 9
def giveD := postD giveF 2

/-! ### memory -/
def Step (S S' : Nat → Prop) (w w' : World) : Prop := Kp S w w' ∧ ∀ k, S' k → S k ∨ w.heap.size ≤ k
theorem Step.refl (S : Nat → Prop) (w : World) : Step S S w w := ⟨Kp.refl _ _, fun _ h => .inl h⟩
theorem Step.trans {t t1 t2 : Nat → Prop} {a b c : World} (h : Step t t1 a b) (k : Step t1 t2 b c) : Step t t2 a c :=
  ⟨h.1.trans k.1 fun i hi e => (h.2 i e).resolve_right (by omega), fun i hi => by
    rcases k.2 i hi with h1 | h1
    · exact h.2 i h1
    · exact .inr (Nat.le_trans h.1.size h1)⟩
theorem Step.of_below (S : Nat → Prop) {w w1 : World} (b : Below w.heap.size w w1) : Step S S w w1 := ⟨Kp.of_below b, fun _ h => .inl h⟩

theorem keepMap {H : Type} {w w1 : World} {P : Program} {k : TypeId} {R : Value → Option (DataW H × List MemPlace)} {b n : Nat} {D : DataW H} (h : w.ownsMap P k R b n D) (e : w1.heap[b]? = w.heap[b]?) : w1.ownsMap P k R b n D := by
  obtain ⟨es, clock, hb, r⟩ := h
  exact ⟨es, clock, e.trans hb, r⟩
theorem tight {H : Type} {w : World} {P : Program} {k : TypeId} {R : Value → Option (DataW H × List MemPlace)} {b n : Nat} {D : DataW H} (h : w.ownsMap P k R b n D) : w.ownsMap P k R b (Maps.size D) D := by
  obtain ⟨es, clock, hb, F, _, hD⟩ := h
  refine ⟨es, clock, hb, F, ?_, hD⟩
  rw [hD, Maps.size_eq, length_sorted]
  simp

/-- how a file's pointer reads -/
def pE (v : Value) : Option (DataW Nat × List MemPlace) := match v with
  | .pointer (some ⟨b, 0, none⟩) => some (.held b, [])
  | .pointer none => some (.nil, [])
  | _ => none
theorem pE_held {v : Value} {b : Nat} {ps : List MemPlace} (h : pE v = some (.held b, ps)) : v = .pointer (some ⟨b, 0, none⟩) := by
  unfold pE at h
  split at h
  · cases h; rfl
  · cases h
  · cases h
theorem pE_nil {v : Value} {ps : List MemPlace} (h : pE v = some (.nil, ps)) : v = .pointer none := by
  unfold pE at h
  split at h
  · cases h
  · rfl
  · cases h

def mapOf (l : List Ac) : DataW Nat := .map (l.map fun f => (.string f.nm, .held f.fb))
theorem mapOf_put (l : List Ac) (n : List UInt8) (f : Ac) (hn : f.nm = n) : (mapOf l).put (.string n) (.held f.fb) = mapOf (ins Ac.nm f (drp Ac.nm n l)) := by
  subst hn
  unfold mapOf
  rw [DataW.put_eq]
  unfold ChangeMaps.putKey
  congr 1
  have e : ∀ l : List Ac, DataW.insert (Lit.string f.nm, DataW.held f.fb) (l.map fun f => (Lit.string f.nm, DataW.held f.fb)) = (ins Ac.nm f l).map fun f => (Lit.string f.nm, DataW.held f.fb) := by
    intro l
    induction l with
    | nil => rfl
    | cons z r ih =>
      simp only [List.map_cons]
      unfold DataW.insert ins
      by_cases hb : bytesBefore f.nm z.nm = true
      · rw [if_pos (show Lit.before (Lit.string f.nm, DataW.held (H := Nat) f.fb).fst (Lit.string z.nm, DataW.held (H := Nat) z.fb).fst = true from hb), if_pos hb]; rfl
      · rw [if_neg (show ¬ Lit.before (Lit.string f.nm, DataW.held (H := Nat) f.fb).fst (Lit.string z.nm, DataW.held (H := Nat) z.fb).fst = true from hb), if_neg hb, ih]; rfl
  rw [← e]
  congr 1
  unfold drp
  rw [List.filter_map]
  congr 1
theorem mapOf_del (l : List Ac) (n : List UInt8) : (mapOf l).del (.string n) = mapOf (drp Ac.nm n l) := by
  unfold mapOf
  rw [DataW.del_eq]
  unfold ChangeMaps.delKey drp
  congr 1
  rw [List.filter_map]
  congr 1
theorem mapOf_at (l : List Ac) (n : List UInt8) : (mapOf l).atKey (.string n) .nil = match fnd Ac.nm n l with | none => .nil | some f => .held f.fb := by
  unfold mapOf DataW.atKey fnd
  simp only [List.find?_map]
  have e : ((fun p : Lit × DataW Nat => p.1.sameKey (.string n)) ∘ fun f : Ac => (Lit.string f.nm, DataW.held f.fb)) = fun f => f.nm == n := by
    funext f; rfl
  rw [e]
  cases l.find? (fun f => f.nm == n) <;> rfl
theorem mapOf_size (l : List Ac) : Maps.size (mapOf l) = l.length := by unfold mapOf; rw [Maps.size_eq, List.length_map]

def c8 (v u : V) : Array Value := #[.int .i64 v.a, .int .i64 v.b, .int .i64 v.c, .int .i64 v.d, .int .i64 u.a, .int .i64 u.b, .int .i64 u.c, .int .i64 u.d]
def MpAt (w : World) (mb : Option Nat) (l : List Ac) : Prop := match mb with
  | none => l = []
  | some m => w.ownsMap Try.prog 9 pE m l.length (mapOf l)
structure LgAt (w : World) (pb : Nat) (mb : Option Nat) (l : List Ac) : Prop where
  cell : w.heap[pb]? = some (.cells #[.map mb] 61 (0, 0))
  mp : MpAt w mb l
  ac : ∀ a ∈ l, w.heap[a.fb]? = some (.cells (c8 a.lim a.us) 69 (0, 0))
  srt : Srt Ac.nm l
  inj : ∀ a ∈ l, ∀ b ∈ l, a.fb = b.fb → a.nm = b.nm
  len : l.length ≤ 64
  ok : ∀ a ∈ l, a.lim.ok = true ∧ a.us.ok = true
def Fp (pb : Nat) (mb : Option Nat) (l : List Ac) (k : Nat) : Prop := k = pb ∨ mb = some k ∨ ∃ a ∈ l, a.fb = k
theorem LgAt.lt {w : World} {pb : Nat} {mb : Option Nat} {l : List Ac} (h : LgAt w pb mb l) {k : Nat} (hk : Fp pb mb l k) : k < w.heap.size := by
  rcases hk with rfl | rfl | ⟨a, ha, rfl⟩
  · exact (Array.getElem?_eq_some_iff.1 h.cell).1
  · exact World.ownsMap.lt h.mp
  · exact (Array.getElem?_eq_some_iff.1 (h.ac a ha)).1
theorem LgAt.keep {w w1 : World} {pb : Nat} {mb : Option Nat} {l : List Ac} (h : LgAt w pb mb l) (e : ∀ k, Fp pb mb l k → w1.heap[k]? = w.heap[k]?) : LgAt w1 pb mb l :=
  ⟨(e _ (.inl rfl)).trans h.cell, by
    have := h.mp
    unfold MpAt at *
    cases mb with
    | none => exact this
    | some m => exact keepMap this (e m (.inr (.inl rfl))), fun a ha => (e _ (.inr (.inr ⟨a, ha, rfl⟩))).trans (h.ac a ha), h.srt, h.inj, h.len, h.ok⟩
/-- a ledger of the program's own make at block pb; S: blocks that are its own -/
def Led (w : World) (S : Nat → Prop) (pb : Nat) (D : List A) : Prop := (∃ mb l, LgAt w pb mb l ∧ l.map Ac.s = D ∧ ∀ k, Fp pb mb l k → S k) ∧ ∀ k, S k → k < w.heap.size
theorem Led.keep {w w1 : World} {S : Nat → Prop} {pb : Nat} {D : List A} (h : Led w S pb D) (e : ∀ k, S k → w1.heap[k]? = w.heap[k]?) (hs : w.heap.size ≤ w1.heap.size) : Led w1 S pb D := by
  obtain ⟨⟨mb, l, h1, h2, h3⟩, h4⟩ := h
  exact ⟨⟨mb, l, h1.keep fun k hk => e k (h3 k hk), h2, h3⟩, fun k hk => Nat.lt_of_lt_of_le (h4 k hk) hs⟩
theorem Led.keepB {w w1 : World} {S : Nat → Prop} {pb : Nat} {D : List A} (h : Led w S pb D) (b : Below w.heap.size w w1) : Led w1 S pb D := h.keep (fun k hk => b.block k (h.2 k hk)) b.size
theorem Led.keepK {w w1 : World} {S T : Nat → Prop} {pb : Nat} {D : List A} (h : Led w S pb D) (b : Kp T w w1) (hd : ∀ k, S k → ¬ T k) : Led w1 S pb D := h.keep (fun k hk => b.block k (h.2 k hk) (hd k hk)) b.size
theorem Led.len {w : World} {S : Nat → Prop} {pb : Nat} {D : List A} (h : Led w S pb D) : D.length ≤ 64 := by
  obtain ⟨⟨mb, l, h1, h2, h3⟩, h4⟩ := h
  rw [← h2, List.length_map]
  exact h1.len
theorem Led.srt {w : World} {S : Nat → Prop} {pb : Nat} {D : List A} (h : Led w S pb D) : Srt A.nm D := by
  obtain ⟨⟨mb, l, h1, h2, h3⟩, h4⟩ := h
  rw [← h2]
  exact List.pairwise_map.2 h1.srt
theorem Led.ok {w : World} {S : Nat → Prop} {pb : Nat} {D : List A} (h : Led w S pb D) : ∀ a ∈ D, a.lim.ok = true ∧ a.us.ok = true := by
  obtain ⟨⟨mb, l, h1, h2, h3⟩, h4⟩ := h
  rw [← h2]
  intro a ha
  obtain ⟨b, hb, rfl⟩ := List.mem_map.1 ha
  exact h1.ok b hb
theorem LgAt.led {w : World} {pb : Nat} {mb : Option Nat} {l : List Ac} (h : LgAt w pb mb l) : Led w (Fp pb mb l) pb (l.map Ac.s) := ⟨⟨mb, l, h, rfl, fun _ hk => hk⟩, fun _ hk => h.lt hk⟩
end Go.Proofs.Ytehgcaaeifnjeaa
