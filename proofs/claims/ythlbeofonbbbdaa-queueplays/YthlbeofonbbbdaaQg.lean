/-
  A queue as it lies: its waiters and its tenants' heaps; what is read of it.
-/
import Derived.Test.YthlbeofonbbbdaaQf
namespace Go.Proofs.Ythlbeofonbbbdaa
open Go.RowKit Go.Maps

def MH (w : World) (mh : Option Nat) (q : List Hq) : Prop := match mh with
  | none => q = []
  | some m => w.ownsMap Try.prog 9 pE m q.length (mapH q)
/-- the heaps' side; ow: whose heap's each block is -/
structure QH (w : World) (ow : Nat → Option (List UInt8)) (mh : Option Nat) (l : List Hd) (q : List Hq) (N : Nat) : Prop where
  hm : MH w mh q
  hp : ∀ x ∈ q, Hc w x.hb x.C x.g x.n x.S ∧ x.g ≤ N
  srt : SrtN Hq.nm q
  ct : ∀ x ∈ q, ∀ (y : Int) (k : K), x.C y = some k ↔ ∃ a ∈ l, a.j.tn = x.nm ∧ (a.h : Int) = y ∧ ky a.j = k
  hu : ∀ a ∈ l, ∀ b ∈ l, a.j.tn = b.j.tn → a.h = b.h → a = b
  has : ∀ a ∈ l, ∃ x ∈ q, x.nm = a.j.tn
  cnt : ∀ x ∈ q, x.n = (l.filter fun a => a.j.tn == x.nm).length
  ne : ∀ x ∈ q, x.n ≠ 0
  oh : ∀ x ∈ q, ∀ k, Fp x.hb x.S k → ow k = some x.nm
  len : q.length ≤ 1000000
/-- the queue's own blocks, but for the heaps' -/
def Oq (pb : Nat) (mw mh : Option Nat) (l : List Hd) (k : Nat) : Prop := k = pb ∨ mw = some k ∨ mh = some k ∨ ∃ a ∈ l, a.b = k
structure QAt (w : World) (ow : Nat → Option (List UInt8)) (pb : Nat) (mw mh : Option Nat) (l : List Hd) (q : List Hq) (N : Nat) : Prop where
  W : QW w pb mw mh l
  H : QH w ow mh l q N
  nn : mw = none → mh = none
  ns : ∀ m, mw = some m → ∃ m', mh = some m' ∧ m' ≠ m
  oo : ∀ k, Oq pb mw mh l k → ow k = none
def Owq (pb : Nat) (mw mh : Option Nat) (l : List Hd) (q : List Hq) (k : Nat) : Prop := Oq pb mw mh l k ∨ ∃ x ∈ q, Fp x.hb x.S k
section
variable {w w1 : World} {ow : Nat → Option (List UInt8)} {pb N : Nat} {mw mh : Option Nat} {l : List Hd} {q : List Hq}
theorem MH.keep (h : MH w mh q) (e : ∀ m, mh = some m → w1.heap[m]? = w.heap[m]?) : MH w1 mh q := by
  unfold MH at *
  cases mh with
  | none => exact h
  | some m => exact keepMap h (e m rfl)
theorem MH.lt {m : Nat} (h : MH w (some m) q) : m < w.heap.size := World.ownsMap.lt h
theorem QH.keep (h : QH w ow mh l q N) (e1 : ∀ m, mh = some m → w1.heap[m]? = w.heap[m]?) (e2 : ∀ x ∈ q, ∀ k, Fp x.hb x.S k → w1.heap[k]? = w.heap[k]?) : QH w1 ow mh l q N :=
  ⟨h.hm.keep e1, fun x hx => ⟨(h.hp x hx).1.keep (e2 x hx), (h.hp x hx).2⟩, h.srt, h.ct, h.hu, h.has, h.cnt, h.ne, h.oh, h.len⟩
theorem QAt.lt (h : QAt w ow pb mw mh l q N) {k : Nat} (hk : Owq pb mw mh l q k) : k < w.heap.size := by
  rcases hk with (rfl | rfl | rfl | ⟨a, ha, rfl⟩) | ⟨x, hx, hk⟩
  · exact h.W.lt
  · exact h.W.wm.lt
  · exact h.H.hm.lt
  · exact h.W.blt ha
  · exact (h.H.hp x hx).1.h.lt k hk
theorem QAt.keep (h : QAt w ow pb mw mh l q N) (e : ∀ k, Owq pb mw mh l q k → w1.heap[k]? = w.heap[k]?) : QAt w1 ow pb mw mh l q N :=
  ⟨h.W.keep fun k hk => e k (.inl (hk.elim .inl fun h1 => .inr (h1.elim .inl fun h1 => .inr (.inr h1)))), h.H.keep (fun m hm => e m (.inl (.inr (.inr (.inl hm))))) (fun x hx k hk => e k (.inr ⟨x, hx, hk⟩)), h.nn, h.ns, h.oo⟩
theorem QAt.below (h : QAt w ow pb mw mh l q N) (b : Below w.heap.size w w1) : QAt w1 ow pb mw mh l q N := h.keep fun k hk => b.block k (h.lt hk)
end
/-- a queue of the program's own make at block pb; S: blocks that are its own -/
def Que (w : World) (S : Nat → Prop) (pb : Nat) (D : List J) (N : Nat) : Prop := (∃ ow mw mh l q, QAt w ow pb mw mh l q N ∧ (l.map Hd.j).Perm D ∧ SJ D ∧ ∀ k, Owq pb mw mh l q k → S k) ∧ ∀ k, S k → k < w.heap.size
section
variable {w w1 : World} {S T : Nat → Prop} {pb N : Nat} {D : List J}
theorem Que.keep (h : Que w S pb D N) (e : ∀ k, S k → w1.heap[k]? = w.heap[k]?) (hs : w.heap.size ≤ w1.heap.size) : Que w1 S pb D N := by
  obtain ⟨⟨ow, mw, mh, l, q, h1, h2, h3, h4⟩, h5⟩ := h
  exact ⟨⟨ow, mw, mh, l, q, h1.keep fun k hk => e k (h4 k hk), h2, h3, h4⟩, fun k hk => Nat.lt_of_lt_of_le (h5 k hk) hs⟩
theorem Que.keepB (h : Que w S pb D N) (b : Below w.heap.size w w1) : Que w1 S pb D N := h.keep (fun k hk => b.block k (h.2 k hk)) b.size
theorem Que.keepK (h : Que w S pb D N) (b : Kp T w w1) (hd : ∀ k, S k → ¬ T k) : Que w1 S pb D N := h.keep (fun k hk => b.block k (h.2 k hk) (hd k hk)) b.size
theorem Que.nj (h : Que w S pb D N) : NJ D := by
  obtain ⟨⟨ow, mw, mh, l, q, h1, h2, h3, h4⟩, h5⟩ := h
  exact nj_perm h1.W.nj h2
theorem Que.srt (h : Que w S pb D N) : SJ D := by
  obtain ⟨⟨ow, mw, mh, l, q, h1, h2, h3, h4⟩, h5⟩ := h
  exact h3
theorem Que.ok (h : Que w S pb D N) : ∀ a ∈ D, a.ok = true := by
  obtain ⟨⟨ow, mw, mh, l, q, h1, h2, h3, h4⟩, h5⟩ := h
  intro a ha
  obtain ⟨b, hb, rfl⟩ := List.mem_map.1 (h2.mem_iff.2 ha)
  exact h1.W.ok b hb
theorem que_new (w : World) (N : Nat) : Que (w.alloc (.cells #[.map none, .map none] 54 (0, 0))) (· = w.heap.size) w.heap.size [] N := by
  refine ⟨⟨fun _ => none, none, none, [], [], ⟨⟨new0, rfl, (fun _ h => nomatch h), (fun _ h => nomatch h), List.Pairwise.nil, (fun _ h => nomatch h), Nat.zero_le _⟩, ⟨rfl, (fun _ h => nomatch h), List.Pairwise.nil, (fun _ h => nomatch h), (fun _ h => nomatch h), (fun _ h => nomatch h), (fun _ h => nomatch h), (fun _ h => nomatch h), (fun _ h => nomatch h), Nat.zero_le _⟩, fun _ => rfl, (fun _ h => nomatch h), fun _ _ => rfl⟩, List.Perm.refl _, List.Pairwise.nil, fun k hk => ?_⟩, fun k hk => ?_⟩
  · rcases hk with (h | h | h | ⟨a, ha, _⟩) | ⟨x, hx, _⟩
    · exact h
    · cases h
    · cases h
    · cases ha
    · cases hx
  · rw [show k = w.heap.size from hk, World.size_alloc]
    omega
end
/-! ### asks -/
section
variable {w : World} {S : Nat → Prop} {pb N : Nat} {D : List J}
theorem find_Q {mw mh : Option Nat} {l : List Hd} (h : QW w pb mw mh l) (x : Int) (hx : wf x) : Calls Try.prog 29 #[.pointer (some ⟨pb, 0, none⟩), .int .i64 x] w fun e w' => e = .returned (optp (aJ l x)) ∧ w' = w := qfind_raw w pb mw x _ (c2 h.cell).1 (look_W h.wm x hx)
theorem qlen_any (h : Que w S pb D N) : Calls Try.prog 11 #[.pointer (some ⟨pb, 0, none⟩)] w fun e w' => e = .returned (.int .i64 D.length) ∧ w' = w := by
  obtain ⟨⟨ow, mw, mh, l, q, h1, h2, h3, h4⟩, h5⟩ := h
  have := qlen_raw w pb mw l.length (c2 h1.W.cell).1 (len_W h1.W.wm)
  rw [show l.length = D.length by rw [← h2.length_eq, List.length_map]] at this
  exact this
def ansJ (r : J × Int) : Ending := .returned (.tuple #[.agg #[.int .i64 r.1.job, .string ⟨⟨r.1.tn⟩⟩, .int .i64 r.1.pr], .int .i64 r.2])
theorem qget_any (h : Que w S pb D N) (x : Int) (hx : wf x) : Calls Try.prog 18 #[.pointer (some ⟨pb, 0, none⟩), .int .i64 x] w fun e w' => e = ansJ (getD D x) ∧ Below w.heap.size w w' := by
  obtain ⟨⟨ow, mw, mh, l, q, h1, h2, h3, h4⟩, h5⟩ := h
  have hf : ∀ w1, Below w.heap.size w w1 → Calls Try.prog 29 #[.pointer (some ⟨pb, 0, none⟩), .int .i64 x] w1 fun e w' => e = .returned (optp (aJ l x)) ∧ w' = w1 := fun w1 b => find_Q (h1.W.below b) x hx
  have e1 : fJ x D = (l.find? fun a => decide (a.j.job = x)).map Hd.j := by rw [← fJ_perm h1.W.nj h2, fJ_at]
  unfold getD
  rw [e1]
  unfold aJ at hf
  cases hq : l.find? fun a => decide (a.j.job = x) with
  | none => rw [hq] at hf; exact qget_none w _ x hf
  | some a =>
    rw [hq] at hf
    exact qget_some w _ x _ _ _ a.b _ (h1.W.blk a (List.mem_of_find?_eq_some hq)) hf
end
end Go.Proofs.Ythlbeofonbbbdaa
