/-
  Lists of named things; a queue as plain data: its waiters in one list, by their tenants, then their order; what the program has of it in its memory.
-/
import Derived.Test.YthlbeofonbbbdaaNn
namespace Go.Proofs.Ythlbeofonbbbdaa
open Go.RowKit Go.Maps

/-! ### lists of named things -/
section
variable {α : Type} (nm : α → List UInt8)
def insN (x : α) : List α → List α
  | [] => [x]
  | y :: r => if bytesBefore (nm x) (nm y) then x :: y :: r else y :: insN x r
def drpN (n : List UInt8) (l : List α) : List α := l.filter fun y => !(nm y == n)
def fndN (n : List UInt8) (l : List α) : Option α := l.find? fun y => nm y == n
def updN (n : List UInt8) (x : α) (l : List α) : List α := l.map fun y => if nm y == n then x else y
def SrtN (l : List α) : Prop := l.Pairwise fun x y => bytesBefore (nm x) (nm y) = true
variable {nm}

theorem mem_insN {x y : α} : ∀ {l : List α}, y ∈ insN nm x l ↔ y = x ∨ y ∈ l
  | [] => by simp [insN]
  | z :: r => by
    unfold insN
    split
    · simp
    · simp [mem_insN (l := r)]
      constructor
      · rintro (h | h | h) <;> simp [h]
      · rintro (h | h | h) <;> simp [h]
theorem insN_length (x : α) : ∀ l : List α, (insN nm x l).length = l.length + 1
  | [] => rfl
  | z :: r => by
    unfold insN
    split
    · rfl
    · simp [insN_length x r]
theorem srtN_ins {x : α} : ∀ {l : List α}, SrtN nm l → (∀ y ∈ l, nm y ≠ nm x) → SrtN nm (insN nm x l)
  | [], _, _ => List.pairwise_singleton _ _
  | z :: r, h, hx => by
    have h1 := List.pairwise_cons.1 h
    unfold insN
    split
    · rename_i hb
      refine List.pairwise_cons.2 ⟨fun y hy => ?_, h⟩
      rcases List.mem_cons.1 hy with rfl | hy
      · exact hb
      · exact WideShapes.bytes_trans _ _ _ hb (h1.1 y hy)
    · rename_i hb
      refine List.pairwise_cons.2 ⟨fun y hy => ?_, srtN_ins h1.2 fun y hy => hx y (List.mem_cons_of_mem _ hy)⟩
      rcases mem_insN.1 hy with rfl | hy
      · rcases WideAt.bytes_total (nm y) (nm z) (fun e => hx z (List.mem_cons_self ..) e.symm) with h | h
        · exact absurd h hb
        · exact h
      · exact h1.1 y hy
theorem srtN_drp {n : List UInt8} {l : List α} (h : SrtN nm l) : SrtN nm (drpN nm n l) := List.Pairwise.filter _ h
theorem mem_drpN {n : List UInt8} {l : List α} {y : α} : y ∈ drpN nm n l ↔ y ∈ l ∧ nm y ≠ n := by simp [drpN, List.mem_filter]
theorem srtN_upd {n : List UInt8} {x : α} {l : List α} (hx : nm x = n) (h : SrtN nm l) : SrtN nm (updN nm n x l) := by
  refine List.pairwise_map.2 (List.Pairwise.imp (fun {a b} hab => ?_) h)
  have e : ∀ y, nm (if nm y == n then x else y) = nm y := fun y => by
    split
    · rename_i h; rw [hx]; exact (beq_iff_eq.1 h).symm
    · rfl
  rw [e, e]; exact hab
theorem mem_updN {n : List UInt8} {x y : α} {l : List α} (h : y ∈ updN nm n x l) : y = x ∨ (y ∈ l ∧ nm y ≠ n) := by
  obtain ⟨z, hz, rfl⟩ := List.mem_map.1 h
  split
  · exact .inl rfl
  · rename_i hne; exact .inr ⟨hz, fun e => hne (beq_iff_eq.2 e)⟩
theorem updN_length {n : List UInt8} {x : α} {l : List α} : (updN nm n x l).length = l.length := List.length_map ..
theorem fndN_some {n : List UInt8} {x : α} {l : List α} (h : fndN nm n l = some x) : x ∈ l ∧ nm x = n :=
  ⟨List.mem_of_find?_eq_some h, by have := List.find?_some h; exact beq_iff_eq.1 this⟩
theorem fndN_none {n : List UInt8} {l : List α} (h : fndN nm n l = none) : ∀ x ∈ l, nm x ≠ n := fun x hx e => by
  have := List.find?_eq_none.1 h x hx
  simp [e] at this
theorem srtN_one {l : List α} (h : SrtN nm l) {x y : α} (hx : x ∈ l) (hy : y ∈ l) (e : nm x = nm y) : x = y := by
  induction l with
  | nil => cases hx
  | cons z r ih =>
    have h1 := List.pairwise_cons.1 h
    rcases List.mem_cons.1 hx with ex | hx2
    · rcases List.mem_cons.1 hy with ey | hy2
      · rw [ex, ey]
      · have := h1.1 y hy2; rw [← ex, e, WideAt.bytes_irrefl] at this; cases this
    · rcases List.mem_cons.1 hy with ey | hy2
      · have := h1.1 x hx2; rw [← ey, e, WideAt.bytes_irrefl] at this; cases this
      · exact ih h1.2 hx2 hy2
theorem drpN_none {n : List UInt8} {l : List α} (h : fndN nm n l = none) : drpN nm n l = l :=
  List.filter_eq_self.2 fun y hy => by simpa using fndN_none h y hy

variable {β : Type} {mn : β → List UInt8} {f : α → β}
theorem mapN_ins (hf : ∀ x, mn (f x) = nm x) (x : α) : ∀ l : List α, (insN nm x l).map f = insN mn (f x) (l.map f)
  | [] => rfl
  | z :: r => by
    simp only [List.map_cons]
    unfold insN
    rw [hf, hf]
    split
    · rfl
    · rw [List.map_cons, mapN_ins hf x r]
theorem mapN_drp (hf : ∀ x, mn (f x) = nm x) (n : List UInt8) (l : List α) : (drpN nm n l).map f = drpN mn n (l.map f) := by
  unfold drpN
  rw [List.filter_map]
  congr 1
  congr 1
  funext x
  simp [hf]
theorem mapN_fnd (hf : ∀ x, mn (f x) = nm x) (n : List UInt8) (l : List α) : (fndN nm n l).map f = fndN mn n (l.map f) := by
  unfold fndN
  rw [List.find?_map]
  congr 1
  congr 1
  funext x
  simp [hf]
theorem mapN_upd (hf : ∀ x, mn (f x) = nm x) (n : List UInt8) (x : α) (l : List α) : (updN nm n x l).map f = updN mn n (f x) (l.map f) := by
  unfold updN
  rw [List.map_map, List.map_map]
  refine List.map_congr_left fun y _ => ?_
  simp only [Function.comp, hf]
  split <;> rfl
theorem updN_self {n : List UInt8} {l : List α} {g : α → β} {x y : α} (hs : SrtN nm l) (h : fndN nm n l = some y) (hg : g x = g y) : (updN nm n x l).map g = l.map g := by
  unfold updN
  rw [List.map_map]
  refine List.map_congr_left fun z hz => ?_
  simp only [Function.comp]
  split
  · rename_i e
    obtain ⟨h1, h2⟩ := fndN_some h
    rw [hg, srtN_one hs h1 hz (h2.trans (beq_iff_eq.1 e).symm)]
  · rfl
end

theorem fndN_self {α : Type} {nm : α → List UInt8} {l : List α} (h : SrtN nm l) {a : α} (ha : a ∈ l) : fndN nm (nm a) l = some a := by
  cases hf : fndN nm (nm a) l with
  | none => exact absurd rfl (fndN_none hf a ha)
  | some b => rw [srtN_one h (fndN_some hf).1 ha (fndN_some hf).2]

/-! ### waiters -/
structure J where
  job : Int
  tn : List UInt8
  pr : Int
deriving DecidableEq
/-- of one tenant's the order -/
def jl (a b : J) : Bool := decide (b.pr < a.pr) || (decide (a.pr = b.pr) && decide (a.job < b.job))
/-- the list's order -/
def bf (a b : J) : Bool := if a.tn = b.tn then jl a b else bytesBefore a.tn b.tn
def J.ok (a : J) : Bool := decide (1 ≤ a.job) && decide (a.job ≤ 100) && decide (0 ≤ a.pr) && decide (a.pr ≤ 100)
def SJ (D : List J) : Prop := D.Pairwise fun a b => bf a b = true
def fJ (j : Int) (D : List J) : Option J := D.find? fun a => decide (a.job = j)
def iJ (x : J) : List J → List J
  | [] => [x]
  | y :: r => if bf x y then x :: y :: r else y :: iJ x r
def dJ (j : Int) (D : List J) : List J := D.filter fun a => decide (a.job ≠ j)
def pushD (D : List J) (x : J) : Int × List J := if x.ok then (match fJ x.job D with | some _ => (5, D) | none => (0, iJ x D)) else (2, D)
def remD (D : List J) (j : Int) : Int × List J := match fJ j D with | some _ => (0, dJ j D) | none => (3, D)
def jz : J := ⟨0, [], 0⟩
def getD (D : List J) (j : Int) : J × Int := match fJ j D with | some a => (a, 0) | none => (jz, 3)
def ofT (t : List UInt8) (D : List J) : List J := D.filter fun a => a.tn == t
def headD (D : List J) (t : List UInt8) : J × Int := match (ofT t D).head? with | some a => (a, 0) | none => (jz, 3)
/-- the tenants of a list in order -/
def tens : List J → List (List UInt8)
  | [] => []
  | a :: r => match r.head? with | some b => if a.tn = b.tn then tens r else a.tn :: tens r | none => [a.tn]
def best (D : List J) : Int := D.foldl (fun m a => max m a.pr) 0
def topD (D : List J) : Int × List (List UInt8) := (best D, (tens D).filter fun t => decide ((headD D t).1.pr = best D))

theorem jl_irr (a : J) : jl a a = false := by unfold jl; simp
theorem jl_trans {a b c : J} (h1 : jl a b = true) (h2 : jl b c = true) : jl a c = true := by
  unfold jl at *
  simp only [Bool.or_eq_true, decide_eq_true_eq, Bool.and_eq_true] at *
  omega
theorem jl_tot {a b : J} (h : a.job ≠ b.job) : jl a b = true ∨ jl b a = true := by
  unfold jl
  simp only [Bool.or_eq_true, decide_eq_true_eq, Bool.and_eq_true]
  omega
theorem jl_asym {a b : J} (h1 : jl a b = true) : jl b a = false := by
  cases h : jl b a with
  | false => rfl
  | true => have := jl_trans h1 h; rw [jl_irr] at this; cases this
theorem bf_irr (a : J) : bf a a = false := by unfold bf; rw [if_pos rfl]; exact jl_irr a
theorem bb_asym {x y : List UInt8} (h1 : bytesBefore x y = true) (h2 : bytesBefore y x = true) : False := by
  have := WideShapes.bytes_trans _ _ _ h1 h2
  rw [WideAt.bytes_irrefl] at this
  cases this
theorem bf_trans {a b c : J} (h1 : bf a b = true) (h2 : bf b c = true) : bf a c = true := by
  unfold bf at *
  by_cases e1 : a.tn = b.tn
  · rw [if_pos e1] at h1
    by_cases e2 : b.tn = c.tn
    · rw [if_pos e2] at h2
      rw [if_pos (e1.trans e2)]
      exact jl_trans h1 h2
    · rw [if_neg e2] at h2
      rw [if_neg (fun q => e2 (e1.symm.trans q)), e1]
      exact h2
  · rw [if_neg e1] at h1
    by_cases e2 : b.tn = c.tn
    · rw [if_neg (fun q => e1 (q.trans e2.symm)), ← e2]
      exact h1
    · rw [if_neg e2] at h2
      have h3 := WideShapes.bytes_trans _ _ _ h1 h2
      rw [if_neg (fun q => by rw [q, WideAt.bytes_irrefl] at h3; cases h3)]
      exact h3
theorem bf_tot {a b : J} (h : a.job ≠ b.job) : bf a b = true ∨ bf b a = true := by
  unfold bf
  by_cases e : a.tn = b.tn
  · rw [if_pos e, if_pos e.symm]
    exact jl_tot h
  · rw [if_neg e, if_neg (fun q => e q.symm)]
    exact WideAt.bytes_total _ _ e
theorem mem_iJ {x y : J} : ∀ {D : List J}, y ∈ iJ x D ↔ y = x ∨ y ∈ D
  | [] => by simp [iJ]
  | z :: r => by
    unfold iJ
    split
    · simp
    · simp only [List.mem_cons, mem_iJ (D := r)]
      constructor
      · rintro (h | h | h)
        · exact .inr (.inl h)
        · exact .inl h
        · exact .inr (.inr h)
      · rintro (h | h | h)
        · exact .inr (.inl h)
        · exact .inl h
        · exact .inr (.inr h)
theorem iJ_perm (x : J) : ∀ D : List J, (iJ x D).Perm (x :: D)
  | [] => List.Perm.refl _
  | y :: r => by
    unfold iJ
    split
    · exact List.Perm.refl _
    · exact ((iJ_perm x r).cons y).trans (List.Perm.swap x y r)
theorem iJ_len (x : J) (D : List J) : (iJ x D).length = D.length + 1 := (iJ_perm x D).length_eq
theorem srt_iJ {x : J} : ∀ {D : List J}, SJ D → (∀ y ∈ D, y.job ≠ x.job) → SJ (iJ x D)
  | [], _, _ => List.pairwise_singleton _ _
  | y :: r, h, hx => by
    have h1 := List.pairwise_cons.1 h
    unfold iJ
    split
    · rename_i hb
      refine List.pairwise_cons.2 ⟨fun z hz => ?_, h⟩
      rcases List.mem_cons.1 hz with rfl | hz
      · exact hb
      · exact bf_trans hb (h1.1 z hz)
    · rename_i hb
      refine List.pairwise_cons.2 ⟨fun z hz => ?_, srt_iJ h1.2 fun z hz => hx z (List.mem_cons_of_mem _ hz)⟩
      rcases mem_iJ.1 hz with rfl | hz
      · exact (bf_tot (hx y (List.mem_cons_self ..))).resolve_right hb
      · exact h1.1 z hz
theorem srt_dJ {j : Int} {D : List J} (h : SJ D) : SJ (dJ j D) := List.Pairwise.filter _ h
theorem mem_dJ {j : Int} {D : List J} {y : J} : y ∈ dJ j D ↔ y ∈ D ∧ y.job ≠ j := by simp [dJ, List.mem_filter]
theorem fJ_some {j : Int} {D : List J} {a : J} (h : fJ j D = some a) : a ∈ D ∧ a.job = j := ⟨List.mem_of_find?_eq_some h, by have := List.find?_some h; simpa using this⟩
theorem fJ_none {j : Int} {D : List J} (h : fJ j D = none) : ∀ a ∈ D, a.job ≠ j := fun a ha e => by
  have := List.find?_eq_none.1 h a ha
  simp [e] at this
/-- jobs once each -/
def NJ (D : List J) : Prop := D.Pairwise fun a b => a.job ≠ b.job
theorem nj_one {D : List J} (h : NJ D) {a b : J} (ha : a ∈ D) (hb : b ∈ D) (e : a.job = b.job) : a = b := by
  induction D with
  | nil => cases ha
  | cons z r ih =>
    have h1 := List.pairwise_cons.1 h
    rcases List.mem_cons.1 ha with rfl | ha' <;> rcases List.mem_cons.1 hb with rfl | hb'
    · rfl
    · exact absurd e (h1.1 b hb')
    · exact absurd e.symm (h1.1 a ha')
    · exact ih h1.2 ha' hb'
theorem fJ_self {D : List J} (h : NJ D) {a : J} (ha : a ∈ D) : fJ a.job D = some a := by
  cases q : fJ a.job D with
  | none => exact absurd rfl (fJ_none q a ha)
  | some b => rw [nj_one h (fJ_some q).1 ha (fJ_some q).2]
theorem nj_perm {D D' : List J} (h : NJ D) (p : D.Perm D') : NJ D' := (p.pairwise_iff (R := fun a b : J => a.job ≠ b.job) (fun q => Ne.symm q)).1 h
theorem fJ_perm {D D' : List J} (h : NJ D) (p : D.Perm D') (j : Int) : fJ j D = fJ j D' := by
  cases q : fJ j D with
  | none =>
    cases q' : fJ j D' with
    | none => rfl
    | some b => exact absurd (fJ_some q').2 (fJ_none q b (p.mem_iff.2 (fJ_some q').1))
  | some a =>
    have := fJ_self (nj_perm h p) (p.mem_iff.1 (fJ_some q).1)
    rw [(fJ_some q).2] at this
    exact this.symm
theorem nj_iJ {D : List J} {x : J} (h : NJ D) (hx : ∀ y ∈ D, y.job ≠ x.job) : NJ (iJ x D) :=
  nj_perm (D := x :: D) (List.pairwise_cons.2 ⟨fun y hy q => hx y hy q.symm, h⟩) (iJ_perm x D).symm
theorem nj_dJ {D : List J} {j : Int} (h : NJ D) : NJ (dJ j D) := List.Pairwise.filter _ h
/-- a list in order is told by what is in it -/
theorem sj_uniq {D D' : List J} (h : SJ D) (h' : SJ D') (p : D.Perm D') : D = D' :=
  List.Perm.eq_of_pairwise (le := fun a b => bf a b = true) (fun a b _ _ h1 h2 => by have := bf_trans h1 h2; rw [bf_irr] at this; cases this) h h' p
theorem sj_nj {D : List J} (h : SJ D) (hn : ∀ a ∈ D, ∀ b ∈ D, a.job = b.job → a = b) : NJ D := by
  refine List.Pairwise.imp_of_mem (fun {a b} ha hb hab q => ?_) h
  rw [hn a ha b hb q, bf_irr] at hab
  cases hab

/-! ### in memory -/
/-- a waiter as it is held -/
structure Hd where
  j : J
  h : Nat
  b : Nat
/-- a tenant's heap -/
structure Hq where
  nm : List UInt8
  hb : Nat
  C : Ct
  g : Nat
  n : Nat
  S : HS
def mapH (l : List Hq) : DataW Nat := .map (l.map fun f => (.string f.nm, .held f.hb))
theorem mapH_put (l : List Hq) (n : List UInt8) (f : Hq) (hn : f.nm = n) : (mapH l).put (.string n) (.held f.hb) = mapH (insN Hq.nm f (drpN Hq.nm n l)) := by
  subst hn
  unfold mapH
  rw [DataW.put_eq]
  unfold ChangeMaps.putKey
  congr 1
  have e : ∀ l : List Hq, DataW.insert (Lit.string f.nm, DataW.held f.hb) (l.map fun f => (Lit.string f.nm, DataW.held f.hb)) = (insN Hq.nm f l).map fun f => (Lit.string f.nm, DataW.held f.hb) := by
    intro l
    induction l with
    | nil => rfl
    | cons z r ih =>
      simp only [List.map_cons]
      unfold DataW.insert insN
      by_cases hb : bytesBefore f.nm z.nm = true
      · rw [if_pos (show Lit.before (Lit.string f.nm, DataW.held (H := Nat) f.hb).fst (Lit.string z.nm, DataW.held (H := Nat) z.hb).fst = true from hb), if_pos hb]; rfl
      · rw [if_neg (show ¬ Lit.before (Lit.string f.nm, DataW.held (H := Nat) f.hb).fst (Lit.string z.nm, DataW.held (H := Nat) z.hb).fst = true from hb), if_neg hb, ih]; rfl
  rw [← e]
  congr 1
  unfold drpN
  rw [List.filter_map]
  congr 1
theorem mapH_del (l : List Hq) (n : List UInt8) : (mapH l).del (.string n) = mapH (drpN Hq.nm n l) := by
  unfold mapH
  rw [DataW.del_eq]
  unfold ChangeMaps.delKey drpN
  congr 1
  rw [List.filter_map]
  congr 1
theorem mapH_at (l : List Hq) (n : List UInt8) : (mapH l).atKey (.string n) .nil = match fndN Hq.nm n l with | none => .nil | some f => .held f.hb := by
  unfold mapH DataW.atKey fndN
  simp only [List.find?_map]
  have e : ((fun p : Lit × DataW Nat => p.1.sameKey (.string n)) ∘ fun f : Hq => (Lit.string f.nm, DataW.held f.hb)) = fun f => f.nm == n := by
    funext f; rfl
  rw [e]
  cases l.find? (fun f => f.nm == n) <;> rfl
theorem mapH_size (l : List Hq) : Maps.size (mapH l) = l.length := by unfold mapH; rw [Maps.size_eq, List.length_map]

end Go.Proofs.Ythlbeofonbbbdaa
