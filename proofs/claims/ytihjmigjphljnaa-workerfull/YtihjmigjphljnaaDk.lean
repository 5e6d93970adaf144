/-
  Lists of named things, rising by their names.
-/
import Derived.Test.YtihjmigjphljnaaVa
namespace Go.Proofs.Ytihjmigjphljnaa
open Go.RowKit Go.Maps
open Tk

/-! ### lists of named things -/
section
variable {α : Type} (nm : α → List UInt8)
def ins (x : α) : List α → List α
  | [] => [x]
  | y :: r => if bytesBefore (nm x) (nm y) then x :: y :: r else y :: ins x r
def drp (n : List UInt8) (l : List α) : List α := l.filter fun y => !(nm y == n)
def fnd (n : List UInt8) (l : List α) : Option α := l.find? fun y => nm y == n
def upd (n : List UInt8) (x : α) (l : List α) : List α := l.map fun y => if nm y == n then x else y
def Srt (l : List α) : Prop := l.Pairwise fun x y => bytesBefore (nm x) (nm y) = true
variable {nm}

theorem mem_ins {x y : α} : ∀ {l : List α}, y ∈ ins nm x l ↔ y = x ∨ y ∈ l
  | [] => by simp [ins]
  | z :: r => by
    unfold ins
    split
    · simp
    · simp [mem_ins (l := r)]
      constructor
      · rintro (h | h | h) <;> simp [h]
      · rintro (h | h | h) <;> simp [h]
theorem ins_length (x : α) : ∀ l : List α, (ins nm x l).length = l.length + 1
  | [] => rfl
  | z :: r => by
    unfold ins
    split
    · rfl
    · simp [ins_length x r]
theorem srt_ins {x : α} : ∀ {l : List α}, Srt nm l → (∀ y ∈ l, nm y ≠ nm x) → Srt nm (ins nm x l)
  | [], _, _ => List.pairwise_singleton _ _
  | z :: r, h, hx => by
    have h1 := List.pairwise_cons.1 h
    unfold ins
    split
    · rename_i hb
      refine List.pairwise_cons.2 ⟨fun y hy => ?_, h⟩
      rcases List.mem_cons.1 hy with rfl | hy
      · exact hb
      · exact WideShapes.bytes_trans _ _ _ hb (h1.1 y hy)
    · rename_i hb
      refine List.pairwise_cons.2 ⟨fun y hy => ?_, srt_ins h1.2 fun y hy => hx y (List.mem_cons_of_mem _ hy)⟩
      rcases mem_ins.1 hy with rfl | hy
      · rcases WideAt.bytes_total (nm y) (nm z) (fun e => hx z (List.mem_cons_self ..) e.symm) with h | h
        · exact absurd h hb
        · exact h
      · exact h1.1 y hy
theorem srt_drp {n : List UInt8} {l : List α} (h : Srt nm l) : Srt nm (drp nm n l) := List.Pairwise.filter _ h
theorem mem_drp {n : List UInt8} {l : List α} {y : α} : y ∈ drp nm n l ↔ y ∈ l ∧ nm y ≠ n := by simp [drp, List.mem_filter]
theorem srt_upd {n : List UInt8} {x : α} {l : List α} (hx : nm x = n) (h : Srt nm l) : Srt nm (upd nm n x l) := by
  refine List.pairwise_map.2 (List.Pairwise.imp (fun {a b} hab => ?_) h)
  have e : ∀ y, nm (if nm y == n then x else y) = nm y := fun y => by
    split
    · rename_i h; rw [hx]; exact (beq_iff_eq.1 h).symm
    · rfl
  rw [e, e]; exact hab
theorem mem_upd {n : List UInt8} {x y : α} {l : List α} (h : y ∈ upd nm n x l) : y = x ∨ (y ∈ l ∧ nm y ≠ n) := by
  obtain ⟨z, hz, rfl⟩ := List.mem_map.1 h
  split
  · exact .inl rfl
  · rename_i hne; exact .inr ⟨hz, fun e => hne (beq_iff_eq.2 e)⟩
theorem upd_length {n : List UInt8} {x : α} {l : List α} : (upd nm n x l).length = l.length := List.length_map ..
theorem fnd_some {n : List UInt8} {x : α} {l : List α} (h : fnd nm n l = some x) : x ∈ l ∧ nm x = n :=
  ⟨List.mem_of_find?_eq_some h, by have := List.find?_some h; exact beq_iff_eq.1 this⟩
theorem fnd_none {n : List UInt8} {l : List α} (h : fnd nm n l = none) : ∀ x ∈ l, nm x ≠ n := fun x hx e => by
  have := List.find?_eq_none.1 h x hx
  simp [e] at this
theorem srt_one {l : List α} (h : Srt nm l) {x y : α} (hx : x ∈ l) (hy : y ∈ l) (e : nm x = nm y) : x = y := by
  induction l with
  | nil => cases hx
  | cons z r ih =>
    have h1 := List.pairwise_cons.1 h
    rcases List.mem_cons.1 hx with ex | hx2
    · rcases List.mem_cons.1 hy with ey | hy2
      · rw [ex, ey]
      · have := h1.1 y hy2; rw [← ex, e, WideAt.bytes_irrefl] at this; cases this
    · rcases List.mem_cons.1 hy with ey | hy2
      · have := h1.1 x hx2; rw [← ey, e, WideAt.bytes_irrefl] at this; cases this
      · exact ih h1.2 hx2 hy2
theorem drp_none {n : List UInt8} {l : List α} (h : fnd nm n l = none) : drp nm n l = l :=
  List.filter_eq_self.2 fun y hy => by simpa using fnd_none h y hy

variable {β : Type} {mn : β → List UInt8} {f : α → β}
theorem map_ins (hf : ∀ x, mn (f x) = nm x) (x : α) : ∀ l : List α, (ins nm x l).map f = ins mn (f x) (l.map f)
  | [] => rfl
  | z :: r => by
    simp only [List.map_cons]
    unfold ins
    rw [hf, hf]
    split
    · rfl
    · rw [List.map_cons, map_ins hf x r]
theorem map_drp (hf : ∀ x, mn (f x) = nm x) (n : List UInt8) (l : List α) : (drp nm n l).map f = drp mn n (l.map f) := by
  unfold drp
  rw [List.filter_map]
  congr 1
  congr 1
  funext x
  simp [hf]
theorem map_fnd (hf : ∀ x, mn (f x) = nm x) (n : List UInt8) (l : List α) : (fnd nm n l).map f = fnd mn n (l.map f) := by
  unfold fnd
  rw [List.find?_map]
  congr 1
  congr 1
  funext x
  simp [hf]
theorem map_upd (hf : ∀ x, mn (f x) = nm x) (n : List UInt8) (x : α) (l : List α) : (upd nm n x l).map f = upd mn n (f x) (l.map f) := by
  unfold upd
  rw [List.map_map, List.map_map]
  refine List.map_congr_left fun y _ => ?_
  simp only [Function.comp, hf]
  split <;> rfl
theorem upd_self {n : List UInt8} {l : List α} {g : α → β} {x y : α} (hs : Srt nm l) (h : fnd nm n l = some y) (hg : g x = g y) : (upd nm n x l).map g = l.map g := by
  unfold upd
  rw [List.map_map]
  refine List.map_congr_left fun z hz => ?_
  simp only [Function.comp]
  split
  · rename_i e
    obtain ⟨h1, h2⟩ := fnd_some h
    rw [hg, srt_one hs h1 hz (h2.trans (beq_iff_eq.1 e).symm)]
  · rfl
end

end Go.Proofs.Ytihjmigjphljnaa
