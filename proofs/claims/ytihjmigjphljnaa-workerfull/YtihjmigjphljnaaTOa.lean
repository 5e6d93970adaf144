/-
  Alarms and their order; lists in order; heaps in a row, as plain mathematics.
-/
import Derived.WideShapes
import Derived.WideAt
namespace Go.Proofs.Ytihjmigjphljnaa.Tk

structure Al where
  nm : ByteArray
  at' : Int
abbrev Al.k (a : Al) : List UInt8 := a.nm.data.toList
theorem nm_of {a b : ByteArray} (h : a.data.toList = b.data.toList) : a = b := by
  obtain ⟨a⟩ := a
  obtain ⟨b⟩ := b
  congr 1
  exact Array.toList_inj.1 h
def ltB (a b : Al) : Bool := decide (a.at' < b.at') || (decide (a.at' = b.at') && bytesBefore a.k b.k)
def lt (a b : Al) : Prop := ltB a b = true
def le (a b : Al) : Prop := ltB b a = false
theorem lt_iff {a b : Al} : lt a b ↔ a.at' < b.at' ∨ a.at' = b.at' ∧ bytesBefore a.k b.k = true := by
  unfold lt ltB; simp
theorem lt_irrefl (a : Al) : ¬ lt a a := by
  rw [lt_iff, WideAt.bytes_irrefl]; simp
theorem lt_trans {a b c : Al} (h : lt a b) (k : lt b c) : lt a c := by
  rw [lt_iff] at *
  rcases h with h | ⟨h, h'⟩ <;> rcases k with k | ⟨k, k'⟩
  · left; omega
  · left; omega
  · left; omega
  · right; exact ⟨by omega, WideShapes.bytes_trans _ _ _ h' k'⟩
theorem le_iff {a b : Al} : le a b ↔ ¬ lt b a := by unfold le lt; simp
theorem lt_total {a b : Al} (h : a.k ≠ b.k) : lt a b ∨ lt b a := by
  rw [lt_iff, lt_iff]
  rcases Int.lt_trichotomy a.at' b.at' with h1 | h1 | h1
  · exact .inl (.inl h1)
  · rcases WideAt.bytes_total _ _ h with h2 | h2
    · exact .inl (.inr ⟨h1, h2⟩)
    · exact .inr (.inr ⟨h1.symm, h2⟩)
  · exact .inr (.inl h1)
theorem eq_or {a b : Al} : a = b ∨ lt a b ∨ lt b a := by
  by_cases h : a.k = b.k
  · rcases Int.lt_trichotomy a.at' b.at' with h1 | h1 | h1
    · exact .inr (.inl (lt_iff.2 (.inl h1)))
    · left
      obtain ⟨x, y⟩ := a
      obtain ⟨x', y'⟩ := b
      have := nm_of h
      simp only at this h1
      rw [this, h1]
    · exact .inr (.inr (lt_iff.2 (.inl h1)))
  · exact .inr (lt_total h)
theorem lt_le {a b : Al} (h : lt a b) : le a b := le_iff.2 fun k => lt_irrefl _ (lt_trans h k)
theorem le_refl (a : Al) : le a a := le_iff.2 (lt_irrefl a)
theorem le_trans {a b c : Al} (h : le a b) (k : le b c) : le a c := by
  rw [le_iff] at *
  intro q
  rcases eq_or (a := b) (b := c) with rfl | r | r
  · exact h q
  · rcases eq_or (a := a) (b := b) with rfl | s | s
    · exact k (by exact absurd q (fun q => lt_irrefl _ (lt_trans r q)))
    · exact lt_irrefl _ (lt_trans (lt_trans s r) q)
    · exact h s
  · exact k r
theorem lt_of_le {a b : Al} (h : le a b) (hn : a ≠ b) : lt a b := by
  rcases eq_or (a := a) (b := b) with r | r | r
  · exact absurd r hn
  · exact r
  · exact absurd r (le_iff.1 h)
theorem at_le {a b : Al} (h : le a b) : a.at' ≤ b.at' := by
  rw [le_iff, lt_iff] at h
  by_cases e : b.at' < a.at'
  · exact absurd (.inl e) h
  · omega

/-! ### lists in order -/
def Srt (l : List Al) : Prop := l.Pairwise lt
def ins (a : Al) : List Al → List Al
  | [] => [a]
  | b :: r => if ltB a b then a :: b :: r else b :: ins a r
def drp (n : List UInt8) (l : List Al) : List Al := l.filter fun b => !(b.k == n)
def fnd (n : List UInt8) (l : List Al) : Option Al := l.find? fun b => b.k == n
/-- no two of one name -/
def Nod (l : List Al) : Prop := l.Pairwise fun a b => a.k ≠ b.k
theorem ins_perm (a : Al) : ∀ l, (ins a l).Perm (a :: l)
  | [] => .refl _
  | b :: r => by
    unfold ins
    split
    · exact .refl _
    · exact ((ins_perm a r).cons b).trans (.swap a b r)
theorem mem_ins {a b : Al} {l : List Al} : b ∈ ins a l ↔ b = a ∨ b ∈ l := by rw [(ins_perm a l).mem_iff, List.mem_cons]
theorem ins_length (a : Al) (l : List Al) : (ins a l).length = l.length + 1 := (ins_perm a l).length_eq
theorem srt_ins {a : Al} : ∀ {l : List Al}, Srt l → (∀ b ∈ l, b.k ≠ a.k) → Srt (ins a l)
  | [], _, _ => List.pairwise_singleton _ _
  | b :: r, h, hn => by
    have h1 := List.pairwise_cons.1 h
    unfold ins
    split
    · rename_i q
      refine List.pairwise_cons.2 ⟨fun c hc => ?_, h⟩
      rcases List.mem_cons.1 hc with rfl | hc
      · exact q
      · exact lt_trans q (h1.1 c hc)
    · rename_i q
      refine List.pairwise_cons.2 ⟨fun c hc => ?_, srt_ins h1.2 fun c hc => hn c (List.mem_cons_of_mem _ hc)⟩
      rcases mem_ins.1 hc with rfl | hc
      · exact (lt_total (hn b (List.mem_cons_self ..))).resolve_right q
      · exact h1.1 c hc
theorem nod_perm {l l' : List Al} (p : l.Perm l') (h : Nod l) : Nod l' := (p.pairwise_iff fun {_ _} h => Ne.symm h).1 h
theorem srt_drp {n : List UInt8} {l : List Al} (h : Srt l) : Srt (drp n l) := h.filter _
theorem nod_drp {n : List UInt8} {l : List Al} (h : Nod l) : Nod (drp n l) := List.Pairwise.filter _ h
theorem mem_drp {n : List UInt8} {l : List Al} {b : Al} : b ∈ drp n l ↔ b ∈ l ∧ b.k ≠ n := by simp [drp]
theorem nod_ins {a : Al} {l : List Al} (h : Nod l) (hn : ∀ b ∈ l, b.k ≠ a.k) : Nod (ins a l) :=
  nod_perm (ins_perm a l).symm (List.pairwise_cons.2 ⟨fun b hb e => hn b hb e.symm, h⟩)
theorem fnd_some {n : List UInt8} {l : List Al} {a : Al} (h : fnd n l = some a) : a ∈ l ∧ a.k = n := ⟨List.mem_of_find?_eq_some h, by have := List.find?_some h; simpa using this⟩
theorem fnd_none {n : List UInt8} {l : List Al} (h : fnd n l = none) : ∀ b ∈ l, b.k ≠ n := fun b hb e => by
  have := List.find?_eq_none.1 h b hb
  simp [e] at this
theorem nod_one {l : List Al} (h : Nod l) {a b : Al} (ha : a ∈ l) (hb : b ∈ l) (e : a.k = b.k) : a = b := by
  induction l with
  | nil => cases ha
  | cons c r ih =>
    have h1 := List.pairwise_cons.1 h
    rcases List.mem_cons.1 ha with rfl | ha'
    · rcases List.mem_cons.1 hb with rfl | hb'
      · rfl
      · exact absurd e (h1.1 b hb')
    · rcases List.mem_cons.1 hb with rfl | hb'
      · exact absurd e.symm (h1.1 a ha')
      · exact ih h1.2 ha' hb'
theorem fnd_of {l : List Al} (h : Nod l) {a : Al} (ha : a ∈ l) : fnd a.k l = some a := by
  cases q : fnd a.k l with
  | none => exact absurd rfl (fnd_none q a ha)
  | some b =>
    obtain ⟨h1, h2⟩ := fnd_some q
    rw [nod_one h h1 ha h2]
theorem fnd_perm {l l' : List Al} (p : l.Perm l') (h : Nod l) (n : List UInt8) : fnd n l = fnd n l' := by
  cases q : fnd n l' with
  | none =>
    cases q' : fnd n l with
    | none => rfl
    | some a =>
      obtain ⟨h1, h2⟩ := fnd_some q'
      exact absurd h2 (fnd_none q a (p.mem_iff.1 h1))
  | some a =>
    obtain ⟨h1, h2⟩ := fnd_some q
    rw [← h2]
    exact fnd_of h (p.mem_iff.2 h1)
theorem drp_none {n : List UInt8} {l : List Al} (h : ∀ b ∈ l, b.k ≠ n) : drp n l = l := List.filter_eq_self.2 fun b hb => by simpa using h b hb
theorem drp_cons_perm {l : List Al} (h : Nod l) {a : Al} (ha : a ∈ l) : l.Perm (a :: drp a.k l) := by
  induction l with
  | nil => cases ha
  | cons c r ih =>
    have h1 := List.pairwise_cons.1 h
    rcases List.mem_cons.1 ha with rfl | ha'
    · have : drp a.k (a :: r) = r := by
        unfold drp
        rw [List.filter_cons_of_neg (by simp)]
        exact drp_none fun b hb e => h1.1 b hb e.symm
      rw [this]
    · have : drp a.k (c :: r) = c :: drp a.k r := by
        unfold drp
        rw [List.filter_cons_of_pos (by simpa using h1.1 a ha')]
      rw [this]
      exact ((ih h1.2 ha').cons c).trans (.swap a c _)
theorem srt_uniq : ∀ {l l' : List Al}, l.Perm l' → Srt l → Srt l' → l = l'
  | [], l', p, _, _ => (List.nil_perm.1 p).symm
  | a :: r, [], p, _, _ => absurd (List.perm_nil.1 p) (by simp)
  | a :: r, b :: s, p, h, k => by
    have h1 := List.pairwise_cons.1 h
    have k1 := List.pairwise_cons.1 k
    have e : a = b := by
      have ha : a ∈ b :: s := p.mem_iff.1 (List.mem_cons_self ..)
      have hb : b ∈ a :: r := p.mem_iff.2 (List.mem_cons_self ..)
      rcases List.mem_cons.1 ha with e | ha
      · exact e
      · rcases List.mem_cons.1 hb with e | hb
        · exact e.symm
        · exact absurd (lt_trans (h1.1 b hb) (k1.1 a ha)) (lt_irrefl _)
    subst e
    rw [srt_uniq (List.perm_cons a |>.1 p) h1.2 k1.2]
end Go.Proofs.Ytihjmigjphljnaa.Tk
