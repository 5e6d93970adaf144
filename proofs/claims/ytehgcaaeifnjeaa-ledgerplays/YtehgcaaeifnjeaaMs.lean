/-
  Entries one behind the other are a matter of sums.
-/
import Derived.Test.YtehgcaaeifnjeaaDk
namespace Go.Proofs.Ytehgcaaeifnjeaa
open Go.RowKit Go.Maps

def tot : List E → List UInt8 → V
  | [], _ => V.nil
  | e :: r, n => if e.n = n then e.am.add (tot r n) else tot r n
theorem tot_cons (e : E) (r : List E) (n : List UInt8) : tot (e :: r) n = if e.n = n then e.am.add (tot r n) else tot r n := rfl
theorem V.add_nil (v : V) : v.add V.nil = v := by unfold V.add V.nil; simp
theorem V.add_assoc (a b c : V) : (a.add b).add c = a.add (b.add c) := by unfold V.add; simp only [V.mk.injEq]; omega
theorem V.add_comm (a b : V) : a.add b = b.add a := by unfold V.add; simp only [V.mk.injEq]; omega
theorem V.sub_add (a b c : V) : (a.sub b).sub c = a.sub (b.add c) := by unfold V.add V.sub; simp only [V.mk.injEq]; omega
theorem V.sub_nil (v : V) : v.sub V.nil = v := by unfold V.sub V.nil; simp
theorem V.add_sub (a b : V) : (a.add b).sub b = a := by unfold V.add V.sub; apply V.ext' <;> simp only <;> omega
/-- not below nothing -/
def V.pos (v : V) : Prop := 0 ≤ v.a ∧ 0 ≤ v.b ∧ 0 ≤ v.c ∧ 0 ≤ v.d
theorem V.pos_ok {v : V} (h : v.ok = true) : v.pos := by have := V.ok_iff.1 h; unfold V.pos; omega
theorem V.pos_nil : V.nil.pos := by unfold V.pos V.nil; simp
theorem V.pos_add {v u : V} (h : v.pos) (k : u.pos) : (v.add u).pos := by unfold V.pos V.add at *; simp only at *; omega
theorem V.le_of_add {u m t l : V} (h : ((u.add (m.add t)).le l) = true) (ht : t.pos) : (u.add m).le l = true := by
  have h := V.le_iff.1 h
  unfold V.pos V.add at *
  refine V.le_iff.2 ?_
  simp only at *
  omega
theorem V.le_of_sum {u m t : V} (h : (m.add t).le u = true) (ht : t.pos) : m.le u = true := by
  have h := V.le_iff.1 h
  unfold V.pos V.add at *
  refine V.le_iff.2 ?_
  simp only at *
  omega
theorem V.le_sub {u m t : V} : t.le (u.sub m) = true ↔ (m.add t).le u = true := by
  rw [V.le_iff, V.le_iff]
  unfold V.add V.sub
  simp only
  omega
theorem tot_pos {es : List E} (h : ∀ e ∈ es, e.am.ok = true) (n : List UInt8) : (tot es n).pos := by
  induction es with
  | nil => exact V.pos_nil
  | cons e r ih =>
    have ih := ih fun x hx => h x (List.mem_cons_of_mem _ hx)
    unfold tot
    split
    · exact V.pos_add (V.pos_ok (h e (List.mem_cons_self ..))) ih
    · exact ih
theorem tot_none {es : List E} {n : List UInt8} (h : ∀ e ∈ es, e.n ≠ n) : tot es n = V.nil := by
  induction es with
  | nil => rfl
  | cons e r ih =>
    unfold tot
    rw [if_neg (h e (List.mem_cons_self ..)), ih fun x hx => h x (List.mem_cons_of_mem _ hx)]
theorem tot_append (a b : List E) (n : List UInt8) : tot (a ++ b) n = (tot a n).add (tot b n) := by
  induction a with
  | nil => simp [tot, nil_add]
  | cons e r ih =>
    simp only [List.cons_append]
    rw [tot_cons, tot_cons]
    split
    · rw [ih, V.add_assoc]
    · rw [ih]

/-- all accounts are there and have room -/
def Room (D : List A) (u : List UInt8 → V) (es : List E) : Prop := ∀ e ∈ es, ∃ a, fnd A.nm e.n D = some a ∧ ((u e.n).add (tot es e.n)).le a.lim = true
def Has (D : List A) (u : List UInt8 → V) (es : List E) : Prop := ∀ e ∈ es, (∃ a, fnd A.nm e.n D = some a) ∧ (tot es e.n).le (u e.n) = true

theorem seq_take_ok {D : List A} : ∀ {es : List E} {u : List UInt8 → V}, (∀ e ∈ es, e.am.ok = true) → Room D u es → seqU takeF D u es = some fun n => (u n).add (tot es n)
  | [], u, _, _ => by
    unfold seqU tot
    simp only [V.add_nil]
  | e :: r, u, hok, hr => by
    have hok' : ∀ x ∈ r, x.am.ok = true := fun x hx => hok x (List.mem_cons_of_mem _ hx)
    obtain ⟨a, ha, hl⟩ := hr e (List.mem_cons_self ..)
    have ht : tot (e :: r) e.n = e.am.add (tot r e.n) := by rw [tot_cons, if_pos rfl]
    rw [ht] at hl
    have h1 := V.le_of_add hl (tot_pos hok' _)
    have key : ∀ n, (if n = e.n then (u e.n).add e.am else u n).add (tot r n) = (u n).add (tot (e :: r) n) := fun n => by
      by_cases q : n = e.n
      · subst q
        rw [if_pos rfl, ht, V.add_assoc]
      · have : tot (e :: r) n = tot r n := by
          rw [tot_cons, if_neg (fun h => q h.symm)]
        rw [if_neg q, this]
    unfold seqU
    rw [ha]
    simp only
    unfold takeF
    rw [if_pos h1]
    simp only
    have := seq_take_ok (D := D) (es := r) (u := fun n => if n = e.n then (u e.n).add e.am else u n) hok' fun x hx => by
      obtain ⟨b, hb, hbl⟩ := hr x (List.mem_cons_of_mem _ hx)
      exact ⟨b, hb, by rw [key]; exact hbl⟩
    unfold takeF at this
    rw [this]
    congr 1
    funext n
    exact key n
theorem seq_take_some {D : List A} : ∀ {es : List E} {u u' : List UInt8 → V}, seqU takeF D u es = some u' → Room D u es ∧ u' = fun n => (u n).add (tot es n)
  | [], u, u', h => by
    unfold seqU at h
    refine ⟨fun e he => (nomatch he), ?_⟩
    rw [← Option.some.inj h]
    unfold tot
    simp only [V.add_nil]
  | e :: r, u, u', h => by
    have ht : tot (e :: r) e.n = e.am.add (tot r e.n) := by rw [tot_cons, if_pos rfl]
    have key : ∀ n, (if n = e.n then (u e.n).add e.am else u n).add (tot r n) = (u n).add (tot (e :: r) n) := fun n => by
      by_cases q : n = e.n
      · subst q
        rw [if_pos rfl, ht, V.add_assoc]
      · have : tot (e :: r) n = tot r n := by
          rw [tot_cons, if_neg (fun h => q h.symm)]
        rw [if_neg q, this]
    unfold seqU at h
    split at h
    · cases h
    · rename_i a ha
      split at h
      · cases h
      · rename_i x hx
        unfold takeF at hx
        split at hx
        · rename_i hle
          obtain rfl := Option.some.inj hx
          obtain ⟨h1, h2⟩ := seq_take_some h
          refine ⟨fun y hy => ?_, ?_⟩
          · by_cases hm : ∃ z ∈ r, z.n = y.n
            · obtain ⟨z, hz, e1⟩ := hm
              obtain ⟨b, hb, hbl⟩ := h1 z hz
              rw [key, e1] at hbl
              rw [e1] at hb
              exact ⟨b, hb, hbl⟩
            · have hn : ∀ z ∈ r, z.n ≠ y.n := fun z hz q => hm ⟨z, hz, q⟩
              rcases List.mem_cons.1 hy with rfl | hy
              · refine ⟨a, ha, ?_⟩
                rw [ht, tot_none hn, V.add_nil]
                exact hle
              · exact absurd rfl (hn y hy)
          · rw [h2]
            funext n
            exact key n
        · cases hx
theorem seq_give_ok {D : List A} : ∀ {es : List E} {u : List UInt8 → V}, (∀ e ∈ es, e.am.ok = true) → Has D u es → seqU giveF D u es = some fun n => (u n).sub (tot es n)
  | [], u, _, _ => by
    unfold seqU tot
    simp only [V.sub_nil]
  | e :: r, u, hok, hr => by
    have hok' : ∀ x ∈ r, x.am.ok = true := fun x hx => hok x (List.mem_cons_of_mem _ hx)
    obtain ⟨⟨a, ha⟩, hl⟩ := hr e (List.mem_cons_self ..)
    have ht : tot (e :: r) e.n = e.am.add (tot r e.n) := by rw [tot_cons, if_pos rfl]
    rw [ht] at hl
    have h1 := V.le_of_sum hl (tot_pos hok' _)
    have ho : ∀ n, ¬ n = e.n → tot (e :: r) n = tot r n := fun n q => by
      rw [tot_cons, if_neg (fun h => q h.symm)]
    have key : ∀ n, (if n = e.n then (u e.n).sub e.am else u n).sub (tot r n) = (u n).sub (tot (e :: r) n) := fun n => by
      by_cases q : n = e.n
      · subst q
        rw [if_pos rfl, ht, V.sub_add]
      · rw [if_neg q, ho n q]
    unfold seqU
    rw [ha]
    simp only
    unfold giveF
    rw [if_pos h1]
    simp only
    have := seq_give_ok (D := D) (es := r) (u := fun n => if n = e.n then (u e.n).sub e.am else u n) hok' fun x hx => by
      obtain ⟨hb, hbl⟩ := hr x (List.mem_cons_of_mem _ hx)
      refine ⟨hb, ?_⟩
      show (tot r x.n).le (if x.n = e.n then (u e.n).sub e.am else u x.n) = true
      by_cases q : x.n = e.n
      · rw [if_pos q, V.le_sub]
        rw [q] at hbl ⊢
        rw [← ht]
        exact hbl
      · rw [if_neg q, ← ho _ q]
        exact hbl
    unfold giveF at this
    rw [this]
    congr 1
    funext n
    exact key n
theorem seq_give_some {D : List A} : ∀ {es : List E} {u u' : List UInt8 → V}, seqU giveF D u es = some u' → Has D u es ∧ u' = fun n => (u n).sub (tot es n)
  | [], u, u', h => by
    unfold seqU at h
    refine ⟨fun e he => (nomatch he), ?_⟩
    rw [← Option.some.inj h]
    unfold tot
    simp only [V.sub_nil]
  | e :: r, u, u', h => by
    have ht : tot (e :: r) e.n = e.am.add (tot r e.n) := by rw [tot_cons, if_pos rfl]
    have ho : ∀ n, ¬ n = e.n → tot (e :: r) n = tot r n := fun n q => by
      rw [tot_cons, if_neg (fun h => q h.symm)]
    have key : ∀ n, (if n = e.n then (u e.n).sub e.am else u n).sub (tot r n) = (u n).sub (tot (e :: r) n) := fun n => by
      by_cases q : n = e.n
      · subst q
        rw [if_pos rfl, ht, V.sub_add]
      · rw [if_neg q, ho n q]
    unfold seqU at h
    split at h
    · cases h
    · rename_i a ha
      split at h
      · cases h
      · rename_i x hx
        unfold giveF at hx
        split at hx
        · rename_i hle
          obtain rfl := Option.some.inj hx
          obtain ⟨h1, h2⟩ := seq_give_some h
          refine ⟨fun y hy => ?_, ?_⟩
          · by_cases hm : ∃ z ∈ r, z.n = y.n
            · obtain ⟨z, hz, e1⟩ := hm
              obtain ⟨hb, hbl⟩ := h1 z hz
              rw [e1] at hb hbl
              refine ⟨hb, ?_⟩
              replace hbl : (tot r y.n).le (if y.n = e.n then (u e.n).sub e.am else u y.n) = true := hbl
              by_cases q : y.n = e.n
              · rw [if_pos q, V.le_sub] at hbl
                rw [q] at hbl ⊢
                rw [ht]
                exact hbl
              · rw [if_neg q, ← ho _ q] at hbl
                exact hbl
            · have hn : ∀ z ∈ r, z.n ≠ y.n := fun z hz q => hm ⟨z, hz, q⟩
              rcases List.mem_cons.1 hy with rfl | hy
              · refine ⟨⟨a, ha⟩, ?_⟩
                rw [ht, tot_none hn, V.add_nil]
                exact hle
              · exact absurd rfl (hn y hy)
          · rw [h2]
            funext n
            exact key n
        · cases hx
/-! ### the lists behind -/
theorem fnd_setU (u : List UInt8 → V) (D : List A) (n : List UInt8) : fnd A.nm n (setU u D) = (fnd A.nm n D).map fun a => ⟨a.nm, a.lim, u a.nm⟩ := (map_fnd (f := fun a : A => A.mk a.nm a.lim (u a.nm)) (mn := A.nm) (fun _ => rfl) n D).symm
theorem srt_setU {u : List UInt8 → V} {D : List A} (h : Srt A.nm D) : Srt A.nm (setU u D) := List.pairwise_map.2 h
theorem u0_setU {u : List UInt8 → V} {D : List A} {n : List UInt8} {a : A} (h : fnd A.nm n D = some a) : u0 (setU u D) n = u n := by
  unfold u0
  rw [fnd_setU, h]
  simp [(fnd_some h).2]
theorem setU_setU (u v : List UInt8 → V) (D : List A) : setU u (setU v D) = setU u D := by unfold setU; rw [List.map_map]; rfl
theorem setU_u0 {D : List A} (h : Srt A.nm D) : setU (u0 D) D = D := by
  unfold setU
  refine (List.map_congr_left fun a ha => ?_).trans (List.map_id _)
  have : fnd A.nm a.nm D = some a := by
    cases hf : fnd A.nm a.nm D with
    | none => exact absurd rfl (fnd_none hf a ha)
    | some b => rw [srt_one h (fnd_some hf).1 ha (fnd_some hf).2]
  unfold u0
  rw [this]
  rfl
theorem setU_congr {u v : List UInt8 → V} {D : List A} (h : ∀ a ∈ D, u a.nm = v a.nm) : setU u D = setU v D := List.map_congr_left fun a ha => by rw [h a ha]
theorem fnd_self {D : List A} (h : Srt A.nm D) {a : A} (ha : a ∈ D) : fnd A.nm a.nm D = some a := by
  cases hf : fnd A.nm a.nm D with
  | none => exact absurd rfl (fnd_none hf a ha)
  | some b => rw [srt_one h (fnd_some hf).1 ha (fnd_some hf).2]
end Go.Proofs.Ytehgcaaeifnjeaa
