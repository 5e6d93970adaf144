/-
  MinmaxSorts: what is popped, as lists; rows of numbers.
-/
import Derived.Test.YtbaffgkopgbknaaLf
namespace Go.Proofs.Ytbaffgkopgbknaa
open Go.RowKit Go.Maps

def NoS : Nat → Prop := fun _ => False
def lk (L : List K) (i : Nat) : K := L.getD i kz
theorem lk_at {L : List K} {i : Nat} (h : i < L.length) : lk L i = L[i] := by unfold lk; rw [List.getD_eq_getElem?_getD, List.getElem?_eq_getElem h]; rfl
/-- an entry as a number -/
def ev (L : List K) (s x : Nat) : Int := sg s (enc (lk L x) x)
/-- what is left -/
def rest (L : List K) (ul : List Nat) : Ct := fun x => if (0 ≤ x ∧ x < (L.length : Int)) ∧ x.toNat ∉ ul then some (lk L x.toNat) else none
theorem rest_nil (L : List K) : rest L [] = cf (lk L) L.length := by
  funext x
  unfold rest cf
  by_cases q : 0 ≤ x ∧ x < (L.length : Int)
  · rw [if_pos ⟨q, by simp⟩, if_pos q]
  · rw [if_neg (fun h => q h.1), if_neg q]
theorem rest_some {L : List K} {ul : List Nat} {x : Nat} {k : K} (h : rest L ul x = some k) : x < L.length ∧ x ∉ ul ∧ k = lk L x := by
  unfold rest at h
  split at h
  · rename_i q
    exact ⟨by omega, by simpa using q.2, (Option.some.inj h).symm⟩
  · cases h
theorem rest_at {L : List K} {ul : List Nat} {x : Nat} (h : x < L.length) (hx : x ∉ ul) : rest L ul x = some (lk L x) := by
  unfold rest
  rw [if_pos ⟨⟨by omega, by omega⟩, by simpa using hx⟩]
  rfl
theorem rest_del (L : List K) (ul : List Nat) (x : Nat) : (rest L ul).del x = rest L (ul ++ [x]) := by
  funext y
  unfold Ct.del rest
  by_cases e : y = (x : Int)
  · subst e
    rw [if_pos rfl, if_neg (by simp)]
  · rw [if_neg e]
    by_cases q : (0 ≤ y ∧ y < (L.length : Int)) ∧ y.toNat ∉ ul
    · rw [if_pos q, if_pos ⟨q.1, by rw [List.mem_append, List.mem_singleton]; rintro (h | h)
                                    · exact q.2 h
                                    · omega⟩]
    · rw [if_neg q, if_neg fun h => q ⟨h.1, fun h' => h.2 (List.mem_append_left _ h')⟩]
/-- what was popped from one side -/
structure Ps (L : List K) (s : Nat) (ul : List Nat) : Prop where
  pw : ul.Pairwise fun a b => ev L s a < ev L s b
  lt : ∀ a ∈ ul, a < L.length
  le : ∀ a ∈ ul, ∀ y, y < L.length → y ∉ ul → ev L s a < ev L s y
theorem ev_inj {L : List K} {s x y : Nat} (hs : s ≤ 1) (hx : x < 1048576) (hy : y < 1048576) (h : ev L s x = ev L s y) : x = y := by
  unfold ev sg enc at h
  rcases (by omega : s = 0 ∨ s = 1) with rfl | rfl
  · rw [if_pos rfl, if_pos rfl] at h; omega
  · rw [if_neg (by decide), if_neg (by decide)] at h; omega
theorem Ps.nil (L : List K) (s : Nat) : Ps L s [] := ⟨List.Pairwise.nil, nofun, nofun⟩
theorem Ps.next {L : List K} {s x : Nat} {ul : List Nat} {k : K} (h : Ps L s ul) (hs : s ≤ 1) (hL : L.length ≤ 1000) (e : (rest L ul).ext s x k) : Ps L s (ul ++ [x]) ∧ x < L.length ∧ k = lk L x := by
  obtain ⟨h1, h2, h3⟩ := rest_some e.1
  subst h3
  refine ⟨⟨?_, fun a ha => ?_, fun a ha y hy hn => ?_⟩, h1, rfl⟩
  · rw [List.pairwise_append]
    exact ⟨h.pw, List.pairwise_singleton _ _, fun a ha b hb => by rw [List.mem_singleton.1 hb]; exact h.le a ha x h1 h2⟩
  · rcases List.mem_append.1 ha with q | q
    · exact h.lt a q
    · rw [List.mem_singleton.1 q]; exact h1
  · have hny : y ∉ ul := fun q => hn (List.mem_append_left _ q)
    rcases List.mem_append.1 ha with q | q
    · exact h.le a q y hy hny
    · rw [List.mem_singleton.1 q]
      have := e.2 y (lk L y) (rest_at hy hny)
      have hne : ev L s x ≠ ev L s y := fun q' => hn (by rw [← ev_inj hs (by omega) (by omega) q']; exact List.mem_append_right _ (List.mem_singleton.2 rfl))
      unfold ev at *
      omega
theorem sorted_eq {e : Nat → Int} : ∀ (l1 l2 : List Nat), l1.Pairwise (fun a b => e a < e b) → l2.Pairwise (fun a b => e a < e b) → (∀ x, x ∈ l1 ↔ x ∈ l2) → l1 = l2
  | [], l2, _, _, h => by
    cases l2 with
    | nil => rfl
    | cons b t => have := (h b).2 (List.mem_cons_self ..); cases this
  | a :: t, [], _, _, h => by have := (h a).1 (List.mem_cons_self ..); cases this
  | a :: t, b :: u, h1, h2, h => by
    obtain ⟨p1, p2⟩ := List.pairwise_cons.1 h1
    obtain ⟨q1, q2⟩ := List.pairwise_cons.1 h2
    have eab : a = b := by
      rcases List.mem_cons.1 ((h a).1 (List.mem_cons_self ..)) with q | q
      · exact q
      · rcases List.mem_cons.1 ((h b).2 (List.mem_cons_self ..)) with r | r
        · exact r.symm
        · have := p1 b r
          have := q1 a q
          omega
    subst eab
    rw [sorted_eq t u p2 q2 fun x => ?_]
    constructor
    · intro hx
      rcases List.mem_cons.1 ((h x).1 (List.mem_cons_of_mem _ hx)) with q | q
      · have := p1 x hx; rw [q] at this; omega
      · exact q
    · intro hx
      rcases List.mem_cons.1 ((h x).2 (List.mem_cons_of_mem _ hx)) with q | q
      · have := q1 x hx; rw [q] at this; omega
      · exact q
/-- both lists, whole -/
theorem both_lists {L : List K} {ul dl : List Nat} (hu : Ps L 0 ul) (hd : Ps L 1 dl) (mu : ∀ x, x < L.length → x ∈ ul) (md : ∀ x, x < L.length → x ∈ dl) : ul = dl.reverse := by
  refine sorted_eq (e := ev L 0) ul dl.reverse hu.pw ?_ fun x => ?_
  · rw [List.pairwise_reverse]
    refine hd.pw.imp fun {a b} h => ?_
    unfold ev sg at *
    rw [if_neg (by decide), if_neg (by decide)] at h
    rw [if_pos rfl, if_pos rfl]
    omega
  · rw [List.mem_reverse]
    exact ⟨fun h => md x (hu.lt x h), fun h => mu x (hd.lt x h)⟩
section
variable {w0 w w' : World} {ha hb ga na gb nb : Nat} {Ca Cb : Ct} {T T' : Nat → Prop}
theorem Tw.none (h : Tw w0 w ha Ca ga 0 hb Cb gb nb T) (x : Int) : Ca x = Option.none := by
  obtain ⟨Sa, Sb, h1, _⟩ := h.ex
  rw [← h1.c]
  cases q : Sa.cont x with
  | none => rfl
  | some k =>
    obtain ⟨b, k1, _⟩ := cont_some q
    rw [List.eq_nil_of_length_eq_zero h1.n] at k1
    cases k1
/-- somebody else's row grown -/
theorem Tw.grow {r r' : Option Nat} (h : Tw w0 w ha Ca ga na hb Cb gb nb T) (k : Kp (fun k => r = some k) w w') (hr : ∀ k, r = some k → T k ∧ w0.heap.size ≤ k) (hr' : ∀ k, r' = some k → (r = some k ∨ w.heap.size ≤ k) ∧ k < w'.heap.size) : Tw w0 w' ha Ca ga na hb Cb gb nb (fun k => T k ∨ r' = some k) := by
  obtain ⟨Sa, Sb, h1, h2, h3, h4⟩ := h.ex
  refine ⟨⟨Sa, Sb, h1.keep fun k' q => k.block k' (h1.h.lt k' q) fun e => (h3 k' q).2.1 (hr k' e).1, h2.keep fun k' q => k.block k' (h2.h.lt k' q) fun e => (h4 k' q).2 (hr k' e).1, fun k' q => ⟨(h3 k' q).1, ?_, (h3 k' q).2.2⟩, fun k' q => ⟨(h4 k' q).1, ?_⟩⟩, h.b.trans (k.below h.b.size fun k' hk' e => by have := (hr k' e).2; omega), fun k' t => ?_⟩
  · rintro (t | t)
    · exact (h3 k' q).2.1 t
    · rcases (hr' k' t).1 with e | e
      · exact (h3 k' q).2.1 (hr k' e).1
      · have := h1.h.lt k' q; omega
  · rintro (t | t)
    · exact (h4 k' q).2 t
    · rcases (hr' k' t).1 with e | e
      · exact (h4 k' q).2 (hr k' e).1
      · have := h2.h.lt k' q; omega
  · rcases t with t | t
    · exact Nat.lt_of_lt_of_le (h.t k' t) k.size
    · exact (hr' k' t).2
end
/-! ### rows of numbers -/
theorem info3 : (Try.prog.info? 3).map (fun i => (i.zero, i.size, i.bytes)) = some (some (.int .i64 0), 1, 8) := by kernel_rfl
def nv (x : Nat) : Value := .int .i64 x
def Rw (w : World) (v : Value) (l : List Nat) : Prop := w.ownsRow 0 3 1 v l.length (l.map nv)
theorem Rw.nil (w : World) : Rw w (.slice none 0 0) [] := World.ownsRow_nil w 0 3 1
theorem Rw.shape {w : World} {v : Value} {l : List Nat} (h : Rw w v l) : ∃ a c, v = .slice a l.length c := by
  rcases h.2 with ⟨rfl, h0⟩ | ⟨g, cap, cur, rfl, _⟩
  · exact ⟨none, 0, by rw [h0]⟩
  · exact ⟨_, _, rfl⟩
theorem Rw.row {w : World} {v : Value} {l : List Nat} (h : Rw w v l) (hl : l ≠ []) : ∃ g c, v = .slice (some ⟨g, 0, none⟩) l.length c := by
  rcases h.2 with ⟨rfl, h0⟩ | ⟨g, cap, cur, rfl, _⟩
  · exact absurd (List.eq_nil_of_length_eq_zero h0) hl
  · exact ⟨g, cap, rfl⟩
theorem Rw.lt {w : World} {v : Value} {l : List Nat} (h : Rw w v l) {g : Nat} (e : v.ownBlock = some g) : g < w.heap.size := (World.ownsRow.lt h g e).2
theorem Rw.keep {w w1 : World} {v : Value} {l : List Nat} (h : Rw w v l) (b : ∀ g, v.ownBlock = some g → w1.heap[g]? = w.heap[g]?) : Rw w1 v l := ownsKeep h b
theorem Rw.cell {w : World} {g n c : Nat} {l : List Nat} (h : Rw w (.slice (some ⟨g, 0, none⟩) n c) l) {k : Nat} (hk : k < l.length) : w.cell? ⟨g, k, none⟩ = some (.int .i64 l[k]) := by
  have := World.ownsRow.cells h (g := g) rfl k (nv l[k]) (by rw [List.getElem?_map, List.getElem?_eq_getElem hk]; rfl)
  rw [Addr.add_lit, Nat.zero_add] at this
  exact this
theorem append_nat {ops : Array Oper} {rest : List Oper} {o : Oper} {a : Act} {Q : Exit → Act → World → Prop} {w : World} (hgd : o.guard = none) (s x : Operand)
    (ho : o.op = .call { callee := .builtin .append, args := #[s, x], argTypes := #[41, 41] }) (v : Value) (l : List Nat) (b : Nat) (hs : a.eval s = v) (hown : Rw w v l)
    (g c : Nat) (hx : a.eval x = .slice (some ⟨g, 0, none⟩) 1 c) (hm : w.cell? ⟨g, 0, none⟩ = some (nv b)) (hb : l.length ≤ 1048576)
    (h : ∀ v' w', Rw w' v' (l ++ [b]) → w.grownBy w' v.ownBlock → (v'.ownBlock = v.ownBlock ∨ v'.ownBlock = some w.heap.size) → wpList Try.prog ops Q rest (a.put o.dst v') w') :
    wpList Try.prog ops Q (o :: rest) a w := by
  obtain ⟨i0, hi, hz0, hz1, hz2⟩ := info_parts info3
  refine wpList_append_own_at _ hgd s x 41 ho 0 3 i0 (.int .i64 0) 1 8 Try.underlying41 hi hz0 hz1 hz2 rfl (by decide) v l.length (l.map nv) hs hown _ 1 c [nv b] hx rfl
    (fun j u hu => ?_) (by intro u hu; simp only [List.mem_singleton] at hu; subst hu; rfl) (by unfold maxLen; omega) (by omega) (Nat.zero_le _) (fun v' w' h1 h2 _ h4 => h v' w' ?_ h2 h4)
  · cases j with
    | zero => simp at hu; subst hu; exact hm
    | succ j => simp at hu
  · unfold Rw
    rw [List.length_append, List.map_append]
    exact h1
end Go.Proofs.Ytbaffgkopgbknaa
