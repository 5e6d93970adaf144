/-
  Records that are owned.
-/
import Derived.Test.YtplcpjngpkghmaaJp
namespace Go.Proofs.Ytplcpjngpkghmaa
open Go.RowKit Go.Maps

/-- values put behind an owned row -/
theorem append_vals {ops : Array Oper} {rest : List Oper} {o : Oper} {a : Act} {Q : Exit → Act → World → Prop} {w : World} {t e : TypeId} {size bytes : Nat} {z : Value} (hu : Try.prog.underlying t = some (.slice e)) (hinfo : (Try.prog.info? e).map (fun i => (i.zero, i.size, i.bytes)) = some (some z, size, bytes)) (hzs : z.cells.size = size) (hsz : 0 < size)
    (hgd : o.guard = none) (s x : Operand) (ho : o.op = .call { callee := .builtin .append, args := #[s, x], argTypes := #[t, t] }) (B : Nat) (v : Value) (n : Nat) (xs : List Value) (hs : a.eval s = v) (hown : w.ownsRow B e size v n xs)
    (g off : Nat) (c m : Nat) (news : List Value) (hx : a.eval x = .slice (some ⟨g, off, none⟩) m c) (hl : news.length = m * size) (hm : RowV w g off news) (h1 : ∀ u ∈ news, u.oneCell' = true) (h63 : n + m ≤ maxLen) (hb : (n + m) * bytes ≤ 140737488355328) (hB : B ≤ w.heap.size)
    (h : ∀ v' w', w'.ownsRow B e size v' (n + m) (xs ++ news) → w.grownBy w' v.ownBlock → wpList Try.prog ops Q rest (a.put o.dst v') w') :
    wpList Try.prog ops Q (o :: rest) a w := by
  obtain ⟨i0, hi, hz0, hz1, hz2⟩ := info_parts hinfo
  refine wpList_append_own _ hgd s x t ho B e i0 z size bytes hu hi hz0 hz1 hz2 hzs hsz v n xs hs hown _ m c news hx hl (fun j u hj => ?_) h1 h63 hb hB (fun v' w' h1 h2 _ => h v' w' h1 h2)
  rw [Addr.add_lit]
  exact hm j u hj
/-- two owned rows of other types lie in other blocks -/
theorem owns_ne {w : World} {B B' t t' s s' n n' : Nat} {v v' : Value} {xs xs' : List Value} (h : w.ownsRow B t s v n xs) (h' : w.ownsRow B' t' s' v' n' xs') (ht : t ≠ t') {g : Nat} (e : v.ownBlock = some g) : v'.ownBlock ≠ some g := fun e' => by
  rcases h.2 with ⟨rfl, _⟩ | ⟨g1, cap, cur, rfl, hb, hgg, rest⟩
  · cases e
  · rcases h'.2 with ⟨rfl, _⟩ | ⟨g2, cap', cur', rfl, hb', hgg', rest'⟩
    · cases e'
    · have e1 : g1 = g := by simpa [Value.ownBlock] using e
      have e2 : g2 = g := by simpa [Value.ownBlock] using e'
      subst e1 e2
      rw [hgg] at hgg'
      cases hgg'
      exact ht rfl
structure PsOwn (w : World) (B : Nat) (v : Value) (l : List RC) : Prop where
  row : w.ownsRow B 31 1 v l.length (l.map RC.v)
  each : ∀ r ∈ l, Own w B r.v r.b
theorem PsOwn.nil (w : World) (B : Nat) : PsOwn w B (.slice none 0 0) [] := ⟨World.ownsRow_nil _ _ _ _, nofun⟩
theorem PsOwn.keep {w w1 : World} {B : Nat} {v : Value} {l : List RC} (h : PsOwn w B v l) (b : Below w.heap.size w w1) : PsOwn w1 B v l :=
  ⟨ownsKeep h.row fun g hg => b.block g (World.ownsRow.lt h.row g hg).2, fun r hr => (h.each r hr).keep b⟩
theorem PsOwn.low {w : World} {B B' : Nat} {v : Value} {l : List RC} (h : PsOwn w B v l) (hB : B' ≤ B) : PsOwn w B' v l := by
  refine ⟨⟨h.row.1, ?_⟩, fun r hr => (h.each r hr).low hB⟩
  rcases h.row.2 with hn | ⟨g, cap, cur, e, hb, rest⟩
  · exact .inl hn
  · exact .inr ⟨g, cap, cur, e, Nat.le_trans hB hb, rest⟩
theorem PsOwn.snoc {w w1 w2 : World} {B : Nat} {v v' : Value} {l : List RC} {r : RC} (h : PsOwn w B v l) (hr : Own w B r.v r.b) (b : Below w.heap.size w w1) (ho : w2.ownsRow B 31 1 v' (l.length + 1) (l.map RC.v ++ [r.v])) (hg : w1.grownBy w2 v.ownBlock) : PsOwn w2 B v' (l ++ [r]) := by
  refine ⟨by rw [List.length_append, List.map_append]; exact ho, fun x hx => ?_⟩
  have hx' : Own w B x.v x.b := by
    rcases List.mem_append.1 hx with hx | hx
    · exact h.each x hx
    · simp only [List.mem_singleton] at hx
      subst hx
      exact hr
  refine hx'.keepAt fun g hgx => ?_
  have hlt := (World.ownsRow.lt hx' g hgx).2
  rw [hg.block g (Nat.lt_of_lt_of_le hlt b.size) (fun e => owns_ne (w := w) hx' h.row (by decide) hgx e.symm)]
  exact b.block g hlt
theorem row_one {w : World} {u : Value} {t : TypeId} : RowV (w.alloc (.cells #[u] t)) w.heap.size 0 [u] := fun k x hx => by
  match k, hx with
  | 0, hx =>
    obtain rfl : u = x := by simpa using hx
    exact Lib.cell_of_heap new0 0
theorem sl_own {w : World} {B t s n : Nat} {v : Value} {xs : List Value} (h : w.ownsRow B t s v n xs) : ∃ q c, v = .slice q n c := by
  rcases h.2 with ⟨e, h0⟩ | ⟨g, cap, cur, e, _⟩
  · exact ⟨none, 0, by rw [e, h0]⟩
  · exact ⟨_, cap, e⟩
end Go.Proofs.Ytplcpjngpkghmaa
