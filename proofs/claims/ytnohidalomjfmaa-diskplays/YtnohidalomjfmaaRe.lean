/-
  The document's disk: New, List; the comparing of texts.
-/
import Derived.Test.YtnohidalomjfmaaRd
namespace Go.Proofs.Ytnohidalomjfmaa
open Go.RowKit Go.Maps Go.Sort

theorem info9 : (Try.prog.info? 9).map (fun i => (i.zero, i.size, i.bytes)) = some (some (.string ⟨#[]⟩), 1, 16) := by kernel_rfl
theorem info73 : (Try.prog.info? 73).map (fun i => (i.zero, i.size, i.bytes)) = some (some (.agg #[.string ⟨#[]⟩, .slice none 0 0, .int .i64 0]), 3, 48) := by kernel_rfl
theorem at_alloc1 {w : World} {g : Nat} {o q : Obj} (h : w.heap[g]? = some o) : (w.alloc q).heap[g]? = some o := at_below ((Below.refl _ w).alloc (Nat.le_refl _) _) (Nat.le_refl _) h
/-- values put behind an owned row -/
theorem append_vals {ops : Array Oper} {rest : List Oper} {o : Oper} {a : Act} {Q : Exit → Act → World → Prop} {w : World} {t e : TypeId} {size bytes : Nat} {z : Value} (hu : Try.prog.underlying t = some (.slice e)) (hinfo : (Try.prog.info? e).map (fun i => (i.zero, i.size, i.bytes)) = some (some z, size, bytes)) (hzs : z.cells.size = size) (hsz : 0 < size)
    (hgd : o.guard = none) (s x : Operand) (ho : o.op = .call { callee := .builtin .append, args := #[s, x], argTypes := #[t, t] }) (B : Nat) (v : Value) (n : Nat) (xs : List Value) (hs : a.eval s = v) (hown : w.ownsRow B e size v n xs)
    (g off : Nat) (c m : Nat) (news : List Value) (hx : a.eval x = .slice (some ⟨g, off, none⟩) m c) (hl : news.length = m * size) (hm : RowV w g off news) (h1 : ∀ u ∈ news, u.oneCell' = true) (h63 : n + m ≤ maxLen) (hb : (n + m) * bytes ≤ 140737488355328) (hB : B ≤ w.heap.size)
    (h : ∀ v' w', w'.ownsRow B e size v' (n + m) (xs ++ news) → Below B w w' → wpList Try.prog ops Q rest (a.put o.dst v') w') :
    wpList Try.prog ops Q (o :: rest) a w := by
  obtain ⟨i0, hi, hz0, hz1, hz2⟩ := info_parts hinfo
  have hlt := World.ownsRow.lt hown
  refine wpList_append_own _ hgd s x t ho B e i0 z size bytes hu hi hz0 hz1 hz2 hzs hsz v n xs hs hown _ m c news hx hl (fun j u hj => ?_) h1 h63 hb hB (fun v' w' h1 h2 _ => h v' w' h1 ((Below.refl B w).grown h2 hB fun k hk => (hlt k hk).1))
  rw [Addr.add_lit]
  exact hm j u hj

/-! ### New -/
set_option maxHeartbeats 400000 in
theorem rnew_at (w : World) : Calls Try.prog 12 #[] w fun e w' => e = .returned (.pointer (some ⟨w.heap.size, 0, none⟩)) ∧ w' = w.alloc (.cells #[.slice none 0 0, .int .i64 (-1), .bool false] 35) := by
  go_enter Try.func12, Try.ntmps12
  go_wp2_with fail
  go_ret
  exact ⟨rfl, rfl⟩
theorem ref_new (w : World) (V : World) (hV : V = w.alloc (.cells #[.slice none 0 0, .int .i64 (-1), .bool false] 35)) : Ref V (tgN w.heap.size) w.heap.size DK.new := by
  subst hV
  refine ⟨.slice none 0 0, [], -1, new0, by simp [tgN], World.ownsRow_nil _ _ _ _, nofun, rfl, rfl, nofun, List.Pairwise.nil, Nat.zero_le _, fun k hk => ?_⟩
  rw [tgN_new hk]
  simp

/-! ### List -/
def nms (l : List RF) : List Value := l.map RF.n
theorem nms_snoc {l : List RF} {k : Nat} {f : RF} (h : l[k]? = some f) : nms (l.take (k + 1)) = nms (l.take k) ++ [f.n] := by
  obtain ⟨hk, rfl⟩ := List.getElem?_eq_some_iff.1 h
  unfold nms
  rw [List.take_succ_eq_append_getElem hk, List.map_append]
  rfl
theorem row_one {w : World} {u : Value} {t : TypeId} : RowV (w.alloc (.cells #[u] t)) w.heap.size 0 [u] := fun k x hx => by
  match k, hx with
  | 0, hx =>
    obtain rfl : u = x := by simpa using hx
    exact Lib.cell_of_heap new0 0
theorem RowV.keep {w w1 : World} {g o B : Nat} {xs : List Value} (b : Below B w w1) (hB : w.heap.size ≤ B) (h : RowV w g o xs) : RowV w1 g o xs := fun k u hu => by
  have h0 := h k u hu
  exact (b.cell (Nat.lt_of_lt_of_le (block_lt_of_cell h0) hB)).trans h0
theorem sl_own {w : World} {B t n s : Nat} {v : Value} {xs : List Value} (h : w.ownsRow B t s v n xs) : ∃ q j c, v = .slice q j c := by
  rcases h.2 with ⟨rfl, _⟩ | ⟨g, cap, cur, rfl, _⟩
  · exact ⟨_, _, _, rfl⟩
  · exact ⟨_, _, _, rfl⟩
set_option maxHeartbeats 1000000 in
set_option maxRecDepth 100000 in
theorem rlist_loop (l : List RF) (n : Nat) (g c : Nat) (x : Value) (pb : Nat) (w : World) (hl : Hid (l.length = n)) (hn : n ≤ 64) (h : Hid (w.heap[pb]? = some (.cells #[.slice (some ⟨g, 0, none⟩) n c, x, .bool false] 35 (0, 0)))) (hr : Hid (RowV w g 0 (flat l))) :
    Calls Try.prog 34 #[.pointer (some ⟨pb, 0, none⟩)] w fun e w' => ∃ v, e = .returned v ∧ w'.ownsRow w.heap.size 9 1 v n (nms l) ∧ Below w.heap.size w w' := by
  go_enter Try.func34, Try.ntmps34
  go_wp2_with fail
  go_loopw [3, 4] (fun v i wr => ∃ (k : Nat) (q : Option Addr) (j c' : Nat), v = .slice q j c' ∧ i = .int .i64 k ∧ k ≤ n ∧ wr.ownsRow w.heap.size 9 1 (.slice q j c') k (nms (l.take k)) ∧ Below w.heap.size w wr) (fun _ i _ => n - (intOf i).toNat)
  case atStart => exact ⟨0, none, 0, 0, rfl, rfl, Nat.zero_le _, World.ownsRow_nil _ _ _ _, Below.refl _ _⟩
  case round =>
    obtain ⟨k, q, j, c', rfl, rfl, hk, ho, hb⟩ := hrel
    have HO : Hid (wr.ownsRow w.heap.size 9 1 (.slice q j c') k (nms (l.take k))) := ho
    have HB : Hid (Below w.heap.size w wr) := hb
    obtain ⟨e0, e1, e2⟩ := c3 (at_below hb (Nat.le_refl _) h.out)
    clear ho hb
    by_cases hlt : k < n
    · obtain ⟨f, hf⟩ : ∃ f, l[k]? = some f := ⟨l[k]'(by have := hl.out; omega), List.getElem?_eq_getElem _⟩
      obtain ⟨f0, f1, f2⟩ := flat_get l k f hf
      have h0 := hr.out.keep HB.out (Nat.le_refl _) _ _ f0
      rw [Nat.zero_add] at h0
      clear f0 f1 f2
      have HX : Hid (nms (l.take (k + 1)) = nms (l.take k) ++ [f.n]) := nms_snoc hf
      have hi : (k : Int) < (n : Int) := by omega
      have O1 : Hid ((wr.alloc (.cells #[f.n] 9)).ownsRow w.heap.size 9 1 (.slice q j c') k (nms (l.take k))) := by
        refine ⟨HO.out.1, ?_⟩
        rcases HO.out.2 with hn | ⟨g, cap, cur, e, hb, hgg, rest⟩
        · exact .inl hn
        · exact .inr ⟨g, cap, cur, e, hb, at_alloc1 hgg, rest⟩
      clear hf
      unfold RF.n at h0 O1 HX
      go_wp2_with (at_builtin; refine append_vals (w := wr.alloc (.cells #[.string ⟨⟨f.nm⟩⟩] 9)) Try.underlying47 info9 rfl (by decide) rfl _ _ rfl w.heap.size (.slice q j c') k (nms (l.take k)) rfl O1.out wr.heap.size 0 1 1 [.string ⟨⟨f.nm⟩⟩] rfl rfl row_one (fun u hu => by simp at hu; subst hu; rfl) (by unfold maxLen; omega) (by omega) (by have := HB.out.size; simp; omega) ?_; intro v' w4 h1 h2)
      obtain ⟨q', j', c2, rfl⟩ := sl_own h1
      refine ⟨⟨k + 1, q', j', c2, rfl, by go_num, by omega, by rw [HX.out]; exact h1, (HB.out.alloc HB.out.size _).trans h2⟩, ?_⟩
      simp [intOf]; omega
    · have HE : Hid (nms (l.take k) = nms l ∧ k = n) := by
        have := hl.out
        refine ⟨?_, by omega⟩
        rw [List.take_of_length_le (by omega)]
      have hi : ¬ (k : Int) < (n : Int) := by omega
      go_wp2_with fail
      go_ret
      refine ⟨_, rfl, ?_, HB.out⟩
      have := HO.out
      rw [HE.out.1, HE.out.2] at this
      exact this
set_option maxHeartbeats 400000 in
theorem rlist_zero (x y : Value) (pb : Nat) (w : World) (h : Hid (w.heap[pb]? = some (.cells #[.slice none 0 0, x, y] 35 (0, 0)))) :
    Calls Try.prog 34 #[.pointer (some ⟨pb, 0, none⟩)] w fun e w' => e = .returned (.slice none 0 0) ∧ w' = w := by
  obtain ⟨e0, e1, e2⟩ := c3 h.out
  go_enter Try.func34, Try.ntmps34
  go_wp2_with fail
  go_rounds 1
  go_ret
  exact ⟨rfl, rfl⟩
set_option maxHeartbeats 400000 in
theorem rlist_down (x : Value) (q : Option Addr) (n c : Nat) (pb : Nat) (w : World) (hn : 0 < n) (h : Hid (w.heap[pb]? = some (.cells #[.slice q n c, x, .bool true] 35 (0, 0)))) :
    Calls Try.prog 34 #[.pointer (some ⟨pb, 0, none⟩)] w fun e w' => e = .returned (.slice none 0 0) ∧ w' = w := by
  obtain ⟨e0, e1, e2⟩ := c3 h.out
  have hi : (0 : Int) < (n : Int) := by omega
  go_enter Try.func34, Try.ntmps34
  go_wp2_with fail
  go_rounds 1
  go_ret
  exact ⟨rfl, rfl⟩
set_option maxHeartbeats 400000 in
theorem rlist_loop0 (g c : Nat) (x y : Value) (pb : Nat) (w : World) (h : Hid (w.heap[pb]? = some (.cells #[.slice (some ⟨g, 0, none⟩) 0 c, x, y] 35 (0, 0)))) :
    Calls Try.prog 34 #[.pointer (some ⟨pb, 0, none⟩)] w fun e w' => e = .returned (.slice none 0 0) ∧ w' = w := by
  obtain ⟨e0, e1, e2⟩ := c3 h.out
  go_enter Try.func34, Try.ntmps34
  go_wp2_with fail
  go_rounds 1
  go_ret
  exact ⟨rfl, rfl⟩
theorem rlist_any {w : World} {tg : Nat → Tg} {pb : Nat} {D : DK} (h : Ref w tg pb D) :
    Calls Try.prog 34 #[.pointer (some ⟨pb, 0, none⟩)] w fun e w' => ∃ v, e = .returned v ∧ OwnS w' w.heap.size v (listD D) ∧ Below w.heap.size w w' := by
  obtain ⟨v, l, z, h⟩ := h
  have hc := h.cell
  unfold listD OwnS
  rcases rowV_own h.own with ⟨rfl, h0⟩ | ⟨g, c, rfl, h1, h2, h3, -⟩
  · obtain rfl := List.eq_nil_of_length_eq_zero h0
    have e : (if D.down = true then ([] : List (List UInt8)) else D.fs.map Fil.nm) = [] := by
      rw [h.fs]
      split <;> rfl
    rw [e]
    refine (rlist_zero _ _ pb w hc).mono ?_
    rintro e w' ⟨rfl, rfl⟩
    exact ⟨_, rfl, World.ownsRow_nil _ _ _ _, Below.refl _ _⟩
  · cases hd : D.down with
    | true =>
      rw [hd] at hc
      by_cases h0 : l.length = 0
      · obtain rfl := List.eq_nil_of_length_eq_zero h0
        refine (rlist_loop0 g c _ _ pb w hc).mono ?_
        rintro e w' ⟨rfl, rfl⟩
        exact ⟨_, rfl, World.ownsRow_nil _ _ _ _, Below.refl _ _⟩
      · refine (rlist_down _ _ _ _ pb w (by omega) hc).mono ?_
        rintro e w' ⟨rfl, rfl⟩
        exact ⟨_, rfl, World.ownsRow_nil _ _ _ _, Below.refl _ _⟩
    | false =>
      rw [hd] at hc
      have e : (l.map RF.s).map Fil.nm = l.map RF.nm := by rw [List.map_map]; rfl
      rw [if_neg (by simp), h.fs, e, List.length_map, List.map_map]
      exact rlist_loop l l.length g c _ pb w rfl h.len hc h3
end Go.Proofs.Ytnohidalomjfmaa
