/-
  line: a tenant's waiters, in order: its walk.
-/
import Derived.Test.YthlbeofonbbbdaaQe
namespace Go.Proofs.Ythlbeofonbbbdaa
open Go.RowKit Go.Maps

/-- pointers to waiters as they lie -/
def PR (w : World) (p : Option Addr) (L : List Hd) : Prop := ∀ i a, L[i]? = some a → ∃ g, p = some ⟨g, 0, none⟩ ∧ w.cell? ⟨g, i, none⟩ = some (.pointer (some ⟨a.b, 0, none⟩))
/-- what line answers -/
def LnR (w : World) (l : List Hd) (t : List UInt8) (e : Ending) (w' : World) : Prop := ∃ p n c L, e = .returned (.slice p n c) ∧ L.length = n ∧ L.Perm (l.filter fun a => a.j.tn == t) ∧ (L.Pairwise fun a b => jl b.j a.j = false) ∧ PR w' p L ∧ Below w.heap.size w w'
set_option maxHeartbeats 1000000 in
set_option maxRecDepth 100000 in
theorem line_none (w : World) (pb : Nat) (t : ByteArray) (c0 : w.cell? ⟨pb, 0, none⟩ = some (.map none)) (H46 : Hid (∀ W p c, Calls Try.prog 46 #[.slice p 0 c, .func (.func 47) #[] #[]] W fun e w' => e = .returned (.tuple #[]) ∧ w' = W)) :
    Calls Try.prog 33 #[.pointer (some ⟨pb, 0, none⟩), .string t] w fun e w' => e = .returned (.slice none 0 0) ∧ Below w.heap.size w w' := by
  have hrg := run_range_nilMap (P := Try.prog) w 51 2 65 Try.underlying51
  have hnx : ∀ ty, (Instr.next (.pointer (some ⟨w.heap.size, 0, none⟩)) false ty).run Try.prog (w.alloc (.mapIter none 0 #[] 0)) = _ := fun ty => run_next_nilMap _ ty 0 0 #[]
  go_enter Try.func33, Try.ntmps33
  go_wp2_with fail
  refine wp_loop_rounds 1 ?_
  rw [rounds_succ]
  go_wp2_with (go_at_call 46; refine (H46.out _ _ _).mono ?_; rintro e w1 ⟨rfl, h1⟩; obtain rfl := h1.symm)
  go_ret
  exact ⟨rfl, (Below.refl _ _).alloc (Nat.le_refl _) _⟩
/-- a pointer to a waiter put behind an owned row -/
theorem append_hp {ops : Array Oper} {rest : List Oper} {o : Oper} {a : Act} {Q : Exit → Act → World → Prop} {w : World} (hgd : o.guard = none) (s x : Operand)
    (ho : o.op = .call { callee := .builtin .append, args := #[s, x], argTypes := #[73, 73] }) (B : Nat) (v : Value) (n : Nat) (xs : List Value) (hs : a.eval s = v) (hown : w.ownsRow B 65 1 v n xs)
    (g c y : Nat) (hx : a.eval x = .slice (some ⟨g, 0, none⟩) 1 c) (hm : w.cell? ⟨g, 0, none⟩ = some (.pointer (some ⟨y, 0, none⟩))) (hn : n ≤ 1000000) (hB : B ≤ w.heap.size)
    (h : ∀ v' w', w'.ownsRow B 65 1 v' (n + 1) (xs ++ [.pointer (some ⟨y, 0, none⟩)]) → w.grownBy w' v.ownBlock → wpList Try.prog ops Q rest (a.put o.dst v') w') :
    wpList Try.prog ops Q (o :: rest) a w := by
  refine append_vals Try.underlying73 info65 rfl (by decide) hgd s x ho B v n xs hs hown g 0 c 1 [.pointer (some ⟨y, 0, none⟩)] hx rfl ?_ ?_ (by unfold maxLen; omega) (by omega) hB h
  · intro i x hi
    cases i with
    | zero => simp at hi; subst hi; exact hm
    | succ i => simp at hi
  · intro u hu
    rw [List.mem_singleton.1 hu]
    rfl
theorem row_cell {w : World} {B k c : Nat} {p : Option Addr} {xs : List Value} {n : Nat} (h : w.ownsRow B 65 1 (.slice p k c) n xs) {i : Nat} {x : Value} (hi : xs[i]? = some x) : ∃ g, p = some ⟨g, 0, none⟩ ∧ B ≤ g ∧ g < w.heap.size ∧ w.cell? ⟨g, i, none⟩ = some x ∧ w.frozen? ⟨g, i, none⟩ = false := by
  rcases h.2 with ⟨e, hx⟩ | ⟨g, cap, cur, e, hb, hgg, h1, h2, h3, h4⟩
  · have h1 := h.1
    rw [hx, Nat.zero_mul] at h1
    rw [List.eq_nil_of_length_eq_zero h1] at hi
    cases hi
  · cases e
    refine ⟨g, rfl, hb, (Array.getElem?_eq_some_iff.1 hgg).1, ?_, fz hgg i⟩
    have hlt : i < xs.length := (List.getElem?_eq_some_iff.1 hi).1
    unfold World.cell?
    rw [hgg]
    rw [← h4] at hi hlt
    rw [List.getElem?_take] at hi
    split at hi
    · simpa using hi
    · cases hi
theorem fin_sort {w wr : World} {pb m r k c : Nat} {mw mh : Option Nat} {l Z : List Hd} {M : DataW Nat} {t : List UInt8} {p : Option Addr} {left : Lit → Bool} {cnt : Nat} (h : QW w pb mw mh l) (H : Ln w wr l m r M t Z (.slice p k c) left cnt) (hk : k = (Z.filter fun a => a.j.tn == t).length) (hk2 : k ≤ 1000000) (hP : (Z.filter fun a => a.j.tn == t).Perm (l.filter fun a => a.j.tn == t)) (H46 : ∀ W p c, Calls Try.prog 46 #[.slice p 0 c, .func (.func 47) #[] #[]] W fun e w' => e = .returned (.tuple #[]) ∧ w' = W) :
    Calls Try.prog 46 #[.slice p k c, .func (.func 47) #[] #[]] wr fun e w' => e = .returned (.tuple #[]) ∧ Hid (LnR w l t (.returned (.slice p k c)) w') := by
  have hmem : ∀ a ∈ Z.filter fun a => a.j.tn == t, a ∈ l := fun a ha => H.z a (List.mem_filter.1 ha).1
  by_cases h0 : k = 0
  · have hz : (Z.filter fun a => a.j.tn == t) = [] := List.eq_nil_of_length_eq_zero (by omega)
    rw [h0]
    refine (H46 wr p c).mono fun e w' ⟨he, hw⟩ => ⟨he, ?_⟩
    subst hw
    exact ⟨p, 0, c, [], rfl, rfl, by rw [← hz]; exact hP, List.Pairwise.nil, (fun i a hi => by simp at hi), H.b⟩
  · have hne : (Z.filter fun a => a.j.tn == t) ≠ [] := fun e => h0 (by rw [hk, e]; rfl)
    obtain ⟨a0, r0, e0⟩ := List.exists_cons_of_ne_nil hne
    obtain ⟨g, rfl, hg1, hg2, -⟩ := row_cell (i := 0) (x := hp a0) H.row (by rw [e0]; rfl)
    have hB : ∀ a ∈ Z.filter (fun a => a.j.tn == t), wr.heap[a.b]? = some (.cells (hC a) 76 (0, 0)) ∧ a.j.ok = true ∧ a.b ≠ g := fun a ha => by
      have hl := h.blt (hmem a ha)
      exact ⟨at_below H.b (Nat.le_refl _) (h.blk a (hmem a ha)), h.ok a (hmem a ha), by omega⟩
    have hs := sortH_any wr (Z.filter fun a => a.j.tn == t) g c hne hg2 hB (fun a ha b hb e => h.inj a (hmem a ha) b (hmem b hb) e) (by omega) (fun i a hi => by
      obtain ⟨g', e', _, _, h3, h4⟩ := row_cell (i := i) (x := hp a) H.row (by rw [List.getElem?_map, hi]; rfl)
      have : g = g' := by injection e' with e'; injection e'
      rw [this]
      exact ⟨h3, h4⟩)
    rw [← hk] at hs
    refine hs.mono fun e w' ⟨he, L', h1, h2, h3, h4⟩ => ⟨he, ?_⟩
    refine ⟨_, k, c, L', rfl, h1.length_eq.trans hk.symm, h1.trans hP, h2, fun i a hi => ⟨g, rfl, h3 i a hi⟩, H.b.trans (h4.below H.b.size fun k h5 q => by omega)⟩
theorem nd_len {α : Type} {l l' : List α} (h : l.Nodup) (hs : ∀ x ∈ l, x ∈ l') : l.length ≤ l'.length := by
  induction l generalizing l' with
  | nil => exact Nat.zero_le _
  | cons x r ih =>
    obtain ⟨h1, h2⟩ := List.nodup_cons.1 h
    obtain ⟨s, t, rfl⟩ := List.append_of_mem (hs x (List.mem_cons_self ..))
    have := ih (l' := s ++ t) h2 fun y hy => by
      have hy' := hs y (List.mem_cons_of_mem _ hy)
      simp only [List.mem_append, List.mem_cons] at hy' ⊢
      rcases hy' with q | q | q
      · exact .inl q
      · exact absurd (q ▸ hy) h1
      · exact .inr q
    simp at this ⊢
    omega
set_option maxHeartbeats 4000000 in
set_option maxRecDepth 100000 in
theorem line_some (w : World) (pb m : Nat) (mh : Option Nat) (l : List Hd) (M : DataW Nat) (t : List UInt8) (h : Hid (QW w pb (some m) mh l)) (hM : Hid (MI w m l M)) (H46 : Hid (∀ W p c, Calls Try.prog 46 #[.slice p 0 c, .func (.func 47) #[] #[]] W fun e w' => e = .returned (.tuple #[]) ∧ w' = W)) :
    Calls Try.prog 33 #[.pointer (some ⟨pb, 0, none⟩), .string ⟨⟨t⟩⟩] w (LnR w l t) := by
  obtain ⟨q0, -⟩ := c2 h.out.cell
  have O1 := hM.out.o
  go_enter Try.func33, Try.ntmps33
  go_wp2_with (first
    | (at_range; refine wpList_range_own _ rfl _ 51 rfl 2 65 law2 Try.underlying51 _ m _ M rfl O1 ?_; intro w2 hrg0 hg0 hs0)
    | go_in)
  go_frame
  have R0 : Hid (Ln w w2 l m w.heap.size M t [] (.slice none 0 0) (Maps.has M) (Maps.size M)) := Ln.start hM.out h.out hrg0 hg0
  clear hrg0 hg0 hs0 O1 q0
  generalize w.heap.size = r at *
  go_loopw [5] (fun v wr => ∃ p k c Z left cnt, v = .slice p k c ∧ Hid (Ln w wr l m r M t Z (.slice p k c) left cnt ∧ k = (Z.filter fun a => a.j.tn == t).length ∧ k ≤ 1000000)) (fun _ wr => wr.rangeLeft m r)
  case atStart => exact ⟨none, 0, 0, [], _, _, rfl, R0.out, rfl, Nat.zero_le _⟩
  case round =>
    obtain ⟨p, k, c, Z, left, cnt, rfl, HL⟩ := hrel
    clear R0
    go_wp2_with (first
      | (at_next; refine wpList_next_ranges _ rfl _ rfl 2 law2 pE (Value.int .i64) optp invK invV m r (Maps.size M) M left cnt rfl HL.out.1.rg ?_ ?_)
      | go_in)
    · intro hc0 hl0
      have HP : Hid ((Z.filter fun a => a.j.tn == t).Perm (l.filter fun a => a.j.tn == t)) := HL.out.1.done h.out hl0
      have HE : Hid (Calls Try.prog 46 #[.slice p k c, .func (.func 47) #[] #[]] wr fun e w' => e = .returned (.tuple #[]) ∧ Hid (LnR w l t (.returned (.slice p k c)) w')) := fin_sort h.out HL.out.1 HL.out.2.1 HL.out.2.2 HP.out H46.out
      clear hc0 hl0 HL HP H46
      go_wp2_with (go_at_call 46; refine HE.out.mono ?_; rintro e w4 ⟨rfl, h4⟩)
      go_ret
      exact h4.out
    · intro x c' kl ya yb w3 cnt2 hkey hlk hy' hat hrg2 hlt hg2 hs2 hen
      obtain ⟨a, rfl, ha, hZ, hno, hrow, hb3, hyes⟩ := HL.out.1.entry hM.out h.out hkey hlk hy' hat hrg2 hg2
      have HC : Hid (cnt2 < cnt ∧ wr.rangeLeft m r = cnt) := ⟨hlt, HL.out.1.rg.left_eq⟩
      have hA := h.out.blk a ha
      have hA3 := at_below hb3 (Nat.le_refl _) hA
      obtain ⟨-, d1, -⟩ := c4 hA3
      have hlt3 := (Array.getElem?_eq_some_iff.1 hA3).1
      unfold optp ptr at hen
      by_cases hT : a.j.tn = t
      · have hfl : ((Z ++ [a]).filter fun a => a.j.tn == t) = (Z.filter fun a => a.j.tn == t) ++ [a] := by rw [List.filter_append]; simp [hT]
        have hkk := HL.out.2.1
        have hk2 : k + 1 ≤ 1000000 := by
          have h1 : ((Z ++ [a]).filter fun a => a.j.tn == t).length ≤ (Z ++ [a]).length := List.length_filter_le _ _
          have h2 : (Z ++ [a]).length ≤ l.length := nd_len (List.nodup_append.2 ⟨HL.out.1.nd, List.nodup_cons.2 ⟨nofun, List.nodup_nil⟩, fun c hc d hd e => by rw [List.mem_singleton.1 hd] at e; exact hZ (e ▸ hc)⟩) fun c hc => by
            rcases List.mem_append.1 hc with q | q
            · exact HL.out.1.z c q
            · rw [List.mem_singleton.1 q]; exact ha
          have e1 : ((Z ++ [a]).filter fun a => a.j.tn == t).length = k + 1 := by rw [hfl, List.length_append, ← hkk]; rfl
          have := h.out.len
          omega
        have HY : Hid (∀ W p' c', W.ranges Try.prog 2 pE m r (Maps.size M) M (fun z => left z && !z.sameKey kl) cnt2 → W.ownsRow w.heap.size 65 1 (.slice p' (k + 1) c') (k + 1) ((Z.filter fun a => a.j.tn == t).map hp ++ [.pointer (some ⟨a.b, 0, none⟩)]) → Below w.heap.size w W → Ln w W l m r M t (Z ++ [a]) (.slice p' (k + 1) c') (fun z => left z && !z.sameKey kl) cnt2 ∧ k + 1 = ((Z ++ [a]).filter fun a => a.j.tn == t).length ∧ k + 1 ≤ 1000000) := fun W p' c' h1 h2 h3 => by
          have e1 : ((Z ++ [a]).filter fun a => a.j.tn == t).length = k + 1 := by rw [hfl, List.length_append, ← hkk]; rfl
          refine ⟨hyes W _ h1 ?_ h3, e1.symm, hk2⟩
          rw [e1, hfl, List.map_append]
          exact h2
        rw [← hkk] at hrow
        have HRW : Hid (w3.ownsRow w.heap.size 65 1 (.slice p k c) k ((Z.filter fun a => a.j.tn == t).map hp)) := hrow
        have HM : Hid (m < w.heap.size) := HL.out.1.m
        have HRG : Hid (w3.ranges Try.prog 2 pE m r (Maps.size M) M (fun z => left z && !z.sameKey kl) cnt2 ∧ Below w.heap.size w w3) := ⟨hrg2, hb3⟩
        have hT4 : (a.j.tn == t) = true := by simp [hT]
        generalize a.j.tn = s at *
        clear hkey hlk hy' hat hrg2 hlt hg2 hs2 hno hyes hT HL hA hA3 hZ ha hrow hfl hb3
        go_upto_region 8 with fail
        have HR1 : Hid ((w3.alloc (.cells #[.pointer (some ⟨a.b, 0, none⟩)] 65)).ownsRow w.heap.size 65 1 (.slice p k c) k ((Z.filter fun a => a.j.tn == t).map hp)) := HRW.out.alloc _
        have hsz3 : w.heap.size ≤ (w3.alloc (.cells #[.pointer (some ⟨a.b, 0, none⟩)] 65)).heap.size := by have := HRG.out.2.size; simp; omega
        go_wp2_with (first
          | (at_builtin; refine append_hp (w := w3.alloc (.cells #[.pointer (some ⟨a.b, 0, none⟩)] 65)) rfl _ _ rfl w.heap.size (.slice p k c) k _ rfl HR1.out w3.heap.size 1 a.b rfl (Lib.cell_of_heap new0 0) (Nat.le_of_succ_le hk2) hsz3 ?_; intro v' w4 ho hg)
          | go_in)
        · skip
          obtain ⟨p', c', rfl⟩ : ∃ p' c', v' = .slice p' (k + 1) c' := by
            rcases ho.2 with ⟨e, hx⟩ | ⟨g, cap, cur, rfl, _⟩
            · omega
            · exact ⟨_, _, rfl⟩
          have B3 : Below w.heap.size w (w3.alloc (.cells #[.pointer (some ⟨a.b, 0, none⟩)] 65)) := HRG.out.2.alloc HRG.out.2.size _
          have hk4 : Kp (fun q => w.heap.size ≤ q) (w3.alloc (.cells #[.pointer (some ⟨a.b, 0, none⟩)] 65)) w4 := Kp.of_grown hg fun q hq => (World.ownsRow.lt HR1.out q hq).1
          have B4 : Below w.heap.size w w4 := B3.trans (hk4.below B3.size fun q h1 h2 => by omega)
          obtain ⟨l1, l2⟩ := ranges_lt HRG.out.1
          have e1 : w4.heap[m]? = w3.heap[m]? := by
            have q1 : (w3.alloc (.cells #[.pointer (some ⟨a.b, 0, none⟩)] 65)).heap[m]? = w3.heap[m]? := Below.heap_alloc _ _ _ l2
            refine (hg.block m (by simp; omega) fun q => ?_).trans q1
            have := (World.ownsRow.lt HR1.out m q.symm).1
            have := HM.out
            omega
          have e2 : w4.heap[r]? = w3.heap[r]? := by
            have q1 : (w3.alloc (.cells #[.pointer (some ⟨a.b, 0, none⟩)] 65)).heap[r]? = w3.heap[r]? := Below.heap_alloc _ _ _ l1
            refine (hg.block r (by simp; omega) fun q => ?_).trans q1
            rcases HRW.out.2 with ⟨q2, _⟩ | ⟨g, cap, cur, q2, hbb, hgg, _⟩
            · rw [q2] at q; cases q
            · rw [q2] at q
              have : r = g := Option.some.inj q
              rw [← this] at hgg
              exact ranges_r HRG.out.1 hgg
          have HF : Hid (Ln w w4 l m r M t (Z ++ [a]) (.slice p' (k + 1) c') (fun z => left z && !z.sameKey kl) cnt2 ∧ k + 1 = ((Z ++ [a]).filter fun a => a.j.tn == t).length ∧ k + 1 ≤ 1000000) := HY.out w4 p' c' (rangesKeep HRG.out.1 e1 e2) ho B4
          clear HY HR1 HRW HRG B3 B4 hk4 e1 e2 l1 l2 ho hg
          go_wp2_with fail
          exact ⟨⟨p', k + 1, c', Z ++ [a], _, _, rfl, HF.out⟩, by rw [HF.out.1.rg.left_eq, HC.out.2]; exact HC.out.1⟩
      · have HN : Hid (Ln w w3 l m r M t (Z ++ [a]) (.slice p k c) (fun z => left z && !z.sameKey kl) cnt2 ∧ k = ((Z ++ [a]).filter fun a => a.j.tn == t).length ∧ k ≤ 1000000) := ⟨hno hT, by rw [List.filter_append]; simp [hT]; exact HL.out.2.1, HL.out.2.2⟩
        have hT4 : (a.j.tn == t) = false := beq_eq_false_iff_ne.2 hT
        generalize a.j.tn = s at *
        clear hkey hlk hy' hat hrg2 hlt hg2 hs2 hno hyes hrow hT HL hA hA3 hZ ha
        go_wp2_with fail
        exact ⟨⟨p, k, c, Z ++ [a], _, _, rfl, HN.out⟩, by rw [HN.out.1.rg.left_eq, HC.out.2]; exact HC.out.1⟩
end Go.Proofs.Ythlbeofonbbbdaa
