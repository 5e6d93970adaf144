/-
  All, Live.
-/
import Derived.Test.YtihjmigjphljnaaAi
import Derived.Test.YtihjmigjphljnaaAh
namespace Go.Proofs.Ytihjmigjphljnaa
open Go.RowKit Go.Maps Go.WideMaps Go.Sort Go.Shelf
open Tk

theorem append_n {ops : Array Oper} {rest : List Oper} {o : Oper} {a : Act} {Q : Exit → Act → World → Prop} {w : World} (hgd : o.guard = none) (s x : Operand) (ho : o.op = .call { callee := .builtin .append, args := #[s, x], argTypes := #[27, 27] }) (v : Value) (T : List Nd) (n : Nat) (hn : T.length = n) (hs : a.eval s = v) (hown : AR w v T)
    (g : Nat) (k : Nd) (hx : a.eval x = .slice (some ⟨g, 0, none⟩) 1 1) (hm : w.heap[g]? = some (.cells #[.string k.nm, .int .i64 k.ep, .int .i64 k.v.a, .int .i64 k.v.b, .int .i64 k.v.c, .int .i64 k.v.d, .int .i64 k.sn, .bool k.lv] 46 (0, 0))) (hb : n + 1 ≤ 4096)
    (h : ∀ v' w', AR w' v' (T ++ [k]) → w.grownBy w' v.ownBlock → (v'.ownBlock = v.ownBlock ∨ v'.ownBlock = some w.heap.size) → wpList Try.prog ops Q rest (a.put o.dst v') w') :
    wpList Try.prog ops Q (o :: rest) a w := by
  obtain ⟨i0, hi, hz0, hz1, hz2⟩ := info_parts info46
  refine wpList_append_own_at _ hgd s x 27 ho 0 46 i0 _ 8 72 Try.underlying27 hi hz0 hz1 hz2 rfl (by decide) v n (T.flatMap aC) hs (by rw [← hn]; exact hown) ⟨g, 0, none⟩ 1 1 (aC k) hx rfl (fun j u hj => ?_) (aC_one k) (by unfold maxLen; omega) (by omega) (Nat.zero_le _) (fun v' w' h1 h2 _ h4 => h v' w' ?_ h2 h4)
  · rw [Addr.add_lit, Nat.zero_add, cell_of hm]
    simpa [aC] using hj
  · unfold AR GRow
    rw [List.flatMap_append, List.length_append, hn]
    exact h1
/-- while All goes through the names -/
structure AlS (w0 wr : World) (L : List Nd) (v u : Value) (i : Nat) : Prop where
  b : Below w0.heap.size w0 wr
  nm : SR wr v (L.map Nd.k)
  out : AR wr u (L.take i)
  un : ∀ j, u.ownBlock = some j → w0.heap.size ≤ j ∧ v.ownBlock ≠ some j
section
variable {w0 wr W w1 : World} {L : List Nd} {v u u' : Value} {i : Nat} {n : Nd}
theorem AlS.below (h : AlS w0 wr L v u i) (b : Below wr.heap.size wr W) : AlS w0 W L v u i := ⟨below_from h.b b h.b.size, h.nm.below b, h.out.below b, h.un⟩
theorem AlS.next (h : AlS w0 W L v u i) (hn : L[i]? = some n) (hr : AR w1 u' (L.take i ++ [n])) (gr : W.grownBy w1 u.ownBlock) (hv : u'.ownBlock = u.ownBlock ∨ u'.ownBlock = some W.heap.size) : AlS w0 w1 L v u' (i + 1) := by
  have k2 : Kp (fun j => u.ownBlock = some j) W w1 := Kp.of_grown gr fun j q => q
  refine ⟨h.b.trans (k2.below h.b.size fun k hk q => by have := (h.un k q).1; omega), h.nm.keep fun g q => k2.block g (h.nm.lt q) fun q' => (h.un g q').2 q, ?_, fun j q => ?_⟩
  · rw [List.take_add_one, hn]
    exact hr
  · rcases hv with e | e
    · rw [e] at q
      exact h.un j q
    · rw [e] at q
      have e2 := Option.some.inj q
      subst e2
      exact ⟨h.b.size, fun q2 => by have := h.nm.lt q2; omega⟩
end
theorem SR.at {w : World} {q : Option Addr} {n c : Nat} {L : List (List UInt8)} (h : SR w (.slice q n c) L) {i : Nat} {s : List UInt8} (hi : L[i]? = some s) : ∃ g, q = some ⟨g, 0, none⟩ ∧ w.cell? ⟨g, i, none⟩ = some (.string ⟨⟨s⟩⟩) := by
  obtain ⟨g, e, hc⟩ := GRow.at sC_len h hi
  have := hc 0 _ rfl
  simp only [Nat.mul_one, Nat.add_zero] at this
  exact ⟨g, e, this⟩
set_option maxHeartbeats 1000000 in
theorem all_nil (w : World) : Calls Try.prog 13 #[.pointer none] w fun e w' => e = .returned (.slice none 0 0) ∧ w' = w := by
  go_enter Try.func13, Try.ntmps13
  go_wp2_with fail
  go_ret
  exact ⟨rfl, rfl⟩
theorem keys_any {w : World} {mb : Option Nat} {D : List Nd} (h : MpN w mb D) (hs : Srt Nd.k D) (hl : D.length ≤ 12) : Calls Try.prog 27 #[.func (.func 41) #[] #[.pointer (some ⟨w.heap.size, 0, none⟩)]] (w.alloc (.cells #[.map mb] 57)) fun e w' => ∃ p c', e = .returned (.slice p D.length c') ∧ Hid (SR w' (.slice p D.length c') (D.map Nd.k) ∧ Below w.heap.size w w') := by
  have b0 : Below w.heap.size w (w.alloc (.cells #[.map mb] 57)) := (Below.refl _ w).alloc (Nat.le_refl _) _
  have fin : ∀ (ss : List (List UInt8)) (v : Value) w', ss.Perm (D.map Nd.k) → w'.ownsRow (w.alloc (.cells #[.map mb] 57)).heap.size 9 1 v ss.length ((ss.mergeSort (fun x y => decide (x ≤ y))).map encStr) → Below (w.alloc (.cells #[.map mb] 57)).heap.size (w.alloc (.cells #[.map mb] 57)) w' → ∃ p c', (Ending.returned v) = .returned (.slice p D.length c') ∧ Hid (SR w' (.slice p D.length c') (D.map Nd.k) ∧ Below w.heap.size w w') := fun ss v w' hS hrow hb => by
    rw [names_sorted (List.pairwise_map.2 hs) hS, show ss.length = (D.map Nd.k).length from hS.length_eq, map_flat] at hrow
    have hr : SR w' v (D.map Nd.k) := by
      refine ⟨hrow.1, ?_⟩
      rcases hrow.2 with q | ⟨g, cap, cur, e1, e2, e3⟩
      · exact .inl q
      · exact .inr ⟨g, cap, cur, e1, Nat.zero_le _, e3⟩
    obtain ⟨p, c', rfl⟩ := hr.shape
    rw [List.length_map] at hr ⊢
    exact ⟨p, c', rfl, hr, b0.trans (hb.mono b0.size)⟩
  unfold MpN at h
  cases mb with
  | none =>
    subst h
    refine (callsIn_wide.1 (Try.slices_Sorted_keys_nil_27_28 w)).mono ?_
    rintro e w' ⟨v, ss, rfl, hS, hrow, -, hb⟩
    exact fin ss v w' (by rw [hS]; exact .refl _) hrow hb
  | some m =>
    refine (callsIn_wide.1 (Try.slices_Sorted_keys_27_28 m D.length (mapOf D) pN w h (by rw [mapOf_size]; unfold maxLen; omega) (by rw [mapOf_size]; omega))).mono ?_
    rintro e w' ⟨v, ss, rfl, hS, hrow, -, hb⟩
    refine fin ss v w' ?_ hrow hb
    have hk : strKeys (mapOf D) = D.map Nd.k := by
      unfold mapOf strKeys
      simp only [List.map_map]
      rfl
    rwa [hk] at hS
set_option maxHeartbeats 4000000 in
set_option maxRecDepth 100000 in
theorem all_at {w : World} {tb : Nat} {S : HS} {mb : Option Nat} {D : List Nd} {R : List Al} (hT : TbAt w tb S mb D R) :
    Calls Try.prog 13 #[.pointer (some ⟨tb, 0, none⟩)] w fun e w' => ∃ p c', e = .returned (.slice p D.length c') ∧ Hid (AR w' (.slice p D.length c') D ∧ Below w.heap.size w w' ∧ ∀ j, (Value.slice p D.length c').ownBlock = some j → w.heap.size ≤ j) := by
  have HT : Hid (TbAt w tb S mb D R) := hT
  have HK : Hid (Calls Try.prog 28 #[.map mb] w fun e w' => e = .returned (.func (.func 41) #[] #[.pointer (some ⟨w.heap.size, 0, none⟩)]) ∧ w' = w.alloc (.cells #[.map mb] 57)) := callsIn_wide.1 (Try.maps_Keys_28 mb w)
  have HS : Hid (Calls Try.prog 27 #[.func (.func 41) #[] #[.pointer (some ⟨w.heap.size, 0, none⟩)]] (w.alloc (.cells #[.map mb] 57)) fun e w' => ∃ p c', e = .returned (.slice p D.length c') ∧ Hid (SR w' (.slice p D.length c') (D.map Nd.k) ∧ Below w.heap.size w w')) := keys_any hT.mp hT.srt hT.len
  have e0 := hT.c0
  have hn12 := hT.len
  clear hT
  obtain ⟨n, hn⟩ : ∃ n, D.length = n := ⟨_, rfl⟩
  rw [hn] at HS hn12
  have HN : Hid (D.length = n) := hn
  suffices hh : Calls Try.prog 13 #[.pointer (some ⟨tb, 0, none⟩)] w fun e w' => ∃ p c', e = .returned (.slice p n c') ∧ Hid (AR w' (.slice p n c') D ∧ Below w.heap.size w w' ∧ ∀ j, (Value.slice p n c').ownBlock = some j → w.heap.size ≤ j) by
    rw [hn]
    exact hh
  clear hn
  go_enter Try.func13, Try.ntmps13
  go_upto_region 5 with (first | (go_at_call 28; refine HK.out.mono ?_; rintro e w1 ⟨rfl, rfl⟩; clear HK) | (go_at_call 27; refine HS.out.mono ?_; rintro e w2 ⟨q, c, rfl, h2⟩))
  clear HS e0
  have H0 : Hid (AlS w w2 D (.slice q n c) (.slice none 0 0) 0) := ⟨h2.out.2, h2.out.1, GRow.nil _ _ _ _ _, fun j q => by cases q⟩
  clear h2
  go_loopw [3, 15] (fun u t wr => ∃ i p c', i ≤ n ∧ u = .slice p i c' ∧ t = .int .i64 (i : Nat) ∧ Hid (AlS w wr D (.slice q n c) (.slice p i c') i)) (fun u t _ => n - (intOf t).toNat)
  case atStart => exact ⟨0, none, 0, Nat.zero_le _, rfl, rfl, H0.out⟩
  case round =>
    obtain ⟨i, p, c', hi, rfl, rfl, HI⟩ := hrel
    clear H0
    by_cases hlt : i < n
    · obtain ⟨y, hy⟩ : ∃ y, D[i]? = some y := ⟨D[i]'(by have := HN.out; omega), List.getElem?_eq_getElem _⟩
      obtain ⟨g, rfl, x0⟩ := HI.out.nm.at (i := i) (s := y.k) (by rw [List.getElem?_map, hy]; rfl)
      replace x0 : wr.cell? ⟨g, i, none⟩ = some (.string y.nm) := x0
      have hii : (i : Int) < (n : Int) := by omega
      have hmem := List.mem_of_getElem? hy
      have hok := HT.out.ok y hmem
      have c0 := (HT.out.keep fun k hk => HI.out.b.block k (HT.out.lt hk)).c0
      have hlk : (Instr.lookup 57 (.map mb) (.string y.nm) false).run Try.prog wr = .ok (.agg #[.string y.nm, .int .i64 y.ep, .int .i64 y.v.a, .int .i64 y.v.b, .int .i64 y.v.c, .int .i64 y.v.d, .int .i64 y.sn, .bool y.lv]) wr := by
        have h1 := look_node (HT.out.keep fun k hk => HI.out.b.block k (HT.out.lt hk)).mp y.nm (by have := hok.1; unfold maxLen; omega)
        have h2 : getN D y.nm.data.toList = y := by
          unfold getN
          rw [show y.nm.data.toList = y.k from rfl, fnd_of HT.out.srt hmem]
          rfl
        rw [h2] at h1
        exact h1
      have b5 : Below wr.heap.size wr (wr.alloc (.cells #[.string y.nm, .int .i64 y.ep, .int .i64 y.v.a, .int .i64 y.v.b, .int .i64 y.v.c, .int .i64 y.v.d, .int .i64 y.sn, .bool y.lv] 46)) := (Below.refl _ _).alloc (Nat.le_refl _) _
      have I5 : Hid (AlS w (wr.alloc (.cells #[.string y.nm, .int .i64 y.ep, .int .i64 y.v.a, .int .i64 y.v.b, .int .i64 y.v.c, .int .i64 y.v.d, .int .i64 y.sn, .bool y.lv] 46)) D (.slice (some ⟨g, 0, none⟩) n c) (.slice p i c') i) := HI.out.below b5
      have HY : Hid (D[i]? = some y) := hy
      have HK : Hid ((D.take i).length = i ∧ i + 1 ≤ 4096) := ⟨by rw [List.length_take]; have := HN.out; omega, by omega⟩
      have z9 : Hid ((wr.alloc (.cells #[.string y.nm, .int .i64 y.ep, .int .i64 y.v.a, .int .i64 y.v.b, .int .i64 y.v.c, .int .i64 y.v.d, .int .i64 y.sn, .bool y.lv] 46)).heap[wr.heap.size]? = some (.cells #[.string y.nm, .int .i64 y.ep, .int .i64 y.v.a, .int .i64 y.v.b, .int .i64 y.v.c, .int .i64 y.v.d, .int .i64 y.sn, .bool y.lv] 46 (0, 0))) := new0
      clear hy hmem hok HI b5
      go_wp2_with (at_builtin; refine append_n rfl _ _ rfl (.slice p i c') (D.take i) i HK.out.1 rfl I5.out.out wr.heap.size y rfl z9.out HK.out.2 ?_; intro u' w6 h1 h2 h4; have I6 : Hid _ := I5.out.next HY.out h1 h2 h4; obtain ⟨p3, c3, rfl⟩ := h1.shape; rw [List.length_append, HK.out.1])
      refine ⟨⟨i + 1, p3, c3, by omega, rfl, by simp, ?_⟩, ?_⟩
      · have h6 := I6.out
        rw [List.length_append, HK.out.1] at h6
        exact h6
      · simp [intOf]
        omega
    · obtain rfl : i = n := by omega
      have hii : ¬ (i : Int) < (i : Int) := by omega
      have HE : Hid (AR wr (.slice p i c') D ∧ Below w.heap.size w wr ∧ ∀ j, (Value.slice p i c').ownBlock = some j → w.heap.size ≤ j) := by
        have h1 := HI.out.out
        rw [List.take_of_length_le (by have := HN.out; omega)] at h1
        exact ⟨h1, HI.out.b, fun j q => (HI.out.un j q).1⟩
      clear HI HT HN
      go_wp2_with fail
      go_ret
      exact ⟨p, c', rfl, HE.out⟩
theorem all_any {w : World} {X : Nat → Prop} {tb : Nat} {D : List Nd} (h : Tab w X tb D) :
    Calls Try.prog 13 #[.pointer (some ⟨tb, 0, none⟩)] w fun e w' => ∃ p c', e = .returned (.slice p D.length c') ∧ Hid (AR w' (.slice p D.length c') D ∧ Below w.heap.size w w' ∧ ∀ j, (Value.slice p D.length c').ownBlock = some j → w.heap.size ≤ j) := by
  obtain ⟨⟨S, mb, R, h1, -⟩, -⟩ := h
  exact all_at h1
set_option maxHeartbeats 1000000 in
theorem live_raw (w : World) (p : Value) (D : List Nd) (hD : D.length ≤ 12) (H : Hid (Calls Try.prog 13 #[p] w fun e w' => ∃ q c', e = .returned (.slice q D.length c') ∧ Hid (AR w' (.slice q D.length c') D ∧ Below w.heap.size w w' ∧ ∀ j, (Value.slice q D.length c').ownBlock = some j → w.heap.size ≤ j))) :
    Calls Try.prog 14 #[p] w fun e w' => ∃ q m c', e = .returned (.slice q m c') ∧ Hid (m = (D.filter Nd.lv).length ∧ VR w' q (D.filter Nd.lv) ∧ Below w.heap.size w w' ∧ ∀ g, q = some ⟨g, 0, none⟩ → w.heap.size ≤ g) := by
  have HL : Hid (D.length ≤ 4096) := by show _ ≤ _; omega
  clear hD
  go_enter Try.func14, Try.ntmps14
  go_wp2_with (first | (go_at_call 13; refine H.out.mono ?_; rintro e w1 ⟨q, c', rfl, h1⟩) | (go_at_call 29; refine (del_any h1.out.1 HL.out).mono ?_; rintro e w2 ⟨m, rfl, h2⟩))
  go_ret
  refine ⟨q, m, c', rfl, h2.out.1, h2.out.2.1, ?_, fun g e => h1.out.2.2 g (by rw [e]; rfl)⟩
  exact h1.out.2.1.trans (h2.out.2.2.below h1.out.2.1.size fun k hk e => by have := h1.out.2.2 k e; omega)
theorem live_any {w : World} {X : Nat → Prop} {tb : Nat} {D : List Nd} (h : Tab w X tb D) :
    Calls Try.prog 14 #[.pointer (some ⟨tb, 0, none⟩)] w fun e w' => ∃ q m c', e = .returned (.slice q m c') ∧ Hid (m = (D.filter Nd.lv).length ∧ VR w' q (D.filter Nd.lv) ∧ Below w.heap.size w w' ∧ ∀ g, q = some ⟨g, 0, none⟩ → w.heap.size ≤ g) := live_raw w _ D h.len (all_any h)
theorem live_nil (w : World) : Calls Try.prog 14 #[.pointer none] w fun e w' => ∃ q m c', e = .returned (.slice q m c') ∧ Hid (m = (([] : List Nd).filter Nd.lv).length ∧ VR w' q (([] : List Nd).filter Nd.lv) ∧ Below w.heap.size w w' ∧ ∀ g, q = some ⟨g, 0, none⟩ → w.heap.size ≤ g) := live_raw w _ [] (by simp) ((all_nil w).mono fun e w' ⟨h1, h2⟩ => ⟨none, 0, h1, GRow.nil _ _ _ _ _, by rw [h2]; exact Below.refl _ _, fun j q => by cases q⟩)
end Go.Proofs.Ytihjmigjphljnaa
