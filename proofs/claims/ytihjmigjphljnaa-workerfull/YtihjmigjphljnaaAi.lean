/-
  slices.IndexFunc and slices.DeleteFunc at nodes: those that are live stay.
-/
import Derived.Test.YtihjmigjphljnaaBc
import Derived.Lib.SliceRun
import Derived.Laws.IdiomCopy
namespace Go.Proofs.Ytihjmigjphljnaa
open Go.RowKit Go.Maps
open Tk

/-- nodes as they lie -/
def VR (w : World) (q : Option Addr) (L : List Nd) : Prop := ∀ (i : Nat) (n : Nd), L[i]? = some n → ∃ g, q = some ⟨g, 0, none⟩ ∧ ∀ j u, (aC n)[j]? = some u → w.cell? ⟨g, i * 8 + j, none⟩ = some u
theorem AR.vr {w : World} {q : Option Addr} {n c : Nat} {L : List Nd} (h : AR w (.slice q n c) L) : VR w q L := fun _ _ hi => h.at aC_len hi
theorem VR.below {w w1 : World} {q : Option Addr} {L : List Nd} (h : VR w q L) (b : Below w.heap.size w w1) : VR w1 q L := fun i n hi => by
  obtain ⟨g, e, hc⟩ := h i n hi
  exact ⟨g, e, fun j u hu => cell_below (hc j u hu) b⟩
theorem VR.cells {w : World} {g i : Nat} {L : List Nd} {a : Nd} (h : VR w (some ⟨g, 0, none⟩) L) (hk : L[i]? = some a) : (w.cell? ⟨g, i * 8, none⟩ = some (.string a.nm) ∧ w.cell? ⟨g, i * 8 + 1, none⟩ = some (.int .i64 a.ep) ∧ w.cell? ⟨g, i * 8 + 2, none⟩ = some (.int .i64 a.v.a) ∧ w.cell? ⟨g, i * 8 + 3, none⟩ = some (.int .i64 a.v.b) ∧ w.cell? ⟨g, i * 8 + 4, none⟩ = some (.int .i64 a.v.c) ∧ w.cell? ⟨g, i * 8 + 5, none⟩ = some (.int .i64 a.v.d) ∧ w.cell? ⟨g, i * 8 + 6, none⟩ = some (.int .i64 a.sn) ∧ w.cell? ⟨g, i * 8 + 7, none⟩ = some (.bool a.lv)) := by
  obtain ⟨g', e, hc⟩ := h i a hk
  simp only [Option.some.injEq, Addr.mk.injEq, and_true] at e
  subst e
  exact ⟨hc 0 _ rfl, hc 1 _ rfl, hc 2 _ rfl, hc 3 _ rfl, hc 4 _ rfl, hc 5 _ rfl, hc 6 _ rfl, hc 7 _ rfl⟩
theorem VR.some {w : World} {q : Option Addr} {i : Nat} {L : List Nd} {a : Nd} (h : VR w q L) (hk : L[i]? = some a) : ∃ g, q = Option.some ⟨g, 0, none⟩ := by
  obtain ⟨g, e, _⟩ := h i a hk
  exact ⟨g, e⟩
set_option maxHeartbeats 1000000 in
theorem live_cl (w : World) (s : ByteArray) (ep a b c d sn : Int) (lv : Bool) : Calls Try.prog 30 #[.agg #[.string s, .int .i64 ep, .int .i64 a, .int .i64 b, .int .i64 c, .int .i64 d, .int .i64 sn, .bool lv]] w fun e w' => e = .returned (.bool (!lv)) ∧ Below w.heap.size w w' := by
  have z7 : (w.alloc (.cells #[.string s, .int .i64 ep, .int .i64 a, .int .i64 b, .int .i64 c, .int .i64 d, .int .i64 sn, .bool lv] 46)).cell? ⟨w.heap.size, 7, none⟩ = some (.bool lv) := by rw [cell_of new0]; rfl
  have Y : Hid (Below w.heap.size w (w.alloc (.cells #[.string s, .int .i64 ep, .int .i64 a, .int .i64 b, .int .i64 c, .int .i64 d, .int .i64 sn, .bool lv] 46))) := (Below.refl _ w).alloc (Nat.le_refl _) _
  go_enter Try.func30, Try.ntmps30
  go_wp2_with fail
  go_ret
  exact ⟨rfl, Y.out⟩
theorem cl_hid (x : Nd) : Hid (∀ w, Calls Try.prog 30 #[.agg #[.string x.nm, .int .i64 x.ep, .int .i64 x.v.a, .int .i64 x.v.b, .int .i64 x.v.c, .int .i64 x.v.d, .int .i64 x.sn, .bool x.lv]] w fun e w' => e = .returned (.bool (!x.lv)) ∧ Hid (Below w.heap.size w w')) := fun w => live_cl w _ _ _ _ _ _ _ _
def IxR (w : World) (L : List Nd) (e : Ending) (w' : World) : Prop := ∃ r : Int, e = .returned (.int .i64 r) ∧ Hid (((∃ k : Nat, r = k ∧ (∃ x, L[k]? = some x ∧ x.lv = false) ∧ ∀ i x, i < k → L[i]? = some x → x.lv = true) ∨ (r = -1 ∧ ∀ (i : Nat) x, L[i]? = some x → x.lv = true)) ∧ Below w.heap.size w w')
set_option maxHeartbeats 2000000 in
set_option maxRecDepth 100000 in
theorem ixf_any {w : World} {q : Option Addr} {n c : Nat} {L : List Nd} (h : AR w (.slice q n c) L) (hn1 : n ≤ 4096) : Calls Try.prog 42 #[.slice q n c, .func (.func 30) #[] #[]] w (IxR w L) := by
  have HV : Hid (VR w q L) := h.vr
  have HN : Hid (n = L.length) := h.len
  clear h
  go_enter Try.func42, Try.ntmps42
  go_wp2_with fail
  go_loopw [8] (fun t wr => ∃ k : Nat, k ≤ n ∧ t = .int .i64 k ∧ Hid (Below w.heap.size w wr ∧ ∀ i x, i < k → L[i]? = some x → x.lv = true)) (fun t _ => n - (intOf t).toNat)
  case atStart => exact ⟨0, Nat.zero_le _, rfl, Below.refl _ _, fun i x hi => absurd hi (Nat.not_lt_zero _)⟩
  case round =>
    obtain ⟨k, hk, rfl, HI⟩ := hrel
    by_cases hlt : k < n
    · obtain ⟨x, hx⟩ : ∃ x, L[k]? = some x := ⟨L[k]'(by have := HN.out; omega), List.getElem?_eq_getElem _⟩
      obtain ⟨g, rfl⟩ := HV.out.some hx
      obtain ⟨x0, x1, x2, x3, x4, x5, x6, x7⟩ := (HV.out.below HI.out.1).cells hx
      have hi : (k : Int) < (n : Int) := by omega
      have HX : Hid (L[k]? = some x) := hx
      have HC := cl_hid x
      clear hx
      cases hl : x.lv with
      | true =>
        rw [hl] at HC x7
        have HY : Hid (∀ w2, Below wr.heap.size wr w2 → Below w.heap.size w w2 ∧ ∀ i y, i < k + 1 → L[i]? = some y → y.lv = true) := fun w2 b => ⟨below_from HI.out.1 b HI.out.1.size, fun i y hi hy => by
          by_cases e : i = k
          · subst e
            obtain rfl := Option.some.inj (HX.out.symm.trans hy)
            exact hl
          · exact HI.out.2 i y (by omega) hy⟩
        clear HI HV hl
        go_wp2_with (go_at_call 30; refine (HC.out _).mono ?_; rintro e w2 ⟨rfl, hb⟩)
        exact ⟨⟨k + 1, by omega, by simp, HY.out _ hb.out⟩, by simp [intOf]; omega⟩
      | false =>
        rw [hl] at HC x7
        have HY : Hid (∀ w2, Below wr.heap.size wr w2 → (((∃ j : Nat, (k : Int) = j ∧ (∃ x, L[j]? = some x ∧ x.lv = false) ∧ ∀ i x, i < j → L[i]? = some x → x.lv = true) ∨ ((k : Int) = -1 ∧ ∀ (i : Nat) x, L[i]? = some x → x.lv = true)) ∧ Below w.heap.size w w2)) := fun w2 b => ⟨.inl ⟨k, rfl, ⟨x, HX.out, hl⟩, HI.out.2⟩, below_from HI.out.1 b HI.out.1.size⟩
        clear HI HV hl
        go_wp2_with (go_at_call 30; refine (HC.out _).mono ?_; rintro e w2 ⟨rfl, hb⟩)
        go_ret
        exact ⟨_, rfl, HY.out _ hb.out⟩
    · have hi : ¬ (k : Int) < (n : Int) := by omega
      have HY : Hid (IxR w L (.returned (.int .i64 (-1))) wr) := ⟨-1, rfl, .inr ⟨rfl, fun i x hx => HI.out.2 i x (by have := (List.getElem?_eq_some_iff.1 hx).1; have := HN.out; omega) hx⟩, HI.out.1⟩
      clear HI HV
      go_wp2_with fail
      go_ret
      exact HY.out
/-! ### DeleteFunc -/
def zs (n : Nat) : List Value := (Builtin.zeroCells (Value.agg #[.string ⟨#[]⟩, .int .i64 0, .int .i64 0, .int .i64 0, .int .i64 0, .int .i64 0, .int .i64 0, .bool false]).cells n).toList
theorem zcells : (Value.agg #[.string ⟨#[]⟩, .int .i64 0, .int .i64 0, .int .i64 0, .int .i64 0, .int .i64 0, .int .i64 0, .bool false]).cells = #[.string ⟨#[]⟩, .int .i64 0, .int .i64 0, .int .i64 0, .int .i64 0, .int .i64 0, .int .i64 0, .bool false] := by kernel_rfl
theorem zs_len (n : Nat) : (zs n).length = n * 8 := by
  unfold zs Builtin.zeroCells
  rw [zcells]
  simp
theorem zs_one (n : Nat) : ∀ v ∈ zs n, v.oneCell' = true := by
  intro v hv
  unfold zs Builtin.zeroCells at hv
  rw [zcells] at hv
  simp only [Array.toList_map, List.mem_map] at hv
  obtain ⟨i, _, rfl⟩ := hv
  have h3 : i % #[(Value.string ⟨#[]⟩ : Value), .int .i64 0, .int .i64 0, .int .i64 0, .int .i64 0, .int .i64 0, .int .i64 0, .bool false].size < 8 := Nat.mod_lt _ (by decide)
  generalize i % #[(Value.string ⟨#[]⟩ : Value), .int .i64 0, .int .i64 0, .int .i64 0, .int .i64 0, .int .i64 0, .int .i64 0, .bool false].size = j at *
  match j, h3 with
  | 0, _ => rfl
  | 1, _ => rfl
  | 2, _ => rfl
  | 3, _ => rfl
  | 4, _ => rfl
  | 5, _ => rfl
  | 6, _ => rfl
  | 7, _ => rfl
theorem run_clear8 (w : World) (ty : TypeId) (g o n c : Nat) (hn : 0 < n) (hc : ∀ j, j < n * 8 → (w.cell? ⟨g, o + j, none⟩).isSome = true) (hf : ∀ j, j < n * 8 → w.frozen? ⟨g, o + j, none⟩ = false) :
    (Builtin.clear_ #[27] ty #[.slice (some ⟨g, o, none⟩) n c]).run Try.prog w = .ok (.tuple #[]) (w.setCells g o (zs n)) := by
  have hst := run_storeCells_cells (P := Try.prog) g o (zs n) 0 w (by rw [zs_len]; simpa using hc) (by rw [zs_len]; simpa using hf) (zs_one n)
  simp only [Nat.add_zero] at hst
  obtain ⟨m, rfl⟩ : ∃ m, n = m + 1 := ⟨n - 1, by omega⟩
  unfold zs at hst
  simp [Builtin.clear_, run_underlying Try.underlying27, Try.zeroValue46, hst, zs]
theorem setCells_kp {g : Nat} : ∀ (vs : List Value) (o : Nat) (w : World), Kp (· = g) w (w.setCells g o vs)
  | [], _, _ => Kp.refl _ _
  | v :: r, o, w => Kp.trans (S := (· = g)) (S' := (· = g)) (Kp.of_set w ⟨g, o, none⟩ v rfl) (setCells_kp r (o + 1) _) fun _ _ e => e
/-- while nodes are deleted -/
def Dl (w : World) (g n c : Nat) (L : List Nd) (i j : Nat) (wr : World) : Prop := ∃ L', AR wr (.slice (some ⟨g, 0, none⟩) n c) L' ∧ L'.length = n ∧ L'.take i = (L.take j).filter Nd.lv ∧ L'.drop j = L.drop j ∧ Kp (· = g) w wr
set_option maxHeartbeats 2000000 in
set_option maxRecDepth 100000 in
theorem del_any {w : World} {q : Option Addr} {n c : Nat} {L : List Nd} (h : AR w (.slice q n c) L) (hn1 : n ≤ 4096) : Calls Try.prog 29 #[.slice q n c, .func (.func 30) #[] #[]] w fun e w' => ∃ m : Nat, e = .returned (.slice q m c) ∧ Hid (m = (L.filter Nd.lv).length ∧ VR w' q (L.filter Nd.lv) ∧ Kp (fun j => (Value.slice q n c).ownBlock = some j) w w') := by
  have H59 : Hid (Calls Try.prog 42 #[.slice q n c, .func (.func 30) #[] #[]] w (IxR w L)) := ixf_any h hn1
  have HR : Hid (AR w (.slice q n c) L) := h
  have HN : Hid (n = L.length) := h.len
  clear h
  go_enter Try.func29, Try.ntmps29
  go_upto_region 2 with (go_at_call 42; refine H59.out.mono ?_; rintro e w1 ⟨r, rfl, h1⟩)
  clear H59
  rcases h1.out.1 with ⟨k, rfl, ⟨x, hx, hfx⟩, hlt⟩ | ⟨rfl, hall⟩
  · obtain ⟨g, rfl⟩ := HR.out.vr.some hx
    have k0 : ((k : Int) == -1) = false := by simp
    have k00 : ¬ (k : Int) = -1 := by omega
    have hkn : k < n := by have := (List.getElem?_eq_some_iff.1 hx).1; have := HN.out; omega
    have hnc : n ≤ c := by
      rcases HR.out.2 with ⟨e, _⟩ | ⟨g', cap, cur, e, _, _, r1, _⟩
      · cases e
      · cases e; have := HN.out; omega
    have hc : c ≤ 9223372036854775807 := by
      rcases HR.out.2 with ⟨e, _⟩ | ⟨g', cap, cur, e, _, _, _, r2, _⟩
      · cases e
      · cases e; unfold maxLen at r2; omega
    have hg : g < w.heap.size := HR.out.lt rfl
    have H0 : Hid (Dl w g n c L k (k + 1) w1) := by
      refine ⟨L, HR.out.below h1.out.2, HN.out.symm, ?_, rfl, Kp.of_below h1.out.2⟩
      rw [List.take_add_one, hx, List.filter_append]
      have : List.filter Nd.lv (Option.toList (some x)) = [] := by simp [hfx]
      rw [this, List.append_nil]
      refine (List.filter_eq_self.2 fun y hy => ?_).symm
      obtain ⟨i, hi, e⟩ := List.getElem_of_mem hy
      rw [List.length_take] at hi
      rw [List.getElem_take] at e
      exact hlt i y (by omega) (by rw [List.getElem?_eq_getElem (by omega), e])
    clear h1 hx hfx hlt HR
    go_wp2_with fail
    go_loopw [5, 6, 7] (fun t5 t6 _ wr => ∃ i j : Nat, t5 = .int .i64 i ∧ t6 = .int .i64 j ∧ i < j ∧ j ≤ n ∧ Hid (Dl w g n c L i j wr)) (fun _ t6 _ _ => n - (intOf t6).toNat)
    case atStart => exact ⟨k, k + 1, rfl, by simp, by omega, hkn, H0.out⟩
    case round =>
      clear H0
      obtain ⟨i, j, rfl, rfl, hij, hjn, HI⟩ := hrel
      by_cases hj : j < n
      · have j1 : (j : Int) < (n : Int) := by omega
        obtain ⟨y, hy⟩ : ∃ y, L[j]? = some y := ⟨_, List.getElem?_eq_getElem (by have := HN.out; omega)⟩
        obtain ⟨S', q1, q2, q3, q4, q5⟩ := HI.out
        have hy' : S'[j]? = some y := by
          have e1 : (S'.drop j)[0]? = (L.drop j)[0]? := by rw [q4]
          rw [List.getElem?_drop, List.getElem?_drop, Nat.add_zero] at e1
          rw [e1]; exact hy
        have hgw : g < wr.heap.size := Nat.lt_of_lt_of_le hg q5.size
        obtain ⟨y0, y1, y2, y3, y4, y5, y6, y7⟩ := q1.cells hy'
        have i1 : (i : Int) < (n : Int) := by omega
        have HQ : Hid (∀ W, Below wr.heap.size wr W → AR W (.slice (some ⟨g, 0, none⟩) n c) S' ∧ Kp (· = g) w W) := fun W b => ⟨q1.below b, q5.trans (Kp.of_below (S := (· = g)) b) fun _ _ e => e⟩
        have BA : Hid (Below wr.heap.size wr (wr.alloc (.cells #[.string y.nm, .int .i64 y.ep, .int .i64 y.v.a, .int .i64 y.v.b, .int .i64 y.v.c, .int .i64 y.v.d, .int .i64 y.sn, .bool y.lv] 46))) := (Below.refl _ _).alloc (Nat.le_refl _) _
        have HZ : Hid ((wr.alloc (.cells #[.string y.nm, .int .i64 y.ep, .int .i64 y.v.a, .int .i64 y.v.b, .int .i64 y.v.c, .int .i64 y.v.d, .int .i64 y.sn, .bool y.lv] 46)).heap[wr.heap.size]? = some (.cells #[.string y.nm, .int .i64 y.ep, .int .i64 y.v.a, .int .i64 y.v.b, .int .i64 y.v.c, .int .i64 y.v.d, .int .i64 y.sn, .bool y.lv] 46 (0, 0))) := new0
        have HC := cl_hid y
        have HS : Hid (S'.length = n ∧ S'.take i = (L.take j).filter Nd.lv ∧ S'.drop j = L.drop j ∧ L[j]? = some y) := ⟨q2, q3, q4, hy⟩
        have HT : Hid (i < S'.length ∧ i < j) := by constructor <;> omega
        clear q1 q2 q3 q4 q5 HI hy hy'
        go_upto_region 8 with fail
        clear y0 y1 y2 y3 y4 y5 y6 y7
        generalize wr.alloc (.cells #[.string y.nm, .int .i64 y.ep, .int .i64 y.v.a, .int .i64 y.v.b, .int .i64 y.v.c, .int .i64 y.v.d, .int .i64 y.sn, .bool y.lv] 46) = W1 at *
        have z0 : W1.cell? ⟨wr.heap.size, 0, none⟩ = some (.string y.nm) := by rw [cell_of HZ.out]; rfl
        have z1 : W1.cell? ⟨wr.heap.size, 1, none⟩ = some (.int .i64 y.ep) := by rw [cell_of HZ.out]; rfl
        have z2 : W1.cell? ⟨wr.heap.size, 2, none⟩ = some (.int .i64 y.v.a) := by rw [cell_of HZ.out]; rfl
        have z3 : W1.cell? ⟨wr.heap.size, 3, none⟩ = some (.int .i64 y.v.b) := by rw [cell_of HZ.out]; rfl
        have z4 : W1.cell? ⟨wr.heap.size, 4, none⟩ = some (.int .i64 y.v.c) := by rw [cell_of HZ.out]; rfl
        have z5 : W1.cell? ⟨wr.heap.size, 5, none⟩ = some (.int .i64 y.v.d) := by rw [cell_of HZ.out]; rfl
        have z6 : W1.cell? ⟨wr.heap.size, 6, none⟩ = some (.int .i64 y.sn) := by rw [cell_of HZ.out]; rfl
        have z7 : W1.cell? ⟨wr.heap.size, 7, none⟩ = some (.bool y.lv) := by rw [cell_of HZ.out]; rfl
        cases hb : y.lv
        · rw [hb] at HC z7
          have HN : Hid (∀ W, Below wr.heap.size wr W → Dl w g n c L i (j + 1) W) := fun W b => by
            obtain ⟨p1, p2⟩ := HQ.out W b
            obtain ⟨h1, h2, h3, h4⟩ := HS.out
            refine ⟨S', p1, h1, ?_, ?_, p2⟩
            · rw [List.take_add_one (i := j), h4, List.filter_append, ← h2]
              have e1 : List.filter Nd.lv (Option.toList (some y)) = [] := by simp [hb]
              rw [e1, List.append_nil]
            · have := congrArg (List.drop 1) h3
              rwa [List.drop_drop, List.drop_drop] at this
          clear HQ HS hb HZ
          go_wp2_with (go_at_call 30; refine (HC.out _).mono ?_; rintro e w3 ⟨rfl, h3⟩)
          exact ⟨⟨i, j + 1, rfl, by simp, by omega, by omega, HN.out _ (BA.out.trans (h3.out.mono BA.out.size))⟩, by simp [intOf]; omega⟩
        · rw [hb] at HC z7
          have HN : Hid (∀ W, Below wr.heap.size wr W → Dl w g n c L (i + 1) (j + 1) (set8 W g (i * 8) y)) := fun W b => by
            obtain ⟨p1, p2⟩ := HQ.out W b
            obtain ⟨h1, h2, h3, h4⟩ := HS.out
            refine ⟨S'.set i y, ar_set8 p1 HT.out.1 y, by rw [List.length_set]; exact h1, ?_, ?_, kp_set8 p2 rfl⟩
            · rw [List.take_add_one (i := j), h4, List.filter_append, ← h2]
              have e1 : List.filter Nd.lv (Option.toList (some y)) = [y] := by simp [hb]
              rw [e1, List.take_add_one, List.getElem?_set_self HT.out.1, List.take_set_of_le (Nat.le_refl _)]
              rfl
            · have := HT.out.2
              rw [List.drop_set_of_lt (by omega)]
              have := congrArg (List.drop 1) h3
              rwa [List.drop_drop, List.drop_drop] at this
          obtain ⟨z, hz⟩ : ∃ z, S'[i]? = some z := ⟨_, List.getElem?_eq_getElem HT.out.1⟩
          have HA : Hid (∀ W, Below wr.heap.size wr W → AR W (.slice (some ⟨g, 0, none⟩) n c) S') := fun W b => (HQ.out W b).1
          clear HQ HS z0 z1 z2 z3 z4 z5 z6 z7
          have z0 : W1.cell? ⟨wr.heap.size, 0, none⟩ = some (.string y.nm) := by rw [cell_of HZ.out]; rfl
          have z1 : W1.cell? ⟨wr.heap.size, 1, none⟩ = some (.int .i64 y.ep) := by rw [cell_of HZ.out]; rfl
          have z2 : W1.cell? ⟨wr.heap.size, 2, none⟩ = some (.int .i64 y.v.a) := by rw [cell_of HZ.out]; rfl
          have z3 : W1.cell? ⟨wr.heap.size, 3, none⟩ = some (.int .i64 y.v.b) := by rw [cell_of HZ.out]; rfl
          have z4 : W1.cell? ⟨wr.heap.size, 4, none⟩ = some (.int .i64 y.v.c) := by rw [cell_of HZ.out]; rfl
          have z5 : W1.cell? ⟨wr.heap.size, 5, none⟩ = some (.int .i64 y.v.d) := by rw [cell_of HZ.out]; rfl
          have z6 : W1.cell? ⟨wr.heap.size, 6, none⟩ = some (.int .i64 y.sn) := by rw [cell_of HZ.out]; rfl
          have z7 : W1.cell? ⟨wr.heap.size, 7, none⟩ = some (.bool true) := by rw [cell_of HZ.out, ← hb]; rfl
          go_upto_region 9 with (go_at_call 30; refine (HC.out _).mono ?_; rintro e w3 ⟨rfl, h3⟩)
          have B3 : Hid (Below wr.heap.size wr w3) := BA.out.trans (h3.out.mono BA.out.size)
          have hbl1 : wr.heap.size < W1.heap.size := (Array.getElem?_eq_some_iff.1 HZ.out).1
          have HZ3 : Hid (w3.heap[wr.heap.size]? = _) := at_below h3.out (Nat.le_refl _) HZ.out
          clear z0 z1 z2 z3 z4 z5 z6 z7
          have z0 : w3.cell? ⟨wr.heap.size, 0, none⟩ = some (.string y.nm) := by rw [cell_of HZ3.out]; rfl
          have z1 : w3.cell? ⟨wr.heap.size, 1, none⟩ = some (.int .i64 y.ep) := by rw [cell_of HZ3.out]; rfl
          have z2 : w3.cell? ⟨wr.heap.size, 2, none⟩ = some (.int .i64 y.v.a) := by rw [cell_of HZ3.out]; rfl
          have z3 : w3.cell? ⟨wr.heap.size, 3, none⟩ = some (.int .i64 y.v.b) := by rw [cell_of HZ3.out]; rfl
          have z4 : w3.cell? ⟨wr.heap.size, 4, none⟩ = some (.int .i64 y.v.c) := by rw [cell_of HZ3.out]; rfl
          have z5 : w3.cell? ⟨wr.heap.size, 5, none⟩ = some (.int .i64 y.v.d) := by rw [cell_of HZ3.out]; rfl
          have z6 : w3.cell? ⟨wr.heap.size, 6, none⟩ = some (.int .i64 y.sn) := by rw [cell_of HZ3.out]; rfl
          have z7 : w3.cell? ⟨wr.heap.size, 7, none⟩ = some (.bool true) := by rw [cell_of HZ3.out, ← hb]; rfl
          have ar3 := HA.out w3 B3.out
          obtain ⟨d0, d1, d2, d3, d4, d5, d6, d7⟩ := ar3.cells hz
          have f0 := ar3.fz (i * 8)
          have f1 := ar3.fz (i * 8 + 1)
          have f2 := ar3.fz (i * 8 + 2)
          have f3 := ar3.fz (i * 8 + 3)
          have f4 := ar3.fz (i * 8 + 4)
          have f5 := ar3.fz (i * 8 + 5)
          have f6 := ar3.fz (i * 8 + 6)
          have f7 := ar3.fz (i * 8 + 7)
          have HN3 : Hid (Dl w g n c L (i + 1) (j + 1) (set8 w3 g (i * 8) y)) := HN.out w3 B3.out
          unfold set8 at HN3
          rw [hb] at HN3
          clear HN HC B3 BA h3 HA HZ HZ3 hz ar3 hb HT
          go_wp2_with fail
          exact ⟨⟨i + 1, j + 1, by simp, by simp, by omega, by omega, HN3.out⟩, by simp [intOf]; omega⟩
      · have j1 : ¬ (j : Int) < (n : Int) := by omega
        obtain rfl : j = n := by omega
        obtain ⟨S', q1, q2, q3, q4, q5⟩ := HI.out
        have eS : L.take j = L := List.take_of_length_le (by have := HN.out; omega)
        rw [eS] at q3
        clear eS
        have hcl : ∀ ty, (Builtin.clear_ #[27] ty #[.slice (some ⟨g, i * 8, none⟩) (j - i) (c - i)]).run Try.prog wr = .ok (.tuple #[]) (wr.setCells g (i * 8) (zs (j - i))) := fun ty => by
          have hcell : ∀ t, t < (j - i) * 8 → ∃ v, wr.cell? ⟨g, i * 8 + t, none⟩ = some v ∧ wr.frozen? ⟨g, i * 8 + t, none⟩ = false := fun t ht => by
            obtain ⟨z, hz⟩ : ∃ z, S'[i + t / 8]? = some z := ⟨_, List.getElem?_eq_getElem (by omega)⟩
            obtain ⟨v, hv⟩ : ∃ v, (aC z)[t % 8]? = some v := ⟨_, List.getElem?_eq_getElem (by rw [aC_len]; omega)⟩
            have h1 := ar_range q1 hz (t % 8) v hv
            rw [show (i + t / 8) * 8 + t % 8 = i * 8 + t by omega] at h1
            exact ⟨v, h1, q1.fz _⟩
          exact run_clear8 wr ty g (i * 8) (j - i) (c - i) (by omega) (fun t ht => by obtain ⟨v, h1, _⟩ := hcell t ht; rw [h1]; rfl) (fun t ht => by obtain ⟨v, _, h2⟩ := hcell t ht; exact h2)
        have HF : Hid (i = (L.filter Nd.lv).length ∧ VR (wr.setCells g (i * 8) (zs (j - i))) (some ⟨g, 0, none⟩) (L.filter Nd.lv) ∧ Kp (· = g) w (wr.setCells g (i * 8) (zs (j - i)))) := by
          rw [← q3]
          refine ⟨by rw [List.length_take]; omega, fun a t ha => ⟨g, rfl, fun b u hu => ?_⟩, Kp.trans (S := (· = g)) (S' := (· = g)) q5 (setCells_kp _ _ _) fun _ _ e => e⟩
          have hai : a < i := by have := (List.getElem?_eq_some_iff.1 ha).1; rw [List.length_take] at this; omega
          have hb3 : b < 8 := (List.getElem?_eq_some_iff.1 hu).1
          rw [List.getElem?_take, if_pos hai] at ha
          exact (World.cell?_setCells_out g _ _ _ _ (fun _ _ => .inl (by show a * 8 + b < i * 8; omega))).trans (ar_range q1 ha b u hu)
        have b1 : (i : Int) ≤ (j : Int) := by omega
        have b2 : (j : Int) ≤ (c : Int) := by omega
        have b3 : (i : Int) ≤ (c : Int) := by omega
        have b4 : ¬ c = i := by omega
        have b5 : (0 : Int) ≤ (i : Int) := by omega
        have hgw : g < wr.heap.size := Nat.lt_of_lt_of_le hg q5.size
        have HG : Hid (∀ W', Kp (· = g) w W' → Kp (fun k => (Value.slice (some ⟨g, 0, none⟩) j c).ownBlock = some k) w W') := fun W' k => k.mono fun k _ e => by rw [show k = g from e]; rfl
        generalize wr.setCells g (i * 8) (zs (j - i)) = W9 at *
        clear q1 q2 q3 q4 q5 HI
        go_wp2_with fail
        go_ret
        exact ⟨i, rfl, HF.out.1, HF.out.2.1, HG.out _ HF.out.2.2⟩
  · have e : L.filter Nd.lv = L := List.filter_eq_self.2 fun y hy => by
      obtain ⟨i, hi, e⟩ := List.getElem_of_mem hy
      exact hall i y (by rw [List.getElem?_eq_getElem hi, e])
    have HF : Hid (n = (L.filter Nd.lv).length ∧ VR w1 q (L.filter Nd.lv) ∧ Kp (fun j => (Value.slice q n c).ownBlock = some j) w w1) := by
      rw [e]
      exact ⟨HN.out, (HR.out.vr).below h1.out.2, Kp.of_below h1.out.2⟩
    clear hall h1 e
    go_wp2_with fail
    go_ret
    exact ⟨n, rfl, HF.out⟩
end Go.Proofs.Ytihjmigjphljnaa
