/-
  Usages and tenants as plain data; their rows; the order of names by SortFunc.
-/
import Derived.Test.YtcgaekaollhmpaaGreatShelfB
import Derived.Test.YtcgaekaollhmpaaGreatGr
import Derived.Test.YtcgaekaollhmpaaGreatPp
import Derived.Test.YtcgaekaollhmpaaGreatCShB
import Derived.Lib.QuietBelow
namespace Go.Proofs.YtcgaekaollhmpaaGreat
open Go.RowKit Go.Maps Go.Sort Go.Shelf Go.Lib

/-- a usage -/
structure U where
  nm : List UInt8
  wt : Int
  v : Vs.V
/-- a tenant with its share -/
structure Tn where
  nm : List UInt8
  n : Nat
  d : Nat
def uC (u : U) : List Value := [.string ⟨⟨u.nm⟩⟩, .int .i64 u.wt, .int .i64 u.v.a, .int .i64 u.v.b, .int .i64 u.v.c, .int .i64 u.v.d]
def tC (t : Tn) : List Value := [.string ⟨⟨t.nm⟩⟩, .int .u64 t.n, .int .u64 t.d]
theorem uC_len (u : U) : (uC u).length = 6 := rfl
theorem tC_len (t : Tn) : (tC t).length = 3 := rfl
theorem tC_one (t : Tn) : ∀ u ∈ tC t, u.oneCell' = true := by
  intro u hu
  simp only [tC, List.mem_cons, List.not_mem_nil, or_false] at hu
  rcases hu with rfl | rfl | rfl <;> rfl
/-- a tenant's row, as it is read and may be written -/
def Tr (w : World) (g : Nat) (S : List Tn) : Prop := ∀ i t, S[i]? = some t → ∀ j u, (tC t)[j]? = some u → w.cell? ⟨g, i * 3 + j, none⟩ = some u ∧ w.frozen? ⟨g, i * 3 + j, none⟩ = false
theorem less_before : ∀ (a b : List UInt8), Op.bytesLess a b = bytesBefore a b
  | [], [] => rfl
  | [], _ :: _ => rfl
  | _ :: _, [] => rfl
  | x :: r, y :: s => by
    unfold Op.bytesLess bytesBefore
    rw [less_before r s]
theorem comp_lt : ∀ (a b : List UInt8), decide (compareBytes a b < 0) = bytesBefore a b
  | [], [] => rfl
  | [], _ :: _ => rfl
  | _ :: _, [] => rfl
  | x :: r, y :: s => by
    unfold compareBytes bytesBefore
    rw [← comp_lt r s]
    by_cases h1 : x < y
    · simp [h1]
    · by_cases h2 : y < x
      · have h3 : x ≠ y := fun e => by subst e; exact absurd h2 (by simp)
        simp [h1, h2, h3]
      · have h3 : x = y := by
          rcases Nat.lt_trichotomy x.toNat y.toNat with h | h | h
          · exact absurd (UInt8.lt_iff_toNat_lt.2 h) h1
          · exact UInt8.toNat_inj.1 h
          · exact absurd (UInt8.lt_iff_toNat_lt.2 h) h2
        subst h3
        simp
def Gw (w w' : World) : Prop := Below w.heap.size w w' ∧ w.drawn ≤ w'.drawn
theorem gw_grow {w w' : World} (h : Gw w w') : ∃ q os, w' = grow (w.drewN q) os := by
  obtain ⟨p, hp⟩ := regrown_of_below h.1
  have hd : w'.drawn = p.d := by rw [hp]; rfl
  have h2 := h.2
  rw [hd] at h2
  refine ⟨p.d - w.drawn, p.os, ?_⟩
  rw [hp]
  have : redrawn w p.d = w.drewN (p.d - w.drawn) := by
    unfold redrawn World.drewN
    rw [Nat.add_sub_cancel' h2]
  rw [this]
set_option maxHeartbeats 400000 in
theorem names_cmp (x y : Tn) (w : World) : Calls Tryz.prog 17 #[.agg #[.string ⟨⟨x.nm⟩⟩, .int .u64 x.n, .int .u64 x.d], .agg #[.string ⟨⟨y.nm⟩⟩, .int .u64 y.n, .int .u64 y.d]] w fun e w' => e = .returned (.int .i64 (compareBytes x.nm y.nm)) ∧ Gw w w' := by
  go_enter Tryz.func17, Tryz.ntmps17
  go_wp2_with (go_at_call 18; refine (Tryz.strings_Compare _ _ _).mono ?_; rintro e w1 ⟨rfl, rfl⟩)
  go_ret
  exact ⟨rfl, by go_grown, Nat.le_refl _⟩
instance : Inhabited Tn := ⟨⟨[], 0, 0⟩⟩
def cfT (x y : Tn) : Int := compareBytes x.nm y.nm
theorem cfT_lt (x y : Tn) : ltOf cfT x y = bytesBefore x.nm y.nm := comp_lt _ _
theorem bb_tr {x y z : List UInt8} (h1 : bytesBefore x y = false) (h2 : bytesBefore y z = false) : bytesBefore x z = false := by
  cases h : bytesBefore x z with
  | false => rfl
  | true =>
    by_cases e : x = y
    · subst e; rw [h] at h2; cases h2
    · rcases WideAt.bytes_total x y e with q | q
      · rw [q] at h1; cases h1
      · have := WideShapes.bytes_trans _ _ _ q h; rw [this] at h2; cases h2
theorem cfT_swo : SWO (ltOf cfT) where
  irrefl x := by rw [cfT_lt]; exact WideAt.bytes_irrefl _
  trans x y z h1 h2 := by rw [cfT_lt] at *; exact WideShapes.bytes_trans _ _ _ h1 h2
  ntrans x y z h1 h2 := by rw [cfT_lt] at *; exact bb_tr h1 h2
theorem putK_other {α : Type} [Inhabited α] (ec : α → List Value) (s : Nat) (w : World) (blk off : Nat) (d : Array α) {k : Nat} (hk : k ≠ blk) : (putRowK ec s w blk off d).heap[k]? = w.heap[k]? := by
  unfold putRowK putRow mapBlock
  simp [Array.getElem?_modify, Ne.symm hk]
theorem srtK_other {α : Type} [Inhabited α] (ec : α → List Value) (s : Nat) (w : World) (blk off m : Nat) (d : Array α) (os : Array Obj) {k : Nat} (hk : k ≠ blk) (hl : k < w.heap.size) : (sortWorldK ec s w blk off m d os).heap[k]? = w.heap[k]? := by
  have h1 : (sortWorldK ec s w blk off m d os).heap = (putRowK ec s (Sort.ahead w m) blk off d).heap ++ os := rfl
  rw [h1, Array.getElem?_append_left (by rw [size_putRowK]; exact hl), putK_other ec s _ _ _ _ hk]
  rfl
theorem Tr.holds {w : World} {g : Nat} {S : List Tn} (h : Tr w g S) : HoldsK tC 3 w g 0 S.toArray := fun j hj => by
  rw [size_flatK] at hj
  have hs : S.toArray.size = S.length := by simp
  rw [hs] at hj
  have hi : j / 3 < S.length := by omega
  rw [id, get_flatK _ _ _ _ (by rw [hs]; exact hj)]
  have e1 : S.toArray[j / 3]! = S[j / 3] := by rw [getElem!_pos _ _ (by rw [hs]; exact hi)]; simp
  have h3 : j % 3 < (tC S[j / 3]).length := by rw [tC_len]; omega
  have := h (j / 3) _ (List.getElem?_eq_getElem hi) (j % 3) _ (List.getElem?_eq_getElem h3)
  rw [show j / 3 * 3 + j % 3 = j by omega] at this
  rw [e1, Nat.zero_add, getElem!_pos (tC S[j / 3]) (j % 3) h3]
  exact this
theorem Tr.of_holds {w : World} {g : Nat} {d : Array Tn} (h : HoldsK tC 3 w g 0 d) : Tr w g d.toList := fun i t ht j u hu => by
  obtain ⟨hi, rfl⟩ := List.getElem?_eq_some_iff.1 ht
  obtain ⟨hj, rfl⟩ := List.getElem?_eq_some_iff.1 hu
  have hi' : i < d.size := by simpa using hi
  have hj' : j < 3 := hj
  have := h (i * 3 + j) (by rw [size_flatK]; omega)
  rw [id, get_flatK _ _ _ _ (by omega), Nat.zero_add, show (i * 3 + j) / 3 = i by omega, show (i * 3 + j) % 3 = j by omega, getElem!_pos d i hi', getElem!_pos (tC d[i]) j hj'] at this
  exact this
theorem sortT_any (w : World) (S : List Tn) (g cap : Nat) (hg : g < w.heap.size) (hlen : S.length ≤ 1000000) (hrow : Tr w g S) :
    Calls Tryz.prog 16 #[.slice (some ⟨g, 0, none⟩) S.length cap, .func (.func 17) #[] #[]] w fun e w' => e = .returned (.tuple #[]) ∧ ∃ S' : List Tn, S'.Perm S ∧ (S'.Pairwise fun a b => bytesBefore b.nm a.nm = false) ∧ Tr w' g S' ∧ Kp (· = g) w w' := by
  have hsz : S.toArray.size = S.length := by simp
  have eg : ∀ args w, (callFunc 17 args).run Tryz.prog w = .ok (.enter 17 args) w := enters_of Tryz.func17 (by kernel_rfl) rfl
  have hcmp : CmpLays Tryz.prog 17 #[] tC 3 cfT g 0 S.toArray.size w := fun m os dk hs x y => (names_cmp x y _).mono fun e w' ⟨he, hw⟩ => ⟨he, gw_grow hw⟩
  have hcon := AnyQ.slices_SortFunc Tryz.sortT 3 Tryz.isAgg51 Tryz.sizeOf51 tC tC_len tC_one cfT cfT_swo 17 #[] g 0 cap S.toArray w eg hcmp hrow.holds hg (by rw [hsz]; omega)
  rw [hsz] at hcon
  refine (show Calls Tryz.prog 16 _ w _ from hcon).mono ?_
  rintro e w' ⟨he, d', n, os, hp, hs, hw⟩
  have hz := hp.1.trans hsz
  refine ⟨he, d'.toList, ?_, ?_, ?_, ?_⟩
  · have h1 := hp.2.2
    have s1 : d'.extract 0 S.length = d' := by rw [← hz]; exact Array.extract_size
    have s2 : S.toArray.extract 0 S.length = S.toArray := by
      have := Array.extract_size (xs := S.toArray)
      rwa [hsz] at this
    rw [s1, s2] at h1
    simpa using h1
  · refine List.pairwise_iff_getElem.2 fun i j hi hj hij => ?_
    have hi' : i < d'.size := by simpa using hi
    have hj' : j < d'.size := by simpa using hj
    have := hs i j (Nat.zero_le _) hij (by omega)
    rw [cfT_lt, getElem!_pos d' j hj', getElem!_pos d' i hi'] at this
    simpa using this
  · rw [hw]
    exact Tr.of_holds (holdsK_sortWorldK tC 3 w g 0 n S.toArray d' os hg hrow.holds hp.1)
  · rw [hw]
    refine ⟨rfl, rfl, rfl, ?_, fun k hk hn => srtK_other _ _ _ _ _ _ _ _ hn hk⟩
    show w.heap.size ≤ ((putRowK tC 3 (Sort.ahead w n) g 0 d').heap ++ os).size
    rw [Array.size_append, size_putRowK]
    exact Nat.le_add_right _ _
end Go.Proofs.YtcgaekaollhmpaaGreat
