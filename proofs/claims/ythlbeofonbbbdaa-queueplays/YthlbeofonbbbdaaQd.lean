/-
  slices.SortFunc over waiters.
-/
import Derived.Test.YthlbeofonbbbdaaQc
import Derived.Test.YthlbeofonbbbdaaSrt
import Derived.Lib.QuietBelow
namespace Go.Proofs.Ythlbeofonbbbdaa
open Go.RowKit Go.Maps Go.Sort Go.Shelf Go.Lib

theorem gw_grow {w w' : World} (h : Gw w w') : ∃ q os, w' = grow (w.drewN q) os := by
  obtain ⟨p, hp⟩ := regrown_of_below h.1
  have hd : w'.drawn = p.d := by rw [hp]; rfl
  have h2 := h.2
  rw [hd] at h2
  refine ⟨p.d - w.drawn, p.os, ?_⟩
  rw [hp]
  have : redrawn w p.d = w.drewN (p.d - w.drawn) := by
    unfold redrawn World.drewN
    rw [Nat.add_sub_cancel' h2]
  rw [this]
theorem put_other {α : Type} [Inhabited α] (ec : α → Value) (w : World) (blk off : Nat) (d : Array α) {k : Nat} (hk : k ≠ blk) : (putRow ec w blk off d).heap[k]? = w.heap[k]? := by
  unfold putRow mapBlock
  simp [Array.getElem?_modify, Ne.symm hk]
theorem srtw_other {α : Type} [Inhabited α] (ec : α → Value) (w : World) (blk off m : Nat) (d : Array α) (os : Array Obj) {k : Nat} (hk : k ≠ blk) (hl : k < w.heap.size) : (sortWorld ec w blk off m d os).heap[k]? = w.heap[k]? := by
  have h1 : (sortWorld ec w blk off m d os).heap = (putRow ec (Sort.ahead w m) blk off d).heap ++ os := rfl
  rw [h1, Array.getElem?_append_left (by rw [size_putRow]; exact hl), put_other ec _ _ _ _ hk]
  rfl
theorem cm3_lt (a b : J) : decide (cm3 (ky a) (ky b) < 0) = jl a b := by
  unfold cm3 cmI ky jl
  simp only []
  by_cases h1 : -a.pr < -b.pr
  · have : b.pr < a.pr := by omega
    simp [h1, this]
  · by_cases h2 : -b.pr < -a.pr
    · have h3 : ¬ b.pr < a.pr := by omega
      have h4 : ¬ a.pr = b.pr := by omega
      simp [h1, h2, h3, h4]
    · have h3 : a.pr = b.pr := by omega
      by_cases h4 : a.job < b.job
      · simp [h3, h4]
      · by_cases h5 : b.job < a.job <;> simp [h3, h4, h5]
/-- the waiters of a list, as what is sorted -/
abbrev Sub (L : List Hd) : Type := { a : Hd // a ∈ L }
def sE {L : List Hd} (x : Sub L) : Value := .pointer (some ⟨x.1.b, 0, none⟩)
def sF {L : List Hd} (x y : Sub L) : Int := cm3 (ky x.1.j) (ky y.1.j)
theorem sf_lt {L : List Hd} (x y : Sub L) : ltOf (sF (L := L)) x y = jl x.1.j y.1.j := cm3_lt _ _
theorem sf_swo (L : List Hd) : SWO (ltOf (sF (L := L))) where
  irrefl x := by rw [sf_lt]; exact jl_irr _
  trans x y z h1 h2 := by rw [sf_lt] at *; exact jl_trans h1 h2
  ntrans x y z h1 h2 := by
    rw [sf_lt] at *
    unfold jl at *
    simp only [Bool.or_eq_false_iff, decide_eq_false_iff_not, Bool.and_eq_false_iff] at *
    omega
theorem sortH_any (w : World) (L : List Hd) (g cap : Nat) (hne : L ≠ []) (hg : g < w.heap.size) (hB : ∀ a ∈ L, w.heap[a.b]? = some (.cells (hC a) 76 (0, 0)) ∧ a.j.ok = true ∧ a.b ≠ g) (hinj : ∀ a ∈ L, ∀ b ∈ L, a.b = b.b → a = b) (hlen : L.length ≤ 1000000)
    (hrow : ∀ i a, L[i]? = some a → w.cell? ⟨g, i, none⟩ = some (.pointer (some ⟨a.b, 0, none⟩)) ∧ w.frozen? ⟨g, i, none⟩ = false) :
    Calls Try.prog 46 #[.slice (some ⟨g, 0, none⟩) L.length cap, .func (.func 47) #[] #[]] w fun e w' => e = .returned (.tuple #[]) ∧ ∃ L' : List Hd, L'.Perm L ∧ (L'.Pairwise fun a b => jl b.j a.j = false) ∧ (∀ i a, L'[i]? = some a → w'.cell? ⟨g, i, none⟩ = some (.pointer (some ⟨a.b, 0, none⟩))) ∧ Kp (· = g) w w' := by
  obtain ⟨a0, r0, e0⟩ := List.exists_cons_of_ne_nil hne
  have : Inhabited (Sub L) := ⟨⟨a0, by rw [e0]; exact List.mem_cons_self ..⟩⟩
  have hsz : L.attach.toArray.size = L.length := by simp
  have eg : ∀ args w, (callFunc 47 args).run Try.prog w = .ok (.enter 47 args) w := enters_of Try.func47 (by kernel_rfl) rfl
  have hat : ∀ (i : Nat) (hi : i < L.attach.toArray.size), (L.attach.toArray[i]!).1 = L[i]'(by rw [← hsz]; exact hi) := fun i hi => by
    rw [getElem!_pos _ i hi]
    simp
  have hH : Holds (sE (L := L)) w g 0 L.attach.toArray := fun i hi => by
    have h1 : L[i]? = some (L[i]'(by rw [← hsz]; exact hi)) := List.getElem?_eq_getElem _
    have h2 := hrow i _ h1
    unfold sE
    rw [hat i hi, Nat.zero_add]
    exact h2
  have hcmp : CmpLays1 Try.prog 47 #[] (sE (L := L)) sF g 0 L.attach.toArray.size w := fun m os dk hs x y => by
    have hP : ∀ z : Nat, (∃ a ∈ L, a.b = z) → True := fun _ _ => trivial
    classical
    let kf : Nat → K := fun z => if h : ∃ a ∈ L, a.b = z then ky h.choose.j else ⟨0, 0, 0⟩
    have hkf : ∀ a ∈ L, kf a.b = ky a.j := fun a ha => by
      have h : ∃ c ∈ L, c.b = a.b := ⟨a, ha, rfl⟩
      show (if h : ∃ c ∈ L, c.b = a.b then ky h.choose.j else ⟨0, 0, 0⟩) = _
      rw [dif_pos h, hinj _ h.choose_spec.1 _ ha h.choose_spec.2]
    have := earlier_raw (sortWorld (sE (L := L)) w g 0 m dk os) x.1.b y.1.b kf (fun z => ∃ a ∈ L, a.b = z) ⟨x.1, x.2, rfl⟩ ⟨y.1, y.2, rfl⟩ (by
      rintro z w1 ⟨a, ha, rfl⟩ hw
      rw [hkf a ha]
      obtain ⟨b1, b2, b3⟩ := hB a ha
      have hl := (Array.getElem?_eq_some_iff.1 b1).1
      refine key_any w1 a ?_ b2
      have h1 := (srtw_other (sE (L := L)) w g 0 m dk os b3 hl).trans b1
      exact at_below hw.1 (Nat.le_refl _) h1)
    rw [hkf _ x.2, hkf _ y.2] at this
    refine this.mono fun e w' ⟨he, hw⟩ => ⟨he, ?_⟩
    obtain ⟨q, os', hq⟩ := gw_grow hw
    exact ⟨q, os', hq⟩
  have hcon := Any.slices_SortFunc Try.sortH (sE (L := L)) (fun _ => rfl) sF (sf_swo L) 47 #[] g 0 cap L.attach.toArray w eg hcmp hH hg (by rw [hsz]; omega)
  rw [hsz] at hcon
  refine (show Calls Try.prog 46 _ w _ from hcon).mono ?_
  rintro e w' ⟨he, d', n, os, hp, hs, hw⟩
  refine ⟨he, d'.toList.map Subtype.val, ?_, ?_, fun i a hi => ?_, ?_⟩
  · have h1 := hp.2.2
    have s1 : d'.extract 0 L.length = d' := by rw [← hsz, ← hp.1]; exact Array.extract_size
    have s2 : L.attach.toArray.extract 0 L.length = L.attach.toArray := by
      have := Array.extract_size (xs := L.attach.toArray)
      rwa [hsz] at this
    rw [s1, s2] at h1
    have h2 := h1.map Subtype.val
    rw [List.toList_toArray, List.attach_map_subtype_val] at h2
    exact h2
  · have hz := hp.1.trans hsz
    refine List.pairwise_map.2 (List.pairwise_iff_getElem.2 fun i j hi hj hij => ?_)
    have hi' : i < d'.size := by simpa using hi
    have hj' : j < d'.size := by simpa using hj
    have := hs i j (Nat.zero_le _) hij (by omega)
    rw [sf_lt, getElem!_pos d' j hj', getElem!_pos d' i hi'] at this
    simpa using this
  · have hh := holds_sortWorld (sE (L := L)) w g 0 n L.attach.toArray d' os hg hH hp.1
    rw [List.getElem?_map] at hi
    obtain ⟨x, hx, rfl⟩ := Option.map_eq_some_iff.1 hi
    obtain ⟨hl, rfl⟩ := List.getElem?_eq_some_iff.1 hx
    have hl' : i < d'.size := by simpa using hl
    have := (hh i hl').1
    rw [← hw, getElem!_pos d' i hl', Nat.zero_add] at this
    simpa [sE] using this
  · rw [hw]
    refine ⟨rfl, rfl, rfl, ?_, fun k hk hn => srtw_other _ _ _ _ _ _ _ hn hk⟩
    show w.heap.size ≤ ((putRow sE (Sort.ahead w n) g 0 d').heap ++ os).size
    rw [Array.size_append, size_putRow]
    exact Nat.le_add_right _ _
end Go.Proofs.Ythlbeofonbbbdaa
