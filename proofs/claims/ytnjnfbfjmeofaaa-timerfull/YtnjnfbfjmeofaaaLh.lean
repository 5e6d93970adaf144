/-
  TimerFull's mathematics.
-/
import Derived.Test.YtnjnfbfjmeofaaaLg
import Derived.Laws.BytesArg
namespace Go.Proofs.Ytnjnfbfjmeofaaa
open Go.RowKit Go.Maps Go.WideMaps

/-- the name of two bytes -/
def nm2 (x y : Nat) : ByteArray := strOfNums [(x : Int), (y : Int)]
theorem nm2_l (x y : Nat) : (nm2 x y).data.toList = [UInt8.ofNat x, UInt8.ofNat y] := by
  unfold nm2 strOfNums
  simp
theorem nm2_inj {x y x' y' : Nat} (hx : x < 256) (hy : y < 256) (hx' : x' < 256) (hy' : y' < 256) (h : (nm2 x y).data.toList = (nm2 x' y').data.toList) : x = x' ∧ y = y' := by
  rw [nm2_l, nm2_l] at h
  simp only [List.cons.injEq, and_true] at h
  have h1 := congrArg UInt8.toNat h.1
  have h2 := congrArg UInt8.toNat h.2
  simp only [UInt8.toNat_ofNat'] at h1 h2
  omega
def nmF (i : Nat) : ByteArray := nm2 (i % 256) (i / 256)
def RF (k : Nat) : List Al := (List.range k).map fun i => ⟨nmF i, (i : Int)⟩
theorem RF_len (k : Nat) : (RF k).length = k := by unfold RF; simp
theorem nmF_inj {i j : Nat} (hi : i < 1024) (hj : j < 1024) (h : (nmF i).data.toList = (nmF j).data.toList) : i = j := by
  have := nm2_inj (by omega) (by omega) (by omega) (by omega) h
  omega
theorem RF_mem {k : Nat} {b : Al} (h : b ∈ RF k) : ∃ i, i < k ∧ b = ⟨nmF i, (i : Int)⟩ := by
  obtain ⟨i, hi, e⟩ := List.mem_map.1 h
  exact ⟨i, List.mem_range.1 hi, e.symm⟩
theorem RF_no {k : Nat} (hk : k < 1024) : fnd (nmF k).data.toList (RF k) = none := by
  cases q : fnd (nmF k).data.toList (RF k) with
  | none => rfl
  | some b =>
    obtain ⟨h1, h2⟩ := fnd_some q
    obtain ⟨i, hi, rfl⟩ := RF_mem h1
    have := nmF_inj (by omega) hk h2
    omega
theorem ins_end {a : Al} : ∀ {l : List Al}, (∀ b ∈ l, lt b a) → ins a l = l ++ [a]
  | [], _ => rfl
  | b :: r, h => by
    unfold ins
    have h1 : lt b a := h b (List.mem_cons_self ..)
    have h2 : ltB a b = false := lt_le h1
    rw [if_neg (by rw [h2]; decide), ins_end fun c hc => h c (List.mem_cons_of_mem _ hc)]
    rfl
theorem RF_step {k : Nat} (hk : k < 1024) : setR (nmF k) (k : Int) (RF k) = RF (k + 1) ∧ setC (nmF k).data.toList (RF k) = 0 := by
  obtain ⟨h1, h2⟩ := setR_new (x := (k : Int)) (RF_no hk) (by rw [RF_len]; exact hk)
  refine ⟨?_, h2⟩
  rw [h1, ins_end]
  · unfold RF
    rw [List.range_succ, List.map_append]
    rfl
  · intro b hb
    obtain ⟨i, hi, rfl⟩ := RF_mem hb
    exact lt_iff.2 (.inl (by show (i : Int) < (k : Int); omega))
theorem RF_nod : Nod (RF 1024) := by
  unfold Nod RF
  rw [List.pairwise_map]
  refine List.Pairwise.imp_of_mem (fun {i j} hi hj h => ?_) (List.nodup_range (n := 1024))
  exact fun q => h (nmF_inj (List.mem_range.1 hi) (List.mem_range.1 hj) q)
/-- a name that isn't of two bytes is nowhere -/
theorem fnd_long {s : List UInt8} {l : List Al} (hs : s.length ≠ 2) (h : ∀ b ∈ l, b.k.length = 2) : fnd s l = none := by
  cases q : fnd s l with
  | none => rfl
  | some b =>
    obtain ⟨h1, h2⟩ := fnd_some q
    exact absurd (h b h1) (by rw [h2]; exact hs)
theorem drp_drp (n : List UInt8) (l : List Al) : drp n (drp n l) = drp n l := by unfold drp; rw [List.filter_filter]; simp
def sAn : ByteArray := ⟨#[97, 110, 111, 116, 104, 101, 114]⟩
def sOm : ByteArray := ⟨#[111, 110, 101, 32, 109, 111, 114, 101]⟩
theorem full_math (n : Nat) (hn : n < 256) (x : Int) : ∃ R2 R3 R4, setR sAn x (RF 1024) = RF 1024 ∧ setC sAn.data.toList (RF 1024) = 6 ∧ setR (nm2 n (n % 4)) x (RF 1024) = R2 ∧ setC (nm2 n (n % 4)).data.toList (RF 1024) = 0 ∧ canC (nm2 n (n % 4)).data.toList R2 = 0 ∧ drp (nm2 n (n % 4)).data.toList R2 = R3 ∧ setR sAn x R3 = R4 ∧ setC sAn.data.toList R3 = 0 ∧ setC sOm.data.toList R4 = 6 := by
  have l2 : ∀ b ∈ RF 1024, b.k.length = 2 := fun b hb => by
    obtain ⟨i, hi, rfl⟩ := RF_mem hb
    show (nmF i).data.toList.length = 2
    unfold nmF
    rw [nm2_l]
    rfl
  obtain ⟨a1, a2⟩ := setR_full (s := sAn) (x := x) (fnd_long (by decide) l2) (by rw [RF_len]; exact Nat.le_refl _)
  have hm : (⟨nm2 n (n % 4), ((n % 4 * 256 + n : Nat) : Int)⟩ : Al) ∈ RF 1024 := by
    refine List.mem_map.2 ⟨n % 4 * 256 + n, List.mem_range.2 (by omega), ?_⟩
    unfold nmF
    rw [show (n % 4 * 256 + n) % 256 = n by omega, show (n % 4 * 256 + n) / 256 = n % 4 by omega]
  have hf := fnd_of RF_nod hm
  obtain ⟨b1, b2⟩ := setR_old (s := nm2 n (n % 4)) (x := x) hf
  have hp := (drp_cons_perm RF_nod hm).length_eq
  rw [RF_len] at hp
  have hp' : (drp (nm2 n (n % 4)).data.toList (RF 1024)).length = 1023 := by
    simp only [List.length_cons] at hp
    exact (Nat.succ.inj hp).symm
  have hpr : (drp (nm2 n (n % 4)).data.toList (ins ⟨nm2 n (n % 4), x⟩ (drp (nm2 n (n % 4)).data.toList (RF 1024)))).Perm (drp (nm2 n (n % 4)).data.toList (RF 1024)) := by
    refine (drp_perm (ins_perm _ _) _).trans ?_
    rw [drp_h, drp_drp]
  have l3 : ∀ b ∈ drp (nm2 n (n % 4)).data.toList (ins ⟨nm2 n (n % 4), x⟩ (drp (nm2 n (n % 4)).data.toList (RF 1024))), b.k.length = 2 := fun b hb => l2 b (mem_drp.1 (hpr.mem_iff.1 hb)).1
  have hl3 := hpr.length_eq.trans hp'
  obtain ⟨c1, c2⟩ := setR_new (s := sAn) (x := x) (fnd_long (by decide) l3) (by omega)
  refine ⟨_, _, _, a1, a2, b1, b2, ?_, rfl, c1, c2, ?_⟩
  · unfold canC
    cases q : fnd (nm2 n (n % 4)).data.toList (ins ⟨nm2 n (n % 4), x⟩ (drp (nm2 n (n % 4)).data.toList (RF 1024))) with
    | none => exact absurd rfl (fnd_none q _ (mem_ins.2 (.inl rfl)))
    | some b => rfl
  · refine (setR_full (s := sOm) (x := x) ?_ ?_).2
    · cases q : fnd sOm.data.toList (ins ⟨sAn, x⟩ (drp (nm2 n (n % 4)).data.toList (ins ⟨nm2 n (n % 4), x⟩ (drp (nm2 n (n % 4)).data.toList (RF 1024))))) with
      | none => rfl
      | some b =>
        obtain ⟨h1, h2⟩ := fnd_some q
        rcases mem_ins.1 h1 with rfl | h1
        · exact absurd (show sAn.data.toList = sOm.data.toList from h2) (by decide)
        · exact absurd (l3 b h1) (by rw [h2]; decide)
    · rw [ins_length, hl3]
      exact Nat.le_refl _
end Go.Proofs.Ytnjnfbfjmeofaaa
