/-
  The walk of the law RunesJoins: it returns true and writes nothing that was there.
-/
import Derived.Test.YtlknklpjlljfjaaLawQ
import Derived.Test.YtlknklpjlljfjaaJlaw
namespace Go.Proofs.Ytlknklpjlljfjaa
open Go.RowKit

/-- the first k words -/
def firsts (S : Nat → ByteArray) (k : Nat) : List (List UInt8) := (List.range k).map fun j => (S j).data.toList

theorem firsts_succ (S : Nat → ByteArray) (k : Nat) : firsts S (k + 1) = firsts S k ++ [(S k).data.toList] := by
  simp [firsts, List.range_succ]
theorem firsts_length (S : Nat → ByteArray) (k : Nat) : (firsts S k).length = k := by simp [firsts]

/-- texts, each short -/
def fine (S : Nat → ByteArray) (k : Nat) : Prop := ∀ j, j < k → (Txt.check (S j)).2.2 = 0 ∧ (S j).size ≤ 100

theorem fine_mem {S : Nat → ByteArray} {k : Nat} (h : fine S k) : ∀ l ∈ firsts S k, (Txt.chk l.length l 0 0).2.2 = 0 ∧ l.length ≤ 100 := by
  intro l hl
  simp only [firsts, List.mem_map, List.mem_range] at hl
  obtain ⟨j, hj, rfl⟩ := hl
  have := h j hj
  unfold Txt.check at this
  rw [← Lib.size_eq]
  exact this

theorem words_joined (S : Nat → ByteArray) (n t : Nat) (L : ByteArray) (hf : fine S n) (hL : L.data.toList = Txt.jn t (firsts S n)) : Txt.words L = (firsts S n, 0, 0) := by
  have hc : (Txt.check L).2.2 = 0 := by
    unfold Txt.check
    rw [hL]
    exact Txt.chk_jn t (firsts S n) (fun l hl => (fine_mem hf l hl).1) L.size (by rw [← hL, ← Lib.size_eq]; exact Nat.le_refl _) 0 0
  unfold Txt.words
  rw [if_pos hc, hL, Txt.mach_jn]
  rfl

theorem holdsAt_later {w w' : World} {a : Option Addr} {n : Nat} {S : Nat → ByteArray} (h : holdsAt w a n S) (hb : Below w.heap.size w w') : holdsAt w' a n S := by
  intro j hj
  obtain ⟨b, o, ha, hc⟩ := h j hj
  exact ⟨b, o, ha, by rw [hb.cell (p := ⟨b, o + j, none⟩) (World.block_lt_of_cell? w _ hc)]; exact hc⟩

theorem holdsAt_words {w : World} {B n c : Nat} {a : Option Addr} {S : Nat → ByteArray} (h : w.ownsRow B 9 1 (.slice a n c) n ((firsts S n).map strV)) : holdsAt w a n S := by
  intro j hj
  obtain ⟨b, o, ha, hc⟩ := holdsAt_own h j hj
  refine ⟨b, o, ha, ?_⟩
  rw [hc]
  congr 2
  simp [firsts, List.getD, hj]

theorem piece_list (L q : ByteArray) (j : Nat) (B : ByteArray) (hB : B.data.toList = (L ++ (q ++ ⟨#[32]⟩)).data.toList ++ List.replicate j 32) : (B ++ ⟨#[32]⟩).data.toList = (L ++ (q ++ ⟨#[32]⟩)).data.toList ++ List.replicate (j + 1) 32 := by
  have e : (B ++ ⟨#[32]⟩).data.toList = B.data.toList ++ [32] := by simp
  rw [e, hB, List.append_assoc, ← List.replicate_succ']

theorem size_of_list {B : ByteArray} {l : List UInt8} (h : B.data.toList = l) : B.size = l.length := by rw [Lib.size_eq, h]

set_option maxHeartbeats 4000000 in
set_option maxRecDepth 100000 in
theorem law_joins (n cap : Nat) (S : Nat → ByteArray) (a : Option Addr) (bl : Int) (w : World) (hbl : 0 ≤ bl ∧ bl ≤ 255) (hn : n ≤ 140737488351232) (hS : ∀ j, j < n → (S j).size ≤ 140737488351232) (hA : holdsAt w a n S) :
    Calls Try.prog 6 #[.slice a n cap, .int .u8 bl] w fun e w' => e = .returned (.bool true) ∧ Below w.heap.size w w' := by
  obtain ⟨t, ht⟩ : ∃ t : Nat, bl % 4 = (t : Int) := ⟨(bl % 4).toNat, by omega⟩
  have ht3 : t ≤ 3 := by omega
  have HT : Hid (bl % 4 = (t : Int)) := ht
  clear ht
  have HA : Hid (holdsAt w a n S) := hA
  have HS : Hid (∀ j, j < n → (S j).size ≤ 140737488351232) := hS
  have tr : Hid (∀ {w1 w2 : World}, Below w.heap.size w w1 → Below w1.heap.size w1 w2 → Below w.heap.size w w2) := fun b1 b2 => b1.trans (b2.mono b1.size)
  clear hA hS
  by_cases hbig : (1000 : Int) < (n : Int)
  · go_enter Try.func6, Try.ntmps6
    go_wp2_with (go_at_call 9; refine (awake_any _).mono ?_)
    rintro e w1 ⟨rfl, b1⟩
    go_wp2_with (go_at_call 9; refine (awake_any _).mono ?_)
    rintro e w2 ⟨rfl, b2⟩
    go_wp2
    go_ret
    exact ⟨rfl, tr.out b1 b2⟩
  · go_enter Try.func6, Try.ntmps6
    go_wp2_with (go_at_call 9; refine (awake_any _).mono ?_)
    rintro e w1 rfl b1
    go_wp2_with fail
    go_loopw [5, 6] (fun lv iv wr => ∃ (k : Nat) (L : ByteArray), lv = .string L ∧ iv = .int .i64 k ∧ k ≤ n ∧ Below w.heap.size w wr ∧ fine S k ∧ L.data.toList = Txt.jn t (firsts S k)) (fun _ iv _ => n - (intOf iv).toNat)
    case atStart => exact ⟨0, ⟨#[]⟩, rfl, rfl, by omega, b1, fun j hj => by omega, rfl⟩
    case round =>
      obtain ⟨k, L, rfl, rfl, hkn, hbel, hfine, hL⟩ := hrel
      have HF : Hid (fine S k) := hfine
      have HL : Hid (L.data.toList = Txt.jn t (firsts S k)) := hL
      have hLs : L.size ≤ 206 * k := by
        have := Txt.jn_length t ht3 (firsts S k) (fun l hl => (fine_mem hfine l hl).2)
        rw [firsts_length, ← hL, ← Lib.size_eq] at this
        exact this
      clear hfine hL
      by_cases hk : k < n
      · have hki : (k : Int) < (n : Int) := by omega
        have hSk := HS.out k hk
        obtain ⟨b, o, hab, hcw⟩ := HA.out k hk
        have hblt := World.block_lt_of_cell? w _ hcw
        have hcr : ∀ {w' : World}, Below w.heap.size w w' → w'.cell? ⟨b, o + k, none⟩ = some (.string (S k)) := fun hb => by rw [hb.cell (p := ⟨b, o + k, none⟩) hblt]; exact hcw
        have HCR : Hid (∀ {w' : World}, Below w.heap.size w w' → w'.cell? ⟨b, o + k, none⟩ = some (.string (S k))) := hcr
        clear hcr hcw hblt
        subst hab
        have hc0 := HCR.out hbel
        obtain ⟨c, p, er, hcs⟩ : ∃ c p er, Txt.check (S k) = (c, p, er) := ⟨_, _, _, rfl⟩
        have HK : Hid (Txt.check (S k) = (c, p, er)) := hcs
        have HQ : Hid (∀ w, (S k).size ≤ 100 → Calls Try.prog 17 #[.string (S k)] w fun e w' => e = .returned (.string (quoted (S k))) ∧ Below w.heap.size w w') := fun w h => quote_any (S k) w (by omega)
        have hqs := quoted_size (S k)
        have HQL : Hid ((quoted (S k)).data.toList = Txt.quo (S k).data.toList) := quoted_list (S k)
        have HSU : Hid (firsts S (k + 1) = firsts S k ++ [(S k).data.toList]) := firsts_succ S k
        generalize quoted (S k) = q at HQ hqs HQL
        have HFI : Hid (er = 0 → (S k).size ≤ 100 → fine S (k + 1)) := by
          intro h1 h2 j hj
          rcases (by omega : j < k ∨ j = k) with h | rfl
          · exact HF.out j h
          · rw [hcs]; exact ⟨h1, h2⟩
        generalize S k = sk at hSk hc0 HK HQ HCR hqs HQL HSU HFI
        clear hcs
        by_cases her : er = 0
        · subst her
          by_cases h100 : (100 : Int) < (sk.size : Int)
          · go_wp2_with (go_at_call 10; refine (check_at sk _ (by omega) c p 0 HK.out).mono ?_)
            rintro e w2 rfl b2
            have c2 := tr.out hbel b2
            have hc2 := HCR.out c2
            go_wp2
            go_ret
            exact ⟨rfl, c2⟩
          · have hsk : sk.size ≤ 100 := by omega
            have hfin := HFI.out rfl hsk
            have HFN : Hid (fine S (k + 1)) := hfin
            clear hfin HFI
            go_wp2_with (go_at_call 10; refine (check_at sk _ (by omega) c p 0 HK.out).mono ?_)
            rintro e w2 rfl b2
            have c2 := tr.out hbel b2
            have hc2 := HCR.out c2
            clear b2 hbel hc0
            go_wp2_with (go_at_call 17; refine (HQ.out _ hsk).mono ?_)
            rintro e w3 ⟨rfl, b3⟩
            have c3 := tr.out c2 b3
            have hc3 := HCR.out c3
            clear b3 c2 hc2
            go_wp2_with fail
            go_loop [5, 10] (fun lv kv => ∃ (j : Nat) (B : ByteArray), lv = .string B ∧ kv = .int .i64 j ∧ j ≤ t ∧ B.data.toList = (L ++ (q ++ ⟨#[32]⟩)).data.toList ++ List.replicate j 32) (fun _ kv => t - (intOf kv).toNat)
            case atStart => exact ⟨0, _, rfl, rfl, by omega, by simp⟩
            case round =>
              obtain ⟨j, B, rfl, rfl, hjt, hB⟩ := hrel
              have ht := HT.out
              have hBs : B.size ≤ 206 * k + 300 := by
                rw [size_of_list hB, List.length_append, ← Lib.size_eq]
                simp
                show L.size + (q.size + 1) + j ≤ _
                omega
              have HB : Hid (B.data.toList = (L ++ (q ++ ⟨#[32]⟩)).data.toList ++ List.replicate j 32) := hB
              clear hB
              by_cases hj : j < t
              · have HB2 : Hid ((B ++ ⟨#[32]⟩).data.toList = (L ++ (q ++ ⟨#[32]⟩)).data.toList ++ List.replicate (j + 1) 32) := piece_list L q j B HB.out
                go_wp2_with fail
                exact ⟨⟨j + 1, _, rfl, by go_num, by omega, HB2.out⟩, by simp [intOf]; omega⟩
              · have HJ : Hid (B.data.toList = Txt.jn t (firsts S (k + 1))) := by
                  unfold Hid
                  rw [HB.out, HSU.out, Txt.jn_snoc, ← HL.out, show j = t from by omega]
                  unfold Txt.piece
                  rw [← HQL.out]
                  simp
                go_wp2_with fail
                exact ⟨⟨k + 1, B, rfl, by go_num, by omega, c3, HFN.out, HJ.out⟩, by simp [intOf]; omega⟩
        · have k1 : ((er : Int) != 0) = true := by simp; omega
          clear her HFI
          go_wp2_with (go_at_call 10; refine (check_at sk _ (by omega) c p er HK.out).mono ?_)
          rintro e w2 ⟨rfl, b2⟩
          have c2 := tr.out hbel b2
          go_wp2
          go_ret
          exact ⟨rfl, c2⟩
      · have hkn2 : k = n := by omega
        subst hkn2
        have HW : Hid (Txt.words L = (firsts S k, 0, 0)) := words_joined S k t L HF.out HL.out
        go_wp2_with (go_at_call 14; refine (words_at L _ (by omega) (firsts S k) 0 0 HW.out).mono ?_)
        rintro e w2 ⟨v, rfl, hown, b2⟩
        rw [firsts_length] at hown
        obtain ⟨a', c', rfl⟩ := slice_of_own hown
        have c2 := tr.out hbel b2
        have H2 : Hid (holdsAt w2 a k S) := holdsAt_later HA.out c2
        have H3 : Hid (holdsAt w2 a' k S) := holdsAt_words hown
        clear hown b2
        go_wp2_with (go_at_call 16; refine (same_true k cap c' S a a' _ (by omega) H2.out H3.out).mono ?_)
        rintro e w3 ⟨rfl, nq, rfl⟩
        go_wp2
        go_ret
        exact ⟨rfl, below_drewN c2 nq⟩

end Go.Proofs.Ytlknklpjlljfjaa
