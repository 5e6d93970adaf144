/-
  The contract of the program's Words: it answers what 'Txt.words' says, in new memory.
-/
import Derived.Test.YtlknklpjlljfjaaWalkD
import Derived.Maps.AppendAt
namespace Go.Proofs.Ytlknklpjlljfjaa
open Go.RowKit

theorem check_at (s : ByteArray) (w : World) (hs : s.size ≤ 9223372036854775000) (c p er : Nat) (h : Txt.check s = (c, p, er)) :
    Calls Try.prog 10 #[.string s] w fun e w' => e = .returned (.tuple #[.int .i64 c, .int .i64 p, .int .i64 er]) ∧ Below w.heap.size w w' := by
  refine (check_any s w hs).mono ?_
  rintro e w' ⟨rfl, pos, rfl⟩
  rw [h]
  exact ⟨rfl, iter_below w s pos⟩

theorem own_base {w : World} {B B' e size n : Nat} {v : Value} {xs : List Value} (h : w.ownsRow B' e size v n xs) (hB : B ≤ B') : w.ownsRow B e size v n xs := by
  refine ⟨h.1, ?_⟩
  rcases h.2 with hn | ⟨g, cap, cur, hv, hb, rest⟩
  · exact .inl hn
  · exact .inr ⟨g, cap, cur, hv, Nat.le_trans hB hb, rest⟩

/-- what the loop of Words holds from round to round -/
structure Loop (s : ByteArray) (w0 : World) (v : Value) (wr : World) (pos f m st : Nat) (acc : List UInt8) (done : List (List UInt8)) : Prop where
  hpl : pos ≤ s.size
  hst : st ≤ 4
  bld : Lib.IsBuilderF 40 5 w0.heap.size w0.heap.size (Lib.byteCells acc) wr
  itr : wr.heap[w0.heap.size + 1]? = some (.stringIter s pos)
  own : wr.ownsRow w0.heap.size 9 1 v done.length (done.map strV)
  bel : Below w0.heap.size w0 wr
  mch : Txt.words s = Txt.mach (s.data.toList.drop pos) st acc done pos
  chk : (Txt.chk f (s.data.toList.drop pos) pos m).2.2 = 0
  fue : s.size ≤ pos + f
  acl : acc.length ≤ pos
  dnl : done.length ≤ pos

/-- behind 'next': the iterator has moved on, all else stands -/
theorem Loop.next {s : ByteArray} {w0 : World} {v : Value} {wr : World} {pos f m st : Nat} {acc : List UInt8} {done : List (List UInt8)} (h : Loop s w0 v wr pos f m st acc done) (n : Nat) :
    Lib.IsBuilderF 40 5 w0.heap.size w0.heap.size (Lib.byteCells acc) (wr.iterAt (w0.heap.size + 1) s (pos + n)) ∧
    (wr.iterAt (w0.heap.size + 1) s (pos + n)).heap[w0.heap.size + 1]? = some (.stringIter s (pos + n)) ∧
    (wr.iterAt (w0.heap.size + 1) s (pos + n)).ownsRow w0.heap.size 9 1 v done.length (done.map strV) ∧
    Below w0.heap.size w0 (wr.iterAt (w0.heap.size + 1) s (pos + n)) :=
  ⟨h.bld.iterAt h.itr _, Lib.iterAt_heap _ _ _ _ _ h.itr, own_iterAt h.own h.itr _, Lib.below_iterAt h.bel (by omega) _ _⟩

set_option maxHeartbeats 4000000 in
set_option maxRecDepth 1000000 in
theorem words_any (s : ByteArray) (w : World) (hs : s.size ≤ 4398046511104) :
    Calls Try.prog 14 #[.string s] w fun e w' => ∃ v, e = .returned (.tuple #[v, .int .i64 (Txt.words s).2.1, .int .i64 (Txt.words s).2.2]) ∧ w'.ownsRow w.heap.size 9 1 v (Txt.words s).1.length ((Txt.words s).1.map strV) ∧ Below w.heap.size w w' := by
  obtain ⟨i0, hi, hz0, hz1, hz2⟩ := info_parts infoString
  obtain ⟨c, p, er, hcs⟩ : ∃ c p er, Txt.check s = (c, p, er) := ⟨_, _, _, rfl⟩
  have HK : Hid (Txt.check s = (c, p, er)) := hcs
  clear hcs
  by_cases her : er = 0
  · subst her
    have HW : Hid (Txt.words s = Txt.mach s.data.toList 0 [] [] 0) := by unfold Hid Txt.words; rw [HK.out]; rfl
    have HZ : Hid ((Txt.chk s.size s.data.toList 0 0).2.2 = 0) := by unfold Hid; have := HK.out; unfold Txt.check at this; rw [this]
    go_enter Try.func14, Try.ntmps14
    go_wp2_with (go_at_call 10; refine (check_at s _ (by omega) c p 0 HK.out).mono ?_)
    rintro e w0 ⟨rfl, hb0⟩
    go_wp2_with fail
    go_loopw [8, 10] (fun v pl wr => ∃ (pos f m st : Nat) (acc : List UInt8) (done : List (List UInt8)), pl = .int .i64 st ∧ Loop s w0 v wr pos f m st acc done) (fun _ _ wr => s.size - wr.iterPos (w0.heap.size + 1))
    case atStart =>
      refine ⟨0, s.size, 0, 0, [], [], rfl, by omega, by omega, (Lib.IsBuilderF.of (Lib.fresh_isBuilder 40 5 w0)).alloc _, ?_, World.ownsRow_nil _ _ _ _, ((Below.refl _ w0).alloc (Nat.le_refl _) _).alloc (by simp) _, HW.out, HZ.out, by omega, by simp, by simp⟩
      have := World.iter_heap (w0.alloc (.cells #[.pointer none, .slice none 0 0] 40)) s 0
      simpa using this
    case round =>
      obtain ⟨pos, f, m, st, acc, done, rfl, hL⟩ := hrel
      have hit := hL.itr
      have hsz : w0.heap.size + 1 < wr.heap.size := (Array.getElem?_eq_some_iff.1 hit).1
      have hst4 := hL.hst
      have hacl := hL.acl
      have hdnl := hL.dnl
      by_cases hp : pos < s.size
      · obtain ⟨f, rfl⟩ : ∃ f', f = f' + 1 := ⟨f - 1, by have := hL.fue; omega⟩
        have HNE : Hid (s.data.toList.drop pos ≠ []) := drop_ne s pos hp
        obtain ⟨r, n, hq, hok⟩ := Txt.chk_ok_step hL.chk (by rw [drop_len]; omega)
        have HQ : Hid (Txt.seq (s.data.toList.drop pos) = some (r, n)) := hq
        have HOK : Hid ((Txt.chk f (s.data.toList.drop (pos + n)) (pos + n) (m + 1)).2.2 = 0) := by unfold Hid; rw [← List.drop_drop]; exact hok
        have hdec := Txt.decode_seq s pos
        rw [hq] at hdec
        have hwd := Txt.seq_width HNE.out HQ.out
        rw [drop_len] at hwd
        have hru := Txt.seq_rune HQ.out
        have hnx : ∀ ty, (Instr.next (.pointer (some ⟨w0.heap.size + 1, 0, none⟩)) true ty).run Try.prog wr = .ok (.tuple #[.bool true, .int .i64 pos, .int .i32 r]) (wr.iterAt (w0.heap.size + 1) s (pos + n)) := fun ty => by
          rw [Lib.run_next_any_at wr (w0.heap.size + 1) s pos ty hit hp, hdec]; rfl
        clear hq hok hdec
        have hN := hL.next n
        have hszN : wr.heap.size = (wr.iterAt (w0.heap.size + 1) s (pos + n)).heap.size := (Lib.iterAt_size _ _ _ _).symm
        generalize wr.iterAt (w0.heap.size + 1) s (pos + n) = w1 at hnx hN hszN
        obtain ⟨hI, hit1, hown, hbel⟩ := hN
        have HM := Txt.mach_rune HNE.out HQ.out st acc done pos
        rw [← hL.mch, List.drop_drop] at HM
        have hnx5 := Txt.stepN_le st r
        have hstep : ∀ w, Calls Try.prog 22 #[.int .i64 st, .int .i32 r] w fun e w' => e = .returned (.int .i64 (Txt.stepN st r)) ∧ w' = w := fun w => step_any st r w hst4
        have hsaid : ∀ w, Calls Try.prog 25 #[.int .i64 st, .int .i64 (Txt.stepN st r)] w fun e w' => e = .returned (.bool (Txt.saidB st (Txt.stepN st r))) ∧ w' = w := fun w => said_any st _ w
        generalize Txt.stepN st r = nx at HM hnx5 hstep hsaid
        have HST := (show Hid _ from hstep)
        have HSD := (show Hid _ from hsaid)
        have HMH := (show Hid _ from HM)
        have hfue := hL.fue
        have hmeas : ∀ w' : World, w'.heap[w0.heap.size + 1]? = some (.stringIter s (pos + n)) → s.size - w'.iterPos (w0.heap.size + 1) < s.size - wr.iterPos (w0.heap.size + 1) := by
          intro w' hw'
          simp only [World.iterPos, hw', hit]
          omega
        have HME := (show Hid _ from hmeas)
        clear hstep hsaid HM hL hmeas
        have hpn : pos + n ≤ s.size := by omega
        by_cases h5 : nx = 5
        · have e5 : ((nx : Int) == 5) = true := by simp; omega
          have HE : Hid (Txt.words s = ([], pos, 4)) := by unfold Hid; rw [HMH.out, if_pos h5]
          clear h5
          go_wp2_with (go_at_call 22; refine (HST.out _).mono ?_; rintro e w' ⟨rfl, rfl⟩)
          go_ret3
          rw [HE.out]
          exact ⟨_, rfl, World.ownsRow_nil _ _ _ _, hb0.trans (hbel.mono hb0.size)⟩
        have e5 : ((nx : Int) == 5) = false := by simp; omega
        by_cases hB : nx = 0 ∧ st ≠ 0
        · have e0 : ((nx : Int) == 0) = true := by simp; omega
          have es : ((st : Int) != 0) = true := by simp; omega
          have HE : Hid (Txt.words s = Txt.mach (s.data.toList.drop (pos + n)) 0 [] (done ++ [acc]) (pos + n)) := by unfold Hid; rw [HMH.out, if_neg h5, if_pos hB]
          have H0 : Hid (nx = 0) := hB.1
          clear hB h5
          go_wp2_with (first | (go_at_call 22; refine (HST.out _).mono ?_; rintro e w' ⟨rfl, rfl⟩) | (go_at_call 23; refine (Try.Builder_String_any_k w0.heap.size w0.heap.size acc _ hI (by omega)).mono ?_))
          rintro e W1 ⟨rfl, h1, b1, k1⟩
          obtain ⟨x, y, hbc, hx, hy⟩ := builder_cells h1
          have hB1 : w0.heap.size < W1.heap.size := (Array.getElem?_eq_some_iff.1 hbc).1
          have hit2 := k1.iter hit1 (by omega)
          have hown1 := own_others hown k1 (builder_cells hI).choose_spec.choose_spec.1
          have hbel1 := hbel.trans b1
          clear hI h1 b1 k1 hown hbel hit1
          go_wp2_with (at_builtin; refine wpList_append_own _ rfl _ _ 27 rfl w0.heap.size 9 i0 (.string ⟨#[]⟩) 1 16 Try.underlying27 hi hz0 hz1 hz2 rfl (by decide) _ _ _ rfl (hown1.alloc _) ⟨W1.heap.size, 0, none⟩ 1 1 [strV acc] rfl rfl ?c1 ?c2 ?c3 ?c4 ?c5 ?_)
          case c1 => exact cell_one_new W1 _ _
          case c2 => intro u hu; simp at hu; subst hu; rfl
          case c3 => unfold maxLen; omega
          case c4 => omega
          case c5 => simp; omega
          intro v' w2 hown2 hgrow _
          have hvb : ∀ g, u8.ownBlock = some g → g ≠ w0.heap.size ∧ g ≠ w0.heap.size + 1 := by
            intro g hg
            obtain ⟨cur, hc⟩ := own_kind hown1 hg
            refine ⟨fun e => ?_, fun e => ?_⟩
            · rw [e, hbc] at hc; cases hc
            · rw [e, hit2] at hc; cases hc
          have hbc2 : w2.heap[w0.heap.size]? = some (.cells #[x, y] 40 (0, 0)) := by
            rw [hgrow.block w0.heap.size (by simp; omega) (fun e => (hvb _ e.symm).1 rfl), Lib.alloc_old W1 _ _ hB1]; exact hbc
          have hsz1 : w0.heap.size + 1 < W1.heap.size := (Array.getElem?_eq_some_iff.1 hit2).1
          have hit3 : w2.heap[w0.heap.size + 1]? = some (.stringIter s (pos + n)) := by
            rw [hgrow.block _ (by simp; omega) (fun e => (hvb _ e.symm).2 rfl), Lib.alloc_old W1 _ _ hsz1]; exact hit2
          have hbel2 : Below w0.heap.size w0 w2 := (hbel1.alloc (by omega) _).grown hgrow (by simp; omega) (fun k hk => ((hown1.alloc (.cells #[strV acc] 9)).lt k hk).1)
          clear hgrow hbc hit2 hown1 hbel1
          go_wp2_with (go_at_call 24; refine (reset_any w0.heap.size x y _ hbc2 hx hy).mono ?_)
          rintro e w3 ⟨rfl, hw3⟩
          have hw3' : w3 = wiped w2 w0.heap.size := hw3
          clear hw3
          have hI3 : Lib.IsBuilderF 40 5 w0.heap.size w0.heap.size [] w3 := by rw [hw3']; exact wiped_builder (Nat.le_refl _) hbc2
          have hit4 : w3.heap[w0.heap.size + 1]? = some (.stringIter s (pos + n)) := by rw [hw3', wiped_other _ _ _ (by omega)]; exact hit3
          have hown3 : w3.ownsRow w0.heap.size 9 1 v' (done ++ [acc]).length ((done ++ [acc]).map strV) := by
            have h9 : w2.ownsRow w0.heap.size 9 1 v' (done ++ [acc]).length ((done ++ [acc]).map strV) := by simpa using hown2
            refine own_of_heap h9 fun g hg => ?_
            rw [hw3']
            refine wiped_other _ _ _ (fun e => ?_)
            obtain ⟨cur, hc⟩ := own_kind h9 hg
            rw [e, hbc2] at hc; cases hc
          have hbel3 : Below w0.heap.size w0 w3 := by rw [hw3']; exact wiped_below hbel2 (Nat.le_refl _)
          clear hw3' hbc2 hit3 hbel2 hown2
          go_wp2_with fail
          go_roundw
          case rel => exact ⟨pos + n, f, m + 1, 0, [], done ++ [acc], by rw [H0.out], by omega, by omega, hI3, hit4, hown3, hbel3, HE.out, HOK.out, by omega, by simp, by simp; omega⟩
          case measure => exact HME.out _ hit4
        have hbcI := (builder_cells hI).choose_spec.choose_spec.1
        by_cases hsd : Txt.saidB st nx = true
        · -- a rune that the word says
          have HE : Hid (Txt.words s = Txt.mach (s.data.toList.drop (pos + n)) nx (acc ++ (s.data.toList.drop pos).take n) done (pos + n)) := by unfold Hid; rw [HMH.out, if_neg h5, if_neg hB, if_pos hsd]
          have hn0 : nx ≠ 0 := by intro e; rw [e] at hsd; simp [Txt.saidB] at hsd
          have e0 : ((nx : Int) == 0) = false := by simp; omega
          have HSD' : Hid (∀ w, Calls Try.prog 25 #[.int .i64 st, .int .i64 nx] w fun e w' => e = .returned (.bool true) ∧ w' = w) := by have := HSD.out; rw [hsd] at this; exact this
          have hnx4 : nx ≤ 4 := by omega
          have HI : Hid (Lib.byteCells (acc ++ (s.data.toList.drop pos).take n) = Lib.byteCells acc ++ Lib.runeCells r) := by
            unfold Hid
            rw [Lib.byteCells_append, ← Txt.encode_seq HNE.out HQ.out, Lib.byteCells_encodeRune]
          clear hsd hn0 HSD hB h5
          go_wp2_with (first | (go_at_call 22; refine (HST.out _).mono ?_; rintro e w' ⟨rfl, rfl⟩) | (go_at_call 25; refine (HSD'.out _).mono ?_; rintro e w' ⟨rfl, rfl⟩) | (go_at_call 26; refine (writeRune_any w0.heap.size w0.heap.size _ r (by omega) (by omega) _ hI (by rw [Lib.byteCells_length]; omega) (by omega)).mono ?_))
          rintro e W1 ⟨rfl, h1, b1, k1⟩
          have hit2 := k1.iter hit1 (by omega)
          have hown1 := own_others hown k1 hbcI
          have hbel1 := hbel.trans b1
          have hI1 : Lib.IsBuilderF 40 5 w0.heap.size w0.heap.size (Lib.byteCells (acc ++ (s.data.toList.drop pos).take n)) W1 := by rw [HI.out]; exact .inr h1
          clear h1 b1 k1 hI hown hbel hit1 hbcI
          go_wp2_with fail
          go_roundw
          case rel => exact ⟨pos + n, f, m + 1, nx, _, done, rfl, by omega, by omega, hI1, hit2, hown1, hbel1, HE.out, HOK.out, by omega, by simp; omega, by omega⟩
          case measure => exact HME.out _ hit2
        · -- a mark
          have HE : Hid (Txt.words s = Txt.mach (s.data.toList.drop (pos + n)) nx acc done (pos + n)) := by unfold Hid; rw [HMH.out, if_neg h5, if_neg hB, if_neg hsd]
          rw [Bool.not_eq_true] at hsd
          have HSD' : Hid (∀ w, Calls Try.prog 25 #[.int .i64 st, .int .i64 nx] w fun e w' => e = .returned (.bool false) ∧ w' = w) := by have := HSD.out; rw [hsd] at this; exact this
          have hnx4 : nx ≤ 4 := by omega
          by_cases hn0 : nx = 0
          · have e0 : ((nx : Int) == 0) = true := by simp; omega
            have es : ((st : Int) != 0) = false := by simp; omega
            clear hsd HSD hB h5 hbcI hn0
            go_wp2_with (first | (go_at_call 22; refine (HST.out _).mono ?_; rintro e w' ⟨rfl, rfl⟩) | (go_at_call 25; refine (HSD'.out _).mono ?_; rintro e w' ⟨rfl, rfl⟩))
            go_roundw
            case rel => exact ⟨pos + n, f, m + 1, nx, acc, done, rfl, by omega, by omega, hI, hit1, hown, hbel, HE.out, HOK.out, by omega, by omega, by omega⟩
            case measure => exact HME.out _ hit1
          · have e0 : ((nx : Int) == 0) = false := by simp; omega
            clear hsd HSD hB h5 hbcI hn0
            go_wp2_with (first | (go_at_call 22; refine (HST.out _).mono ?_; rintro e w' ⟨rfl, rfl⟩) | (go_at_call 25; refine (HSD'.out _).mono ?_; rintro e w' ⟨rfl, rfl⟩))
            go_roundw
            case rel => exact ⟨pos + n, f, m + 1, nx, acc, done, rfl, by omega, by omega, hI, hit1, hown, hbel, HE.out, HOK.out, by omega, by omega, by omega⟩
            case measure => exact HME.out _ hit1
      · -- the text is through
        have hnx : ∀ ty, (Instr.next (.pointer (some ⟨w0.heap.size + 1, 0, none⟩)) true ty).run Try.prog wr = _ := fun ty => Lib.run_next_end_at wr (w0.heap.size + 1) s pos ty hit hp
        have hdr : s.data.toList.drop pos = [] := List.drop_eq_nil_of_le (by rw [← Lib.size_eq]; omega)
        have hm0 := hL.mch
        rw [hdr] at hm0
        have HM : Hid (Txt.words s = Txt.mach [] st acc done pos) := hm0
        have hps : s.size = pos := by have := hL.hpl; omega
        have HPS : Hid (s.size = pos) := hps
        have hple : pos ≤ s.size := by omega
        have hI := hL.bld
        have hown := hL.own
        have hbel := hL.bel
        have hbcI := (builder_cells hI).choose_spec.choose_spec.1
        clear hm0 hdr hL hps
        rcases (by omega : st = 0 ∨ st = 1 ∨ st = 2 ∨ st = 3 ∨ st = 4) with rfl | rfl | rfl | rfl | rfl
        · have HE : Hid (Txt.words s = (done, 0, 0)) := by unfold Hid; rw [HM.out]; rfl
          go_wp2_with fail
          go_ret3
          rw [HE.out]
          exact ⟨_, rfl, own_base hown hb0.size, hb0.trans (hbel.mono hb0.size)⟩
        · -- a bare word ends
          have HE : Hid (Txt.words s = (done ++ [acc], 0, 0)) := by unfold Hid; rw [HM.out]; rfl
          go_wp2_with (go_at_call 23; refine (Try.Builder_String_any_k w0.heap.size w0.heap.size acc _ hI (by omega)).mono ?_)
          rintro e W1 ⟨rfl, h1, b1, k1⟩
          have hown1 := own_others hown k1 hbcI
          have hbel1 := hbel.trans b1
          have hsz1 := b1.size
          clear hbcI hI h1 b1 k1 hown hbel hit
          go_wp2_with (at_builtin; refine wpList_append_own _ rfl _ _ 27 rfl w0.heap.size 9 i0 (.string ⟨#[]⟩) 1 16 Try.underlying27 hi hz0 hz1 hz2 rfl (by decide) _ _ _ rfl (hown1.alloc _) ⟨W1.heap.size, 0, none⟩ 1 1 [strV acc] rfl rfl ?c1 ?c2 ?c3 ?c4 ?c5 ?_)
          case c1 => exact cell_one_new W1 _ _
          case c2 => intro u hu; simp at hu; subst hu; rfl
          case c3 => unfold maxLen; omega
          case c4 => omega
          case c5 => simp; omega
          intro v' w2 hown2 hgrow _
          have hbel2 : Below w0.heap.size w0 w2 := (hbel1.alloc (by omega) _).grown hgrow (by simp; omega) (fun k hk => ((hown1.alloc (.cells #[strV acc] 9)).lt k hk).1)
          clear hgrow hown1 hbel1
          go_wp2_with fail
          go_ret3
          rw [HE.out]
          exact ⟨_, rfl, own_base (by simpa using hown2) hb0.size, hb0.trans (hbel2.mono hb0.size)⟩
        · have HE : Hid (Txt.words s = ([], pos, 4)) := by unfold Hid; rw [HM.out]; rfl
          go_wp2_with fail
          go_ret3
          rw [HE.out, HPS.out]
          exact ⟨_, rfl, World.ownsRow_nil _ _ _ _, hb0.trans (hbel.mono hb0.size)⟩
        · have HE : Hid (Txt.words s = ([], pos, 4)) := by unfold Hid; rw [HM.out]; rfl
          go_wp2_with fail
          go_ret3
          rw [HE.out, HPS.out]
          exact ⟨_, rfl, World.ownsRow_nil _ _ _ _, hb0.trans (hbel.mono hb0.size)⟩
        · -- a quoted word has ended
          have HE : Hid (Txt.words s = (done ++ [acc], 0, 0)) := by unfold Hid; rw [HM.out]; rfl
          go_wp2_with (go_at_call 23; refine (Try.Builder_String_any_k w0.heap.size w0.heap.size acc _ hI (by omega)).mono ?_)
          rintro e W1 ⟨rfl, h1, b1, k1⟩
          have hown1 := own_others hown k1 hbcI
          have hbel1 := hbel.trans b1
          have hsz1 := b1.size
          clear hbcI hI h1 b1 k1 hown hbel hit
          go_wp2_with (at_builtin; refine wpList_append_own _ rfl _ _ 27 rfl w0.heap.size 9 i0 (.string ⟨#[]⟩) 1 16 Try.underlying27 hi hz0 hz1 hz2 rfl (by decide) _ _ _ rfl (hown1.alloc _) ⟨W1.heap.size, 0, none⟩ 1 1 [strV acc] rfl rfl ?c1 ?c2 ?c3 ?c4 ?c5 ?_)
          case c1 => exact cell_one_new W1 _ _
          case c2 => intro u hu; simp at hu; subst hu; rfl
          case c3 => unfold maxLen; omega
          case c4 => omega
          case c5 => simp; omega
          intro v' w2 hown2 hgrow _
          have hbel2 : Below w0.heap.size w0 w2 := (hbel1.alloc (by omega) _).grown hgrow (by simp; omega) (fun k hk => ((hown1.alloc (.cells #[strV acc] 9)).lt k hk).1)
          clear hgrow hown1 hbel1
          go_wp2_with fail
          go_ret3
          rw [HE.out]
          exact ⟨_, rfl, own_base (by simpa using hown2) hb0.size, hb0.trans (hbel2.mono hb0.size)⟩
  · have HW : Hid (Txt.words s = ([], p, er)) := by unfold Hid Txt.words; rw [HK.out]; simp [her]
    have e0 : ((er : Int) != 0) = true := by simp; omega
    clear her
    go_enter Try.func14, Try.ntmps14
    go_wp2_with (go_at_call 10; refine (check_at s _ (by omega) c p er HK.out).mono ?_)
    rintro e w0 ⟨rfl, hb0⟩
    go_wp2_with fail
    go_ret3
    rw [HW.out]
    exact ⟨_, rfl, World.ownsRow_nil _ _ _ _, hb0⟩

end Go.Proofs.Ytlknklpjlljfjaa
