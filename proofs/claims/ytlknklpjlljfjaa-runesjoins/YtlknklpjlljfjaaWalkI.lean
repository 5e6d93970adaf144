/-
  The contract of the reference's Words: it answers what 'Txt.words' says, in new memory.
-/
import Derived.Test.YtlknklpjlljfjaaWalkG
import Derived.Test.YtlknklpjlljfjaaWalkH
import Derived.Test.YtlknklpjlljfjaaApp
namespace Go.Proofs.Ytlknklpjlljfjaa
open Go.RowKit

theorem extract_strV (s : ByteArray) (a b : Nat) : Value.string (s.extract a b) = strV ((s.data.toList.drop a).take (b - a)) := by
  unfold strV
  rw [Lib.extract_eq]

theorem take_more (s : ByteArray) (pos k : Nat) (h1 : pos ≤ k) (h2 : k < s.size) : (s.data.toList.drop pos).take (k + 1 - pos) = (s.data.toList.drop pos).take (k - pos) ++ [s[k]] := by
  have hl : k - pos < (s.data.toList.drop pos).length := by rw [drop_len]; omega
  rw [show k + 1 - pos = (k - pos) + 1 from by omega, List.take_succ_eq_append_getElem hl]
  congr 1
  simp only [List.getElem_drop]
  rw [List.cons.injEq]
  refine ⟨?_, rfl⟩
  have e : pos + (k - pos) = k := by omega
  simp only [e]
  rfl

/-- a word is put behind the others -/
theorem own_push {w0 W1 w2 : World} {B n : Nat} {v v' : Value} {done : List (List UInt8)} {acc : List UInt8} {o : Obj} (hbel : Below B w0 W1) (hB : B ≤ W1.heap.size) (hown : W1.ownsRow B 9 1 v n (done.map strV))
    (hown2 : w2.ownsRow B 9 1 v' (done.length + 1) (done.map strV ++ [strV acc])) (hgrow : (W1.alloc o).grownBy w2 v.ownBlock) :
    w2.ownsRow B 9 1 v' (done ++ [acc]).length ((done ++ [acc]).map strV) ∧ Below B w0 w2 := by
  refine ⟨by simpa using hown2, (hbel.alloc hB _).grown hgrow (by simp; omega) (fun k hk => ((hown.alloc o).lt k hk).1)⟩

set_option maxHeartbeats 4000000 in
set_option maxRecDepth 1000000 in
theorem rwords_any (s : ByteArray) (w : World) (hs : s.size ≤ 4398046511104) :
    Calls Try.prog 15 #[.string s] w fun e w' => ∃ v, e = .returned (.tuple #[v, .int .i64 (Txt.words s).2.1, .int .i64 (Txt.words s).2.2]) ∧ w'.ownsRow w.heap.size 9 1 v (Txt.words s).1.length ((Txt.words s).1.map strV) ∧ Below w.heap.size w w' := by
  obtain ⟨i0, hi, hz0, hz1, hz2⟩ := info_parts infoString
  obtain ⟨c, p, er, hcs⟩ : ∃ c p er, Txt.check s = (c, p, er) := ⟨_, _, _, rfl⟩
  have HK : Hid (Txt.check s = (c, p, er)) := hcs
  clear hcs
  by_cases her : er = 0
  · subst her
    have HW : Hid (Txt.words s = Txt.mach s.data.toList 0 [] [] 0) := by unfold Hid Txt.words; rw [HK.out]; rfl
    go_enter Try.func15, Try.ntmps15
    go_wp2_with (go_at_call 11; refine (rcheck_at s _ (by omega) c p 0 HK.out).mono ?_; rintro e w' ⟨rfl, rfl⟩)
    go_loopw [8, 9] (fun v iv wr => ∃ (pos : Nat) (done : List (List UInt8)), iv = .int .i64 pos ∧ pos ≤ s.size ∧ wr.ownsRow w'.heap.size 9 1 v done.length (done.map strV) ∧ Below w'.heap.size w' wr ∧ Txt.words s = Txt.mach (s.data.toList.drop pos) 0 [] done pos ∧ done.length ≤ pos) (fun _ iv _ => s.size - (intOf iv).toNat)
    case atStart => exact ⟨0, [], rfl, by omega, World.ownsRow_nil _ _ _ _, Below.refl _ _, HW.out, by simp⟩
    case round =>
      obtain ⟨pos, done, rfl, hpl, hown, hbel, hm, hdn⟩ := hrel
      have HM : Hid (Txt.words s = Txt.mach (s.data.toList.drop pos) 0 [] done pos) := hm
      clear hm HW
      by_cases hp : pos < s.size
      · have HD : Hid (s.data.toList.drop pos = s[pos] :: s.data.toList.drop (pos + 1)) := drop_cons s pos hp
        by_cases h32 : s[pos].toNat = 32
        · have k32 : ((s[pos].toNat : Int) == 32) = true := by simp; omega
          have HE : Hid (Txt.words s = Txt.mach (s.data.toList.drop (pos + 1)) 0 [] done (pos + 1)) := by unfold Hid; rw [HM.out, HD.out, Txt.mach_blank _ _ _ _ _ h32]
          clear h32
          go_wp2_with fail
          go_roundw
          case rel => exact ⟨pos + 1, done, by go_num, by omega, hown, hbel, HE.out, by omega⟩
          case measure => simp [intOf]; omega
        have k32 : ((s[pos].toNat : Int) == 32) = false := by simp; omega
        by_cases h34 : s[pos].toNat = 34
        · have k34 : ((s[pos].toNat : Int) == 34) = true := by simp; omega
          have hqs := Txt.mach_qs (s.data.toList.drop (pos + 1)).length (s.data.toList.drop (pos + 1)) [] done (pos + 1) (Nat.le_refl _)
          have hge := Txt.qs_ge (s.data.toList.drop (pos + 1)) [] (pos + 1)
          have hle := Txt.qs_le (s.data.toList.drop (pos + 1)) [] (pos + 1)
          rw [drop_len] at hle
          have hcall : ∀ w, Calls Try.prog 27 #[.string s, .int .i64 pos] w fun e w' => ∃ v, e = .returned (.tuple #[v, .int .i64 (Txt.qs (s.data.toList.drop (pos + 1)) [] (pos + 1)).2.1, .bool (Txt.qs (s.data.toList.drop (pos + 1)) [] (pos + 1)).2.2]) ∧
            w'.ownsRow w.heap.size 5 1 v (Txt.qs (s.data.toList.drop (pos + 1)) [] (pos + 1)).1.length (Lib.byteCells (Txt.qs (s.data.toList.drop (pos + 1)) [] (pos + 1)).1) ∧ Below w.heap.size w w' := fun w => quoted_any s pos w hs hp
          have HM2 : Txt.words s = Txt.mach (s.data.toList.drop (pos + 1)) 2 [] done (pos + 1) := by rw [HM.out, HD.out, Txt.mach_open _ _ _ _ _ h34]
          rw [hqs] at HM2
          generalize Txt.qs (s.data.toList.drop (pos + 1)) [] (pos + 1) = Q at HM2 hge hle hcall
          obtain ⟨q, k, ok⟩ := Q
          simp only at HM2 hge hle hcall
          have HCA : Hid (∀ w, Calls Try.prog 27 #[.string s, .int .i64 pos] w fun e w' => ∃ v, e = .returned (.tuple #[v, .int .i64 k, .bool ok]) ∧ w'.ownsRow w.heap.size 5 1 v q.length (Lib.byteCells q) ∧ Below w.heap.size w w') := hcall
          have HQ2 : Hid (Txt.words s = if ok = true then Txt.mach (s.data.toList.drop k) 4 q done k else ([], k, 4)) := by
            unfold Hid
            rw [HM2, List.drop_drop, show pos + 1 + (k - (pos + 1)) = k from by omega]
          have hks : k ≤ s.size := by omega
          clear hcall HM2 hqs h34
          cases ok with
          | false =>
            have HE : Hid (Txt.words s = ([], k, 4)) := by unfold Hid; rw [HQ2.out]; rfl
            go_wp2_with (go_at_call 27; refine (HCA.out _).mono ?_)
            rintro e w1 ⟨v1, rfl, hown1, hb1⟩
            go_wp2_with fail
            go_ret3
            rw [HE.out]
            exact ⟨_, rfl, World.ownsRow_nil _ _ _ _, hbel.trans (hb1.mono hbel.size)⟩
          | true =>
            have HQ3 : Hid (Txt.words s = Txt.mach (s.data.toList.drop k) 4 q done k) := by unfold Hid; rw [HQ2.out]; rfl
            clear HQ2
            by_cases hkp : k < s.size
            · have HDK : Hid (s.data.toList.drop k = s[k] :: s.data.toList.drop (k + 1)) := drop_cons s k hkp
              by_cases hb32 : s[k].toNat = 32
              · have kk : ((s[k].toNat : Int) != 32) = false := by simp; omega
                have HE : Hid (Txt.words s = Txt.mach (s.data.toList.drop k) 0 [] (done ++ [q]) k) := by
                  unfold Hid; rw [HQ3.out]; exact Txt.mach_ended _ 4 (.inr rfl) _ _ _ (.inr ⟨_, _, HDK.out, hb32⟩)
                clear hb32
                go_wp2_with (go_at_call 27; refine (HCA.out _).mono ?_)
                rintro e w1 ⟨v1, rfl, hown1, hb1⟩
                have hcv := own_convert hown1
                have hownL := own_of_heap hown (fun g hg => hb1.block g (hown.lt g hg).2)
                have hbel1 := hbel.trans (hb1.mono hbel.size)
                have hB1 := hbel1.size
                clear hown hbel hb1 hown1
                go_wp2_with (at_builtin; refine wpList_append_own _ rfl _ _ 27 rfl w'.heap.size 9 i0 (.string ⟨#[]⟩) 1 16 Try.underlying27 hi hz0 hz1 hz2 rfl (by decide) _ _ _ rfl (hownL.alloc _) ⟨w1.heap.size, 0, none⟩ 1 1 [strV q] rfl rfl ?c1 ?c2 ?c3 ?c4 ?c5 ?_)
                case c1 => exact cell_one_new w1 _ _
                case c2 => intro u hu; simp at hu; subst hu; rfl
                case c3 => unfold maxLen; omega
                case c4 => omega
                case c5 => simp; omega
                intro v' w2 hown2 hgrow _
                obtain ⟨hown3, hbel3⟩ := own_push hbel1 hB1 hownL hown2 hgrow
                clear hown2 hgrow hownL hbel1 hcv
                go_wp2_with fail
                go_roundw
                case rel => exact ⟨k, done ++ [q], rfl, by omega, hown3, hbel3, HE.out, by simp; omega⟩
                case measure => simp [intOf]; omega
              · have kk : ((s[k].toNat : Int) != 32) = true := by simp; omega
                have HE : Hid (Txt.words s = ([], k, 4)) := by unfold Hid; rw [HQ3.out, HDK.out, Txt.mach_closed_bad _ _ _ _ _ hb32]
                clear hb32
                go_wp2_with (go_at_call 27; refine (HCA.out _).mono ?_)
                rintro e w1 ⟨v1, rfl, hown1, hb1⟩
                go_wp2_with fail
                go_ret3
                rw [HE.out]
                exact ⟨_, rfl, World.ownsRow_nil _ _ _ _, hbel.trans (hb1.mono hbel.size)⟩
            · have HE : Hid (Txt.words s = Txt.mach (s.data.toList.drop k) 0 [] (done ++ [q]) k) := by
                unfold Hid; rw [HQ3.out]; exact Txt.mach_ended _ 4 (.inr rfl) _ _ _ (.inl (List.drop_eq_nil_of_le (by rw [← Lib.size_eq]; omega)))
              go_wp2_with (go_at_call 27; refine (HCA.out _).mono ?_)
              rintro e w1 ⟨v1, rfl, hown1, hb1⟩
              have hcv := own_convert hown1
              have hownL := own_of_heap hown (fun g hg => hb1.block g (hown.lt g hg).2)
              have hbel1 := hbel.trans (hb1.mono hbel.size)
              have hB1 := hbel1.size
              clear hown hbel hb1 hown1
              go_wp2_with (at_builtin; refine wpList_append_own _ rfl _ _ 27 rfl w'.heap.size 9 i0 (.string ⟨#[]⟩) 1 16 Try.underlying27 hi hz0 hz1 hz2 rfl (by decide) _ _ _ rfl (hownL.alloc _) ⟨w1.heap.size, 0, none⟩ 1 1 [strV q] rfl rfl ?c1 ?c2 ?c3 ?c4 ?c5 ?_)
              case c1 => exact cell_one_new w1 _ _
              case c2 => intro u hu; simp at hu; subst hu; rfl
              case c3 => unfold maxLen; omega
              case c4 => omega
              case c5 => simp; omega
              intro v' w2 hown2 hgrow _
              obtain ⟨hown3, hbel3⟩ := own_push hbel1 hB1 hownL hown2 hgrow
              clear hown2 hgrow hownL hbel1 hcv
              go_wp2_with fail
              go_roundw
              case rel => exact ⟨k, done ++ [q], rfl, by omega, hown3, hbel3, HE.out, by simp; omega⟩
              case measure => simp [intOf]; omega
        · have k34 : ((s[pos].toNat : Int) == 34) = false := by simp; omega
          have HB : Hid (Txt.words s = Txt.mach (s.data.toList.drop pos) 1 [] done pos) := by unfold Hid; rw [HM.out, HD.out, Txt.mach_begin _ _ _ _ h32 h34]
          have HN : Hid (s[pos].toNat ≠ 32 ∧ s[pos].toNat ≠ 34) := ⟨h32, h34⟩
          clear h32 h34
          go_wp2_with fail
          go_loop [13] (fun kv => ∃ k : Nat, kv = .int .i64 k ∧ pos ≤ k ∧ k ≤ s.size ∧ Txt.words s = Txt.mach (s.data.toList.drop k) 1 ((s.data.toList.drop pos).take (k - pos)) done k) (fun kv => s.size - (intOf kv).toNat)
          case atStart => exact ⟨pos, rfl, by omega, by omega, by rw [HB.out]; simp⟩
          case round =>
            obtain ⟨k, rfl, hk1, hk2, hk3⟩ := hrel
            have HKM : Hid (Txt.words s = Txt.mach (s.data.toList.drop k) 1 ((s.data.toList.drop pos).take (k - pos)) done k) := hk3
            clear hk3
            by_cases hkp : k < s.size
            · have HDK : Hid (s.data.toList.drop k = s[k] :: s.data.toList.drop (k + 1)) := drop_cons s k hkp
              by_cases hb32 : s[k].toNat = 32
              · have kk : ((s[k].toNat : Int) != 32) = false := by simp; omega
                have kk2 : ((s[k].toNat : Int) == 34) = false := by simp; omega
                have hne : pos < k := by
                  rcases Nat.lt_or_ge pos k with h | h
                  · exact h
                  · exfalso
                    have e : k = pos := by omega
                    subst e
                    exact HN.out.1 hb32
                have HE : Hid (Txt.words s = Txt.mach (s.data.toList.drop k) 0 [] (done ++ [(s.data.toList.drop pos).take (k - pos)]) k) := by
                  unfold Hid; rw [HKM.out]; exact Txt.mach_ended _ 1 (.inl rfl) _ _ _ (.inr ⟨_, _, HDK.out, hb32⟩)
                clear hb32
                have hB1 := hbel.size
                go_wp2_with (at_builtin; refine append_word rfl _ _ rfl w'.heap.size _ _ _ rfl hown (s.extract pos k) rfl (by omega) hB1 ?_)
                intro v' w2 hown2 hgrow
                rw [extract_strV] at hown2
                obtain ⟨hown3, hbel3⟩ := own_push hbel hB1 hown hown2 hgrow
                clear hown2 hgrow hown hbel
                go_wp2_with fail
                go_roundw
                case rel => exact ⟨k, done ++ [(s.data.toList.drop pos).take (k - pos)], rfl, by omega, hown3, hbel3, HE.out, by simp; omega⟩
                case measure => simp [intOf]; omega
              by_cases hb34 : s[k].toNat = 34
              · have kk : ((s[k].toNat : Int) != 32) = true := by simp; omega
                have kk1 : ((s[k].toNat : Int) != 34) = false := by simp; omega
                have kk2 : ((s[k].toNat : Int) == 34) = true := by simp; omega
                have HE : Hid (Txt.words s = ([], k, 4)) := by unfold Hid; rw [HKM.out, HDK.out, Txt.mach_bare_bad _ _ _ _ _ hb34]
                clear hb32 hb34
                go_wp2_with fail
                go_ret3
                rw [HE.out]
                exact ⟨_, rfl, World.ownsRow_nil _ _ _ _, hbel⟩
              · have kk : ((s[k].toNat : Int) != 32) = true := by simp; omega
                have kk1 : ((s[k].toNat : Int) != 34) = true := by simp; omega
                have HE : Hid (Txt.words s = Txt.mach (s.data.toList.drop (k + 1)) 1 ((s.data.toList.drop pos).take (k + 1 - pos)) done (k + 1)) := by
                  unfold Hid; rw [HKM.out, HDK.out, Txt.mach_bare _ _ _ _ _ hb32 hb34, take_more s pos k hk1 hkp]
                clear hb32 hb34
                go_wp2_with fail
                refine ⟨⟨k + 1, by go_num, by omega, by omega, HE.out⟩, ?_⟩
                simp [intOf]; omega
            · have HE : Hid (Txt.words s = Txt.mach (s.data.toList.drop k) 0 [] (done ++ [(s.data.toList.drop pos).take (k - pos)]) k) := by
                unfold Hid; rw [HKM.out]; exact Txt.mach_ended _ 1 (.inl rfl) _ _ _ (.inl (List.drop_eq_nil_of_le (by rw [← Lib.size_eq]; omega)))
              have hB1 := hbel.size
              go_wp2_with (at_builtin; refine append_word rfl _ _ rfl w'.heap.size _ _ _ rfl hown (s.extract pos k) rfl (by omega) hB1 ?_)
              intro v' w2 hown2 hgrow
              rw [extract_strV] at hown2
              obtain ⟨hown3, hbel3⟩ := own_push hbel hB1 hown hown2 hgrow
              clear hown2 hgrow hown hbel
              go_wp2_with fail
              go_roundw
              case rel => exact ⟨k, done ++ [(s.data.toList.drop pos).take (k - pos)], rfl, by omega, hown3, hbel3, HE.out, by simp; omega⟩
              case measure => simp [intOf]; omega
      · have HE : Hid (Txt.words s = (done, 0, 0)) := by
          unfold Hid
          have e : s.data.toList.drop pos = [] := List.drop_eq_nil_of_le (by rw [← Lib.size_eq]; omega)
          rw [HM.out, e]; rfl
        go_wp2_with fail
        go_ret3
        rw [HE.out]
        exact ⟨_, rfl, hown, hbel⟩
  · have HW : Hid (Txt.words s = ([], p, er)) := by unfold Hid Txt.words; rw [HK.out]; simp [her]
    have e0 : ((er : Int) != 0) = true := by simp; omega
    clear her
    go_enter Try.func15, Try.ntmps15
    go_wp2_with (go_at_call 11; refine (rcheck_at s _ (by omega) c p er HK.out).mono ?_; rintro e w' ⟨rfl, rfl⟩)
    go_ret3
    rw [HW.out]
    exact ⟨_, rfl, World.ownsRow_nil _ _ _ _, Below.refl _ _⟩

end Go.Proofs.Ytlknklpjlljfjaa
