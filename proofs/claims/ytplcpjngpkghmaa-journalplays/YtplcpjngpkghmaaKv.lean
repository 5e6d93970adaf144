/-
  The law of a log through crashes.
-/
import Derived.Test.YtplcpjngpkghmaaKu
namespace Go.Proofs.Ytplcpjngpkghmaa
open Go.RowKit Go.Maps

theorem mod30 (n : Int) : ∃ z : Nat, z < 30 ∧ (IntKind.u64.wrap n).tmod 30 = (z : Int) ∧ wrap64 (z : Int) = (z : Int) := by
  have h1 : IntKind.u64.wrap n = n % 18446744073709551616 := by simp [IntKind.wrap, IntKind.bits, IntKind.signed]
  refine ⟨((n % 18446744073709551616) % 30).toNat, by omega, ?_, by unfold wrap64; omega⟩
  rw [h1, Int.tmod_eq_emod_of_nonneg (by omega)]
  omega
set_option maxHeartbeats 8000000 in
set_option maxRecDepth 100000 in
theorem jplays_law (q : Option Addr) (m c : Nat) (os : List OPj) (w : World) (hl : Hid (os.length = m)) (hm : m ≤ 140737488355328) (hS : Hid (Scr w q os)) :
    Calls Try.prog 3 #[.slice q m c] w fun e w' => e = .returned (.bool true) ∧ Below w.heap.size w w' := by
  have H9 : Hid (∀ w, Calls Try.prog 9 #[] w fun e w' => e = .returned (.bool true) ∧ Below w.heap.size w w') := fun w => awake_any w
  go_enter Try.func3, Try.ntmps3
  go_wp2_with (go_at_call 9; refine (H9.out _).mono ?_)
  rintro e w1 ⟨rfl, b1⟩
  have y1 : Hid (Below w.heap.size w w1) := b1
  have H10 : Hid (Calls Try.prog 10 #[.slice q m c] w1 fun e w' => FewR w1 os e w') := few_any os q m c w1 hl.out hm (hS.out.keep b1)
  clear b1
  go_wp2_with (go_at_call 10; refine H10.out.mono ?_)
  rintro e w2 ⟨bb, rfl, rfl, hbud⟩
  cases bb with
  | false =>
    go_wp2_with (go_at_call 9; refine (H9.out _).mono ?_)
    rintro e w3 ⟨rfl, b3⟩
    go_wp2_with fail
    go_ret
    exact ⟨rfl, below_from y1.out b3 y1.out.size⟩
  | true =>
  have HB : Hid (bud os ≤ 50000) := hbud rfl
  clear hbud H10 H9
  go_wp2_with (go_at_call 11; refine (new_law w w2 y1.out).mono ?_)
  first | rintro e w3 pb rfl tg2 d2 t2 b2 | rintro e w3 ⟨pb, rfl, tg2, d2, t2, b2⟩
  have H12 : Hid (Calls Try.prog 12 #[.pointer (some ⟨pb, 0, none⟩), .slice none 0 0] w3 fun e w' => e = .returned (.pointer (some ⟨w3.heap.size, 0, none⟩)) ∧ Fre w w' pb w3.heap.size) := by
    refine (opened_fresh (P := NoP) _ b2 d2 t2 nofun).mono ?_
    rintro e w' ⟨rfl, tg', lt, j⟩
    exact ⟨rfl, tg', lt, j⟩
  clear d2 t2 b2
  go_wp2_with (go_at_call 12; refine H12.out.mono ?_)
  first | rintro e w4 rfl h4 | rintro e w4 ⟨rfl, h4⟩
  generalize w3.heap.size = lb0 at *
  have H13 : Hid (Calls Try.prog 13 #[] w4 fun e w' => e = .returned (.pointer (some ⟨w4.heap.size, 0, none⟩)) ∧ Run w w' pb lb0 w4.heap.size 0) := run_new h4
  clear h4 H12
  go_wp2_with (go_at_call 13; refine H13.out.mono ?_)
  first | rintro e w5 rfl R5 | rintro e w5 ⟨rfl, R5⟩
  generalize w4.heap.size = rb at *
  have A5 : Hid (Run w w5 pb lb0 rb 0) := R5
  clear R5 H13 y1
  go_wp2_with fail
  go_loopw [4, 6] (fun lv i wr => ∃ (k lb : Nat), k ≤ m ∧ i = .int .i64 k ∧ lv = .pointer (some ⟨lb, 0, none⟩) ∧ Run w wr pb lb rb (bud (os.take k))) (fun _ i _ => m - (intOf i).toNat)
  case atStart => exact ⟨0, lb0, Nat.zero_le _, rfl, rfl, A5.out⟩
  case round =>
    obtain ⟨k, lb, hk, rfl, rfl, hR⟩ := hrel
    have R6 : Hid (Run w wr pb lb rb (bud (os.take k))) := hR
    clear hR
    by_cases hlt : ¬ k < m
    · have hi : ¬ (k : Int) < (m : Int) := by omega
      go_wp2_with fail
      go_ret
      exact ⟨rfl, R6.out.below⟩
    have hlt : k < m := Decidable.not_not.1 hlt
    obtain ⟨o, g, f, ho, rfl, hok, x0, x1, x2⟩ := (hS.out.keep R6.out.below).at (k := k) (by have := hl.out; omega)
    have hi : (k : Int) < (m : Int) := by omega
    have OK0 : Hid (OPok w o) := hS.out.each o (List.mem_of_getElem? ho)
    have HS1 : Hid (bud (os.take (k + 1)) = bud (os.take k) + 100 + o.r.b.length) := bud_snoc ho
    have HN : Hid (bud (os.take (k + 1)) ≤ 50000) := Nat.le_trans (bud_take _ _) HB.out
    clear ho hok
    go_upto_region 10 with fail
    have RA : Hid (Run w (wr.alloc (.cells #[.int .i64 o.kind, .int .i64 o.n, .slice o.r.a o.r.b.length o.r.c] 33)) pb lb rb (bud (os.take k))) := R6.out.keep ((Below.refl _ wr).alloc (Nat.le_refl _) _)
    have HE : Hid (∀ V lb', Run w V pb lb' rb (bud (os.take (k + 1))) → Calls Try.prog 19 #[.pointer (some ⟨lb', 0, none⟩), .pointer (some ⟨rb, 0, none⟩)] V fun e w' => e = .returned (.bool true) ∧ Hid (Run w w' pb lb' rb (bud (os.take (k + 1))))) := fun V lb' h => run_same h
    have HR : Hid (Calls Try.prog 15 #[.pointer (some ⟨pb, 0, none⟩), .slice o.r.a o.r.b.length o.r.c] (wr.alloc (.cells #[.int .i64 o.kind, .int .i64 o.n, .slice o.r.a o.r.b.length o.r.c] 33)) fun e w' => e = .returned (.tuple #[]) ∧ Hid (Cra w w' pb rb (bud (os.take k))) ∧ w'.heap[wr.heap.size]? = some (.cells #[.int .i64 o.kind, .int .i64 o.n, .slice o.r.a o.r.b.length o.r.c] 33 (0, 0))) := run_restart_box R6.out _ o.r.a o.r.b.length o.r.c o.r.b rfl OK0.out.hd OK0.out.ls
    have HST : Hid (Calls Try.prog 18 #[.pointer (some ⟨lb, 0, none⟩), .pointer (some ⟨rb, 0, none⟩), .agg #[.int .i64 o.kind, .int .i64 o.n, .slice o.r.a o.r.b.length o.r.c]] (wr.alloc (.cells #[.int .i64 o.kind, .int .i64 o.n, .slice o.r.a o.r.b.length o.r.c] 33)) fun e w' => e = .returned (.bool true) ∧ Hid (Run w w' pb lb rb (bud (os.take (k + 1))))) := by
      rw [HS1.out]
      exact run_step RA.out (by have := HS1.out; have := HN.out; omega) o.kind o.n o.r OK0.out.ls OK0.out.hz
    have KB : Hid ((wr.alloc (.cells #[.int .i64 o.kind, .int .i64 o.n, .slice o.r.a o.r.b.length o.r.c] 33)).heap[wr.heap.size]? = some (.cells #[.int .i64 o.kind, .int .i64 o.n, .slice o.r.a o.r.b.length o.r.c] 33 (0, 0))) := new0
    generalize wr.alloc (.cells #[.int .i64 o.kind, .int .i64 o.n, .slice o.r.a o.r.b.length o.r.c] 33) = V at *
    generalize wr.heap.size = bx at *
    clear x0 x1 x2 R6
    have UP : Hid (∀ {W lb'}, Run w W pb lb' rb (bud (os.take k)) → Run w W pb lb' rb (bud (os.take (k + 1)))) := fun {W lb'} h => h.mono (by rw [HS1.out]; omega)
    have MX : Hid (bud (os.take k) ≤ 50000) := by have h1 := HS1.out; have h2 := HN.out; exact (by omega : bud (os.take k) ≤ 50000)
    obtain ⟨c0, c1, c2⟩ := k3 KB.out
    by_cases k5 : o.kind = 5
    · rw [k5] at c0
      obtain ⟨z, hz, hz1, hz2⟩ := mod30 o.n
      have H14 : Hid (Calls Try.prog 14 #[.pointer (some ⟨pb, 0, none⟩), .int .i64 z] V fun e w' => e = .returned (.tuple #[]) ∧ Hid (Run w w' pb lb rb (bud (os.take k)))) := run_fuse RA.out z (by omega)
      clear HST HR k5
      go_wp2_with (go_at_call 14; refine H14.out.mono ?_)
      first | rintro e w7 rfl R7 | rintro e w7 ⟨rfl, R7⟩
      go_wp2_with (go_at_call 19; refine (HE.out _ _ (UP.out R7.out)).mono ?_)
      first | rintro e w8 rfl R8 | rintro e w8 ⟨rfl, R8⟩
      go_wp2_with fail
      exact ⟨⟨k + 1, lb, by omega, by go_num, rfl, R8.out⟩, by simp [intOf]; omega⟩
    have k5' : (o.kind == 5) = false := by simpa using k5
    by_cases k6 : o.kind = 6
    · rw [k6] at c0
      clear HST k6 k5 k5'
      go_wp2_with (go_at_call 15; refine HR.out.mono ?_)
      first | rintro e w7 rfl R7 k7 | rintro e w7 ⟨rfl, R7, k7⟩
      obtain ⟨d0, d1, d2⟩ := k3 k7
      have H12 : Hid (Calls Try.prog 12 #[.pointer (some ⟨pb, 0, none⟩), .slice o.r.a o.r.b.length o.r.c] w7 fun e w' => e = .returned (.pointer (some ⟨w7.heap.size, 0, none⟩)) ∧ Hid (Cam w w' pb w7.heap.size rb (bud (os.take k)))) := cra_opened R7.out (by have := MX.out; omega) _
      clear R7 k7 HR c0 c1 c2
      go_wp2_with (go_at_call 12; refine H12.out.mono ?_)
      first | rintro e w8 rfl R8 | rintro e w8 ⟨rfl, R8⟩
      generalize w7.heap.size = lb2 at *
      have H16 : Hid (Calls Try.prog 16 #[.pointer (some ⟨lb2, 0, none⟩), .pointer (some ⟨rb, 0, none⟩)] w8 fun e w' => e = .returned (.bool true) ∧ Hid (Run w w' pb lb2 rb (bud (os.take k)))) := cam_came R8.out
      clear R8 H12 d0 d1 d2
      go_wp2_with (go_at_call 16; refine H16.out.mono ?_)
      first | rintro e w9 rfl R9 | rintro e w9 ⟨rfl, R9⟩
      go_wp2_with (go_at_call 19; refine (HE.out _ _ (UP.out R9.out)).mono ?_)
      first | rintro e w10 rfl R10 | rintro e w10 ⟨rfl, R10⟩
      go_wp2_with fail
      exact ⟨⟨k + 1, lb2, by omega, by go_num, rfl, R10.out⟩, by simp [intOf]; omega⟩
    have k6' : (o.kind == 6) = false := by simpa using k6
    by_cases k7' : o.kind = 7
    · rw [k7'] at c0
      have H17 : Hid (Calls Try.prog 17 #[.pointer (some ⟨pb, 0, none⟩)] V fun e w' => DownR w pb lb rb (bud (os.take k)) e w') := run_down RA.out
      clear HST HR k7' k5 k6 k5' k6'
      go_wp2_with (go_at_call 17; refine H17.out.mono ?_)
      rintro e w7 (⟨rfl, R7⟩ | ⟨rfl, R7⟩)
      · have R7' : Hid (Run w w7 pb lb rb (bud (os.take k))) := R7
        clear R7
        go_wp2_with (go_at_call 19; refine (HE.out _ _ (UP.out R7'.out)).mono ?_)
        first | rintro e w8 rfl R8 | rintro e w8 ⟨rfl, R8⟩
        go_wp2_with fail
        exact ⟨⟨k + 1, lb, by omega, by go_num, rfl, R8.out⟩, by simp [intOf]; omega⟩
      · have H14 : Hid (Calls Try.prog 14 #[.pointer (some ⟨pb, 0, none⟩), .int .i64 (-1)] w7 fun e w' => e = .returned (.tuple #[]) ∧ Hid (CraU w w' pb rb (bud (os.take k)))) := runU_fuse R7
        clear R7
        go_wp2_with (go_at_call 14; refine H14.out.mono ?_)
        first | rintro e w8 rfl R8 | rintro e w8 ⟨rfl, R8⟩
        have H12 : Hid (Calls Try.prog 12 #[.pointer (some ⟨pb, 0, none⟩), .slice none 0 0] w8 fun e w' => e = .returned (.pointer (some ⟨w8.heap.size, 0, none⟩)) ∧ Hid (CamU w w' pb w8.heap.size rb (bud (os.take k)))) := craU_opened R8.out (by have := MX.out; omega) _
        clear R8
        go_wp2_with (go_at_call 12; refine H12.out.mono ?_)
        first | rintro e w9 rfl R9 | rintro e w9 ⟨rfl, R9⟩
        generalize w8.heap.size = lb2 at *
        obtain ⟨v6, d6, f6⟩ := camU_cell R9.out
        have H16 : Hid (Calls Try.prog 16 #[.pointer (some ⟨lb2, 0, none⟩), .pointer (some ⟨rb, 0, none⟩)] (w9.setCell ⟨rb, 6, none⟩ (.bool false)) fun e w' => e = .returned (.bool true) ∧ Hid (Run w w' pb lb2 rb (bud (os.take k)))) := cam_came (camU_set R9.out)
        clear R9 H12
        go_wp2_with (go_at_call 16; refine H16.out.mono ?_)
        first | rintro e w10 rfl R10 | rintro e w10 ⟨rfl, R10⟩
        go_wp2_with (go_at_call 19; refine (HE.out _ _ (UP.out R10.out)).mono ?_)
        first | rintro e w11 rfl R11 | rintro e w11 ⟨rfl, R11⟩
        go_wp2_with fail
        exact ⟨⟨k + 1, lb2, by omega, by go_num, rfl, R11.out⟩, by simp [intOf]; omega⟩
    have k7' : (o.kind == 7) = false := by simpa using k7'
    clear HR k5 k6
    go_wp2_with (go_at_call 18; refine HST.out.mono ?_)
    first | rintro e w7 rfl R7 | rintro e w7 ⟨rfl, R7⟩
    go_wp2_with (go_at_call 19; refine (HE.out _ _ R7.out).mono ?_)
    first | rintro e w8 rfl R8 | rintro e w8 ⟨rfl, R8⟩
    go_wp2_with fail
    exact ⟨⟨k + 1, lb, by omega, by go_num, rfl, R8.out⟩, by simp [intOf]; omega⟩
end Go.Proofs.Ytplcpjngpkghmaa
