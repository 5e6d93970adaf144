/-
  The heap's Delete.
-/
import Derived.Test.YtmcmldlnmmbbgaaPu
namespace Go.Proofs.Ytmcmldlnmmbbgaa
open Go.RowKit Go.Maps

section
variable {w w' : World} {tg tg' : Nat → Tg} {hb g n : Nat} {C : Ct} {S S' : HS}
/-- an entry is gone: what the heap holds -/
theorem Gone.hc (h : Hc w tg hb C g n S) {m : Nat} (h2 : m ∈ S.X) (G : Gone w w' tg tg' hb m S S') : Hc w' tg' hb (C.del (S.hd m)) g (n - 1) S' := by
  refine ⟨G.h, ?_, by rw [G.gv, h.g], ?_⟩
  · funext x
    have mX : ∀ {c}, c ∈ S'.X ↔ c ∈ S.X ∧ c ≠ m := fun {c} => by rw [G.X, List.mem_filter]; simp
    refine cont_eq G.h.i.hu (fun k' q => ?_) (fun q c hc => ?_)
    · unfold Ct.del at q
      split at q
      · cases q
      · rename_i ex
        rw [← h.c] at q
        obtain ⟨c, k1, k2, k3⟩ := cont_some q
        exact ⟨c, mX.2 ⟨k1, fun q' => ex (by rw [← k2, q'])⟩, by rw [G.hd]; exact k2, by rw [G.ky]; exact k3⟩
    · obtain ⟨c1, c2⟩ := mX.1 hc
      rw [G.hd]
      unfold Ct.del at q
      split at q
      · rename_i ex
        rw [ex]
        exact fun q' => c2 (h.h.i.hu c c1 m h2 (by omega))
      · rw [← h.c] at q
        exact cont_none q c c1
  · have e1 : (S.X.filter (· ≠ m)).length + 1 = S.X.length := by
      have : S.X.filter (· ≠ m) = S.X.erase m := by
        rw [h.h.i.nd.erase_eq_filter]
        congr 1
        funext a
        by_cases q : a = m <;> simp [q]
      rw [this, List.length_erase_of_mem h2]
      have := List.length_pos_of_mem h2
      omega
    rw [G.X]
    have := h.n
    omega
set_option maxHeartbeats 400000 in
theorem del_none (x : Int) (hb : Nat) (H36 : Hid (Calls Try.prog 36 #[.pointer (some ⟨hb, 0, none⟩), .int .i64 x] w fun e w' => e = .returned (.pointer none) ∧ w' = w)) : Calls Try.prog 22 #[.pointer (some ⟨hb, 0, none⟩), .int .i64 x] w fun e w' => e = .returned (.int .i64 3) ∧ w' = w := by
  go_enter Try.func22, Try.ntmps22
  go_wp2_with (go_at_call 36; refine H36.out.mono ?_; rintro e w1 ⟨rfl, rfl⟩)
  go_ret
  exact ⟨rfl, rfl⟩
set_option maxHeartbeats 400000 in
theorem del_some (x : Int) (hb b : Nat) (R : World → Prop) (H36 : Hid (Calls Try.prog 36 #[.pointer (some ⟨hb, 0, none⟩), .int .i64 x] w fun e w' => e = .returned (.pointer (some ⟨b, 0, none⟩)) ∧ w' = w)) (H34 : Hid (Calls Try.prog 34 #[.pointer (some ⟨hb, 0, none⟩), .pointer (some ⟨b, 0, none⟩)] w fun e w' => e = .returned (.tuple #[]) ∧ Hid (R w'))) :
    Calls Try.prog 22 #[.pointer (some ⟨hb, 0, none⟩), .int .i64 x] w fun e w' => e = .returned (.int .i64 0) ∧ Hid (R w') := by
  go_enter Try.func22, Try.ntmps22
  go_upto_region 4 with (go_at_call 36; refine H36.out.mono ?_; rintro e w1 ⟨rfl, rfl⟩)
  go_wp2_with (go_at_call 34; refine H34.out.mono ?_)
  first | rintro e w2 rfl H2 | rintro e w2 ⟨rfl, H2⟩
  go_wp2_with fail
  go_ret
  exact ⟨rfl, H2⟩
/-- a handle that is not there -/
theorem del_C0 (h : Hc w tg hb C g n S) (x : Int) (hx : (Lit.int .i64 x).wf = true) (hC : C x = none) : Calls Try.prog 22 #[.pointer (some ⟨hb, 0, none⟩), .int .i64 x] w fun e w' => e = .returned (.int .i64 3) ∧ w' = w := by
  rw [← h.c] at hC
  have ha : S.at x = none := Option.map_eq_none_iff.1 hC
  refine del_none x hb ?_
  have := h.find x hx
  rw [ha] at this
  exact this
/-- one that is there -/
theorem del_C (h : Hc w tg hb C g n S) (hn : n ≤ 2000) (x : Int) (hx : (Lit.int .i64 x).wf = true) {k : K} (hC : C x = some k) : ∃ y : Nat, x = y ∧ Calls Try.prog 22 #[.pointer (some ⟨hb, 0, none⟩), .int .i64 x] w fun e w' => e = .returned (.int .i64 0) ∧ Hid (∃ S' tg', Hc w' tg' hb (C.del y) g (n - 1) S' ∧ Chg (fun k => tg k ≠ .no) w w' tg tg') := by
  rw [← h.c] at hC
  obtain ⟨b, ha, _⟩ := Option.map_eq_some_iff.1 hC
  obtain ⟨hbX, hbx⟩ := at_some ha
  obtain ⟨m, hm⟩ : ∃ m, S.lst = some m := by
    cases hl : S.lst with
    | none => exact absurd hbX (h.h.l.none hl b)
    | some m => exact ⟨m, rfl⟩
  refine ⟨S.hd b, hbx.symm, del_some x hb b (fun w' => ∃ S' tg', Hc w' tg' hb (C.del (S.hd b)) g (n - 1) S' ∧ Chg (fun k => tg k ≠ .no) w w' tg tg') ?_ ?_⟩
  · have := h.find x hx
    rw [ha] at this
    exact this
  · refine (remove_any h.h (by rw [h.n]; exact hn) hbX hm).mono ?_
    rintro e w' ⟨rfl, S', tg', G⟩
    exact ⟨rfl, S', tg', G.hc h hbX, G.c⟩
end
end Go.Proofs.Ytmcmldlnmmbbgaa
