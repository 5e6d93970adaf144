/-
  A disk in a law; the law's awake.
-/
import Derived.Test.YtoiopplhphllhaaSn
namespace Go.Proofs.Ytoiopplhphllhaa
open Go.RowKit Go.Maps

theorem no_of {t : Tg} (h : ¬ t ≠ .no) : t = .no := by
  by_cases e : t = .no
  · exact e
  · exact absurd e h
theorem Dsk.lt {w : World} {tg : Nat → Tg} {pb : Nat} {D : DK} (h : Dsk w tg pb D) {k : Nat} (hk : tg k ≠ .no) : k < w.heap.size := by obtain ⟨_, _, _, h⟩ := h; exact h.lt k hk
/-- a disk that was made behind w0 -/
structure At (w0 w : World) (tg : Nat → Tg) (pb : Nat) (D : DK) : Prop where
  d : Dsk w tg pb D
  t : ∀ k, tg k ≠ .no → w0.heap.size ≤ k
  b : Below w0.heap.size w0 w
theorem At.keep {w0 w w' : World} {tg : Nat → Tg} {pb : Nat} {D : DK} (h : At w0 w tg pb D) (b : Below w.heap.size w w') : At w0 w' tg pb D := ⟨h.d.keepB b, h.t, below_from h.b b h.b.size⟩
theorem At.step {w0 w w' : World} {tg tg' : Nat → Tg} {pb : Nat} {D D' : DK} (h : At w0 w tg pb D) (d : Dsk w' tg' pb D') (st : Step tg tg' w w') : At w0 w' tg' pb D' :=
  ⟨d, (st.below h.b.size h.t).2, h.b.trans (st.below h.b.size h.t).1⟩
theorem new_law (w0 w : World) (y : Below w0.heap.size w0 w) : Calls Try.prog 10 #[] w fun e w' => ∃ pb, e = .returned (.pointer (some ⟨pb, 0, none⟩)) ∧ ∃ tg, At w0 w' tg pb DK.new := by
  refine (new_at w).mono ?_
  rintro e w' ⟨rfl, e2⟩
  exact ⟨_, rfl, _, dsk_new w w' e2, fun kk h => by rw [tgN_new h]; exact y.size, by rw [e2]; exact below_from y ((Below.refl _ w).alloc (Nat.le_refl _) _) y.size⟩
theorem save_law {w0 w : World} {tg : Nat → Tg} {pb : Nat} {D : DK} (h : At w0 w tg pb D) (n : Int) (l : List RC) (q : Option Addr) (c m : Nat) (hl : l.length = m) (hm : m < 1152921504606846976) (hP : Pcs w q l) :
    Calls Try.prog 11 #[.pointer (some ⟨pb, 0, none⟩), .int .i64 n, .slice q m c] w fun e w' => e = .returned (.int .i64 (saveD D n (l.map RC.b)).1) ∧ ∃ tg', At w0 w' tg' pb (saveD D n (l.map RC.b)).2 ∧ Step tg tg' w w' := by
  refine (save_any h.d n l q c m hl hm hP).mono ?_
  rintro e w' ⟨rfl, tg', d, st⟩
  exact ⟨rfl, tg', h.step d st, st⟩
/-- a Save that is done -/
theorem save_done {w0 w : World} {tg : Nat → Tg} {pb : Nat} {D : DK} (h : At w0 w tg pb D) (n : Nat) (l : List RC) (q : Option Addr) (c m : Nat) (hl : l.length = m) (hm : m < 1152921504606846976) (hP : Pcs w q l) {o x y : OB} (hd : D.down = false) (hu : D.fuse = none) (hN : D.fs = fsN o x y) (hf : fitE n (l.map RC.b) = 0) :
    Calls Try.prog 11 #[.pointer (some ⟨pb, 0, none⟩), .int .i64 n, .slice q m c] w fun e w' => e = .returned (.int .i64 0) ∧ ∃ tg' D', At w0 w' tg' pb D' ∧ Step tg tg' w w' ∧ D'.down = false ∧ D'.fuse = none ∧ D'.fs = fsN o (fileOf (some (n, l.map RC.b))) none := by
  refine (save_law h n l q c m hl hm hP).mono ?_
  rintro e w' ⟨rfl, tg', a, st⟩
  rcases save_N hd hN n (l.map RC.b) hf with ⟨h1, h2, h3, h4⟩ | ⟨h1, h2, h3, h4⟩
  · exact ⟨by rw [h1], tg', _, a, st, h3, h4 hu, h2⟩
  · exact absurd hu h3

theorem fit_a : fitE 5 [[97]] = 0 := by decide
theorem row_cell {w : World} {B q n d : Nat} {l : List RC} {r : RC} (h : PsOwn w B (.slice (some ⟨q, 0, none⟩) n d) l) (k : Nat) (hr : l[k]? = some r) : w.cell? ⟨q, k, none⟩ = some r.v := by
  have hc := World.ownsRow.cells h.row (g := q) rfl k _ (show (l.map RC.v)[k]? = some r.v by rw [List.getElem?_map, hr]; rfl)
  rwa [Addr.add_lit, Nat.zero_add] at hc
/-- pieces that are one -/
theorem PsOwn.single {w : World} {B : Nat} {q : Option Addr} {m d : Nat} {l : List RC} {b : List UInt8} (h : PsOwn w B (.slice q m d) l) (e : l.map RC.b = [b]) : ∃ g a c, q = some ⟨g, 0, none⟩ ∧ m = 1 ∧ l = [⟨b, a, c⟩] ∧ w.cell? ⟨g, 0, none⟩ = some (.slice a b.length c) ∧ Own w B (.slice a b.length c) b ∧ B ≤ g ∧ g < w.heap.size := by
  match l, e with
  | [r], e =>
    obtain ⟨b', a, c⟩ := r
    simp only [List.map_cons, List.map_nil, List.cons.injEq, and_true] at e
    subst e
    have hm := h.pcs.2
    obtain ⟨g, cap, e1, h1, h2⟩ : ∃ g cap, (Value.slice q m d) = .slice (some ⟨g, 0, none⟩) 1 cap ∧ B ≤ g ∧ g < w.heap.size := by
      rcases h.row.2 with ⟨_, h0⟩ | ⟨g, cap, cur, e1, hb, hgg, _⟩
      · simp at h0
      · exact ⟨g, cap, e1, hb, (Array.getElem?_eq_some_iff.1 hgg).1⟩
    cases e1
    exact ⟨g, a, c, rfl, rfl, rfl, row_cell h 0 rfl, h.each _ (List.mem_singleton.2 rfl), h1, h2⟩
set_option maxHeartbeats 2000000 in
set_option maxRecDepth 100000 in
theorem awake_any (w : World) : Calls Try.prog 8 #[] w fun e w' => e = .returned (.bool true) ∧ Below w.heap.size w w' := by
  go_enter Try.func8, Try.ntmps8
  go_wp2_with (go_at_call 10; refine (new_law w w (Below.refl _ _)).mono ?_)
  rintro e w1 ⟨pb, rfl, tg1, a1⟩
  have A1 : Hid (At w w1 tg1 pb DK.new) := a1
  clear a1
  have q31 := Lib.run_convert_bytes_const (P := Try.prog) w1 30 5 #[.int .u8 97] 1 1 Try.underlying30 Try.underlying5
  have bw : Below w1.heap.size w1 ((w1.alloc (.cells #[.int .u8 97] 5 (1, 2))).alloc (.cells #[.slice (some ⟨w1.heap.size, 0, none⟩) 1 1] 30)) := ((Below.refl _ w1).alloc (Nat.le_refl _) _).alloc (by simp) _
  have hrow : Row ((w1.alloc (.cells #[.int .u8 97] 5 (1, 2))).alloc (.cells #[.slice (some ⟨w1.heap.size, 0, none⟩) 1 1] 30)) w1.heap.size 0 [97] := (row_new (l := [97])).keep ((Below.refl _ _).alloc (Nat.le_refl _) _) (Nat.le_refl _)
  have hrv := row_one (w := w1.alloc (.cells #[.int .u8 97] 5 (1, 2))) (u := .slice (some ⟨w1.heap.size, 0, none⟩) 1 1) (t := 30)
  rw [show (w1.alloc (.cells #[.int .u8 97] 5 (1, 2))).heap.size = w1.heap.size + 1 by simp] at hrv
  have hP : Pcs ((w1.alloc (.cells #[.int .u8 97] 5 (1, 2))).alloc (.cells #[.slice (some ⟨w1.heap.size, 0, none⟩) 1 1] 30)) (some ⟨w1.heap.size + 1, 0, none⟩) [⟨[97], some ⟨w1.heap.size, 0, none⟩, 1⟩] :=
    ⟨.inr ⟨_, 0, rfl, hrv⟩, fun r hr => by simp only [List.mem_singleton] at hr; subst hr; exact ⟨.inr ⟨_, 0, rfl, hrow⟩, nofun⟩⟩
  have H11 : Hid (Calls Try.prog 11 #[.pointer (some ⟨pb, 0, none⟩), .int .i64 5, .slice (some ⟨w1.heap.size + 1, 0, none⟩) 1 1] ((w1.alloc (.cells #[.int .u8 97] 5 (1, 2))).alloc (.cells #[.slice (some ⟨w1.heap.size, 0, none⟩) 1 1] 30)) fun e w' => e = .returned (.int .i64 0) ∧ ∃ tg' D', At w w' tg' pb D' ∧ Step tg1 tg' ((w1.alloc (.cells #[.int .u8 97] 5 (1, 2))).alloc (.cells #[.slice (some ⟨w1.heap.size, 0, none⟩) 1 1] 30)) w' ∧ D'.down = false ∧ D'.fuse = none ∧ D'.fs = fsN none (fileOf (some (5, [[97]]))) none) :=
    save_done (o := none) (x := none) (y := none) (A1.out.keep bw) 5 [⟨[97], some ⟨w1.heap.size, 0, none⟩, 1⟩] _ 1 1 rfl (by omega) hP rfl rfl rfl fit_a
  clear bw hrow hrv hP
  go_wp2_with (go_at_call 11; refine H11.out.mono ?_)
  first | rintro e w2 rfl tg2 D2 a2 st2 d2 f2 n2 | rintro e w2 ⟨rfl, tg2, D2, a2, st2, d2, f2, n2⟩
  have A2 : Hid (At w w2 tg2 pb D2) := a2
  have H22 : Hid (Calls Try.prog 22 #[.pointer (some ⟨pb, 0, none⟩)] w2 fun e w' => ∃ g a c d, e = .returned (.tuple #[.agg #[.bool true, .int .i64 5, .slice (some ⟨g, 0, none⟩) 1 d], .int .i64 0]) ∧ w'.cell? ⟨g, 0, none⟩ = some (.slice a 1 c) ∧ g < w'.heap.size ∧ Own w' w.heap.size (.slice a 1 c) [97] ∧ Below w2.heap.size w2 w') := by
    have hld : ldE D2 (some (5, [[97]])) = 0 := by unfold ldE; rw [if_neg (by simp [d2])]
    refine (loaded_any a2.d (some (5, [[97]])) (holds_N n2 fit_a)).mono ?_
    rw [hld]
    rintro e w' ⟨n, q, m, d, l, rfl, h1, h2, h3⟩
    have h4 := h3 rfl
    simp only [Option.some.injEq, Prod.mk.injEq] at h4
    obtain ⟨rfl, h4⟩ := h4
    obtain ⟨g, a, c, rfl, rfl, rfl, h5, h6, h7, h8⟩ := h1.single h4.symm
    exact ⟨g, a, c, d, rfl, h5, h8, h6.low a2.b.size, h2⟩
  clear a2 st2 d2 f2 n2 H11 A1
  go_wp2_with (go_at_call 22; refine H22.out.mono ?_)
  first | rintro e w3 g3 a3 c3 d3 rfl x3 l3 o3 b3 | rintro e w3 ⟨g3, a3, c3, d3, rfl, x3, l3, o3, b3⟩
  have B3 : Hid (Below w.heap.size w w3) := below_from A2.out.b b3 A2.out.b.size
  have o4 : Own (w3.alloc (.cells #[.bool true, .int .i64 5, .slice (some ⟨g3, 0, none⟩) 1 d3] 29)) w.heap.size (.slice a3 1 c3) [97] := o3.keep ((Below.refl _ w3).alloc (Nat.le_refl _) _)
  have hs4 := str_of_own o4 (by simp)
  clear o3 o4 b3
  go_wp2_with fail
  go_ret
  exact ⟨rfl, B3.out.alloc B3.out.size _⟩
end Go.Proofs.Ytoiopplhphllhaa
