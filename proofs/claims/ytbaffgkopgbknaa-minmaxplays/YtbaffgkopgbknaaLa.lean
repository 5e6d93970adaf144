/-
  Heaps in a law: one, two apart; the calls on no heap; that the program is awake.
-/
import Derived.Test.YtbaffgkopgbknaaNn
import Derived.DeepKeys
namespace Go.Proofs.Ytbaffgkopgbknaa
open Go.RowKit Go.Maps

theorem cells2 : Try.prog.cellsOf 2 = 1 := by kernel_rfl
theorem part0 (x y z : Value) (w : World) : (part 2 #[x, y, z] 0).run Try.prog w = .ok x w := by kernel_rfl
theorem part1 (x y z : Value) (w : World) : (part 2 #[x, y, z] 1).run Try.prog w = .ok y w := by kernel_rfl
theorem part2 (x y z : Value) (w : World) : (part 2 #[x, y, z] 2).run Try.prog w = .ok z w := by kernel_rfl
theorem eqi (a e : Int) (w : World) : (Op.equalIn 9999 2 (.int .i64 a) (.int .i64 e)).run Try.prog w = .ok (a == e) w := run_equalIn_int w 9998 2 .i64 .i64 a e Try.underlying2
theorem eq32 (a b c e f g : Int) (w : World) :
    (Op.equalIn 10000 32 (.agg #[.int .i64 a, .int .i64 b, .int .i64 c]) (.agg #[.int .i64 e, .int .i64 f, .int .i64 g])).run Try.prog w = .ok (a == e && (b == f && c == g)) w := by
  rw [run_equalIn_array w 9999 _ _ Try.underlying32 (info_of_underlying Try.underlying2).choose_spec, cells2]
  rw [show List.range 3 = [0, 1, 2] from rfl]
  by_cases h1 : a = e <;> by_cases h2 : b = f <;> by_cases h3 : c = g <;> simp [Op.eqItems, part0, part1, part2, eqi, h1, h2, h3]
theorem eq45 (a b c e f g : Int) (w : World) :
    (Op.equalIn 10000 45 (.agg #[.int .i64 a, .int .i64 b, .int .i64 c]) (.agg #[.int .i64 e, .int .i64 f, .int .i64 g])).run Try.prog w = .ok (a == e && (b == f && c == g)) w := by
  rw [run_equalIn_array w 9999 _ _ Try.underlying45 (info_of_underlying Try.underlying2).choose_spec, cells2]
  rw [show List.range 3 = [0, 1, 2] from rfl]
  by_cases h1 : a = e <;> by_cases h2 : b = f <;> by_cases h3 : c = g <;> simp [Op.eqItems, part0, part1, part2, eqi, h1, h2, h3]
theorem eq32s (a b c : Int) (w : World) : (Op.equalIn 10000 32 (.agg #[.int .i64 a, .int .i64 b, .int .i64 c]) (.agg #[.int .i64 a, .int .i64 b, .int .i64 c])).run Try.prog w = .ok true w := by
  rw [eq32]; simp
theorem eq45s (a b c : Int) (w : World) : (Op.equalIn 10000 45 (.agg #[.int .i64 a, .int .i64 b, .int .i64 c]) (.agg #[.int .i64 a, .int .i64 b, .int .i64 c])).run Try.prog w = .ok true w := by
  rw [eq45]; simp

/-! ### the calls on no heap -/
theorem outer_nil (s : Int) (w : World) : Calls Try.prog 35 #[.pointer none, .int .i64 s] w fun e w' => e = .returned (.pointer none) ∧ ∃ m, w' = w.drewN m :=
  (outer_zero w _ _ (len_nil w)).mono fun _ _ ⟨q, e⟩ => ⟨q, 0, e⟩
theorem min_nil (w : World) : Calls Try.prog 19 #[.pointer none] w fun e w' => e = .returned (.tuple #[.int .i64 0, ktup kz, .int .i64 3]) ∧ Below w.heap.size w w' := min_raw w _ _ 0 3 kz (fun w1 _ => outer_nil 0 w1) (fun w1 _ => tell_nil w1)
theorem max_nil (w : World) : Calls Try.prog 20 #[.pointer none] w fun e w' => e = .returned (.tuple #[.int .i64 0, ktup kz, .int .i64 3]) ∧ Below w.heap.size w w' := max_raw w _ _ 0 3 kz (fun w1 _ => outer_nil 1 w1) (fun w1 _ => tell_nil w1)
theorem popn (s : Nat) (w : World) (w1 : World) (b1 : Below w.heap.size w w1) : Calls Try.prog 31 #[.pointer none, .int .i64 s] w1 fun q w' => q = .returned (.tuple #[.int .i64 0, .agg #[.int .i64 kz.a, .int .i64 kz.b, .int .i64 kz.c], .int .i64 3]) ∧ Hid ((∀ g o, w.heap.size ≤ g → w1.heap[g]? = some o → w'.heap[g]? = some o) ∧ (∀ w3, Kp (fun k => w.heap.size ≤ k ∧ k < w1.heap.size) w' w3 → Below w.heap.size w w3)) := by
  refine (popz_raw w1 _ s (fun w2 _ => outer_nil s w2)).mono ?_
  rintro q w' ⟨rfl, b⟩
  exact ⟨rfl, fun g o _ ho => at_below b (Nat.le_refl _) ho, fun w3 k3 => (b1.trans (b.mono b1.size)).trans (k3.below (Nat.le_trans b1.size b.size) fun k hk q => by omega)⟩
theorem pmin_nil (w : World) : Calls Try.prog 13 #[.pointer none] w fun e w' => e = .returned (.tuple #[.int .i64 0, ktup kz, .int .i64 3]) ∧ Below w.heap.size w w' := pmin_raw w _ 0 3 kz _ (popn 0 w)
theorem pmax_nil (w : World) : Calls Try.prog 14 #[.pointer none] w fun e w' => e = .returned (.tuple #[.int .i64 0, ktup kz, .int .i64 3]) ∧ Below w.heap.size w w' := pmax_raw w _ 0 3 kz _ (popn 1 w)
theorem get_nil (x : Int) (w : World) : Calls Try.prog 18 #[.pointer none, .int .i64 x] w fun e w' => e = .returned (.tuple #[ktup kz, .int .i64 3]) ∧ Below w.heap.size w w' := get_none w x _ fun w1 _ => find_nil x w1
theorem rem_nil (x : Int) (w : World) : Calls Try.prog 21 #[.pointer none, .int .i64 x] w fun e w' => e = .returned (.int .i64 3) ∧ w' = w := rem_none w x _ (find_nil x w)
theorem upd_nil (x : Int) (k : K) (w : World) : Calls Try.prog 17 #[.pointer none, .int .i64 x, ktup k] w fun e w' => e = .returned (.int .i64 3) ∧ Below w.heap.size w w' := upd_none w x _ k fun w1 _ => find_nil x w1

/-! ### one heap, and blocks of somebody else's -/
structure Lw (w0 w : World) (hb : Nat) (C : Ct) (g n : Nat) (T : Nat → Prop) : Prop where
  ex : ∃ S, Hc w hb C g n S ∧ ∀ k, Fp hb S k → w0.heap.size ≤ k ∧ ¬ T k
  b : Below w0.heap.size w0 w
  t : ∀ k, T k → k < w.heap.size
section
variable {w0 w w' : World} {hb ha g n : Nat} {C : Ct} {T T' : Nat → Prop} {k : K} {x : Int}
theorem Lw.below (h : Lw w0 w hb C g n T) (b : Below w.heap.size w w') : Lw w0 w' hb C g n T := by
  obtain ⟨S, h1, h2⟩ := h.ex
  exact ⟨⟨S, h1.below b, h2⟩, h.b.trans (b.mono h.b.size), fun k hk => Nat.lt_of_lt_of_le (h.t k hk) b.size⟩
theorem Lw.less (h : Lw w0 w hb C g n T) (hT : ∀ k, T' k → T k) : Lw w0 w hb C g n T' := by
  obtain ⟨S, h1, h2⟩ := h.ex
  exact ⟨⟨S, h1, fun k q => ⟨(h2 k q).1, fun t => (h2 k q).2 (hT k t)⟩⟩, h.b, fun k t => h.t k (hT k t)⟩
/-- a new block -/
theorem Lw.box (h : Lw w0 w hb C g n T) (o : Obj) : Lw w0 (w.alloc o) hb C g n (fun k => T k ∨ k = w.heap.size) := by
  have b : Below w.heap.size w (w.alloc o) := (Below.refl _ w).alloc (Nat.le_refl _) _
  obtain ⟨S, h1, h2⟩ := h.ex
  refine ⟨⟨S, h1.below b, fun k q => ⟨(h2 k q).1, ?_⟩⟩, h.b.trans (b.mono h.b.size), fun k hk => ?_⟩
  · rintro (t | t)
    · exact (h2 k q).2 t
    · have := h1.h.lt k q; omega
  · rcases hk with t | t
    · exact Nat.lt_of_lt_of_le (h.t k t) b.size
    · rw [t]; simp
/-- somebody else's block written -/
theorem Lw.set (h : Lw w0 w hb C g n T) (p : Addr) (v : Value) (hp : T p.block) (hl : w0.heap.size ≤ p.block) : Lw w0 (w.setCell p v) hb C g n T := by
  obtain ⟨S, h1, h2⟩ := h.ex
  have hs : (w.setCell p v).heap.size = w.heap.size := by simp [World.setCell]
  refine ⟨⟨S, h1.keep fun k q => Below.heap_setCell _ _ _ _ fun e => (h2 k q).2 (by rw [e]; exact hp), h2⟩, ?_, fun k t => by rw [hs]; exact h.t k t⟩
  exact h.b.trans ((Kp.of_set (S := (· = p.block)) w p v rfl).below h.b.size fun k hk e => by omega)
theorem Lw.go {C' : Ct} {g' n' : Nat} {S S' : HS} (h2 : ∀ k, Fp hb S k → w0.heap.size ≤ k ∧ ¬ T k) (h : Lw w0 w hb C g n T) (h3 : Hc w' hb C' g' n' S') (hC : Chg hb S S' w w') : Lw w0 w' hb C' g' n' T ∧ ∀ k, T k → w'.heap[k]? = w.heap[k]? := by
  refine ⟨⟨⟨S', h3, fun k q => ?_⟩, h.b.trans (hC.kp.below h.b.size fun k hk q => by have := (h2 k q).1; omega), fun k t => Nat.lt_of_lt_of_le (h.t k t) hC.kp.size⟩, fun k t => hC.kp.block k (h.t k t) fun q => (h2 k q).2 t⟩
  rcases hC.fp k q with q | q
  · exact h2 k q
  · exact ⟨Nat.le_trans h.b.size q, fun t => by have := h.t k t; omega⟩
theorem lw_new (w0 w : World) (T : Nat → Prop) (b : Below w0.heap.size w0 w) (ht : ∀ k, T k → k < w.heap.size) : Lw w0 (w.alloc (.cells zeroH 58)) w.heap.size Ct.nil 0 0 T := by
  have b1 : Below w.heap.size w (w.alloc (.cells zeroH 58)) := (Below.refl _ w).alloc (Nat.le_refl _) _
  refine ⟨⟨zS, hc_zero (new_blk w), fun k q => ?_⟩, b.trans (b1.mono b.size), fun k t => Nat.lt_of_lt_of_le (ht k t) b1.size⟩
  rcases q with q | q | q | q
  · rw [q]; exact ⟨b.size, fun t => by have := ht _ t; omega⟩
  · simp [zS] at q
  · cases q
  · cases q
theorem lw_insert (h : Lw w0 w hb C g n T) (k : K) (hk : k.ok) (hg : g < 1048576) : Calls Try.prog 12 #[ptr hb, ktup k] w fun e w' => e = .returned (.tuple #[.int .i64 g, .int .i64 0]) ∧ Lw w0 w' hb (C.put g k) (g + 1) (n + 1) T ∧ ∀ k, T k → w'.heap[k]? = w.heap[k]? := by
  obtain ⟨S, h1, h2⟩ := h.ex
  refine (insert_C h1 k hk hg).mono ?_
  rintro e w' ⟨rfl, S', h3, h4⟩
  exact ⟨rfl, h.go h2 h3 h4⟩
theorem lw_len (h : Lw w0 w hb C g n T) : Calls Try.prog 16 #[ptr hb] w fun e w' => e = .returned (.int .i64 n) ∧ w' = w := by
  obtain ⟨S, h1, h2⟩ := h.ex
  exact len_C h1
theorem lw_ends (h : Lw w0 w hb C g n T) (hn : n ≠ 0) {s : Nat} (hs : s ≤ 1) : ∃ (x : Nat) (k : K), C.ext s x k ∧ k.ok ∧ x < g ∧ Calls Try.prog (fnM s) #[ptr hb] w fun e w' => e = .returned (.tuple #[.int .i64 x, ktup k, .int .i64 0]) ∧ Below w.heap.size w w' := by
  obtain ⟨S, h1, h2⟩ := h.ex
  obtain ⟨x, k, h3, h4⟩ := ends_C h1 hn hs
  obtain ⟨o1, y, o2, _, o3⟩ := h1.ok h3.1
  exact ⟨x, k, h3, o1, by omega, h4⟩
theorem lw_ends0 (h : Lw w0 w hb C g 0 T) {s : Nat} (hs : s ≤ 1) : Calls Try.prog (fnM s) #[ptr hb] w fun e w' => e = .returned (.tuple #[.int .i64 0, ktup kz, .int .i64 3]) ∧ Below w.heap.size w w' := by
  obtain ⟨S, h1, h2⟩ := h.ex
  exact ends_0 h1 hs
theorem lw_pop (h : Lw w0 w hb C g n T) (hn : n ≠ 0) {s : Nat} (hs : s ≤ 1) : ∃ (x : Nat) (k : K), C.ext s x k ∧ k.ok ∧ x < g ∧ Calls Try.prog (fnP s) #[ptr hb] w fun e w' => e = .returned (.tuple #[.int .i64 x, ktup k, .int .i64 0]) ∧ Lw w0 w' hb (C.del x) g (n - 1) T ∧ ∀ k, T k → w'.heap[k]? = w.heap[k]? := by
  obtain ⟨S, h1, h2⟩ := h.ex
  obtain ⟨x, k, h3, h4⟩ := pop_C h1 hn hs
  obtain ⟨o1, y, o2, _, o3⟩ := h1.ok h3.1
  refine ⟨x, k, h3, o1, by omega, h4.mono ?_⟩
  rintro e w' ⟨rfl, S', h5, h6⟩
  exact ⟨rfl, h.go h2 h5 h6⟩
theorem lw_pop0 (h : Lw w0 w hb C g 0 T) {s : Nat} (hs : s ≤ 1) : Calls Try.prog (fnP s) #[ptr hb] w fun e w' => e = .returned (.tuple #[.int .i64 0, ktup kz, .int .i64 3]) ∧ Below w.heap.size w w' := by
  obtain ⟨S, h1, h2⟩ := h.ex
  exact pop_0 h1 hs
theorem lw_rem (h : Lw w0 w hb C g n T) (hx : (Lit.int .i64 x).wf = true) (hc : C x = some k) : ∃ y : Nat, x = (y : Int) ∧ Calls Try.prog 21 #[ptr hb, .int .i64 x] w fun e w' => e = .returned (.int .i64 0) ∧ Lw w0 w' hb (C.del y) g (n - 1) T ∧ ∀ k, T k → w'.heap[k]? = w.heap[k]? := by
  obtain ⟨S, h1, h2⟩ := h.ex
  obtain ⟨y, e, h4⟩ := rem_C h1 hx hc
  refine ⟨y, e, h4.mono ?_⟩
  rintro e w' ⟨rfl, S', h5, h6⟩
  exact ⟨rfl, h.go h2 h5 h6⟩
end

/-! ### awake -/
def k5 : K := ⟨5, 0, 0⟩
theorem k5_ok : k5.ok := ⟨⟨by decide, by decide⟩, ⟨by decide, by decide⟩, ⟨by decide, by decide⟩⟩
theorem ext_one {s x : Nat} {k k' : K} (h : (Ct.nil.put 0 k).ext s x k') : x = 0 ∧ k' = k := by
  have := h.1
  unfold Ct.put Ct.nil at this
  split at this
  · exact ⟨by omega, (Option.some.inj this).symm⟩
  · cases this
theorem awake_ins (w0 w : World) (hb : Nat) (h : Lw w0 w hb Ct.nil 0 0 fun _ => False) (k : K) (hk : k.ok) (s : Nat) (hs : s ≤ 1) :
    Calls Try.prog 12 #[ptr hb, ktup k] w fun e w' => e = .returned (.tuple #[.int .i64 0, .int .i64 0]) ∧ Hid (Calls Try.prog (fnM s) #[ptr hb] w' fun e w2 => e = .returned (.tuple #[.int .i64 0, ktup k, .int .i64 0]) ∧ Hid (Lw w0 w2 hb (Ct.nil.put 0 k) 1 1 fun _ => False)) := by
  refine (lw_insert h k hk (by decide)).mono ?_
  rintro e w' ⟨rfl, h1, _⟩
  refine ⟨rfl, ?_⟩
  obtain ⟨x, k', h2, _, _, h3⟩ := lw_ends h1 (by decide) hs
  obtain ⟨rfl, rfl⟩ := ext_one h2
  refine h3.mono ?_
  rintro e w2 ⟨rfl, b⟩
  exact ⟨rfl, h1.below b⟩
set_option maxHeartbeats 1000000 in
theorem awake_any (w : World) : Calls Try.prog 8 #[] w fun e w' => e = .returned (.bool true) ∧ Below w.heap.size w w' := by
  have H9 : Hid (∀ w, Calls Try.prog 9 #[] w fun e w' => e = .returned (.pointer (some ⟨w.heap.size, 0, none⟩)) ∧ w' = w.alloc (.cells zeroH 58)) := fun w => new_at w
  have q32 := eq32s
  go_enter Try.func8, Try.ntmps8
  go_upto_region 2 with (go_at_call 9; refine (H9.out _).mono ?_; rintro e w1 ⟨rfl, rfl⟩)
  have L0 : Hid (Lw w (w.alloc (.cells zeroH 58)) w.heap.size Ct.nil 0 0 fun _ => False) := lw_new w w _ (Below.refl _ _) nofun
  generalize w.alloc (.cells zeroH 58) = W at *
  have HI : Hid (Calls Try.prog 12 #[.pointer (some ⟨w.heap.size, 0, none⟩), .agg #[.int .i64 5, .int .i64 0, .int .i64 0]] W fun e w' => e = .returned (.tuple #[.int .i64 0, .int .i64 0]) ∧ Hid (Calls Try.prog 20 #[.pointer (some ⟨w.heap.size, 0, none⟩)] w' fun e w2 => e = .returned (.tuple #[.int .i64 0, .agg #[.int .i64 5, .int .i64 0, .int .i64 0], .int .i64 0]) ∧ Hid (Lw w w2 w.heap.size (Ct.nil.put 0 k5) 1 1 fun _ => False))) := awake_ins w W _ L0.out k5 k5_ok 1 (by decide)
  go_upto_region 5 with (go_at_call 12; refine HI.out.mono ?_; first | rintro e w2 rfl H2 | rintro e w2 ⟨rfl, H2⟩)
  go_upto_region 6 with (go_at_call 20; refine H2.out.mono ?_; first | rintro e w3 rfl H3 | rintro e w3 ⟨rfl, H3⟩)
  have B3 : Hid (Below w.heap.size w w3) := H3.out.b
  have hlt : w.heap.size ≤ w3.heap.size := B3.out.size
  go_wp2_with fail
  go_ret
  exact ⟨rfl, by go_grown; exact B3.out⟩
end Go.Proofs.Ytbaffgkopgbknaa
