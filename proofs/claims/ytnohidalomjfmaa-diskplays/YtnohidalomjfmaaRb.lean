/-
  The document's disk as it lies in the memory; find, done, there.
-/
import Derived.Test.YtnohidalomjfmaaRa
namespace Go.Proofs.Ytnohidalomjfmaa
open Go.RowKit Go.Maps

structure RFAt (w : World) (tg : Nat → Tg) (f : RF) : Prop where
  row : f.b = [] ∨ ∃ g o, f.a = some ⟨g, o, none⟩ ∧ Row w g o f.b ∧ tg g = .rw []
  hz : f.a = none → f.c = 0
  hs : f.sy ≤ f.b.length
  hl : f.b.length ≤ 1048576
  hc : f.b.length ≤ f.c
  hc2 : f.c ≤ 9223372036854775807
theorem RFAt.keep {w w1 : World} {tg tg1 : Nat → Tg} {f : RF} (h : RFAt w tg f) (e : ∀ k, tg k = .rw [] → w1.heap[k]? = w.heap[k]?) (et : ∀ k, tg k = .rw [] → tg1 k = .rw []) : RFAt w1 tg1 f := by
  refine ⟨?_, h.hz, h.hs, h.hl, h.hc, h.hc2⟩
  rcases h.row with h1 | ⟨g, o, h1, h2, h3⟩
  · exact .inl h1
  · exact .inr ⟨g, o, h1, h2.keepAt (e g h3), et g h3⟩
theorem RFAt.lies {w : World} {tg : Nat → Tg} {f : RF} (h : RFAt w tg f) : Lies w f.a f.b := by
  rcases h.row with h1 | ⟨g, o, h1, h2, h3⟩
  · exact .inl h1
  · exact .inr ⟨g, o, h1, h2⟩

def fzR (o : Option Nat) (z : Int) : Prop := match o with
  | none => z = -1
  | some n => z = n ∧ n < 9223372036854775808
structure RAt (w : World) (tg : Nat → Tg) (pb : Nat) (D : DK) (v : Value) (l : List RF) (z : Int) : Prop where
  cell : w.heap[pb]? = some (.cells #[v, .int .i64 z, .bool D.down] 35 (0, 0))
  tp : tg pb = .dk
  own : w.ownsRow 0 73 3 v l.length (flat l)
  tm : ∀ g, v.ownBlock = some g → tg g = .mp
  fs : D.fs = l.map RF.s
  fz : fzR D.fuse z
  fl : ∀ f ∈ l, RFAt w tg f
  srt : Srt RF.nm l
  len : l.length ≤ 64
  lt : ∀ k, tg k ≠ .no → k < w.heap.size
/-- the document's disk at block pb -/
def Ref (w : World) (tg : Nat → Tg) (pb : Nat) (D : DK) : Prop := ∃ v l z, RAt w tg pb D v l z

theorem ownsKeep {w w1 : World} {B t s n : Nat} {v : Value} {xs : List Value} (h : w.ownsRow B t s v n xs) (b : ∀ g, v.ownBlock = some g → w1.heap[g]? = w.heap[g]?) : w1.ownsRow B t s v n xs := by
  refine ⟨h.1, ?_⟩
  rcases h.2 with hn | ⟨g, cap, cur, rfl, hb, hgg, rest⟩
  · exact .inl hn
  · exact .inr ⟨g, cap, cur, rfl, hb, (b g rfl).trans hgg, rest⟩
theorem RAt.keep {w w1 : World} {tg : Nat → Tg} {pb : Nat} {D : DK} {v : Value} {l : List RF} {z : Int} (h : RAt w tg pb D v l z) (e : ∀ k, tg k ≠ .no → w1.heap[k]? = w.heap[k]?) (hs : w.heap.size ≤ w1.heap.size) : RAt w1 tg pb D v l z :=
  ⟨(e _ (by rw [h.tp]; exact nofun)).trans h.cell, h.tp, ownsKeep h.own fun g hg => e g (by rw [h.tm g hg]; exact nofun), h.tm, h.fs, h.fz, fun f hf => (h.fl f hf).keep (fun k hk => e k (by rw [hk]; exact nofun)) fun _ hk => hk, h.srt, h.len, fun k hk => Nat.lt_of_lt_of_le (h.lt k hk) hs⟩
theorem RAt.keepB {w w1 : World} {tg : Nat → Tg} {pb : Nat} {D : DK} {v : Value} {l : List RF} {z : Int} (h : RAt w tg pb D v l z) (b : Below w.heap.size w w1) : RAt w1 tg pb D v l z :=
  h.keep (fun k hk => b.block k (h.lt k hk)) b.size
theorem Ref.keep {w w1 : World} {tg : Nat → Tg} {pb : Nat} {D : DK} (h : Ref w tg pb D) (e : ∀ k, tg k ≠ .no → w1.heap[k]? = w.heap[k]?) (hs : w.heap.size ≤ w1.heap.size) : Ref w1 tg pb D := by
  obtain ⟨v, l, z, h⟩ := h
  exact ⟨v, l, z, h.keep e hs⟩
/-- only its own block is written -/
theorem RAt.turn {w w' : World} {tg : Nat → Tg} {pb : Nat} {D D' : DK} {v : Value} {l : List RF} {z z' : Int} (h : RAt w tg pb D v l z)
    (hc : w'.heap[pb]? = some (.cells #[v, .int .i64 z', .bool D'.down] 35 (0, 0))) (hk : Kp (· = pb) w w') (hf : D'.fs = D.fs) (hz : fzR D'.fuse z') : RAt w' tg pb D' v l z' := by
  have hb : ∀ k, tg k ≠ .no → tg k ≠ .dk → w'.heap[k]? = w.heap[k]? := fun k hk1 hk2 => hk.block k (h.lt k hk1) fun e => hk2 (by rw [e]; exact h.tp)
  exact ⟨hc, h.tp, ownsKeep h.own fun g hg => hb g (by rw [h.tm g hg]; exact nofun) (by rw [h.tm g hg]; exact nofun), h.tm, hf.trans h.fs, hz, fun f hf => (h.fl f hf).keep (fun k hk => hb k (by rw [hk]; exact nofun) (by rw [hk]; exact nofun)) (fun _ hk => hk), h.srt, h.len, fun k hk' => Nat.lt_of_lt_of_le (h.lt k hk') hk.size⟩

theorem rowV_own {w : World} {B t n : Nat} {v : Value} {xs : List Value} (h : w.ownsRow B t 3 v n xs) : (v = .slice none 0 0 ∧ n = 0) ∨ ∃ g c, v = .slice (some ⟨g, 0, none⟩) n c ∧ n ≤ c ∧ c ≤ maxLen ∧ RowV w g 0 xs ∧ ∀ i, w.frozen? ⟨g, i, none⟩ = false := by
  rcases h.2 with hn | ⟨g, cap, cur, rfl, hb, hgg, h1, h2, h3, h4⟩
  · exact .inl hn
  · refine .inr ⟨g, cap, rfl, h1, h2, fun k u hu => ?_, fun i => fz hgg i⟩
    have := World.ownsRow.cells h (g := g) rfl k _ hu
    rwa [Addr.add_lit] at this

theorem pos_fnd (n : List UInt8) : ∀ (l : List RF), (pos n l = none ∧ fnd RF.nm n l = none) ∨ ∃ k f, pos n l = some k ∧ l[k]? = some f ∧ fnd RF.nm n l = some f
  | [] => .inl ⟨rfl, rfl⟩
  | f :: l => by
    unfold pos fnd
    by_cases h : f.nm = n
    · refine .inr ⟨0, f, by rw [if_pos h], rfl, ?_⟩
      rw [List.find?_cons_of_pos (by simp [h])]
    · rw [if_neg h, List.find?_cons_of_neg (by simp [h])]
      rcases pos_fnd n l with ⟨h1, h2⟩ | ⟨k, g, h1, h2, h3⟩
      · exact .inl ⟨by rw [h1]; rfl, h2⟩
      · exact .inr ⟨k + 1, g, by rw [h1]; rfl, h2, h3⟩
theorem fnd_map (n : List UInt8) (l : List RF) : fnd Fil.nm n (l.map RF.s) = (fnd RF.nm n l).map RF.s := (map_fnd (fun _ => rfl) n l).symm

theorem rfind_any {w : World} {tg : Nat → Tg} {pb : Nat} {D : DK} {v : Value} {l : List RF} {z : Int} (h : RAt w tg pb D v l z) (s : List UInt8) :
    Calls Try.prog 47 #[.pointer (some ⟨pb, 0, none⟩), .string ⟨⟨s⟩⟩] w fun e w' => e = .returned (.int .i64 (posI (pos s l))) ∧ w' = w := by
  have hc := h.cell
  rcases rowV_own h.own with ⟨rfl, h0⟩ | ⟨g, c, rfl, h1, h2, h3, -⟩
  · obtain rfl := List.eq_nil_of_length_eq_zero h0
    exact find_zero _ _ pb s w hc
  · exact find_loop l l.length g c _ _ pb s w rfl h.len hc h3

theorem done_any {w : World} {tg : Nat → Tg} {pb : Nat} {D : DK} {v : Value} {l : List RF} {z : Int} (h : RAt w tg pb D v l z) :
    Calls Try.prog 48 #[.pointer (some ⟨pb, 0, none⟩)] w fun e w' => e = .returned (.bool (burn D).1) ∧ (∃ z', RAt w' tg pb (burn D).2 v l z') ∧ Step tg tg w w' := by
  obtain ⟨fs, dn, fu⟩ := D
  have hc := h.cell
  cases fu with
  | none =>
    have hz : z = -1 := h.fz
    subst hz
    refine (done_none w pb _ _ hc).mono ?_
    rintro e w' ⟨rfl, rfl⟩
    exact ⟨rfl, ⟨_, h⟩, Step.refl _ _⟩
  | some n =>
    obtain ⟨rfl, hn⟩ := (show z = (n : Int) ∧ n < 9223372036854775808 from h.fz)
    cases n with
    | zero =>
      refine (done_zero w pb _ _ hc).mono ?_
      rintro e w' ⟨rfl, rfl⟩
      have hk : Kp (· = pb) w (w.setCell ⟨pb, 2, none⟩ (.bool true)) := Kp.of_set _ _ _ rfl
      refine ⟨rfl, ⟨_, h.turn (setB hc _) hk rfl h.fz⟩, Step.of_kp (by rw [h.tp]; exact nofun) hk⟩
    | succ n =>
      refine (done_some w pb _ _ n hn hc).mono ?_
      rintro e w' ⟨rfl, rfl⟩
      have hk : Kp (· = pb) w (w.setCell ⟨pb, 1, none⟩ (.int .i64 n)) := Kp.of_set _ _ _ rfl
      refine ⟨rfl, ⟨_, h.turn (D' := ⟨fs, dn, some n⟩) (setB hc _) hk rfl (show (n : Int) = n ∧ n < 9223372036854775808 from ⟨rfl, by omega⟩)⟩, Step.of_kp (by rw [h.tp]; exact nofun) hk⟩

/-! ### there -/
def thereC (D : DK) (o : Option Nat) : Int := if D.down then 11 else match o with
  | none => 3
  | some _ => 0
def thereK (D : DK) (o : Option Nat) : Int := if D.down then 0 else match o with
  | none => 0
  | some k => k
set_option maxHeartbeats 400000 in
theorem there_down (w : World) (pb : Nat) (a b : Value) (s : List UInt8) (h : Hid (w.heap[pb]? = some (.cells #[a, b, .bool true] 35 (0, 0)))) :
    Calls Try.prog 51 #[.pointer (some ⟨pb, 0, none⟩), .string ⟨⟨s⟩⟩] w fun e w' => e = .returned (.tuple #[.int .i64 0, .int .i64 11]) ∧ w' = w := by
  obtain ⟨e0, e1, e2⟩ := c3 h.out
  go_enter Try.func51, Try.ntmps51
  go_wp2_with fail
  go_ret2
  exact ⟨rfl, rfl⟩
set_option maxHeartbeats 400000 in
theorem there_none (w : World) (pb : Nat) (a b : Value) (s : List UInt8) (h : Hid (w.heap[pb]? = some (.cells #[a, b, .bool false] 35 (0, 0)))) (H : Hid (Calls Try.prog 47 #[.pointer (some ⟨pb, 0, none⟩), .string ⟨⟨s⟩⟩] w fun e w' => e = .returned (.int .i64 (-1)) ∧ w' = w)) :
    Calls Try.prog 51 #[.pointer (some ⟨pb, 0, none⟩), .string ⟨⟨s⟩⟩] w fun e w' => e = .returned (.tuple #[.int .i64 0, .int .i64 3]) ∧ w' = w := by
  obtain ⟨e0, e1, e2⟩ := c3 h.out
  go_enter Try.func51, Try.ntmps51
  go_wp2_with (go_at_call 47; refine H.out.mono ?_)
  rintro e w1 ⟨rfl, rfl⟩
  go_wp2_with fail
  go_ret2
  exact ⟨rfl, rfl⟩
set_option maxHeartbeats 400000 in
theorem there_some (w : World) (pb k : Nat) (a b : Value) (s : List UInt8) (h : Hid (w.heap[pb]? = some (.cells #[a, b, .bool false] 35 (0, 0)))) (H : Hid (Calls Try.prog 47 #[.pointer (some ⟨pb, 0, none⟩), .string ⟨⟨s⟩⟩] w fun e w' => e = .returned (.int .i64 k) ∧ w' = w)) :
    Calls Try.prog 51 #[.pointer (some ⟨pb, 0, none⟩), .string ⟨⟨s⟩⟩] w fun e w' => e = .returned (.tuple #[.int .i64 k, .int .i64 0]) ∧ w' = w := by
  obtain ⟨e0, e1, e2⟩ := c3 h.out
  have hk : ¬ (k : Int) < 0 := by omega
  go_enter Try.func51, Try.ntmps51
  go_wp2_with (go_at_call 47; refine H.out.mono ?_; rintro e w1 ⟨rfl, rfl⟩)
  go_ret2
  exact ⟨rfl, rfl⟩
theorem there_any {w : World} {tg : Nat → Tg} {pb : Nat} {D : DK} {v : Value} {l : List RF} {z : Int} (h : RAt w tg pb D v l z) (s : List UInt8) :
    Calls Try.prog 51 #[.pointer (some ⟨pb, 0, none⟩), .string ⟨⟨s⟩⟩] w fun e w' => e = .returned (.tuple #[.int .i64 (thereK D (pos s l)), .int .i64 (thereC D (pos s l))]) ∧ w' = w := by
  have hc := h.cell
  have hf := rfind_any h s
  unfold thereK thereC
  cases hd : D.down with
  | true =>
    rw [hd] at hc
    exact there_down w pb _ _ s hc
  | false =>
    rw [hd] at hc
    cases hp : pos s l with
    | none => rw [hp] at hf; exact there_none w pb _ _ s hc hf
    | some k => rw [hp] at hf; exact there_some w pb k _ _ s hc hf
end Go.Proofs.Ytnohidalomjfmaa
