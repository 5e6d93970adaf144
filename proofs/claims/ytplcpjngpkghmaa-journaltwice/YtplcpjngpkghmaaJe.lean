/-
  A log as it lies beside its disk; Open of a disk without one.
-/
import Derived.Test.YtplcpjngpkghmaaJd
namespace Go.Proofs.Ytplcpjngpkghmaa
open Go.RowKit Go.Maps
variable {P : Nat → Obj → Prop}

theorem ownsKeep {w w1 : World} {B t s n : Nat} {v : Value} {xs : List Value} (h : w.ownsRow B t s v n xs) (b : ∀ g, v.ownBlock = some g → w1.heap[g]? = w.heap[g]?) : w1.ownsRow B t s v n xs := by
  refine ⟨h.1, ?_⟩
  rcases h.2 with hn | ⟨g, cap, cur, rfl, hb, hgg, rest⟩
  · exact .inl hn
  · exact .inr ⟨g, cap, cur, rfl, hb, (b g rfl).trans hgg, rest⟩
structure RcAt (w : World) (lt : Nat → Tg) (r : RC) : Prop where
  row : r.b = [] ∨ ∃ g o, r.a = some ⟨g, o, none⟩ ∧ Row w g o r.b ∧ lt g = .rw []
  hz : r.a = none → r.c = 0
  hl : r.b.length ≤ 4080
theorem RcAt.keep {w w1 : World} {lt lt1 : Nat → Tg} {r : RC} (h : RcAt w lt r) (e : ∀ k, lt k = .rw [] → w1.heap[k]? = w.heap[k]?) (et : ∀ k, lt k = .rw [] → lt1 k = .rw []) : RcAt w1 lt1 r := by
  refine ⟨?_, h.hz, h.hl⟩
  rcases h.row with h1 | ⟨g, o, h1, h2, h3⟩
  · exact .inl h1
  · exact .inr ⟨g, o, h1, h2.keepAt (e g h3), et g h3⟩
structure LgAt (w : World) (lt : Nat → Tg) (lb : Nat) (pt : Option Addr) (first : Nat) (v : Value) (l : List RC) : Prop where
  cell : w.heap[lb]? = some (.cells #[.pointer pt, .int .i64 first, v] 77 (0, 0))
  tp : lt lb = .dk
  own : w.ownsRow 0 31 1 v l.length (l.map RC.v)
  tm : ∀ g, v.ownBlock = some g → lt g = .mp
  fl : ∀ r ∈ l, RcAt w lt r
  len : l.length ≤ 1048576
  bd : first + l.length < 4611686018427387904
  lt_ : ∀ k, lt k ≠ .no → k < w.heap.size
theorem LgAt.keep {w w1 : World} {lt : Nat → Tg} {lb first : Nat} {pt : Option Addr} {v : Value} {l : List RC} (h : LgAt w lt lb pt first v l) (e : ∀ k, lt k ≠ .no → w1.heap[k]? = w.heap[k]?) (hs : w.heap.size ≤ w1.heap.size) : LgAt w1 lt lb pt first v l :=
  ⟨(e _ (by rw [h.tp]; exact nofun)).trans h.cell, h.tp, ownsKeep h.own fun g hg => e g (by rw [h.tm g hg]; exact nofun), h.tm, fun f hf => (h.fl f hf).keep (fun k hk => e k (by rw [hk]; exact nofun)) fun _ hk => hk, h.len, h.bd, fun k hk => Nat.lt_of_lt_of_le (h.lt_ k hk) hs⟩
theorem no_of {t : Tg} (h : ¬ t ≠ .no) : t = .no := by
  by_cases e : t = .no
  · exact e
  · exact absurd e h
theorem Dsk.lt {w : World} {tg : Nat → Tg} {pb : Nat} {D : DK} (h : Dsk w tg pb D) {k : Nat} (hk : tg k ≠ .no) : k < w.heap.size := by obtain ⟨_, _, _, h⟩ := h; exact h.lt k hk
def NoP : Nat → Obj → Prop := fun _ _ => False
theorem step_blk {tg tg' : Nat → Tg} {w w' : World} {g : Nat} {o : Obj} (st : Step tg tg' w w') (h : w.heap[g]? = some o) (hno : tg g = .no) : w'.heap[g]? = some o ∧ tg' g = .no := by
  have hlt := (Array.getElem?_eq_some_iff.1 h).1
  refine ⟨(st.1.block g hlt fun e => e hno).trans h, no_of fun e => ?_⟩
  rcases st.2 g e with h1 | h1
  · exact h1 hno
  · omega
/-- a disk and a log of it; P: blocks that are neither's, as they are -/
structure LJ (P : Nat → Obj → Prop) (w0 w : World) (pb lb : Nat) (D : DK) (pt : Option Addr) (first : Nat) (l : List RC) (tg lt : Nat → Tg) : Prop where
  d : Dsk w tg pb D
  g : ∃ v, LgAt w lt lb pt first v l
  ap : ∀ k, tg k ≠ .no → lt k = .no
  t1 : ∀ k, tg k ≠ .no → w0.heap.size ≤ k
  t2 : ∀ k, lt k ≠ .no → w0.heap.size ≤ k
  b : Below w0.heap.size w0 w
  pr : ∀ g o, P g o → w.heap[g]? = some o ∧ tg g = .no ∧ lt g = .no
theorem LJ.left {w0 w w' : World} {pb lb first : Nat} {D D' : DK} {pt : Option Addr} {l : List RC} {tg lt tg' : Nat → Tg} (h : LJ P w0 w pb lb D pt first l tg lt) (d : Dsk w' tg' pb D') (st : Step tg tg' w w') : LJ P w0 w' pb lb D' pt first l tg' lt := by
  obtain ⟨v, hg⟩ := h.g
  refine ⟨d, ⟨v, hg.keep (fun k hk => st.1.block k (hg.lt_ k hk) fun e => hk (h.ap k e)) st.1.size⟩, fun k hk => ?_, fun k hk => ?_, h.t2, ?_, fun g o hp => ⟨(step_blk st (h.pr g o hp).1 (h.pr g o hp).2.1).1, (step_blk st (h.pr g o hp).1 (h.pr g o hp).2.1).2, (h.pr g o hp).2.2⟩⟩
  · rcases st.2 k hk with h1 | h1
    · exact h.ap k h1
    · refine no_of fun e => ?_
      have := hg.lt_ k e
      omega
  · rcases st.2 k hk with h1 | h1
    · exact h.t1 k h1
    · exact Nat.le_trans h.b.size h1
  · exact h.b.trans (st.below h.b.size h.t1).1
theorem LJ.keep {w0 w w' : World} {pb lb first : Nat} {D : DK} {pt : Option Addr} {l : List RC} {tg lt : Nat → Tg} (h : LJ P w0 w pb lb D pt first l tg lt) (b : Below w.heap.size w w') : LJ P w0 w' pb lb D pt first l tg lt := by
  obtain ⟨v, hg⟩ := h.g
  exact ⟨h.d.keepB b, ⟨v, hg.keep (fun k hk => b.block k (hg.lt_ k hk)) b.size⟩, h.ap, h.t1, h.t2, h.b.trans (b.mono h.b.size), fun g o hp => ⟨at_below b (Nat.le_refl _) (h.pr g o hp).1, (h.pr g o hp).2⟩⟩
theorem LJ.right {w0 w w' : World} {pb lb first first' : Nat} {D : DK} {pt pt' : Option Addr} {l l' : List RC} {v' : Value} {tg lt lt' : Nat → Tg} (h : LJ P w0 w pb lb D pt first l tg lt) (d : LgAt w' lt' lb pt' first' v' l') (st : Step lt lt' w w') : LJ P w0 w' pb lb D pt' first' l' tg lt' := by
  refine ⟨h.d.keep (fun k hk => st.1.block k (h.d.lt hk) fun e => e (h.ap k hk)) st.1.size, ⟨v', d⟩, fun k hk => ?_, h.t1, fun k hk => ?_, ?_, fun g o hp => ⟨(step_blk st (h.pr g o hp).1 (h.pr g o hp).2.2).1, (h.pr g o hp).2.1, (step_blk st (h.pr g o hp).1 (h.pr g o hp).2.2).2⟩⟩
  · refine no_of fun e => ?_
    rcases st.2 k e with h1 | h1
    · exact h1 (h.ap k hk)
    · have := h.d.lt hk
      omega
  · rcases st.2 k hk with h1 | h1
    · exact h.t2 k h1
    · exact Nat.le_trans h.b.size h1
  · exact h.b.trans (st.below h.b.size h.t2).1

set_option maxHeartbeats 1000000 in
theorem decode_zero (a : Option Addr) (c : Nat) (w : World) (hz : a = none → c = 0) (hc : c ≤ 9223372036854775807) : Calls Try.prog 62 #[.slice a 0 c] w fun e w' => e = .returned (.tuple #[.int .i64 0, .slice none 0 0, .int .i64 0]) ∧ Below w.heap.size w w' := by
  have H : Hid (Calls Try.prog 70 #[.slice a 0 c] w fun e w' => ∃ q c', e = .returned (.tuple #[.slice q 0 c', .int .i64 0]) ∧ Below w.heap.size w w') := by
    refine (open70_any [] a c w (.inl rfl) hz (Nat.zero_le _) hc (Nat.zero_le _)).mono ?_
    rintro e w' ⟨q, c', rfl, _, b⟩
    exact ⟨q, c', rfl, b⟩
  go_enter Try.func62, Try.ntmps62
  go_wp2_with (go_at_call 70; refine H.out.mono ?_)
  rintro e w1 ⟨q, c', rfl, b1⟩
  go_wp2_with fail
  go_ret3
  exact ⟨rfl, b1⟩
theorem own_cap {w : World} {B : Nat} {q : Option Addr} {k c : Nat} {l : List UInt8} (h : Own w B (.slice q k c) l) : l.length ≤ c ∧ c ≤ 9223372036854775807 := by
  rcases h.2 with ⟨e, h0⟩ | ⟨g, cap, cur, e, _, _, h1, h2, _⟩
  · cases e; rw [h0]; exact ⟨Nat.le_refl _, by omega⟩
  · cases e; unfold maxLen at h2; exact ⟨h1, by omega⟩
set_option maxHeartbeats 1000000 in
theorem load_empty {w0 w : World} {pb lb : Nat} {D : DK} {tg lt : Nat → Tg} (h : Hid (LJ P w0 w pb lb D (some ⟨pb, 0, none⟩) 0 [] tg lt)) (hr : Hid ((readD D nmL).2 = [])) :
    Calls Try.prog 48 #[.pointer (some ⟨lb, 0, none⟩)] w fun e w' => e = .returned (.int .i64 (replaceD D 0 []).1) ∧ ∃ tg', LJ P w0 w' pb lb (replaceD D 0 []).2 (some ⟨pb, 0, none⟩) 0 [] tg' lt := by
  obtain ⟨v, hg⟩ := h.out.g
  obtain ⟨e0, e1, e2⟩ := k3 hg.cell
  have H30 : Hid (Calls Try.prog 30 #[.pointer (some ⟨pb, 0, none⟩), .string ⟨#[108, 111, 103]⟩] w fun e w' => ∃ q c, e = .returned (.tuple #[.slice q 0 c, .int .i64 (readD D nmL).1]) ∧ (q = none → c = 0) ∧ c ≤ 9223372036854775807 ∧ Below w.heap.size w w') := by
    refine (read_any h.out.d ⟨⟨nmL⟩⟩ (by decide)).mono ?_
    rintro e w' ⟨u, rfl, o, b⟩
    obtain ⟨q, c, rfl, _, hz, _⟩ := o.shape
    have hl : (readD D nmL).2.length = 0 := by rw [hr.out]; rfl
    have hcap := (own_cap o).2
    refine ⟨q, c, ?_, hz, hcap, b⟩
    rw [← hl]
  clear hg
  go_enter Try.func48, Try.ntmps48
  go_wp2_with (go_at_call 30; refine H30.out.mono ?_)
  rintro e w1 ⟨q1, c1, rfl, hz1, hc1, b1⟩
  have H1 : Hid (LJ P w0 w1 pb lb D (some ⟨pb, 0, none⟩) 0 [] tg lt) := h.out.keep b1
  have H62 : Hid (Calls Try.prog 62 #[.slice q1 0 c1] w1 fun e w' => e = .returned (.tuple #[.int .i64 0, .slice none 0 0, .int .i64 0]) ∧ Below w1.heap.size w1 w') := decode_zero q1 c1 w1 hz1 hc1
  clear hz1 hc1 b1 H30 e0 e1 e2
  go_wp2_with (go_at_call 62; refine H62.out.mono ?_)
  rintro e w2 ⟨rfl, b2⟩
  have H2 : Hid (LJ P w0 w2 pb lb D (some ⟨pb, 0, none⟩) 0 [] tg lt) := H1.out.keep b2
  obtain ⟨v2, hg2⟩ := H2.out.g
  obtain ⟨e0, e1, e2⟩ := k3 hg2.cell
  have H46 : Hid (Calls Try.prog 46 #[.pointer (some ⟨pb, 0, none⟩), .int .i64 0, .slice none 0 0] w2 fun e w' => e = .returned (.int .i64 (replaceD D 0 []).1) ∧ ∃ tg', LJ P w0 w' pb lb (replaceD D 0 []).2 (some ⟨pb, 0, none⟩) 0 [] tg' lt) := by
    refine (replace_any H2.out.d 0 (by omega) (.slice none 0 0) [] ⟨.inl ⟨none, 0, rfl, rfl⟩, Nat.zero_le _, nofun⟩).mono ?_
    rintro e w' ⟨rfl, tg', d, st⟩
    exact ⟨rfl, tg', H2.out.left d st⟩
  clear hg2 b2 H62
  go_wp2_with (go_at_call 46; refine H46.out.mono ?_)
  rintro e w3 ⟨rfl, h3⟩
  go_wp2_with fail
  go_ret
  exact ⟨rfl, h3⟩

set_option maxHeartbeats 1000000 in
theorem open_new {w0 w : World} {pb : Nat} {D : DK} {tg : Nat → Tg} (h : Hid (Dsk w tg pb D)) (ht : Hid (∀ k, tg k ≠ .no → w0.heap.size ≤ k)) (hb : Hid (Below w0.heap.size w0 w)) (hd : Hid (D.down = false)) (hpr : Hid (∀ g o, P g o → w.heap[g]? = some o ∧ tg g = .no)) (hr : Hid ((readD D nmL).2 = [])) (ho : Hid ((replaceD D 0 []).1 = 0)) :
    Calls Try.prog 27 #[.pointer (some ⟨pb, 0, none⟩)] w fun e w' => e = .returned (.tuple #[.pointer (some ⟨w.heap.size, 0, none⟩), .int .i64 0]) ∧ ∃ tg' lt, LJ P w0 w' pb w.heap.size (replaceD D 0 []).2 (some ⟨pb, 0, none⟩) 0 [] tg' lt := by
  have H17 : Hid (Calls Try.prog 17 #[.pointer (some ⟨pb, 0, none⟩)] w fun e w' => e = .returned (.bool false) ∧ w' = w) := by
    obtain ⟨_, _, _, dd⟩ := h.out
    have hc := dd.cell
    rw [hd.out] at hc
    exact down_at w pb _ _ _ false hc
  have HJ : Hid (LJ P w0 (w.alloc (.cells #[.pointer (some ⟨pb, 0, none⟩), .int .i64 0, .slice none 0 0] 77)) pb w.heap.size D (some ⟨pb, 0, none⟩) 0 [] tg (tgN w.heap.size)) := by
    have b : Below w.heap.size w (w.alloc (.cells #[.pointer (some ⟨pb, 0, none⟩), .int .i64 0, .slice none 0 0] 77)) := (Below.refl _ w).alloc (Nat.le_refl _) _
    refine ⟨h.out.keepB b, ⟨.slice none 0 0, new0, by simp [tgN], World.ownsRow_nil _ _ _ _, nofun, nofun, Nat.zero_le _, by simp, fun k hk => ?_⟩, fun k hk => no_of fun e => ?_, ht.out, fun k hk => ?_, hb.out.trans (b.mono hb.out.size), fun g o hp => ⟨at_below b (Nat.le_refl _) (hpr.out g o hp).1, (hpr.out g o hp).2, no_of fun e => ?_⟩⟩
    · rw [tgN_new hk]; simp
    · have := h.out.lt hk
      rw [tgN_new e] at this
      omega
    · rw [tgN_new hk]; exact hb.out.size
    · have := (Array.getElem?_eq_some_iff.1 (hpr.out g o hp).1).1
      rw [tgN_new e] at this
      exact Nat.lt_irrefl _ this
  have H48 : Hid (Calls Try.prog 48 #[.pointer (some ⟨w.heap.size, 0, none⟩)] (w.alloc (.cells #[.pointer (some ⟨pb, 0, none⟩), .int .i64 0, .slice none 0 0] 77)) fun e w' => e = .returned (.int .i64 0) ∧ ∃ tg', LJ P w0 w' pb w.heap.size (replaceD D 0 []).2 (some ⟨pb, 0, none⟩) 0 [] tg' (tgN w.heap.size)) := by
    have := load_empty HJ.out hr.out
    rw [ho.out] at this
    exact this
  go_enter Try.func27, Try.ntmps27
  go_wp2_with (go_at_call 17; refine H17.out.mono ?_)
  rintro e w1 ⟨rfl, rfl⟩
  go_wp2_with (go_at_call 48; refine H48.out.mono ?_)
  rintro e w2 ⟨rfl, tg2, h2⟩
  have H2 : Hid (LJ P w0 w2 pb w1.heap.size (replaceD D 0 []).2 (some ⟨pb, 0, none⟩) 0 [] tg2 (tgN w1.heap.size)) := h2
  clear h2 H48
  go_wp2_with (go_at_call 44; refine (opr_ok w2 _).mono ?_)
  rintro e w3 ⟨rfl, rfl⟩
  go_wp2_with fail
  go_ret2
  exact ⟨rfl, tg2, _, H2.out⟩
end Go.Proofs.Ytplcpjngpkghmaa
