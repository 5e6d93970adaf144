/-
  The checkpoint's unpack of what was encoded.
-/
import Derived.Test.YtoiopplhphllhaaSh
import Derived.Test.YtoiopplhphllhaaSb
namespace Go.Proofs.Ytoiopplhphllhaa
open Go.RowKit Go.Maps

theorem own_cap {w : World} {B : Nat} {q : Option Addr} {k c : Nat} {l : List UInt8} (h : Own w B (.slice q k c) l) : l.length ≤ c ∧ c ≤ 9223372036854775807 := by
  rcases h.2 with ⟨e, h0⟩ | ⟨g, cap, cur, e, _, _, h1, h2, _⟩
  · cases e; rw [h0]; exact ⟨Nat.le_refl _, by omega⟩
  · cases e; unfold maxLen at h2; exact ⟨h1, by omega⟩
theorem row_one {w : World} {u : Value} {t : TypeId} : RowV (w.alloc (.cells #[u] t)) w.heap.size 0 [u] := fun k x hx => by
  match k, hx with
  | 0, hx =>
    obtain rfl : u = x := by simpa using hx
    exact Lib.cell_of_heap new0 0
theorem sl_own {w : World} {B t s n : Nat} {v : Value} {xs : List Value} (h : w.ownsRow B t s v n xs) : ∃ q c, v = .slice q n c := by
  rcases h.2 with ⟨e, h0⟩ | ⟨g, cap, cur, e, _⟩
  · exact ⟨none, 0, by rw [e, h0]⟩
  · exact ⟨_, cap, e⟩
def slen : Value → Nat
  | .slice _ n _ => n
  | _ => 0
/-- the bytes that are still to be unpacked -/
def restB (ps : List (List UInt8)) (k : Nat) : List UInt8 := (ps.drop k).flatMap Crc.frame
theorem restB_at {ps : List (List UInt8)} {k : Nat} {p : List UInt8} (h : ps[k]? = some p) : restB ps k = Crc.frame p ++ restB ps (k + 1) := by
  obtain ⟨hk, rfl⟩ := List.getElem?_eq_some_iff.1 h
  unfold restB
  rw [List.drop_eq_getElem_cons hk, List.flatMap_cons]
def InU (w : World) (g : Nat) (ps : List (List UInt8)) (s0 s7 : Value) (wr : World) : Prop :=
  ∃ (k : Nat) (l : List RC) (a : Option Addr) (c : Nat), s0 = .slice a (restB ps k).length c ∧ k ≤ ps.length ∧ (restB ps k = [] ∨ ∃ o', a = some ⟨g, o', none⟩ ∧ Row w g o' (restB ps k)) ∧ (restB ps k).length ≤ c ∧ c ≤ 9223372036854775807 ∧ PsOwn wr w.heap.size s7 l ∧ l.map RC.b = ps.take k ∧ Below w.heap.size w wr
theorem InU.go {w wr : World} {g : Nat} {ps : List (List UInt8)} {s0 s7 : Value} (h : InU w g ps s0 s7 wr) (hp : ∀ p ∈ ps, p.length ≤ 4096) :
    (∃ a c l, s0 = .slice a 0 c ∧ PsOwn wr w.heap.size s7 l ∧ l.map RC.b = ps ∧ Below w.heap.size w wr) ∨
    (∃ (n : Nat) (a : Option Addr) (c : Nat) (l : List RC) (j : Nat), s0 = .slice a n c ∧ 0 < n ∧ PsOwn wr w.heap.size s7 l ∧ l.length < ps.length ∧ Below w.heap.size w wr ∧
      Calls Try.prog 59 #[.slice a n c] wr fun e w' => ∃ q c' a' n' c'', e = .returned (.tuple #[.slice q j c', .slice a' n' c'', .bool true]) ∧ n' < n ∧ Own w' w.heap.size (.slice q j c') (ps.getD l.length []) ∧ Below wr.heap.size wr w' ∧
        ∀ s7' w2, PsOwn w2 w.heap.size s7' (l ++ [⟨ps.getD l.length [], q, c'⟩]) → Below w.heap.size w w2 → InU w g ps (.slice a' n' c'') s7' w2) := by
  obtain ⟨k, l, a, c, rfl, hk, hr, hc, hc2, hP, hl, hb⟩ := h
  have hll : l.length = k := by
    have := congrArg List.length hl
    rw [List.length_map, List.length_take] at this
    omega
  by_cases hlt : k < ps.length
  · right
    have hp0 : ps[k]? = some ps[k] := List.getElem?_eq_getElem _
    have hge : ps.getD l.length [] = ps[k] := by rw [hll, List.getD_eq_getElem?_getD, hp0]; rfl
    have e := restB_at hp0
    have hp1 := hp ps[k] (List.getElem_mem _)
    generalize hpk : ps[k] = p at *
    have hne : restB ps k ≠ [] := by
      intro h0
      have := congrArg List.length h0
      rw [e, List.length_append, Crc.frame_length] at this
      simp at this
    obtain ⟨o', rfl, hrow⟩ := hr.resolve_left hne
    have h0 := sopen_any p (restB ps (k + 1)) g o' c wr hp1 (by rw [← e]; exact hrow.keep hb (Nat.le_refl _)) (by rw [← e]; exact hc) hc2
    rw [← e] at h0
    refine ⟨_, _, c, l, p.length, rfl, ?_, hP, by omega, hb, h0.mono ?_⟩
    · rw [e, List.length_append, Crc.frame_length]; omega
    · rintro e' w' ⟨q, c', a', c'', rfl, o1, b1, r1, h1, h2⟩
      rw [hge]
      refine ⟨q, c', a', _, c'', rfl, ?_, o1.low hb.size, b1, fun s7' w2 hP2 hb2 => ?_⟩
      · rw [e, List.length_append, Crc.frame_length]; omega
      · refine ⟨k + 1, _, a', c'', rfl, by omega, ?_, h1, h2, hP2, ?_, hb2⟩
        · rcases r1 with r1 | ⟨o2, rfl, hr2⟩
          · exact .inl r1
          · refine .inr ⟨o2, rfl, ?_⟩
            have hg : g < w.heap.size := by
              obtain ⟨x, hx⟩ : ∃ x, (restB ps k)[0]? = some x := by
                rw [e]
                refine ⟨(Crc.frame p ++ restB ps (k + 1))[0]'(by rw [List.length_append, Crc.frame_length]; omega), List.getElem?_eq_getElem _⟩
              exact block_lt_of_cell (hrow 0 x hx)
            exact fun i x hx => (hb.cell hg).symm.trans (hr2 i x hx)
        · obtain ⟨hk', -⟩ := List.getElem?_eq_some_iff.1 hp0
          rw [List.map_append, hl, List.take_succ_eq_append_getElem hk', hpk]
          rfl
  · left
    have hk2 : k = ps.length := by omega
    have e : restB ps k = [] := by unfold restB; rw [List.drop_of_length_le (by omega)]; rfl
    refine ⟨a, c, l, ?_, hP, ?_, hb⟩
    · rw [e]; rfl
    · rw [hl, hk2, List.take_length]
set_option maxHeartbeats 2000000 in
set_option maxRecDepth 100000 in
theorem unpack_any (n : Nat) (ps : List (List UInt8)) (hn : n < 9223372036854775808) (hl : ps.length ≤ 16384) (hp : Hid (∀ p ∈ ps, p.length ≤ 4096)) (g o c m : Nat) (w : World) (hm : Hid ((encB n ps).length = m)) (hr : Hid (Row w g o (encB n ps))) (hc : Hid (m ≤ c)) (hc2 : Hid (c ≤ 9223372036854775807)) :
    Calls Try.prog 52 #[.slice (some ⟨g, o, none⟩) m c] w fun e w' => ∃ v l, e = .returned (.tuple #[.int .i64 n, v, .bool true]) ∧ PsOwn w' w.heap.size v l ∧ l.map RC.b = ps ∧ Below w.heap.size w w' := by
  have H1 : Hid (Calls Try.prog 59 #[.slice (some ⟨g, o, none⟩) m c] w fun e w' => ∃ gh ch s0, e = .returned (.tuple #[.slice (some ⟨gh, 0, none⟩) 16 ch, s0, .bool true]) ∧ 16 ≤ ch ∧ ch ≤ 9223372036854775807 ∧ Own w' w.heap.size (.slice (some ⟨gh, 0, none⟩) 16 ch) (num8 n ++ num8 ps.length) ∧ Below w.heap.size w w' ∧ InU w g ps s0 (.slice none 0 0) w') := by
    have e : encB n ps = Crc.frame (num8 n ++ num8 ps.length) ++ restB ps 0 := rfl
    have h0 := sopen_any (num8 n ++ num8 ps.length) (restB ps 0) g o c w (by rw [num88_len]; omega) (by rw [← e]; exact hr.out) (by rw [← e, hm.out]; exact hc.out) hc2.out
    rw [← e, hm.out] at h0
    refine h0.mono ?_
    rintro e' w' ⟨q, c', a', c'', rfl, o1, b1, r1, h1, h2⟩
    rw [num88_len] at o1
    obtain ⟨gh, cap, e2, h3, h4⟩ := o1.posn (by rw [num88_len]; omega)
    cases e2
    have hcap := own_cap o1
    rw [num88_len] at hcap
    exact ⟨gh, c', _, rfl, hcap.1, hcap.2, o1, b1, 0, [], a', c'', rfl, Nat.zero_le _, r1, h1, h2, PsOwn.nil _ _, rfl, b1⟩
  go_enter Try.func52, Try.ntmps52
  go_wp2_with (go_at_call 59; refine H1.out.mono ?_)
  rintro e w1 ⟨gh, ch, s0, rfl, hch, hch2, ho1, hb1, hin⟩
  have R1 : Hid (Own w1 w.heap.size (.slice (some ⟨gh, 0, none⟩) 16 ch) (num8 n ++ num8 ps.length)) := ho1
  have I1 : Hid (InU w g ps s0 (.slice none 0 0) w1) := hin
  have B1 : Hid (Below w.heap.size w w1) := hb1
  clear ho1 hin hb1
  go_wp2_with fail
  go_loopw [0, 7] (fun s0 s7 wr => ∃ q7 n7 c7, s7 = .slice q7 n7 c7 ∧ InU w g ps s0 (.slice q7 n7 c7) wr ∧ Own wr w.heap.size (.slice (some ⟨gh, 0, none⟩) 16 ch) (num8 n ++ num8 ps.length)) (fun s0 _ _ => slen s0)
  case atStart => exact ⟨none, 0, 0, rfl, I1.out, R1.out⟩
  case round =>
    obtain ⟨q7, n7, c7, rfl, hi, hb⟩ := hrel
    rcases hi.go hp.out with ⟨a, c2, l, rfl, hP, hmap, hbw⟩ | ⟨n2, a, c2, l, j, rfl, hpos, hP, hll, hbw, hcall⟩
    · have HP : Hid (PsOwn wr w.heap.size (.slice q7 n7 c7) l) := hP
      have HM : Hid (l.map RC.b = ps) := hmap
      have HB : Hid (Below w.heap.size w wr) := hbw
      have hn7 : n7 = ps.length := by rw [← hmap, List.length_map]; exact hP.pcs.2.symm
      subst hn7
      have hrow : Row wr gh 0 (num8 n ++ num8 ps.length) := by
        obtain ⟨hL, -, -⟩ := own_parts hb
        rcases hL with h0 | ⟨g', o', e3, hr'⟩
        · cases h0
        · cases e3; exact hr'
      have N1 : Hid (Calls Try.prog 60 #[.slice (some ⟨gh, 8, none⟩) 8 (ch - 8)] wr fun e w' => e = .returned (.int .i64 (ps.length : Int)) ∧ w' = wr) := num8_back (by omega) gh 8 (ch - 8) wr (by have := hrow.post; exact this)
      have N2 : Hid (Calls Try.prog 60 #[.slice (some ⟨gh, 0, none⟩) 8 ch] wr fun e w' => e = .returned (.int .i64 (n : Int)) ∧ w' = wr) := num8_back hn gh 0 ch wr hrow.pre
      clear hP hmap hbw hrow hi hb
      go_wp2_with (go_at_call 60; refine N1.out.mono ?_)
      first | rintro e w2 rfl rfl | rintro e w2 ⟨rfl, rfl⟩
      go_wp2_with (go_at_call 60; refine N2.out.mono ?_)
      first | rintro e w2 rfl rfl | rintro e w2 ⟨rfl, rfl⟩
      go_wp2_with fail
      go_ret3
      exact ⟨_, l, rfl, HP.out, HM.out, HB.out⟩
    · have HP : Hid (PsOwn wr w.heap.size (.slice q7 n7 c7) l) := hP
      have HB : Hid (Below w.heap.size w wr) := hbw
      have HW : Hid (Own wr w.heap.size (.slice (some ⟨gh, 0, none⟩) 16 ch) (num8 n ++ num8 ps.length)) := hb
      have HC : Hid (Calls Try.prog 59 #[.slice a n2 c2] wr fun e w' => ∃ q c' a' n' c'', e = .returned (.tuple #[.slice q j c', .slice a' n' c'', .bool true]) ∧ n' < n2 ∧ Own w' w.heap.size (.slice q j c') (ps.getD l.length []) ∧ Below wr.heap.size wr w' ∧
        ∀ s7' w2, PsOwn w2 w.heap.size s7' (l ++ [⟨ps.getD l.length [], q, c'⟩]) → Below w.heap.size w w2 → InU w g ps (.slice a' n' c'') s7' w2) := hcall
      have hp1 : 0 < (n2 : Int) := by omega
      clear hP hbw hb hcall hi
      go_wp2_with (go_at_call 59; refine HC.out.mono ?_)
      first | rintro e w3 q3 c3 a3 n3 c4 rfl hn3 o3 b3 hnext | rintro e w3 ⟨q3, c3, a3, n3, c4, rfl, hn3, o3, b3, hnext⟩
      have hj : (ps.getD l.length []).length = j := (own_parts o3).2.2
      have O3 : Hid (Own w3 w.heap.size (.slice q3 j c3) (ps.getD l.length [])) := o3
      have P3 : Hid (PsOwn w3 w.heap.size (.slice q7 n7 c7) l) := HP.out.keep b3
      have B3 : Hid (Below w.heap.size w w3) := below_from HB.out b3 HB.out.size
      have W3 : Hid (Own w3 w.heap.size (.slice (some ⟨gh, 0, none⟩) 16 ch) (num8 n ++ num8 ps.length)) := HW.out.keep b3
      have X3 : Hid (∀ s7' w2, PsOwn w2 w.heap.size s7' (l ++ [⟨ps.getD l.length [], q3, c3⟩]) → Below w.heap.size w w2 → InU w g ps (.slice a3 n3 c4) s7' w2) := hnext
      have A3 : Hid ((w3.alloc (.cells #[.slice q3 j c3] 30)).ownsRow w.heap.size 30 1 (.slice q7 n7 c7) l.length (l.map RC.v)) := ownsKeep P3.out.row fun g hg => ((Below.refl _ w3).alloc (Nat.le_refl _) _).block g (World.ownsRow.lt P3.out.row g hg).2
      clear o3 b3 hnext HC HB HW HP
      go_wp2_with (at_builtin; refine append_vals (w := w3.alloc (.cells #[.slice q3 j c3] 30)) Try.underlying27 info30 rfl (by decide) rfl _ _ rfl w.heap.size (.slice q7 n7 c7) l.length (l.map RC.v) rfl A3.out w3.heap.size 0 1 1 [.slice q3 j c3] rfl rfl row_one (fun u hu => by simp at hu; subst hu; rfl) (by unfold maxLen; omega) (by omega) (by have := B3.out.size; simp; omega) ?_; intro v' w4 h1 h2)
      obtain ⟨q5, c5, rfl⟩ := sl_own h1
      have hb4 : Below w.heap.size w w4 := (B3.out.alloc B3.out.size _).grown h2 (by have := B3.out.size; simp; omega) fun k hk => (World.ownsRow.lt A3.out k hk).1
      have hb5 : Own w4 w.heap.size (.slice (some ⟨gh, 0, none⟩) 16 ch) (num8 n ++ num8 ps.length) := W3.out.keepAt fun g hg => by
        have hlt := (World.ownsRow.lt W3.out g hg).2
        rw [h2.block g (by simp; omega) (fun e => owns_ne (w := w3) W3.out P3.out.row (by decide) hg e.symm)]
        exact ((Below.refl _ w3).alloc (Nat.le_refl _) _).block g hlt
      have hP4 := PsOwn.snoc (r := ⟨ps.getD l.length [], q3, c3⟩) P3.out (by unfold RC.v; rw [hj]; exact O3.out) ((Below.refl _ w3).alloc (Nat.le_refl _) _) (by unfold RC.v; rw [hj]; exact h1) h2
      refine ⟨⟨q5, _, c5, rfl, X3.out _ _ hP4 hb4, hb5⟩, ?_⟩
      exact hn3
end Go.Proofs.Ytoiopplhphllhaa
