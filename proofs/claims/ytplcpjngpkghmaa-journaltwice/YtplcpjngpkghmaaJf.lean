/-
  The journal's Append.
-/
import Derived.Test.YtplcpjngpkghmaaJe
import Derived.Deep.RegionLaw
import Derived.Deep.AppendLies
namespace Go.Proofs.Ytplcpjngpkghmaa
open Go.RowKit Go.Maps
variable {P : Nat → Obj → Prop}

set_option maxHeartbeats 400000 in
theorem lap_over (w : World) (p u : Value) (H : Hid (Calls Try.prog 42 #[p] w fun e w' => e = .returned (.bool true) ∧ w' = w)) :
    Calls Try.prog 20 #[p, u] w fun e w' => e = .returned (.tuple #[.int .i64 0, .int .i64 11]) ∧ w' = w := by
  go_enter Try.func20, Try.ntmps20
  go_wp2_with (go_at_call 42; refine H.out.mono ?_)
  rintro e w1 ⟨rfl, rfl⟩
  go_wp2_with fail
  go_ret2
  exact ⟨rfl, rfl⟩
set_option maxHeartbeats 400000 in
theorem lap_long (w : World) (p : Value) (q : Option Addr) (n c : Nat) (hn : 4080 < (n : Int)) (H : Hid (Calls Try.prog 42 #[p] w fun e w' => e = .returned (.bool false) ∧ w' = w)) :
    Calls Try.prog 20 #[p, .slice q n c] w fun e w' => e = .returned (.tuple #[.int .i64 0, .int .i64 1]) ∧ w' = w := by
  go_enter Try.func20, Try.ntmps20
  go_wp2_with (go_at_call 42; refine H.out.mono ?_)
  rintro e w1 ⟨rfl, rfl⟩
  go_wp2_with fail
  go_ret2
  exact ⟨rfl, rfl⟩
theorem info31 : (Try.prog.info? 31).map (fun i => (i.zero, i.size, i.bytes)) = some (some (.slice none 0 0), 1, 24) := by kernel_rfl
def tgL (lt : Nat → Tg) (v u : Value) : Nat → Tg := fun k => if v.ownBlock = some k then .mp else if u.ownBlock = some k then .rw [] else lt k
/-- behind the append of a record -/
theorem apW {w w6 w7 : World} {lt : Nat → Tg} {lb first : Nat} {pt : Option Addr} {l : List RC} {v : Value} {b : List UInt8} {q6 : Option Addr} {c6 g cap : Nat} (h : LgAt w lt lb pt first v l) (hl : l.length < 1048576) (hf : first + l.length + 1 < 4611686018427387904) (hb : b.length ≤ 4080)
    (o6 : Own w6 w.heap.size (.slice q6 b.length c6) b) (b6 : Below w.heap.size w w6) (own : w7.ownsRow 0 31 1 (.slice (some ⟨g, 0, none⟩) (l.length + 1) cap) (l.length + 1) (l.map RC.v ++ [.slice q6 b.length c6])) (gr : (w6.alloc (.cells #[.slice q6 b.length c6] 31)).grownBy w7 v.ownBlock) (hat : v.ownBlock = some g ∨ g = w6.heap.size + 1) :
    w7.heap[lb]? = some (.cells #[.pointer pt, .int .i64 first, v] 77 (0, 0)) ∧ ∃ lt', LgAt (w7.setCell ⟨lb, 2, none⟩ (.slice (some ⟨g, 0, none⟩) (l.length + 1) cap)) lt' lb pt first (.slice (some ⟨g, 0, none⟩) (l.length + 1) cap) (l ++ [⟨b, q6, c6⟩]) ∧ Step lt lt' w (w7.setCell ⟨lb, 2, none⟩ (.slice (some ⟨g, 0, none⟩) (l.length + 1) cap)) := by
  have hsz : (w6.alloc (.cells #[.slice q6 b.length c6] 31)).heap.size = w6.heap.size + 1 := by simp
  have hw6 := b6.size
  have bb : Below w.heap.size w (w6.alloc (.cells #[.slice q6 b.length c6] 31)) := b6.alloc hw6 _
  have hlb : lb < w.heap.size := h.lt_ lb (by rw [h.tp]; exact nofun)
  have hlt := World.ownsRow.lt h.own
  have hlt6 := World.ownsRow.lt o6
  have hne : v.ownBlock ≠ some lb := fun e => by have := h.tm lb e; rw [h.tp] at this; cases this
  have hgl : g ≠ lb := by
    rcases hat with h1 | h1
    · exact fun e => hne (by rw [h1, e])
    · omega
  have hgw7 : g < w7.heap.size := (World.ownsRow.lt own g rfl).2
  have hold : ∀ k, k < w.heap.size → v.ownBlock ≠ some k → w7.heap[k]? = w.heap[k]? := fun k hk hn => (gr.block k (by omega) (fun e => hn e.symm)).trans (bb.block k hk)
  have hp7 : w7.heap[lb]? = some (.cells #[.pointer pt, .int .i64 first, v] 77 (0, 0)) := (hold lb hlb hne).trans h.cell
  have hset : ∀ k, k ≠ lb → (w7.setCell ⟨lb, 2, none⟩ (.slice (some ⟨g, 0, none⟩) (l.length + 1) cap)).heap[k]? = w7.heap[k]? := fun k hk => Below.heap_setCell _ _ _ _ hk
  have hszs : (w7.setCell ⟨lb, 2, none⟩ (.slice (some ⟨g, 0, none⟩) (l.length + 1) cap)).heap.size = w7.heap.size := by simp [World.setCell]
  have hw7 : w6.heap.size + 1 ≤ w7.heap.size := by have := gr.size; omega
  have hg6 : ∀ k, (Value.slice q6 b.length c6).ownBlock = some k → k ≠ g := fun k hk e => by
    have h6 := hlt6 k hk
    rcases hat with h1 | h1
    · have := (hlt g h1).2; omega
    · omega
  have hsame : ∀ k, lt k ≠ .no → tgL lt (.slice (some ⟨g, 0, none⟩) (l.length + 1) cap) (.slice q6 b.length c6) k = lt k := by
    intro k hk
    have hkl := h.lt_ k hk
    unfold tgL
    split
    · rename_i e
      have e2 : g = k := by simpa [Value.ownBlock] using e
      subst e2
      rcases hat with h1 | h1
      · exact (h.tm g h1).symm
      · omega
    · split
      · rename_i e
        have := (hlt6 k e).1
        omega
      · rfl
  refine ⟨hp7, tgL lt (.slice (some ⟨g, 0, none⟩) (l.length + 1) cap) (.slice q6 b.length c6), ⟨setB hp7 _, ?_, ?_, ?_, ?_, ?_, ?_, ?_⟩, ?_, ?_⟩
  · rw [hsame lb (by rw [h.tp]; exact nofun)]; exact h.tp
  · rw [List.length_append, List.map_append]
    exact ownsKeep own fun g' hg' => hset g' (by have : g = g' := by simpa [Value.ownBlock] using hg'
                                                 rw [← this]; exact hgl)
  · intro g' hg'
    unfold tgL
    rw [if_pos hg']
  · intro r hr
    rcases List.mem_append.1 hr with hr | hr
    · refine (h.fl r hr).keep (fun k hk => ?_) (fun k hk => (hsame k (by rw [hk]; exact nofun)).trans hk)
      have hk1 : v.ownBlock ≠ some k := fun e => by have := h.tm k e; rw [hk] at this; cases this
      have hk2 : k ≠ lb := fun e => by rw [e, h.tp] at hk; cases hk
      exact (hset k hk2).trans (hold k (h.lt_ k (by rw [hk]; exact nofun)) hk1)
    · simp only [List.mem_singleton] at hr
      subst hr
      obtain ⟨hL, hz, _⟩ := own_parts o6
      refine ⟨?_, hz, hb⟩
      rcases hL with h0 | ⟨g', o', rfl, hrow⟩
      · exact .inl h0
      · have h6 := hlt6 g' rfl
        refine .inr ⟨g', o', rfl, hrow.keepAt ?_, ?_⟩
        · rw [hset g' (by omega), gr.block g' (by omega) (fun e => by have := (hlt g' e.symm).2; omega)]
          exact at_below ((Below.refl _ w6).alloc (Nat.le_refl _) _) (Nat.le_refl _) (Array.getElem?_eq_getElem h6.2) |>.trans (Array.getElem?_eq_getElem h6.2).symm
        · unfold tgL
          rw [if_neg (by intro e; exact hg6 g' rfl (by simpa [Value.ownBlock] using e.symm))]
          exact if_pos rfl
  · rw [List.length_append]; simp; omega
  · rw [List.length_append]; simp; omega
  · intro k hk
    rw [hszs]
    unfold tgL at hk
    split at hk
    · rename_i e
      have e2 : g = k := by simpa [Value.ownBlock] using e
      omega
    · split at hk
      · rename_i e
        have := (hlt6 k e).2
        omega
      · have := h.lt_ k hk; omega
  · refine ⟨?_, ?_, ?_, by rw [hszs]; omega, fun k hk hn => ?_⟩
    · exact (gr.os).trans bb.os
    · exact (gr.tape).trans bb.tape
    · exact (gr.output).trans bb.output
    · have hk2 : k ≠ lb := fun e => hn (by rw [e, h.tp]; exact nofun)
      exact (hset k hk2).trans (hold k hk fun e => hn (by rw [h.tm k e]; exact nofun))
  · intro k hk
    unfold tgL at hk
    split at hk
    · rename_i e
      have e2 : g = k := by simpa [Value.ownBlock] using e
      subst e2
      rcases hat with h1 | h1
      · left; rw [h.tm g h1]; exact nofun
      · right; omega
    · split at hk
      · rename_i e
        exact .inr (hlt6 k e).1
      · exact .inl hk
set_option maxHeartbeats 2000000 in
theorem lap_ok {w0 w : World} {pb lb first : Nat} {D : DK} {l : List RC} {tg lt : Nat → Tg} (h : Hid (LJ P w0 w pb lb D (some ⟨pb, 0, none⟩) first l tg lt)) (b : List UInt8) (q : Option Addr) (n c : Nat) (hn : n ≤ 4080) (hb : Hid (b.length = n)) (hz : Hid (q = none → c = 0)) (hL : Hid (LiesOff w tg q b)) (hL2 : Hid (LiesOff w lt q b)) (hl : l.length < 1048576) (hf : first + l.length + 1 < 4611686018427387904) (D' : DK) (hA : Hid (appendD D nmL (Crc.frame b) = (0, D'))) :
    Calls Try.prog 20 #[.pointer (some ⟨lb, 0, none⟩), .slice q n c] w fun e w' => e = .returned (.tuple #[.int .i64 ((first : Int) + l.length), .int .i64 0]) ∧ ∃ tg' lt' a c', LJ P w0 w' pb lb D' (some ⟨pb, 0, none⟩) first (l ++ [⟨b, a, c'⟩]) tg' lt' := by
  obtain ⟨v, hg⟩ := h.out.g
  have H42 : Hid (Calls Try.prog 42 #[.pointer (some ⟨lb, 0, none⟩)] w fun e w' => e = .returned (.bool false) ∧ w' = w) := over_no w lb _ _ _ hg.cell
  have H43 : Hid (Calls Try.prog 43 #[.slice q n c] w fun e w' => ∃ q' c', e = .returned (.tuple #[.slice q' (n + 8 : Nat) c', .int .i64 0]) ∧ Own w' w.heap.size (.slice q' (n + 8 : Nat) c') (Crc.frame b) ∧ Below w.heap.size w w') := by
    have := frame_any b q c w (by rw [hb.out]; omega) hL.out.lies hz.out
    rw [hb.out] at this
    exact this
  clear hg
  have hn1 : (n : Int) ≤ 4080 := by omega
  go_enter Try.func20, Try.ntmps20
  go_wp2_with (go_at_call 42; refine H42.out.mono ?_)
  rintro e w1 ⟨rfl, rfl⟩
  go_wp2_with (go_at_call 43; refine H43.out.mono ?_)
  first | rintro e w2 q2 c2 rfl o2 b2 | rintro e w2 ⟨q2, c2, rfl, o2, b2⟩
  have H2 : Hid (LJ P w0 w2 pb lb D (some ⟨pb, 0, none⟩) first l tg lt) := h.out.keep b2
  have L2 : Hid (LiesOff w2 lt q b) := hL2.out.step (Step.of_below _ b2)
  have K2 : Hid (LiesOff w2 tg q b) := hL.out.step (Step.of_below _ b2)
  have H28 : Hid (Calls Try.prog 28 #[.pointer (some ⟨pb, 0, none⟩), .string ⟨#[108, 111, 103]⟩, .slice q2 (n + 8) c2] w2 fun e w' => e = .returned (.int .i64 0) ∧ ∃ tg', LJ P w0 w' pb lb D' (some ⟨pb, 0, none⟩) first l tg' lt ∧ LiesOff w' lt q b) := by
    obtain ⟨h1, h2, h3⟩ := own_parts o2
    have hoff : LiesOff w2 tg q2 (Crc.frame b) := lo_own o2 fun g hg => no_of fun e => by have := h.out.d.lt e; omega
    have := append_any H2.out.d ⟨⟨nmL⟩⟩ (by decide) q2 (n + 8) c2 (Crc.frame b) (by omega) h3 h2 hoff
    have hA' : appendD D (⟨⟨nmL⟩⟩ : ByteArray).data.toList (Crc.frame b) = (0, D') := hA.out
    rw [hA'] at this
    refine this.mono ?_
    rintro e w' ⟨rfl, tg', d, st⟩
    refine ⟨rfl, tg', H2.out.left d st, ?_⟩
    rcases L2.out with h0 | ⟨g, o, e, hr, hlt, hno⟩
    · exact .inl h0
    · rcases K2.out with h0 | ⟨g', o', e', hr', hlt', hno'⟩
      · exact .inl h0
      · rw [e] at e'
        cases e'
        exact .inr ⟨g, o, e, hr.keepAt (st.1.block g hlt fun k => k hno'), Nat.lt_of_lt_of_le hlt st.1.size, hno⟩
  obtain ⟨v2, hg2⟩ := H2.out.g
  obtain ⟨e0, e1, e2⟩ := k3 hg2.cell
  clear hg2 o2 b2 H43 H42
  go_wp2_with (go_at_call 28; refine H28.out.mono ?_)
  first | rintro e w3 rfl tg3 h3 l3 | rintro e w3 ⟨rfl, tg3, h3, l3⟩
  have H3 : Hid (LJ P w0 w3 pb lb D' (some ⟨pb, 0, none⟩) first l tg3 lt) := h3
  have L3 : Hid (LiesOff w3 lt q b) := l3
  clear h3 l3 H28 e0 e1 e2
  go_wp2_with (go_at_call 44; refine (opr_ok w3 _).mono ?_)
  first | rintro e w4 rfl rfl | rintro e w4 ⟨rfl, rfl⟩
  obtain ⟨v4, hg4⟩ := H3.out.g
  obtain ⟨z1, z2, z3, hv4⟩ : ∃ z1 z2 z3, v4 = .slice z1 z2 z3 := by
    rcases hg4.own.2 with ⟨rfl, _⟩ | ⟨g, cap, cur, rfl, _⟩
    · exact ⟨_, _, _, rfl⟩
    · exact ⟨_, _, _, rfl⟩
  subst hv4
  have hz2 : z2 = l.length := by
    rcases hg4.own.2 with ⟨e, h0⟩ | ⟨g, cap, cur, e, _⟩
    · cases e; exact h0.symm
    · cases e; rfl
  subst hz2
  have H22 : Hid (Calls Try.prog 22 #[.pointer (some ⟨lb, 0, none⟩)] w4 fun e w' => e = .returned (.int .i64 ((first : Int) + l.length)) ∧ Below w4.heap.size w4 w') := next_at w4 lb _ _ _ _ _ (by omega) (by omega) hg4.cell
  have HG4 : Hid (LgAt w4 lt lb (some ⟨pb, 0, none⟩) first (.slice z1 l.length z3) l) := hg4
  clear hg4
  go_wp2_with (go_at_call 22; refine H22.out.mono ?_)
  first | rintro e w5 rfl b5 | rintro e w5 ⟨rfl, b5⟩
  have H5 : Hid (LJ P w0 w5 pb lb D' (some ⟨pb, 0, none⟩) first l tg3 lt) := H3.out.keep b5
  have L5 : Hid (LiesOff w5 lt q b) := L3.out.step (Step.of_below _ b5)
  have HG : Hid (LgAt w5 lt lb (some ⟨pb, 0, none⟩) first (.slice z1 l.length z3) l) := HG4.out.keep (fun k hk => b5.block k (HG4.out.lt_ k hk)) b5.size
  obtain ⟨e0, e1, e2⟩ := k3 HG.out.cell
  clear b5 H22 H3 L3 HG4
  have f2 := fz HG.out.cell 2
  have H45 : Hid (Calls Try.prog 45 #[.slice q n c] w5.drew fun e w' => ∃ q6 c6, e = .returned (.slice q6 n c6) ∧ Own w' w5.heap.size (.slice q6 n c6) b ∧ Below w5.heap.size w5 w') := by
    have := bc_any b q c w5.drew (by rw [hb.out]; omega) (L5.out.lies.keep (Below.refl w5.heap.size w5).drew (Nat.le_refl _)) hz.out
    rw [hb.out] at this
    refine this.mono ?_
    rintro e w' ⟨q6, c6, rfl, o6, b6⟩
    exact ⟨q6, c6, rfl, o6, (Below.refl _ w5).drew.trans b6⟩
  obtain ⟨i0, hi, hz0, hz1, hz2⟩ := info_parts info31
  have HI : Hid (Try.prog.info? 31 = some i0 ∧ i0.zero = some (.slice none 0 0) ∧ i0.size = 1 ∧ i0.bytes = 24) := ⟨hi, hz0, hz1, hz2⟩
  clear hi hz0 hz1 hz2
  have HW : Hid (∀ (q6 : Option Addr) (c6 : Nat) (w6 : World), Own w6 w5.heap.size (.slice q6 n c6) b → Below w5.heap.size w5 w6 → ((w6.alloc (.cells #[.slice q6 n c6] 31)).ownsRow 0 31 1 (.slice z1 l.length z3) l.length (l.map RC.v)) ∧ (∀ j u, [Value.slice q6 n c6][j]? = some u → (w6.alloc (.cells #[.slice q6 n c6] 31)).cell? ((⟨w6.heap.size, 0, none⟩ : Addr).add j) = some u) ∧ (w6.alloc (.cells #[.slice q6 n c6] 31)).heap.size = w6.heap.size + 1 ∧ ∀ g cap w7, w7.ownsRow 0 31 1 (.slice (some ⟨g, 0, none⟩) (l.length + 1) cap) (l.length + 1) (l.map RC.v ++ [.slice q6 n c6]) → (w6.alloc (.cells #[.slice q6 n c6] 31)).grownBy w7 (Value.slice z1 l.length z3).ownBlock → ((Value.slice z1 l.length z3).ownBlock = some g ∨ g = w6.heap.size + 1) → w7.heap[lb]? = some (.cells #[.pointer (some ⟨pb, 0, none⟩), .int .i64 first, .slice z1 l.length z3] 77 (0, 0)) ∧ ∃ lt', LgAt (w7.setCell ⟨lb, 2, none⟩ (.slice (some ⟨g, 0, none⟩) (l.length + 1) cap)) lt' lb (some ⟨pb, 0, none⟩) first (.slice (some ⟨g, 0, none⟩) (l.length + 1) cap) (l ++ [⟨b, q6, c6⟩]) ∧ Step lt lt' w5 (w7.setCell ⟨lb, 2, none⟩ (.slice (some ⟨g, 0, none⟩) (l.length + 1) cap))) := by
    intro q6 c6 w6 o6 b6
    refine ⟨ownsKeep HG.out.own fun g hg => ?_, World.news_of_block (cs := #[.slice q6 n c6]) (t := 31) (fr := (0, 0)) new0, by simp, fun g cap w7 a1 a2 a3 => ?_⟩
    · exact (b6.alloc b6.size _).block g (World.ownsRow.lt HG.out.own g hg).2
    · have hbn := hb.out
      subst hbn
      exact apW HG.out hl hf hn o6 b6 a1 a2 a3
  go_wp2_with fail
  go_region_law (first | (go_simp; go_at_call 45; refine H45.out.mono ?_; rintro e w6 ⟨q6, c6, rfl, o6, b6⟩; have O6 : Hid (Own w6 w5.heap.size (.slice q6 n c6) b ∧ Below w5.heap.size w5 w6) := ⟨o6, b6⟩; have hc6 := at_below b6 (Nat.le_refl _) HG.out.cell; obtain ⟨y0, y1, y2⟩ := k3 hc6; have hlb6 : lb < w6.heap.size := block_lt_of_cell y2; clear o6 b6 hc6) | (refine step_append_lies _ rfl (.tmp 37) (.tmp 40) 38 rfl 0 31 i0 _ 1 24 Try.underlying38 HI.out.1 HI.out.2.1 HI.out.2.2.1 HI.out.2.2.2 rfl (by decide) (.slice z1 l.length z3) l.length (l.map RC.v) (by simp [Act.eval]) (HW.out q6 c6 w6 O6.out.1 O6.out.2).1 ⟨w6.heap.size, 0, none⟩ 1 1 [.slice q6 n c6] (by simp [Act.eval]) rfl (HW.out q6 c6 w6 O6.out.1 O6.out.2).2.1 (fun u hu => by simp at hu; subst hu; rfl) (by decide) (by unfold maxLen; omega) (by omega) (Nat.zero_le _) _ (HW.out q6 c6 w6 O6.out.1 O6.out.2).2.2.1 ?_; intro g cap w7 hown hgrow hat hlt; obtain ⟨hw7, hpw⟩ := (HW.out q6 c6 w6 O6.out.1 O6.out.2).2.2.2 g cap w7 hown hgrow hat; clear hown hgrow hat hlt; obtain ⟨d0, d1, d2⟩ := k3 hw7; have df := fz hw7 2; have HP : Hid (∃ lt', LgAt (w7.setCell ⟨lb, 2, none⟩ (.slice (some ⟨g, 0, none⟩) (l.length + 1) cap)) lt' lb (some ⟨pb, 0, none⟩) first (.slice (some ⟨g, 0, none⟩) (l.length + 1) cap) (l ++ [⟨b, q6, c6⟩]) ∧ Step lt lt' w5 (w7.setCell ⟨lb, 2, none⟩ (.slice (some ⟨g, 0, none⟩) (l.length + 1) cap))) := hpw; clear hpw hw7))
  all_goals go_wp2_with fail
  all_goals go_ret2
  all_goals
    obtain ⟨lt', hg', st'⟩ := HP.out
    exact ⟨rfl, tg3, lt', q6, c6, H5.out.right hg' st'⟩
end Go.Proofs.Ytplcpjngpkghmaa
