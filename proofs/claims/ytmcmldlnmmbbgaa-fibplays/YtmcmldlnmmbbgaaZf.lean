/-
  The reference's Insert.
-/
import Derived.Test.YtmcmldlnmmbbgaaZe
import Derived.Deep.OwnRows
import Derived.Deep.RegionLaw
import Derived.Deep.AppendLies
namespace Go.Proofs.Ytmcmldlnmmbbgaa
open Go.RowKit Go.Maps

theorem info81 : (Try.prog.info? 81).map (fun i => (i.zero, i.size, i.bytes)) = some (some (.agg #[.int .u64 0, .int .u64 0, .int .i64 0, .bool false]), 4, 32) := by kernel_rfl
theorem rflat_append (l : List RE) (e : RE) : rflat (l ++ [e]) = rflat l ++ e.cs := by
  unfold rflat
  rw [List.flatMap_append]
  simp
def rk (k : K) : List Value := [.int .u64 k.n, .int .u64 k.d, .int .i64 k.t, .bool true]
section
variable {w w' : World} {rb : Nat} {v : Value} {l : List RE}
theorem Rf.blk (h : Rf w rb v l) : rb < w.heap.size := (Array.getElem?_eq_some_iff.1 h.b).1
theorem Rf.lt (h : Rf w rb v l) {g : Nat} (e : v.ownBlock = some g) : g < w.heap.size := (World.ownsRow.lt h.r g e).2
theorem Rf.own (h : Rf w rb v l) : v.ownBlock ≠ some rb := fun q => by
  rcases h.r.2 with ⟨rfl, _⟩ | ⟨g', cap, cur, rfl, _, hgg, _⟩
  · cases q
  · have e : g' = rb := by simpa [Value.ownBlock] using q
    rw [e, h.b] at hgg
    cases hgg
/-- the row grown and the heap's cell written -/
structure Ri2 (w w' : World) (rb : Nat) (v v' : Value) (l : List RE) (k : K) : Prop where
  r : Rf w' rb v' (l ++ [⟨k, true⟩])
  kp : Kp (fun j => j = rb ∨ v.ownBlock = some j) w w'
  lo : ∀ j, v'.ownBlock = some j → v.ownBlock = some j ∨ w.heap.size ≤ j
end
set_option maxHeartbeats 2000000 in
set_option maxRecDepth 100000 in
theorem rins_raw (w : World) (rb : Nat) (l : List RE) (n : Nat) (q : Option Addr) (c : Nat) (k : K) (hn : n < 1048576) (hkd : k.d ≠ 0) (hl : Hid (l.length = n)) (h : Hid (Rf w rb (.slice q n c) l)) :
    Calls Try.prog 23 #[.pointer (some ⟨rb, 0, none⟩), .agg #[.int .u64 k.n, .int .u64 k.d, .int .i64 k.t]] w fun e w' => e = .returned (.tuple #[.int .i64 n, .int .i64 0]) ∧ ∃ v', Ri2 w w' rb (.slice q n c) v' l k := by
  obtain ⟨i0, hi, hz0, hz1, hz2⟩ := info_parts info81
  have HI : Hid (Try.prog.info? 81 = some i0 ∧ i0.zero = some (.agg #[.int .u64 0, .int .u64 0, .int .i64 0, .bool false]) ∧ i0.size = 4 ∧ i0.bytes = 32) := ⟨hi, hz0, hz1, hz2⟩
  clear hi hz0 hz1 hz2
  have hd : decide ((1048576 : Int) ≤ (n : Int)) = false := decide_eq_false (by omega)
  have HNN : Hid (n < 1048576) := hn
  have H63 : Hid (n + 1 ≤ maxLen ∧ (n + 1) * 32 ≤ 140737488355328) := ⟨by unfold maxLen; omega, by omega⟩
  have hk0 : ((k.d : Int) == 0) = false := by simp; omega
  clear hn hkd
  go_enter Try.func23, Try.ntmps23
  go_upto_region 1 with fail
  have G0 : Hid ((w.alloc (.cells #[.int .u64 k.n, .int .u64 k.d, .int .i64 k.t] 49)).heap[w.heap.size]? = some (.cells #[.int .u64 k.n, .int .u64 k.d, .int .i64 k.t] 49 (0, 0))) := new0
  have B0 : Hid (Below w.heap.size w (w.alloc (.cells #[.int .u64 k.n, .int .u64 k.d, .int .i64 k.t] 49))) := by unfold Hid; go_grown
  generalize w.alloc (.cells #[.int .u64 k.n, .int .u64 k.d, .int .i64 k.t] 49) = W at *
  have R0 : Hid (Rf W rb (.slice q n c) l) := h.out.keep B0.out
  have e0 := c1 R0.out.b
  have f0 := fz R0.out.b 0
  obtain ⟨k0, k1, k2⟩ := c3 G0.out
  have hrb : rb < W.heap.size := R0.out.blk
  have O1 : Hid ((W.alloc (.cells #[.int .u64 k.n, .int .u64 k.d, .int .i64 k.t, .bool true] 81)).drew.ownsRow 0 81 4 (.slice q n c) n (rflat l)) := by
    have := ownsKeep R0.out.r (w1 := (W.alloc (.cells #[.int .u64 k.n, .int .u64 k.d, .int .i64 k.t, .bool true] 81)).drew) fun g hg => Below.heap_alloc W _ g (R0.out.lt hg)
    rw [hl.out] at this
    exact this
  have HN : Hid (∀ j u, (rk k)[j]? = some u → (W.alloc (.cells #[.int .u64 k.n, .int .u64 k.d, .int .i64 k.t, .bool true] 81)).drew.cell? ((⟨W.heap.size, 0, none⟩ : Addr).add j) = some u) :=
    World.news_of_block (cs := #[.int .u64 k.n, .int .u64 k.d, .int .i64 k.t, .bool true]) (t := 81) (fr := (0, 0)) (new0 (w := W))
  have H1 : Hid (∀ u ∈ rk k, u.oneCell' = true) := by
    intro u hu
    simp only [rk, List.mem_cons, List.not_mem_nil, or_false] at hu
    rcases hu with rfl | rfl | rfl | rfl <;> rfl
  have HS : Hid ((W.alloc (.cells #[.int .u64 k.n, .int .u64 k.d, .int .i64 k.t, .bool true] 81)).drew.heap.size = W.heap.size + 1) := by
    refine (?_ : _ = _)
    simp
  have HP : Hid (∀ g cap w4, w4.ownsRow 0 81 4 (.slice (some ⟨g, 0, none⟩) (n + 1) cap) (n + 1) (rflat l ++ rk k) → (W.alloc (.cells #[.int .u64 k.n, .int .u64 k.d, .int .i64 k.t, .bool true] 81)).drew.grownBy w4 (Value.slice q n c).ownBlock → ((Value.slice q n c).ownBlock = some g ∨ g = W.heap.size + 1) → w4.heap[rb]? = some (.cells #[.slice q n c] 30 (0, 0)) ∧ Ri2 w (w4.setCell ⟨rb, 0, none⟩ (.slice (some ⟨g, 0, none⟩) (n + 1) cap)) rb (.slice q n c) (.slice (some ⟨g, 0, none⟩) (n + 1) cap) l k) := fun g cap w4 ho hg hat => by
    have K1 : Kp (fun j => (Value.slice q n c).ownBlock = some j) W w4 := by
      have := Kp.of_grown (S := fun j => (Value.slice q n c).ownBlock = some j) hg fun j e => e
      exact ((Kp.alloc W (.cells #[.int .u64 k.n, .int .u64 k.d, .int .i64 k.t, .bool true] 81)).drew 1).trans this fun _ _ h => h
    have hb4 : w4.heap[rb]? = some (.cells #[.slice q n c] 30 (0, 0)) := (K1.block rb hrb R0.out.own).trans R0.out.b
    have hgr : g ≠ rb := by
      rcases hat with e | e
      · exact fun e' => R0.out.own (by rw [← e']; exact e)
      · omega
    have hln : (l ++ [(⟨k, true⟩ : RE)]).length = n + 1 := by rw [List.length_append, hl.out]; rfl
    refine ⟨hb4, ⟨setB hb4 _, ?_⟩, ?_, fun j q' => ?_⟩
    · rw [hln, rflat_append]
      exact ownsKeep ho fun g' hg' => Below.heap_setCell _ _ _ _ (by have : g = g' := Option.some.inj hg'; rw [← this]; exact hgr)
    · have K0 : Kp (fun j => j = rb ∨ (Value.slice q n c).ownBlock = some j) w W := Kp.of_below B0.out
      exact (K0.trans K1 fun _ _ h => .inr h).trans (Kp.of_set (S := (· = rb)) _ ⟨rb, 0, none⟩ _ rfl) fun _ _ h => .inl h
    · have : g = j := Option.some.inj q'
      rcases hat with e | e
      · exact .inl (by rw [← this]; exact e)
      · right
        have := B0.out.size
        omega
  clear B0 G0 h
  go_upto_region 5 with fail
  go_cut [3] from 16 to 26 (fun s3 wx => ∃ g cap, Hid (Ri2 w wx rb (.slice q n c) (.slice (some ⟨g, 0, none⟩) (n + 1) cap) l k))
  case first =>
    go_region_law (refine step_append_lies _ rfl (.tmp 20) (.tmp 23) 28 rfl 0 81 i0 _ 4 32 Try.underlying28 HI.out.1 HI.out.2.1 HI.out.2.2.1 HI.out.2.2.2 rfl (by decide) (.slice q n c) n (rflat l) (by simp [Act.eval]) O1.out ⟨W.heap.size, 0, none⟩ 1 1 (rk k) (by simp [Act.eval]) rfl HN.out H1.out (by decide) H63.out.1 H63.out.2 (Nat.zero_le _) _ HS.out ?_; intro g cap w4 hown hgrow hat hlt; obtain ⟨hw4, hpw⟩ := HP.out g cap w4 hown hgrow hat; clear hown hgrow hat hlt; have d0 := c1 hw4; have df := fz hw4 0; have HW : Hid (Ri2 w (w4.setCell ⟨rb, 0, none⟩ (.slice (some ⟨g, 0, none⟩) (n + 1) cap)) rb (.slice q n c) (.slice (some ⟨g, 0, none⟩) (n + 1) cap) l k) := hpw; clear hpw hw4)
    all_goals (go_wp2_with fail; go_meet)
    all_goals exact ⟨_, _, HW⟩
  case rest =>
    obtain ⟨g, cap, HW⟩ := hcut
    clear O1 HN H1 HP HS HI e0 f0 k0 k1 k2
    have e1 := c1 HW.out.r.b
    go_wp2_with fail
    go_ret2
    exact ⟨by simp; have := HNN.out; unfold wrap64; omega, _, HW.out⟩
set_option maxHeartbeats 1000000 in
theorem rins_form (w : World) (rb : Nat) (k : K) (hk : k.d = 0) : Calls Try.prog 23 #[.pointer (some ⟨rb, 0, none⟩), .agg #[.int .u64 k.n, .int .u64 k.d, .int .i64 k.t]] w fun e w' => e = .returned (.tuple #[.int .i64 0, .int .i64 4]) ∧ Below w.heap.size w w' := by
  rw [hk]
  go_enter Try.func23, Try.ntmps23
  go_wp2_with fail
  go_ret2
  exact ⟨rfl, by go_grown⟩
end Go.Proofs.Ytmcmldlnmmbbgaa
