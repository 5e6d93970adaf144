/-
  The document's disk: Append.
-/
import Derived.Test.YtnohidalomjfmaaRg
namespace Go.Proofs.Ytnohidalomjfmaa
open Go.RowKit Go.Maps

set_option maxHeartbeats 400000 in
theorem rap_down (w : World) (pb : Nat) (a b u : Value) (s : List UInt8) (h : Hid (w.heap[pb]? = some (.cells #[a, b, .bool true] 35 (0, 0)))) :
    Calls Try.prog 24 #[.pointer (some ⟨pb, 0, none⟩), .string ⟨⟨s⟩⟩, u] w fun e w' => e = .returned (.int .i64 11) ∧ w' = w := by
  obtain ⟨e0, e1, e2⟩ := c3 h.out
  go_enter Try.func24, Try.ntmps24
  go_wp2_with fail
  go_ret
  exact ⟨rfl, rfl⟩
theorem H46_of (t : List UInt8) (w : World) (b : Bool) (h : okN t = b) : Calls Try.prog 46 #[.string ⟨⟨t⟩⟩] w fun e w' => e = .returned (.bool b) ∧ w' = w := by
  have := named_any ⟨⟨t⟩⟩ w
  rw [h] at this
  exact this
set_option maxHeartbeats 400000 in
theorem rap_form (w : World) (pb : Nat) (a b u : Value) (s : List UInt8) (ho : Hid (okN s = false)) (h : Hid (w.heap[pb]? = some (.cells #[a, b, .bool false] 35 (0, 0)))) :
    Calls Try.prog 24 #[.pointer (some ⟨pb, 0, none⟩), .string ⟨⟨s⟩⟩, u] w fun e w' => e = .returned (.int .i64 4) ∧ w' = w := by
  obtain ⟨e0, e1, e2⟩ := c3 h.out
  have H46 : Hid (Calls Try.prog 46 #[.string ⟨⟨s⟩⟩] w fun e w' => e = .returned (.bool false) ∧ w' = w) := H46_of s w _ ho.out
  go_enter Try.func24, Try.ntmps24
  go_wp2_with (go_at_call 46; refine H46.out.mono ?_)
  rintro e w1 ⟨rfl, rfl⟩
  go_wp2_with fail
  go_ret
  exact ⟨rfl, rfl⟩
set_option maxHeartbeats 400000 in
theorem rap_full (w : World) (pb : Nat) (q : Option Addr) (n c : Nat) (b u : Value) (s : List UInt8) (hn : 64 ≤ n) (ho : Hid (okN s = true)) (h : Hid (w.heap[pb]? = some (.cells #[.slice q n c, b, .bool false] 35 (0, 0))))
    (H : Hid (Calls Try.prog 47 #[.pointer (some ⟨pb, 0, none⟩), .string ⟨⟨s⟩⟩] w fun e w' => e = .returned (.int .i64 (-1)) ∧ w' = w)) :
    Calls Try.prog 24 #[.pointer (some ⟨pb, 0, none⟩), .string ⟨⟨s⟩⟩, u] w fun e w' => e = .returned (.int .i64 6) ∧ w' = w := by
  obtain ⟨e0, e1, e2⟩ := c3 h.out
  have H46 : Hid (Calls Try.prog 46 #[.string ⟨⟨s⟩⟩] w fun e w' => e = .returned (.bool true) ∧ w' = w) := H46_of s w _ ho.out
  have hi : (64 : Int) ≤ (n : Int) := by omega
  go_enter Try.func24, Try.ntmps24
  go_wp2_with (first | (go_at_call 46; refine H46.out.mono ?_; rintro e w1 ⟨rfl, rfl⟩) | (go_at_call 47; refine H.out.mono ?_; rintro e w1 ⟨rfl, rfl⟩))
  go_ret
  exact ⟨rfl, rfl⟩
set_option maxHeartbeats 400000 in
theorem rap_long0 (w : World) (pb : Nat) (q q2 : Option Addr) (n c m d : Nat) (b : Value) (s : List UInt8) (hn : n < 64) (hm : 1048576 < m) (hm2 : m < 1152921504606846976) (ho : Hid (okN s = true)) (h : Hid (w.heap[pb]? = some (.cells #[.slice q n c, b, .bool false] 35 (0, 0))))
    (H : Hid (Calls Try.prog 47 #[.pointer (some ⟨pb, 0, none⟩), .string ⟨⟨s⟩⟩] w fun e w' => e = .returned (.int .i64 (-1)) ∧ w' = w)) :
    Calls Try.prog 24 #[.pointer (some ⟨pb, 0, none⟩), .string ⟨⟨s⟩⟩, .slice q2 m d] w fun e w' => e = .returned (.int .i64 1) ∧ w' = w := by
  obtain ⟨e0, e1, e2⟩ := c3 h.out
  have H46 : Hid (Calls Try.prog 46 #[.string ⟨⟨s⟩⟩] w fun e w' => e = .returned (.bool true) ∧ w' = w) := H46_of s w _ ho.out
  have hi : (n : Int) < 64 := by omega
  have hi2 : (1048576 : Int) < (m : Int) := by omega
  go_enter Try.func24, Try.ntmps24
  go_wp2_with (first | (go_at_call 46; refine H46.out.mono ?_; rintro e w1 ⟨rfl, rfl⟩) | (go_at_call 47; refine H.out.mono ?_; rintro e w1 ⟨rfl, rfl⟩))
  go_ret
  exact ⟨rfl, rfl⟩
set_option maxHeartbeats 400000 in
theorem rap_long1 (w : World) (pb k g : Nat) (q2 q3 : Option Addr) (n c m d m1 d1 : Nat) (b : Value) (s : List UInt8) (hk : k < n) (hm : 1048576 < m1 + m) (hm1 : m1 ≤ 1048576) (hm2 : m < 1152921504606846976) (ho : Hid (okN s = true)) (h : Hid (w.heap[pb]? = some (.cells #[.slice (some ⟨g, 0, none⟩) n c, b, .bool false] 35 (0, 0)))) (h2 : w.cell? ⟨g, k * 3 + 1, none⟩ = some (.slice q3 m1 d1))
    (H : Hid (Calls Try.prog 47 #[.pointer (some ⟨pb, 0, none⟩), .string ⟨⟨s⟩⟩] w fun e w' => e = .returned (.int .i64 k) ∧ w' = w)) :
    Calls Try.prog 24 #[.pointer (some ⟨pb, 0, none⟩), .string ⟨⟨s⟩⟩, .slice q2 m d] w fun e w' => e = .returned (.int .i64 1) ∧ w' = w := by
  obtain ⟨e0, e1, e2⟩ := c3 h.out
  have H46 : Hid (Calls Try.prog 46 #[.string ⟨⟨s⟩⟩] w fun e w' => e = .returned (.bool true) ∧ w' = w) := H46_of s w _ ho.out
  have hk0 : 0 ≤ (k : Int) := by omega
  have hk1 : (k : Int) < (n : Int) := by omega
  have hi2 : (1048576 : Int) < (m1 : Int) + (m : Int) := by omega
  go_enter Try.func24, Try.ntmps24
  go_wp2_with (first | (go_at_call 46; refine H46.out.mono ?_; rintro e w1 ⟨rfl, rfl⟩) | (go_at_call 47; refine H.out.mono ?_; rintro e w1 ⟨rfl, rfl⟩))
  go_ret
  exact ⟨rfl, rfl⟩
set_option maxHeartbeats 400000 in
theorem rap_lost0 (w : World) (pb : Nat) (R : World → Prop) (q q2 : Option Addr) (n c m d : Nat) (b : Value) (s : List UInt8) (hn : n < 64) (hm : m ≤ 1048576) (ho : Hid (okN s = true)) (h : Hid (w.heap[pb]? = some (.cells #[.slice q n c, b, .bool false] 35 (0, 0))))
    (H : Hid (Calls Try.prog 47 #[.pointer (some ⟨pb, 0, none⟩), .string ⟨⟨s⟩⟩] w fun e w' => e = .returned (.int .i64 (-1)) ∧ w' = w)) (H2 : Hid (Calls Try.prog 48 #[.pointer (some ⟨pb, 0, none⟩)] w fun e w' => e = .returned (.bool false) ∧ R w')) :
    Calls Try.prog 24 #[.pointer (some ⟨pb, 0, none⟩), .string ⟨⟨s⟩⟩, .slice q2 m d] w fun e w' => e = .returned (.int .i64 11) ∧ R w' := by
  obtain ⟨e0, e1, e2⟩ := c3 h.out
  have H46 : Hid (Calls Try.prog 46 #[.string ⟨⟨s⟩⟩] w fun e w' => e = .returned (.bool true) ∧ w' = w) := H46_of s w _ ho.out
  have hi : (n : Int) < 64 := by omega
  have hi2 : (m : Int) ≤ 1048576 := by omega
  go_enter Try.func24, Try.ntmps24
  go_wp2_with (first | (go_at_call 46; refine H46.out.mono ?_; rintro e w1 ⟨rfl, rfl⟩) | (go_at_call 47; refine H.out.mono ?_; rintro e w1 ⟨rfl, rfl⟩) | (go_at_call 48; refine H2.out.mono ?_))
  first | rintro e w2 rfl hR | rintro e w2 ⟨rfl, hR⟩
  go_wp2_with fail
  go_ret
  exact ⟨rfl, hR⟩
set_option maxHeartbeats 400000 in
theorem rap_lost1 (w : World) (pb k g : Nat) (R : World → Prop) (q2 q3 : Option Addr) (n c m d m1 d1 : Nat) (b : Value) (s : List UInt8) (hk : k < n) (hm : m1 + m ≤ 1048576) (ho : Hid (okN s = true)) (h : Hid (w.heap[pb]? = some (.cells #[.slice (some ⟨g, 0, none⟩) n c, b, .bool false] 35 (0, 0)))) (h2 : w.cell? ⟨g, k * 3 + 1, none⟩ = some (.slice q3 m1 d1))
    (H : Hid (Calls Try.prog 47 #[.pointer (some ⟨pb, 0, none⟩), .string ⟨⟨s⟩⟩] w fun e w' => e = .returned (.int .i64 k) ∧ w' = w)) (H2 : Hid (Calls Try.prog 48 #[.pointer (some ⟨pb, 0, none⟩)] w fun e w' => e = .returned (.bool false) ∧ R w')) :
    Calls Try.prog 24 #[.pointer (some ⟨pb, 0, none⟩), .string ⟨⟨s⟩⟩, .slice q2 m d] w fun e w' => e = .returned (.int .i64 11) ∧ R w' := by
  obtain ⟨e0, e1, e2⟩ := c3 h.out
  have H46 : Hid (Calls Try.prog 46 #[.string ⟨⟨s⟩⟩] w fun e w' => e = .returned (.bool true) ∧ w' = w) := H46_of s w _ ho.out
  have hk0 : 0 ≤ (k : Int) := by omega
  have hk1 : (k : Int) < (n : Int) := by omega
  have hi2 : (m1 : Int) + (m : Int) ≤ 1048576 := by omega
  go_enter Try.func24, Try.ntmps24
  go_wp2_with (first | (go_at_call 46; refine H46.out.mono ?_; rintro e w1 ⟨rfl, rfl⟩) | (go_at_call 47; refine H.out.mono ?_; rintro e w1 ⟨rfl, rfl⟩) | (go_at_call 48; refine H2.out.mono ?_))
  first | rintro e w2 rfl hR | rintro e w2 ⟨rfl, hR⟩
  go_wp2_with fail
  go_ret
  exact ⟨rfl, hR⟩

/-- behind the two appends and the store of the slice -/
def tgB (tg : Nat → Tg) (v : Value) : Nat → Tg := fun j => if v.ownBlock = some j then .rw [] else tg j
theorem Own.cap {w : World} {B : Nat} {q : Option Addr} {k c : Nat} {l : List UInt8} (h : Own w B (.slice q k c) l) : l.length ≤ c ∧ c ≤ 9223372036854775807 := by
  rcases h.2 with ⟨e, h0⟩ | ⟨g, cap, cur, e, _, _, h1, h2, _⟩
  · cases e; rw [h0]; exact ⟨Nat.le_refl _, by omega⟩
  · cases e; unfold maxLen at h2; exact ⟨h1, by omega⟩
theorem RAt.rebyte {w w2 : World} {tg : Nat → Tg} {pb : Nat} {D : DK} {g n c : Nat} {l : List RF} {z : Int} {k : Nat} {f : RF} {b : List UInt8} {q : Option Addr} {kk cc : Nat} (h : RAt w tg pb D (.slice (some ⟨g, 0, none⟩) n c) l z) (hf : l[k]? = some f)
    (ho : Own w2 w.heap.size (.slice q kk cc) b) (hb : Below w.heap.size w w2) (hs : f.sy ≤ b.length) (hl : b.length ≤ 1048576) :
    RAt (w2.setCell ⟨g, k * 3 + 1, none⟩ (.slice q kk cc)) (tgB tg (.slice q kk cc)) pb ⟨upd Fil.nm f.nm ⟨f.nm, b, f.sy⟩ D.fs, D.down, D.fuse⟩ (.slice (some ⟨g, 0, none⟩) n c) (l.set k ⟨f.nm, b, f.sy, q, cc⟩) z ∧ Step tg (tgB tg (.slice q kk cc)) w (w2.setCell ⟨g, k * 3 + 1, none⟩ (.slice q kk cc)) := by
  obtain ⟨hL, hq, rfl⟩ := own_parts ho
  obtain ⟨hc1, hc2⟩ := ho.cap
  have hlt := World.ownsRow.lt ho
  have hg : g < w.heap.size := h.lt g (by rw [h.tm g rfl]; exact nofun)
  have h2 := h.keepB hb
  have ho1 := owns_set h2.own (g := g) rfl (k * 3 + 1) (.slice q b.length cc)
  rw [show Value.slice q b.length cc = RF.v ⟨f.nm, b, f.sy, q, cc⟩ from rfl, ← flat_set1 (f := f) (f' := ⟨f.nm, b, f.sy, q, cc⟩) rfl rfl hf] at ho1
  have hk : Kp (fun j => tg j = .mp) w (w2.setCell ⟨g, k * 3 + 1, none⟩ (.slice q b.length cc)) := (Kp.of_below (S := fun j => tg j = .mp) hb).trans (Kp.of_set (S := fun j => tg j = .mp) _ ⟨g, k * 3 + 1, none⟩ (.slice q b.length cc) (h.tm g rfl)) fun _ _ e => e
  refine h.recell (f' := ⟨f.nm, b, f.sy, q, cc⟩) hf rfl ho1 hk ?_ ?_ ?_
  · intro j hj
    unfold tgB
    split
    · rename_i e
      have := (hlt j e).1
      have := h.lt j hj
      omega
    · rfl
  · intro j hj
    unfold tgB at hj
    split at hj
    · rename_i e
      right
      have h1 := hlt j e
      exact ⟨h1.1, by simpa [World.setCell] using h1.2⟩
    · exact .inl hj
  · refine ⟨?_, hq, hs, hl, hc1, hc2⟩
    rcases hL with h0 | ⟨g', o', rfl, hr⟩
    · exact .inl h0
    · have h1 := (hlt g' rfl).1
      refine .inr ⟨g', o', rfl, hr.keepAt (Below.heap_setCell _ _ _ _ (by simp only [ne_eq]; omega)), ?_⟩
      exact if_pos rfl

set_option maxHeartbeats 1000000 in
theorem rap_ok1 {tg : Nat → Tg} {D2 : DK} {l : List RF} (f : RF) (w : World) (pb k g : Nat) (q2 : Option Addr) (n c m d : Nat) (mb : List UInt8) (b : Value) (s : List UInt8) (hk : k < n) (hm : f.b.length + m ≤ 1048576) (ho : Hid (okN s = true)) (h : Hid (w.heap[pb]? = some (.cells #[.slice (some ⟨g, 0, none⟩) n c, b, .bool false] 35 (0, 0)))) (h2 : w.cell? ⟨g, k * 3 + 1, none⟩ = some (.slice f.a f.b.length f.c))
    (H : Hid (Calls Try.prog 47 #[.pointer (some ⟨pb, 0, none⟩), .string ⟨⟨s⟩⟩] w fun e w' => e = .returned (.int .i64 k) ∧ w' = w)) (H2 : Hid (Calls Try.prog 48 #[.pointer (some ⟨pb, 0, none⟩)] w fun e w' => e = .returned (.bool true) ∧ (∃ z, RAt w' tg pb D2 (.slice (some ⟨g, 0, none⟩) n c) l z) ∧ Step tg tg w w'))
    (hf : Hid (l[k]? = some f)) (hml : Hid (mb.length = m)) (hq : Hid (q2 = none → d = 0)) (hL : Hid (LiesOff w tg q2 mb)) :
    Calls Try.prog 24 #[.pointer (some ⟨pb, 0, none⟩), .string ⟨⟨s⟩⟩, .slice q2 m d] w fun e w' => e = .returned (.int .i64 0) ∧ ∃ tg', Ref w' tg' pb ⟨upd Fil.nm f.nm ⟨f.nm, f.b ++ mb, f.sy⟩ D2.fs, D2.down, D2.fuse⟩ ∧ Step tg tg' w w' := by
  obtain ⟨e0, e1, e2⟩ := c3 h.out
  have H46 : Hid (Calls Try.prog 46 #[.string ⟨⟨s⟩⟩] w fun e w' => e = .returned (.bool true) ∧ w' = w) := H46_of s w _ ho.out
  have hk0 : 0 ≤ (k : Int) := by omega
  have hk1 : (k : Int) < (n : Int) := by omega
  have hi2 : (f.b.length : Int) + (m : Int) ≤ 1048576 := by omega
  go_enter Try.func24, Try.ntmps24
  go_wp2_with (first | (go_at_call 46; refine H46.out.mono ?_; rintro e w1 ⟨rfl, rfl⟩) | (go_at_call 47; refine H.out.mono ?_; rintro e w1 ⟨rfl, rfl⟩) | (go_at_call 48; refine H2.out.mono ?_))
  first | rintro e w2 rfl z r2 st2 | rintro e w2 ⟨rfl, ⟨z, r2⟩, st2⟩
  have A2 : Hid (RAt w2 tg pb D2 (.slice (some ⟨g, 0, none⟩) n c) l z) := r2
  have S2 : Hid (Step tg tg w1 w2) := st2
  have F2 : Hid (RFAt w2 tg f) := r2.fl f (List.mem_of_getElem? hf.out)
  have L2 : Hid (Lies w2 q2 mb) := (hL.out.step st2).lies
  obtain ⟨d0, d1, d2⟩ := c3 r2.cell
  obtain ⟨g', c', e', _, _, _, k1, k2, k4, _⟩ := r2.cells hf.out
  cases e'
  unfold RF.v at k1
  clear r2 st2 e0 e1 e2 h2 h H H2 H46 k4
  go_wp2_with (at_builtin; refine append_bytes rfl _ _ rfl w2.heap.size _ [] f.b rfl (Own.nil _ _) f.a f.c f.b.length rfl rfl F2.out.hz F2.out.lies ?_ (Nat.le_refl _) ?_)
  · simp only [List.length_nil]; omega
  intro v3 w3 o3 b3
  obtain ⟨q3, c3', rfl, -⟩ := o3.shape
  have O3 : Hid (Own w3 w2.heap.size (.slice q3 f.b.length c3') f.b) := o3
  have B3 : Hid (Below w2.heap.size w2 w3) := b3
  clear o3 b3
  go_wp2_with (at_builtin; refine append_bytes rfl _ _ rfl w2.heap.size _ f.b mb rfl O3.out q2 d m rfl hml.out hq.out (L2.out.keep B3.out (Nat.le_refl _)) ?_ B3.out.size ?_)
  · have := hml.out
    omega
  intro v4 w4 o4 b4
  obtain ⟨q4, c4', rfl, -⟩ := o4.shape
  have O4 : Hid (Own w4 w2.heap.size (.slice q4 (f.b ++ mb).length c4') (f.b ++ mb)) := o4
  have B4 : Hid (Below w2.heap.size w2 w4) := B3.out.trans b4
  obtain ⟨m0, m1, m2⟩ := c3 (A2.out.keepB B4.out).cell
  obtain ⟨g', c', e', _, _, _, j1, j2, j4, _⟩ := (A2.out.keepB B4.out).cells hf.out
  cases e'
  have ff := j4 (k * 3 + 1)
  unfold RF.v at j1
  clear o4 b4 d0 d1 d2 k1 k2 j4
  go_wp2_with fail
  go_ret
  obtain ⟨r, st⟩ := A2.out.rebyte hf.out O4.out B4.out (by rw [List.length_append]; have := F2.out.hs; omega) (by rw [List.length_append]; have := hml.out; omega)
  rw [List.length_append] at r st
  exact ⟨rfl, _, ⟨_, _, z, r⟩, S2.out.trans st⟩

set_option maxHeartbeats 1000000 in
theorem rap_ok0 {tg : Nat → Tg} {D2 : DK} {l : List RF} (w : World) (pb : Nat) (q q2 : Option Addr) (n c m d : Nat) (mb : List UInt8) (b : Value) (s : List UInt8) (hn : n < 64) (hm : m ≤ 1048576) (ho : Hid (okN s = true)) (h : Hid (w.heap[pb]? = some (.cells #[.slice q n c, b, .bool false] 35 (0, 0))))
    (H : Hid (Calls Try.prog 47 #[.pointer (some ⟨pb, 0, none⟩), .string ⟨⟨s⟩⟩] w fun e w' => e = .returned (.int .i64 (-1)) ∧ w' = w)) (H2 : Hid (Calls Try.prog 48 #[.pointer (some ⟨pb, 0, none⟩)] w fun e w' => e = .returned (.bool true) ∧ (∃ z, RAt w' tg pb D2 (.slice q n c) l z) ∧ Step tg tg w w'))
    (hl : Hid (l.length = n)) (hfn : Hid (fnd RF.nm s l = none)) (hml : Hid (mb.length = m)) (hq : Hid (q2 = none → d = 0)) (hL : Hid (LiesOff w tg q2 mb)) :
    Calls Try.prog 24 #[.pointer (some ⟨pb, 0, none⟩), .string ⟨⟨s⟩⟩, .slice q2 m d] w fun e w' => e = .returned (.int .i64 0) ∧ ∃ tg', Ref w' tg' pb ⟨ins Fil.nm ⟨s, mb, 0⟩ D2.fs, D2.down, D2.fuse⟩ ∧ Step tg tg' w w' := by
  obtain ⟨e0, e1, e2⟩ := c3 h.out
  have H46 : Hid (Calls Try.prog 46 #[.string ⟨⟨s⟩⟩] w fun e w' => e = .returned (.bool true) ∧ w' = w) := H46_of s w _ ho.out
  have hi : (n : Int) < 64 := by omega
  have hi2 : (m : Int) ≤ 1048576 := by omega
  go_enter Try.func24, Try.ntmps24
  go_wp2_with (first | (go_at_call 46; refine H46.out.mono ?_; rintro e w1 ⟨rfl, rfl⟩) | (go_at_call 47; refine H.out.mono ?_; rintro e w1 ⟨rfl, rfl⟩) | (go_at_call 48; refine H2.out.mono ?_))
  first | rintro e w2 rfl z r2 st2 | rintro e w2 ⟨rfl, ⟨z, r2⟩, st2⟩
  have H49 : Hid (Calls Try.prog 49 #[.pointer (some ⟨pb, 0, none⟩), .agg #[.string ⟨⟨s⟩⟩, .slice none 0 0, .int .i64 0]] w2 fun e w' => e = .returned (.tuple #[]) ∧ ∃ tg' v', RAt w' tg' pb ⟨ins Fil.nm ⟨s, [], 0⟩ D2.fs, D2.down, D2.fuse⟩ v' (ins RF.nm ⟨s, [], 0, none, 0⟩ l) z ∧ Step tg tg' w1 w') := by
    refine (rput_any r2 ⟨s, [], 0, none, 0⟩ ⟨.inl rfl, fun _ => rfl, Nat.le_refl _, Nat.zero_le _, Nat.le_refl _, Nat.zero_le _⟩ hfn.out (by rw [hl.out]; exact hn)).mono ?_
    rintro e w' ⟨rfl, tg', v', a1, a2⟩
    exact ⟨rfl, tg', v', a1, st2.trans a2⟩
  have FS : Hid (D2.fs = l.map RF.s) := r2.fs
  clear r2 st2 e0 e1 e2 h H H2 H46
  go_wp2_with (go_at_call 49; refine H49.out.mono ?_)
  first | rintro e w3 rfl tg3 v3 r3 st3 | rintro e w3 ⟨rfl, tg3, v3, r3, st3⟩
  obtain ⟨k, f, hp, hf, hff⟩ : ∃ k f, pos s (ins RF.nm ⟨s, [], 0, none, 0⟩ l) = some k ∧ (ins RF.nm ⟨s, [], 0, none, 0⟩ l)[k]? = some f ∧ f = ⟨s, [], 0, none, 0⟩ := by
    rcases pos_fnd s (ins RF.nm ⟨s, [], 0, none, 0⟩ l) with ⟨h1, h2⟩ | ⟨k, f, h1, h2, h3⟩
    · exact absurd rfl (fnd_none h2 ⟨s, [], 0, none, 0⟩ (mem_ins.2 (.inl rfl)))
    · refine ⟨k, f, h1, h2, ?_⟩
      obtain ⟨h4, h5⟩ := fnd_some h3
      exact srt_one r3.srt h4 (mem_ins.2 (.inl rfl)) h5
  subst hff
  have H47 : Hid (Calls Try.prog 47 #[.pointer (some ⟨pb, 0, none⟩), .string ⟨⟨s⟩⟩] w3 fun e w' => e = .returned (.int .i64 k) ∧ w' = w3) := by
    have := rfind_any r3 s
    rw [hp] at this
    exact this
  have hkl := pos_lt hf
  obtain ⟨g, c', rfl, _, _, _, k1, k2, k4, _⟩ := r3.cells hf
  have A3 : Hid (RAt w3 tg3 pb ⟨ins Fil.nm ⟨s, [], 0⟩ D2.fs, D2.down, D2.fuse⟩ (.slice (some ⟨g, 0, none⟩) (ins RF.nm ⟨s, [], 0, none, 0⟩ l).length c') (ins RF.nm ⟨s, [], 0, none, 0⟩ l) z) := r3
  have S3 : Hid (Step tg tg3 w1 w3) := st3
  have HF : Hid ((ins RF.nm ⟨s, [], 0, none, 0⟩ l)[k]? = some ⟨s, [], 0, none, 0⟩) := hf
  have L3 : Hid (Lies w3 q2 mb) := (hL.out.step st3).lies
  have NN : Hid (∀ y ∈ l, RF.nm y ≠ s) := fnd_none hfn.out
  obtain ⟨d0, d1, d2⟩ := c3 r3.cell
  generalize hN : (ins RF.nm ⟨s, [], 0, none, 0⟩ l).length = N at *
  have hk1 : (k : Int) < (N : Int) := by omega
  unfold RF.v at k1
  simp only [List.length_nil] at k1
  clear r3 st3 hp hf k4 H49
  go_wp2_with (go_at_call 47; refine H47.out.mono ?_)
  rintro e w4 ⟨rfl, rfl⟩
  go_wp2_with (at_builtin; first | (refine append_bytes rfl _ _ rfl w4.heap.size _ [] mb rfl (Own.nil _ _) q2 d m rfl hml.out hq.out L3.out ?_ (Nat.le_refl _) ?_) | fail)
  · have := hml.out
    simp only [List.length_nil]
    omega
  intro v5 w5 o5 b5
  obtain ⟨q5, c5, rfl, -⟩ := o5.shape
  have O5 : Hid (Own w5 w4.heap.size (.slice q5 mb.length c5) mb) := o5
  have B5 : Hid (Below w4.heap.size w4 w5) := b5
  obtain ⟨m0, m1, m2⟩ := c3 (A3.out.keepB B5.out).cell
  obtain ⟨g', c', e', _, _, _, j1, j2, j4, _⟩ := (A3.out.keepB B5.out).cells HF.out
  cases e'
  have ff := j4 (k * 3 + 1)
  unfold RF.v at j1
  clear o5 b5 d0 d1 d2 k1 k2 j4
  go_wp2_with fail
  go_ret
  obtain ⟨r, st⟩ := A3.out.rebyte HF.out O5.out B5.out (Nat.zero_le _) (by have := hml.out; omega)
  have e1 : upd Fil.nm s ⟨s, mb, 0⟩ (ins Fil.nm ⟨s, [], 0⟩ D2.fs) = ins Fil.nm ⟨s, mb, 0⟩ D2.fs := by
    refine upd_ins (nm := Fil.nm) (n := s) (x := ⟨s, [], 0⟩) (x' := ⟨s, mb, 0⟩) rfl rfl fun y hy => ?_
    rw [FS.out] at hy
    obtain ⟨x, hx, rfl⟩ := List.mem_map.1 hy
    exact NN.out x hx
  simp only [e1] at r
  exact ⟨rfl, _, ⟨_, _, z, r⟩, S3.out.trans st⟩

theorem rappend_any {w : World} {tg : Nat → Tg} {pb : Nat} {D : DK} (h : Ref w tg pb D) (s : List UInt8) (q : Option Addr) (n c : Nat) (m : List UInt8) (hn : n < 1152921504606846976) (hm : m.length = n) (hq : q = none → c = 0) (hL : LiesOff w tg q m) :
    Calls Try.prog 24 #[.pointer (some ⟨pb, 0, none⟩), .string ⟨⟨s⟩⟩, .slice q n c] w fun e w' => e = .returned (.int .i64 (appendD D s m).1) ∧ ∃ tg', Ref w' tg' pb (appendD D s m).2 ∧ Step tg tg' w w' := by
  obtain ⟨v, l, z, h⟩ := h
  have hc := h.cell
  have H := rfind_any h s
  have hlen : D.fs.length = l.length := by rw [h.fs, List.length_map]
  unfold appendD
  cases hd : D.down with
  | true =>
    rw [hd] at hc
    refine (rap_down w pb _ _ _ s hc).mono ?_
    rintro e w' ⟨rfl, rfl⟩
    exact ⟨rfl, tg, ⟨v, l, z, h⟩, Step.refl _ _⟩
  | false =>
    rw [hd] at hc
    rw [if_neg (by simp)]
    cases ho : okN s with
    | false =>
      rw [if_pos rfl]
      refine (rap_form w pb _ _ _ s ho hc).mono ?_
      rintro e w' ⟨rfl, rfl⟩
      exact ⟨rfl, tg, ⟨v, l, z, h⟩, Step.refl _ _⟩
    | true =>
      rw [if_neg (by simp)]
      have hfm : fnd Fil.nm s D.fs = (fnd RF.nm s l).map RF.s := by rw [h.fs, fnd_map]
      rw [hfm]
      have H2 := done_any h
      rcases pos_fnd s l with ⟨p1, p2⟩ | ⟨k, f, p1, p2, p3⟩
      · rw [p2]
        rw [p1] at H
        simp only [Option.map_none]
        obtain ⟨q', c', rfl⟩ : ∃ q' c', v = .slice q' l.length c' := by
          rcases rowV_own h.own with ⟨rfl, h0⟩ | ⟨g, c, rfl, _⟩
          · exact ⟨none, 0, by rw [h0]⟩
          · exact ⟨_, c, rfl⟩
        by_cases h64 : 64 ≤ D.fs.length
        · rw [if_pos h64]
          refine (rap_full w pb q' l.length c' _ _ s (by omega) ho hc H).mono ?_
          rintro e w' ⟨rfl, rfl⟩
          exact ⟨rfl, tg, ⟨_, l, z, h⟩, Step.refl _ _⟩
        rw [if_neg h64]
        by_cases hbig : 1048576 < m.length
        · rw [if_pos hbig]
          refine (rap_long0 w pb q' q l.length c' n c _ s (by omega) (by omega) hn ho hc H).mono ?_
          rintro e w' ⟨rfl, rfl⟩
          exact ⟨rfl, tg, ⟨_, l, z, h⟩, Step.refl _ _⟩
        rw [if_neg hbig]
        cases hb : (burn D).1 with
        | false =>
          rw [hb] at H2
          rw [if_neg (by simp)]
          refine (rap_lost0 w pb _ q' q l.length c' n c _ s (by omega) (by omega) ho hc H H2).mono ?_
          rintro e w' ⟨rfl, ⟨z', h'⟩, st⟩
          exact ⟨rfl, tg, ⟨_, l, z', h'⟩, st⟩
        | true =>
          rw [hb] at H2
          rw [if_pos rfl]
          have := rap_ok0 (tg := tg) (l := l) w pb q' q l.length c' n c m _ s (by omega) (by omega) ho hc H H2 rfl p2 hm hq hL
          rw [burn_fs] at this
          exact this
      · rw [p3]
        rw [p1] at H
        simp only [Option.map_some]
        obtain ⟨g, c', rfl, _, _, _, c1, _⟩ := h.cells p2
        have hlt := pos_lt p2
        have hF := h.fl f (List.mem_of_getElem? p2)
        have hfs : f.nm = s := (fnd_some p3).2
        by_cases hbig : 1048576 < f.b.length + m.length
        · rw [if_pos (show 1048576 < f.s.b.length + m.length from hbig)]
          refine (rap_long1 w pb k g q f.a l.length c' n c f.b.length f.c _ s hlt (by omega) hF.hl hn ho hc c1 H).mono ?_
          rintro e w' ⟨rfl, rfl⟩
          exact ⟨rfl, tg, ⟨_, l, z, h⟩, Step.refl _ _⟩
        rw [if_neg (show ¬ 1048576 < f.s.b.length + m.length from hbig)]
        cases hb : (burn D).1 with
        | false =>
          rw [hb] at H2
          rw [if_neg (by simp)]
          refine (rap_lost1 w pb k g _ q f.a l.length c' n c f.b.length f.c _ s hlt (by omega) ho hc c1 H H2).mono ?_
          rintro e w' ⟨rfl, ⟨z', h'⟩, st⟩
          exact ⟨rfl, tg, ⟨_, l, z', h'⟩, st⟩
        | true =>
          rw [hb] at H2
          rw [if_pos rfl]
          have := rap_ok1 (tg := tg) (l := l) f w pb k g q l.length c' n c m _ s hlt (by omega) ho hc c1 H H2 p2 hm hq hL
          rw [burn_fs, hfs] at this
          exact this
end Go.Proofs.Ytnohidalomjfmaa
