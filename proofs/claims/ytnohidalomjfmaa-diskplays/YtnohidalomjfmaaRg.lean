/-
  The document's disk: take, Remove, Rename.
-/
import Derived.Test.YtnohidalomjfmaaRf
namespace Go.Proofs.Ytnohidalomjfmaa
open Go.RowKit Go.Maps

theorem lk_lt {l : List RF} {k : Nat} {f : RF} (h : l[k]? = some f) : k < l.length := (List.getElem?_eq_some_iff.1 h).1
theorem RowV.take {w : World} {g o : Nat} {l : List RF} (h : RowV w g o (flat l)) (k : Nat) : RowV w g o (flat (l.take k)) := fun j u hu => by
  refine h j u ?_
  have : flat l = flat (l.take k) ++ flat (l.drop k) := by rw [← flat_append, List.take_append_drop]
  rw [this, List.getElem?_append_left (List.getElem?_eq_some_iff.1 hu).1]
  exact hu
theorem RowV.drop {w : World} {g o : Nat} {l : List RF} (h : RowV w g o (flat l)) (k : Nat) (hk : k ≤ l.length) : RowV w g (o + k * 3) (flat (l.drop k)) := fun j u hu => by
  rw [Nat.add_assoc]
  refine h (k * 3 + j) u ?_
  have : flat l = flat (l.take k) ++ flat (l.drop k) := by rw [← flat_append, List.take_append_drop]
  rw [this, List.getElem?_append_right (by rw [flat_length, List.length_take]; omega), flat_length, List.length_take, show k * 3 + j - min k l.length * 3 = j by rw [Nat.min_eq_left hk]; omega]
  exact hu

/-- behind take -/
structure TakeR (w : World) (pb : Nat) (x y : Value) (n k : Nat) (l : List RF) (W : World) : Prop where
  ex : ∃ v, W.heap[pb]? = some (.cells #[v, x, y] 35 (0, 0)) ∧ W.ownsRow w.heap.size 73 3 v (n - 1) (flat (l.take k ++ l.drop (k + 1)))
  kp : Kp (· = pb) w W
theorem takeW {w w4 : World} {pb n k : Nat} {l : List RF} {u x y v a b c a0 b0 c0 : Value} (hk : k < n) (o : w4.ownsRow (w.heap.size + 1 + 1) 73 3 v (k + (n - (k + 1))) (flat (l.take k) ++ flat (l.drop (k + 1)))) (bl : Below w.heap.size w w4) (p : w4.heap[pb]? = some (.cells #[u, x, y] 35 (0, 0))) (hp : pb < w.heap.size) (q : w4.heap[w.heap.size]? = some (.cells #[a0, b0, c0] 73 (0, 0))) :
    TakeR w pb x y n k l ((((w4.setCell ⟨pb, 0, none⟩ v).setCell ⟨w.heap.size, 0, none⟩ a).setCell ⟨w.heap.size, 1, none⟩ b).setCell ⟨w.heap.size, 2, none⟩ c) ∧ ((((w4.setCell ⟨pb, 0, none⟩ v).setCell ⟨w.heap.size, 0, none⟩ a).setCell ⟨w.heap.size, 1, none⟩ b).setCell ⟨w.heap.size, 2, none⟩ c).heap[w.heap.size]? = some (.cells #[a, b, c] 73 (0, 0)) := by
  have q1 : (w4.setCell ⟨pb, 0, none⟩ v).heap[w.heap.size]? = some (.cells #[a0, b0, c0] 73 (0, 0)) := (Below.heap_setCell _ _ _ _ (by simp only [ne_eq]; omega)).trans q
  have e : ∀ j, j ≠ w.heap.size → ((((w4.setCell ⟨pb, 0, none⟩ v).setCell ⟨w.heap.size, 0, none⟩ a).setCell ⟨w.heap.size, 1, none⟩ b).setCell ⟨w.heap.size, 2, none⟩ c).heap[j]? = (w4.setCell ⟨pb, 0, none⟩ v).heap[j]? := fun j hj => (Below.heap_setCell _ _ _ _ hj).trans ((Below.heap_setCell _ _ _ _ hj).trans (Below.heap_setCell _ _ _ _ hj))
  refine ⟨⟨⟨v, (e pb (by omega)).trans (setB p v), ?_⟩, ?_⟩, setB (setB (setB q1 a) b) c⟩
  · rw [flat_append, show n - 1 = k + (n - (k + 1)) by omega]
    have o2 : w4.ownsRow w.heap.size 73 3 v (k + (n - (k + 1))) (flat (l.take k) ++ flat (l.drop (k + 1))) := by
      refine ⟨o.1, ?_⟩
      rcases o.2 with hn | ⟨g, cap, cur, rfl, hb, rest⟩
      · exact .inl hn
      · exact .inr ⟨g, cap, cur, rfl, by omega, rest⟩
    refine ownsKeep o2 fun g hg => ?_
    have := (World.ownsRow.lt o g hg).1
    rw [e g (by omega)]
    exact Below.heap_setCell _ _ _ _ (by simp only [ne_eq]; omega)
  · refine ⟨bl.os, bl.tape, bl.output, ?_, fun j hj hn => ?_⟩
    · have := bl.size
      simpa [World.setCell] using this
    · rw [e j (by omega)]
      exact (Below.heap_setCell _ _ _ _ hn).trans (bl.block j hj)
theorem at_blk {w w1 : World} {g B : Nat} {o : Obj} (h : w.heap[g]? = some o) (b : Below B w w1) (hB : g < B) : w1.heap[g]? = some o := (b.block g hB).trans h
set_option maxHeartbeats 2000000 in
theorem rtake_raw (w : World) (pb g n c k : Nat) (l : List RF) (f : RF) (x y : Value) (hl : Hid (l.length = n)) (hn : n ≤ 64) (hk : k < n) (hc : n ≤ c) (hc2 : c ≤ maxLen) (hf : Hid (l[k]? = some f)) (h : Hid (w.heap[pb]? = some (.cells #[.slice (some ⟨g, 0, none⟩) n c, x, y] 35 (0, 0)))) (hr : Hid (RowV w g 0 (flat l))) :
    Calls Try.prog 52 #[.pointer (some ⟨pb, 0, none⟩), .int .i64 k] w fun e w' => e = .returned (.agg #[.string ⟨⟨f.nm⟩⟩, .slice f.a f.b.length f.c, .int .i64 f.sy]) ∧ TakeR w pb x y n k l w' := by
  obtain ⟨e0, e1, e2⟩ := c3 h.out
  have f0 := fz h.out 0
  have hpb : pb < w.heap.size := block_lt_of_cell e0
  obtain ⟨g0, g1, g2⟩ := flat_get l k f hf.out
  have c0 := hr.out _ _ g0
  have c1 := hr.out _ _ g1
  have c2 := hr.out _ _ g2
  rw [Nat.zero_add] at c0 c1 c2
  have hg : g < w.heap.size := block_lt_of_cell c0
  clear g0 g1 g2
  unfold RF.n at c0
  unfold RF.v at c1
  have hi : (k : Int) < (n : Int) := by omega
  go_enter Try.func52, Try.ntmps52
  have L1 : Hid ((flat (l.take k)).length = k * 3) := by
    refine (?_ : _ = _)
    rw [flat_length, List.length_take, hl.out, Nat.min_eq_left (by omega)]
  have L2 : Hid ((flat (l.drop (k + 1))).length = (n - (k + 1)) * 3) := by
    refine (?_ : _ = _)
    rw [flat_length, List.length_drop, hl.out]
  have R1 : Hid (RowV ((w.alloc (.cells #[.string ⟨#[]⟩, .slice none 0 0, .int .i64 0] 73)).alloc (.cells #[.string ⟨⟨f.nm⟩⟩, .slice f.a f.b.length f.c, .int .i64 f.sy] 73)) g 0 (flat l)) := hr.out.keep (((Below.refl _ w).alloc (Nat.le_refl _) _).alloc (by simp) _) (Nat.le_refl _)
  go_wp2_with (at_builtin; refine append_vals (w := ((w.alloc (.cells #[.string ⟨#[]⟩, .slice none 0 0, .int .i64 0] 73)).alloc (.cells #[.string ⟨⟨f.nm⟩⟩, .slice f.a f.b.length f.c, .int .i64 f.sy] 73))) Try.underlying33 info73 rfl (by decide) rfl _ _ rfl ((w.alloc (.cells #[.string ⟨#[]⟩, .slice none 0 0, .int .i64 0] 73)).alloc (.cells #[.string ⟨⟨f.nm⟩⟩, .slice f.a f.b.length f.c, .int .i64 f.sy] 73)).heap.size (.slice none 0 0) 0 [] rfl (World.ownsRow_nil _ _ _ _) g 0 c k (flat (l.take k)) rfl L1.out (R1.out.take k) (flat_one _) (by unfold maxLen at *; omega) (by omega) (Nat.le_refl _) ?_)
  intro v' w3 h1 h2
  obtain ⟨s1, s2, s3, rfl⟩ := sl_own h1
  have hsz : ((w.alloc (.cells #[.string ⟨#[]⟩, .slice none 0 0, .int .i64 0] 73)).alloc (.cells #[.string ⟨⟨f.nm⟩⟩, .slice f.a f.b.length f.c, .int .i64 f.sy] 73)).heap.size = w.heap.size + 1 + 1 := by simp
  have p3 : w3.heap[pb]? = some (.cells #[.slice (some ⟨g, 0, none⟩) n c, x, y] 35 (0, 0)) := at_below h2 (by simp) (at_alloc1 (at_alloc1 h.out))
  have q3 : w3.heap[w.heap.size]? = some (.cells #[.string ⟨#[]⟩, .slice none 0 0, .int .i64 0] 73 (0, 0)) := at_below h2 (by simp) (at_alloc1 new0)
  have r3 : w3.heap[w.heap.size + 1]? = some (.cells #[.string ⟨⟨f.nm⟩⟩, .slice f.a f.b.length f.c, .int .i64 f.sy] 73 (0, 0)) := at_below h2 (by simp) (by
    have := new0 (w := w.alloc (.cells #[.string ⟨#[]⟩, .slice none 0 0, .int .i64 0] 73)) (o := .cells #[.string ⟨⟨f.nm⟩⟩, .slice f.a f.b.length f.c, .int .i64 f.sy] 73)
    rw [show (w.alloc (.cells #[.string ⟨#[]⟩, .slice none 0 0, .int .i64 0] 73)).heap.size = w.heap.size + 1 by simp] at this
    exact this)
  have B3 : Hid (Below w.heap.size w w3) := (((Below.refl _ w).alloc (Nat.le_refl _) _).alloc (by simp) _).trans (h2.mono (by omega))
  have O3 : Hid (w3.ownsRow (w.heap.size + 1 + 1) 73 3 (.slice s1 s2 s3) k (flat (l.take k))) := h1
  have Z3 : Hid (w.heap.size + 1 + 1 ≤ w3.heap.size) := by have := h2.size; rw [hsz] at this; exact this
  have P3 : Hid (w3.heap[pb]? = some (.cells #[.slice (some ⟨g, 0, none⟩) n c, x, y] 35 (0, 0)) ∧ w3.heap[w.heap.size]? = some (.cells #[.string ⟨#[]⟩, .slice none 0 0, .int .i64 0] 73 (0, 0)) ∧ w3.heap[w.heap.size + 1]? = some (.cells #[.string ⟨⟨f.nm⟩⟩, .slice f.a f.b.length f.c, .int .i64 f.sy] 73 (0, 0))) := ⟨p3, q3, r3⟩
  have R3 : Hid (RowV w3 g 0 (flat l)) := hr.out.keep B3.out (Nat.le_refl _)
  obtain ⟨d0, d1, d2⟩ := c3 p3
  clear h1 h2 hsz p3 q3 r3 R1 c0 c1 c2 e0 e1 e2 f0
  have hk1 : (k : Int) + 1 ≤ (n : Int) := by omega
  have hk2 : (n : Int) ≤ (c : Int) := by omega
  obtain ⟨o2, ho2, hr2⟩ : ∃ o2, (if c = k + 1 then some (⟨g, 0, none⟩ : Addr) else some ⟨g, (k + 1) * 3, none⟩) = some ⟨g, o2, none⟩ ∧ RowV w3 g o2 (flat (l.drop (k + 1))) := by
    by_cases e : c = k + 1
    · refine ⟨0, by rw [if_pos e], ?_⟩
      rw [List.drop_of_length_le (by have := hl.out; omega)]
      intro j u hu
      simp [flat] at hu
    · refine ⟨(k + 1) * 3, by rw [if_neg e], ?_⟩
      have := R3.out.drop (k + 1) (by have := hl.out; omega)
      rwa [Nat.zero_add] at this
  have HX : Hid (Value.slice (if c = k + 1 then some (⟨g, 0, none⟩ : Addr) else some ⟨g, (k + 1) * 3, none⟩) (n - (k + 1)) (c - (k + 1)) = .slice (some ⟨g, o2, none⟩) (n - (k + 1)) (c - (k + 1))) := congrArg (fun q => Value.slice q (n - (k + 1)) (c - (k + 1))) ho2
  have R4 : Hid (RowV w3 g o2 (flat (l.drop (k + 1)))) := hr2
  clear ho2 hr2
  go_wp2_with (at_builtin; refine append_vals (w := w3) Try.underlying33 info73 rfl (by decide) rfl _ _ rfl (w.heap.size + 1 + 1) (.slice s1 s2 s3) k (flat (l.take k)) rfl O3.out g o2 (c - (k + 1)) (n - (k + 1)) (flat (l.drop (k + 1))) HX.out L2.out R4.out (flat_one _) (by unfold maxLen at *; omega) (by omega) Z3.out ?_)
  all_goals (
    intro v' w4 h1 h2
    obtain ⟨t1, t2, t3, rfl⟩ := sl_own h1
    have p4 := at_blk P3.out.1 h2 (show pb < w.heap.size + 1 + 1 by omega)
    have q4 := at_blk P3.out.2.1 h2 (show w.heap.size < w.heap.size + 1 + 1 by omega)
    have r4 := at_blk P3.out.2.2 h2 (show w.heap.size + 1 < w.heap.size + 1 + 1 by omega)
    have O4 : Hid (w4.ownsRow (w.heap.size + 1 + 1) 73 3 (.slice t1 t2 t3) (k + (n - (k + 1))) (flat (l.take k) ++ flat (l.drop (k + 1)))) := h1
    have B4 : Hid (Below w.heap.size w w4) := B3.out.trans (h2.mono (by omega))
    have P4 : Hid (w4.heap[pb]? = some (.cells #[.slice (some ⟨g, 0, none⟩) n c, x, y] 35 (0, 0))) := p4
    have Q4 : Hid (w4.heap[w.heap.size]? = some (.cells #[.string ⟨#[]⟩, .slice none 0 0, .int .i64 0] 73 (0, 0))) := q4
    have hne : ¬ pb = w.heap.size := by omega
    have hne1 : ¬ pb = w.heap.size + 1 := by omega
    have hne2 : ¬ w.heap.size = pb := by omega
    obtain ⟨d0, d1, d2⟩ := c3 p4
    obtain ⟨m0, m1, m2⟩ := c3 q4
    obtain ⟨n0, n1, n2⟩ := c3 r4
    have ff := fz p4 0
    have ff0 := fz q4 0
    have ff1 := fz q4 1
    have ff2 := fz q4 2
    clear h1 h2 p4 q4 r4
    go_wp2_with fail
    obtain ⟨TR, TC⟩ := takeW (a := .string ⟨⟨f.nm⟩⟩) (b := .slice f.a f.b.length f.c) (c := .int .i64 f.sy) hk O4.out B4.out P4.out hpb Q4.out
    generalize ((((w4.setCell ⟨pb, 0, none⟩ (.slice t1 t2 t3)).setCell ⟨w.heap.size, 0, none⟩ (.string ⟨⟨f.nm⟩⟩)).setCell ⟨w.heap.size, 1, none⟩ (.slice f.a f.b.length f.c)).setCell ⟨w.heap.size, 2, none⟩ (.int .i64 f.sy)) = W at *
    obtain ⟨c0, c1, c2⟩ := c3 TC
    refine bodyPost_ret (by simp [results, Try.results52, go_sem, c0, c1, c2]; rfl) rfl ?_
    exact ⟨rfl, TR⟩)

theorem drp_at {α : Type} {nm : α → List UInt8} : ∀ {l : List α} {k : Nat} {f : α}, Srt nm l → l[k]? = some f → drp nm (nm f) l = l.take k ++ l.drop (k + 1)
  | [], _, _, _, h => by simp at h
  | y :: r, 0, f, hs, h => by
    obtain rfl : y = f := by simpa using h
    have h1 := List.pairwise_cons.1 hs
    unfold drp
    rw [List.filter_cons_of_neg (by simp)]
    simp only [List.take_zero, List.nil_append, List.drop_succ_cons, List.drop_zero]
    refine List.filter_eq_self.2 fun z hz => ?_
    have hne : (nm z == nm y) = false := by
      refine beq_false_of_ne fun e => ?_
      have := h1.1 z hz
      rw [e, WideAt.bytes_irrefl] at this
      cases this
    simp [hne]
  | y :: r, k + 1, f, hs, h => by
    have h1 := List.pairwise_cons.1 hs
    have hr : r[k]? = some f := by simpa using h
    have hne : (nm y == nm f) = false := by
      refine beq_false_of_ne fun e => ?_
      have := h1.1 f (List.mem_of_getElem? hr)
      rw [e, WideAt.bytes_irrefl] at this
      cases this
    have ih := drp_at h1.2 hr
    unfold drp at ih ⊢
    rw [List.filter_cons_of_pos (by simp [hne]), ih]
    simp

def tgT (tg : Nat → Tg) (v : Value) : Nat → Tg := fun j => if v.ownBlock = some j then .mp else tg j
theorem rtake_any {w : World} {tg : Nat → Tg} {pb : Nat} {D : DK} {v : Value} {l : List RF} {z : Int} {k : Nat} {f : RF} (h : RAt w tg pb D v l z) (hf : l[k]? = some f) :
    Calls Try.prog 52 #[.pointer (some ⟨pb, 0, none⟩), .int .i64 k] w fun e w' => e = .returned (.agg #[.string ⟨⟨f.nm⟩⟩, .slice f.a f.b.length f.c, .int .i64 f.sy]) ∧ ∃ tg' v', RAt w' tg' pb ⟨drp Fil.nm f.nm D.fs, D.down, D.fuse⟩ v' (drp RF.nm f.nm l) z ∧ Step tg tg' w w' ∧ ∀ x, RFAt w tg x → RFAt w' tg' x := by
  have hlt := pos_lt hf
  have hc := h.cell
  rcases rowV_own h.own with ⟨_, h0⟩ | ⟨g, c, rfl, h1, h2, h3, -⟩
  · omega
  refine (rtake_raw w pb g l.length c k l f _ _ rfl h.len hlt h1 h2 hf hc h3).mono ?_
  rintro e w' ⟨rfl, ⟨v', hv1, hv2⟩, hk⟩
  have hb : ∀ j, tg j ≠ .no → tg j ≠ .dk → w'.heap[j]? = w.heap[j]? := fun j h1 h2 => hk.block j (h.lt j h1) fun e => h2 (by rw [e]; exact h.tp)
  have hown := World.ownsRow.lt hv2
  have hsame : ∀ j, tg j ≠ .no → tgT tg v' j = tg j := by
    intro j hj
    unfold tgT
    split
    · rename_i e
      have := (hown j e).1
      have := h.lt j hj
      omega
    · rfl
  have hkeep : ∀ x, RFAt w tg x → RFAt w' (tgT tg v') x := fun x hx => hx.keep (fun j hj => hb j (by rw [hj]; exact nofun) (by rw [hj]; exact nofun)) fun j hj => (hsame j (by rw [hj]; exact nofun)).trans hj
  have hdr := drp_at h.srt hf
  have hlen : (drp RF.nm f.nm l).length = l.length - 1 := by
    rw [hdr, List.length_append, List.length_take, List.length_drop]; omega
  refine ⟨rfl, tgT tg v', v', ⟨hv1, ?_, ?_, ?_, ?_, h.fz, ?_, srt_drp h.srt, by rw [hlen]; have := h.len; omega, ?_⟩, ⟨?_, ?_⟩, hkeep⟩
  · rw [hsame pb (by rw [h.tp]; exact nofun)]; exact h.tp
  · rw [hlen, hdr]
    refine ⟨hv2.1, ?_⟩
    rcases hv2.2 with hn | ⟨g, cap, cur, e, hb, rest⟩
    · exact .inl hn
    · exact .inr ⟨g, cap, cur, e, Nat.zero_le _, rest⟩
  · intro j hj
    unfold tgT
    rw [if_pos hj]
  · show drp Fil.nm f.nm D.fs = _
    rw [h.fs]
    exact (map_drp (fun _ => rfl) _ _).symm
  · exact fun x hx => hkeep x (h.fl x (mem_drp.1 hx).1)
  · intro j hj
    unfold tgT at hj
    split at hj
    · rename_i e; exact (hown j e).2
    · exact Nat.lt_of_lt_of_le (h.lt j hj) hk.size
  · exact hk.mono fun j _ e => by rw [e, h.tp]; exact nofun
  · intro j hj
    unfold tgT at hj
    split at hj
    · rename_i e; exact .inr (hown j e).1
    · exact .inl hj

/-! ### Remove -/
set_option maxHeartbeats 400000 in
theorem rrm_no (w : World) (p : Value) (s : List UInt8) (k c : Int) (hc : (c != 0) = true) (H : Hid (Calls Try.prog 51 #[p, .string ⟨⟨s⟩⟩] w fun e w' => e = .returned (.tuple #[.int .i64 k, .int .i64 c]) ∧ w' = w)) :
    Calls Try.prog 30 #[p, .string ⟨⟨s⟩⟩] w fun e w' => e = .returned (.int .i64 c) ∧ w' = w := by
  go_enter Try.func30, Try.ntmps30
  go_wp2_with (go_at_call 51; refine H.out.mono ?_)
  rintro e w1 ⟨rfl, rfl⟩
  go_wp2_with fail
  go_ret
  exact ⟨rfl, rfl⟩
set_option maxHeartbeats 400000 in
theorem rrm_lost (w : World) (p : Value) (s : List UInt8) (k : Int) (R : World → Prop) (H : Hid (Calls Try.prog 51 #[p, .string ⟨⟨s⟩⟩] w fun e w' => e = .returned (.tuple #[.int .i64 k, .int .i64 0]) ∧ w' = w)) (H2 : Hid (Calls Try.prog 48 #[p] w fun e w' => e = .returned (.bool false) ∧ R w')) :
    Calls Try.prog 30 #[p, .string ⟨⟨s⟩⟩] w fun e w' => e = .returned (.int .i64 11) ∧ R w' := by
  go_enter Try.func30, Try.ntmps30
  go_wp2_with (go_at_call 51; refine H.out.mono ?_)
  rintro e w1 ⟨rfl, rfl⟩
  go_wp2_with (go_at_call 48; refine H2.out.mono ?_)
  rintro e w2 ⟨rfl, hR⟩
  go_wp2_with fail
  go_ret
  exact ⟨rfl, hR⟩
set_option maxHeartbeats 400000 in
theorem rrm_ok (w : World) (p : Value) (s : List UInt8) (k : Nat) (u : Value) (R R2 : World → Prop) (H : Hid (Calls Try.prog 51 #[p, .string ⟨⟨s⟩⟩] w fun e w' => e = .returned (.tuple #[.int .i64 k, .int .i64 0]) ∧ w' = w)) (H2 : Hid (Calls Try.prog 48 #[p] w fun e w' => e = .returned (.bool true) ∧ R w'))
    (H3 : Hid (∀ w1, R w1 → Calls Try.prog 52 #[p, .int .i64 k] w1 fun e w' => e = .returned u ∧ R2 w')) :
    Calls Try.prog 30 #[p, .string ⟨⟨s⟩⟩] w fun e w' => e = .returned (.int .i64 0) ∧ R2 w' := by
  go_enter Try.func30, Try.ntmps30
  go_wp2_with (go_at_call 51; refine H.out.mono ?_)
  rintro e w1 ⟨rfl, rfl⟩
  go_wp2_with (go_at_call 48; refine H2.out.mono ?_)
  rintro e w2 ⟨rfl, hR⟩
  have H4 : Hid (Calls Try.prog 52 #[p, .int .i64 k] w2 fun e w' => e = .returned u ∧ R2 w') := H3.out w2 hR
  clear hR
  go_wp2_with (go_at_call 52; refine H4.out.mono ?_)
  rintro e w3 ⟨rfl, hR⟩
  go_wp2_with fail
  go_ret
  exact ⟨rfl, hR⟩
theorem rremove_any {w : World} {tg : Nat → Tg} {pb : Nat} {D : DK} (h : Ref w tg pb D) (s : List UInt8) :
    Calls Try.prog 30 #[.pointer (some ⟨pb, 0, none⟩), .string ⟨⟨s⟩⟩] w fun e w' => e = .returned (.int .i64 (removeD D s).1) ∧ ∃ tg', Ref w' tg' pb (removeD D s).2 ∧ Step tg tg' w w' := by
  obtain ⟨v, l, z, h⟩ := h
  have H := there_any h s
  unfold removeD
  unfold thereC thereK at H
  cases hd : D.down with
  | true =>
    rw [hd] at H
    refine (rrm_no w _ s _ 11 rfl H).mono ?_
    rintro e w' ⟨rfl, rfl⟩
    exact ⟨rfl, tg, ⟨v, l, z, h⟩, Step.refl _ _⟩
  | false =>
    rw [hd] at H
    rw [if_neg (by simp), h.fs, fnd_map]
    rcases pos_fnd s l with ⟨p1, p2⟩ | ⟨k, f, p1, p2, p3⟩
    · rw [p2]
      rw [p1] at H
      refine (rrm_no w _ s _ 3 rfl H).mono ?_
      rintro e w' ⟨rfl, rfl⟩
      exact ⟨rfl, tg, ⟨v, l, z, h⟩, Step.refl _ _⟩
    · rw [p3]
      rw [p1] at H
      simp only [Option.map_some]
      have H2 := done_any h
      cases hb : (burn D).1 with
      | false =>
        rw [hb] at H2
        rw [if_neg (by simp)]
        refine (rrm_lost w _ s _ _ H H2).mono ?_
        rintro e w' ⟨rfl, ⟨z', h'⟩, st⟩
        exact ⟨rfl, tg, ⟨v, l, z', h'⟩, st⟩
      | true =>
        rw [hb] at H2
        rw [if_pos rfl]
        have hn : f.nm = s := (fnd_some p3).2
        refine rrm_ok w _ s k (.agg #[.string ⟨⟨f.nm⟩⟩, .slice f.a f.b.length f.c, .int .i64 f.sy]) _ (fun w' => ∃ tg', Ref w' tg' pb ⟨drp Fil.nm s (l.map RF.s), (burn D).2.down, (burn D).2.fuse⟩ ∧ Step tg tg' w w') H H2 ?_
        rintro w1 ⟨⟨z', h'⟩, st⟩
        refine (rtake_any h' p2).mono ?_
        rintro e w' ⟨rfl, tg', v', h2, st2, -⟩
        rw [burn_fs, h.fs, hn] at h2
        exact ⟨rfl, tg', ⟨v', _, z', h2⟩, st.trans st2⟩

/-! ### Rename -/
set_option maxHeartbeats 400000 in
theorem rrn_no (w : World) (p : Value) (s t : List UInt8) (k c : Int) (hc : (c != 0) = true) (H : Hid (Calls Try.prog 51 #[p, .string ⟨⟨s⟩⟩] w fun e w' => e = .returned (.tuple #[.int .i64 k, .int .i64 c]) ∧ w' = w)) :
    Calls Try.prog 29 #[p, .string ⟨⟨s⟩⟩, .string ⟨⟨t⟩⟩] w fun e w' => e = .returned (.int .i64 c) ∧ w' = w := by
  go_enter Try.func29, Try.ntmps29
  go_wp2_with (go_at_call 51; refine H.out.mono ?_)
  rintro e w1 ⟨rfl, rfl⟩
  go_wp2_with fail
  go_ret
  exact ⟨rfl, rfl⟩
set_option maxHeartbeats 400000 in
theorem rrn_form (w : World) (p : Value) (s t : List UInt8) (k : Int) (ht : Hid (okN t = false)) (H : Hid (Calls Try.prog 51 #[p, .string ⟨⟨s⟩⟩] w fun e w' => e = .returned (.tuple #[.int .i64 k, .int .i64 0]) ∧ w' = w)) :
    Calls Try.prog 29 #[p, .string ⟨⟨s⟩⟩, .string ⟨⟨t⟩⟩] w fun e w' => e = .returned (.int .i64 4) ∧ w' = w := by
  have H46 : Hid (Calls Try.prog 46 #[.string ⟨⟨t⟩⟩] w fun e w' => e = .returned (.bool false) ∧ w' = w) := by
    have := named_any ⟨⟨t⟩⟩ w
    rw [ht.out] at this
    exact this
  go_enter Try.func29, Try.ntmps29
  go_wp2_with (go_at_call 51; refine H.out.mono ?_)
  rintro e w1 ⟨rfl, rfl⟩
  go_wp2_with (go_at_call 46; refine H46.out.mono ?_)
  rintro e w1 ⟨rfl, rfl⟩
  go_wp2_with fail
  go_ret
  exact ⟨rfl, rfl⟩
set_option maxHeartbeats 400000 in
theorem rrn_lost (w : World) (p : Value) (s t : List UInt8) (k : Int) (R : World → Prop) (ht : Hid (okN t = true)) (H : Hid (Calls Try.prog 51 #[p, .string ⟨⟨s⟩⟩] w fun e w' => e = .returned (.tuple #[.int .i64 k, .int .i64 0]) ∧ w' = w)) (H2 : Hid (Calls Try.prog 48 #[p] w fun e w' => e = .returned (.bool false) ∧ R w')) :
    Calls Try.prog 29 #[p, .string ⟨⟨s⟩⟩, .string ⟨⟨t⟩⟩] w fun e w' => e = .returned (.int .i64 11) ∧ R w' := by
  have H46 : Hid (Calls Try.prog 46 #[.string ⟨⟨t⟩⟩] w fun e w' => e = .returned (.bool true) ∧ w' = w) := by
    have := named_any ⟨⟨t⟩⟩ w
    rw [ht.out] at this
    exact this
  go_enter Try.func29, Try.ntmps29
  go_wp2_with (go_at_call 51; refine H.out.mono ?_)
  rintro e w1 ⟨rfl, rfl⟩
  go_wp2_with (go_at_call 46; refine H46.out.mono ?_)
  rintro e w1 ⟨rfl, rfl⟩
  go_wp2_with (go_at_call 48; refine H2.out.mono ?_)
  rintro e w2 ⟨rfl, hR⟩
  go_wp2_with fail
  go_ret
  exact ⟨rfl, hR⟩
/-- the disk with a file beside it -/
def Bes (w : World) (tg : Nat → Tg) (pb : Nat) (D : DK) (l : List RF) (f : RF) (w0 : World) (tg0 : Nat → Tg) : Prop := (∃ v z, RAt w tg pb D v l z) ∧ RFAt w tg f ∧ Step tg0 tg w0 w
theorem Bes.keep {w w' : World} {tg : Nat → Tg} {pb : Nat} {D : DK} {l : List RF} {f : RF} {w0 : World} {tg0 : Nat → Tg} (h : Bes w tg pb D l f w0 tg0) (e : ∀ k, tg k ≠ .no → w'.heap[k]? = w.heap[k]?) (st : Step tg tg w w') : Bes w' tg pb D l f w0 tg0 := by
  obtain ⟨⟨v, z, h1⟩, h2, h3⟩ := h
  exact ⟨⟨v, z, h1.keep e st.1.size⟩, h2.keep (fun k hk => e k (by rw [hk]; exact nofun)) fun _ hk => hk, h3.trans st⟩
theorem Bes.alloc {w : World} {tg : Nat → Tg} {pb : Nat} {D : DK} {l : List RF} {f : RF} {w0 : World} {tg0 : Nat → Tg} (h : Bes w tg pb D l f w0 tg0) (o : Obj) : Bes (w.alloc o) tg pb D l f w0 tg0 := by
  have b : Below w.heap.size w (w.alloc o) := (Below.refl _ w).alloc (Nat.le_refl _) _
  obtain ⟨v, z, h1⟩ := h.1
  exact h.keep (fun k hk => b.block k (h1.lt k hk)) (Step.of_below _ b)
set_option maxHeartbeats 1000000 in
theorem rrn_ok {w : World} {tg : Nat → Tg} {pb : Nat} {l : List RF} (s t : List UInt8) (k : Nat) (f : RF) (D2 : DK) (ht : Hid (okN t = true)) (H : Hid (Calls Try.prog 51 #[.pointer (some ⟨pb, 0, none⟩), .string ⟨⟨s⟩⟩] w fun e w' => e = .returned (.tuple #[.int .i64 k, .int .i64 0]) ∧ w' = w))
    (H2 : Hid (Calls Try.prog 48 #[.pointer (some ⟨pb, 0, none⟩)] w fun e w' => e = .returned (.bool true) ∧ (∃ v z, RAt w' tg pb D2 v l z) ∧ Step tg tg w w')) (hf : Hid (l[k]? = some f)) (hfn : Hid (fnd RF.nm s l = some f)) :
    Calls Try.prog 29 #[.pointer (some ⟨pb, 0, none⟩), .string ⟨⟨s⟩⟩, .string ⟨⟨t⟩⟩] w fun e w' => e = .returned (.int .i64 0) ∧ ∃ tg', Ref w' tg' pb ⟨ins Fil.nm ⟨t, f.b, f.sy⟩ (drp Fil.nm t (drp Fil.nm s D2.fs)), D2.down, D2.fuse⟩ ∧ Step tg tg' w w' := by
  have H46 : Hid (Calls Try.prog 46 #[.string ⟨⟨t⟩⟩] w fun e w' => e = .returned (.bool true) ∧ w' = w) := by
    have := named_any ⟨⟨t⟩⟩ w
    rw [ht.out] at this
    exact this
  go_enter Try.func29, Try.ntmps29
  go_wp2_with (go_at_call 51; refine H.out.mono ?_)
  rintro e w1 ⟨rfl, rfl⟩
  go_wp2_with (go_at_call 46; refine H46.out.mono ?_)
  rintro e w0 ⟨rfl, rfl⟩
  go_wp2_with (go_at_call 48; refine H2.out.mono ?_)
  rintro e w2 ⟨rfl, ⟨v2, z2, h2⟩, st2⟩
  have G3 : Hid (Calls Try.prog 52 #[.pointer (some ⟨pb, 0, none⟩), .int .i64 k] w2 fun e w' => e = .returned (.agg #[.string ⟨⟨f.nm⟩⟩, .slice f.a f.b.length f.c, .int .i64 f.sy]) ∧ ∃ tg', Bes w' tg' pb ⟨drp Fil.nm s D2.fs, D2.down, D2.fuse⟩ (drp RF.nm s l) f w0 tg) := by
    refine (rtake_any h2 hf.out).mono ?_
    rintro e w' ⟨rfl, tg', v', r1, r2, r3⟩
    rw [(fnd_some hfn.out).2] at r1
    exact ⟨rfl, tg', ⟨v', z2, r1⟩, r3 f (h2.fl f (List.mem_of_getElem? hf.out)), st2.trans r2⟩
  have hlen : l.length ≤ 64 := h2.len
  clear h2 st2 H H46 H2
  go_wp2_with (go_at_call 52; refine G3.out.mono ?_)
  rintro e w3 ⟨rfl, tg3, b3⟩
  have B3 : Hid (Bes w3 tg3 pb ⟨drp Fil.nm s D2.fs, D2.down, D2.fuse⟩ (drp RF.nm s l) f w0 tg) := b3
  clear b3 G3
  have H47 : Hid (∀ o, Calls Try.prog 47 #[.pointer (some ⟨pb, 0, none⟩), .string ⟨⟨t⟩⟩] (w3.alloc o) fun e w' => e = .returned (.int .i64 (posI (pos t (drp RF.nm s l)))) ∧ w' = w3.alloc o) := fun o => by
    obtain ⟨⟨v, z, h⟩, -, -⟩ := B3.out.alloc o
    exact rfind_any h t
  have LE : Hid ((drp RF.nm s l).length < 64) := Nat.lt_of_lt_of_le (drp_lt hfn.out) hlen
  cases hp : pos t (drp RF.nm s l) with
  | none =>
    rw [hp] at H47
    have H49 : Hid (∀ o, Calls Try.prog 49 #[.pointer (some ⟨pb, 0, none⟩), .agg #[.string ⟨⟨t⟩⟩, .slice f.a f.b.length f.c, .int .i64 f.sy]] (w3.alloc o) fun e w' => e = .returned (.tuple #[]) ∧ ∃ tg', Ref w' tg' pb ⟨ins Fil.nm ⟨t, f.b, f.sy⟩ (drp Fil.nm t (drp Fil.nm s D2.fs)), D2.down, D2.fuse⟩ ∧ Step tg tg' w0 w') := fun o => by
      obtain ⟨⟨v, z, h⟩, hf1, st⟩ := B3.out.alloc o
      have hnone : fnd RF.nm t (drp RF.nm s l) = none := by
        rcases pos_fnd t (drp RF.nm s l) with ⟨_, h2⟩ | ⟨k, f, h1, _⟩
        · exact h2
        · rw [hp] at h1; cases h1
      refine (rput_any h ⟨t, f.b, f.sy, f.a, f.c⟩ ⟨hf1.row, hf1.hz, hf1.hs, hf1.hl, hf1.hc, hf1.hc2⟩ hnone LE.out).mono ?_
      rintro e w' ⟨rfl, tg', v', r1, r2⟩
      have e1 : drp Fil.nm t (drp Fil.nm s D2.fs) = drp Fil.nm s D2.fs := by
        refine drp_none ?_
        have e2 := h.fs
        simp only at e2
        rw [e2, fnd_map, hnone]
        rfl
      rw [e1]
      exact ⟨rfl, tg', ⟨v', _, z, r1⟩, st.trans r2⟩
    rw [show posI none = -1 from rfl] at H47
    clear hp
    go_wp2_with (first | (go_at_call 47; refine (H47.out _).mono ?_; rintro e w4 ⟨rfl, rfl⟩) | (go_at_call 49; refine (H49.out _).mono ?_))
    rintro e w5 ⟨rfl, r⟩
    go_wp2_with fail
    go_ret
    exact ⟨rfl, r⟩
  | some j =>
    rw [hp, show posI (some j) = (j : Int) from rfl] at H47
    obtain ⟨fj, hj, hjf⟩ : ∃ fj, (drp RF.nm s l)[j]? = some fj ∧ fnd RF.nm t (drp RF.nm s l) = some fj := by
      rcases pos_fnd t (drp RF.nm s l) with ⟨h2, _⟩ | ⟨k, f, h1, h2, h3⟩
      · rw [hp] at h2; cases h2
      · rw [hp] at h1; cases h1; exact ⟨f, h2, h3⟩
    have H52 : Hid (Calls Try.prog 52 #[.pointer (some ⟨pb, 0, none⟩), .int .i64 j] (w3.alloc (.cells #[.string ⟨⟨f.nm⟩⟩, .slice f.a f.b.length f.c, .int .i64 f.sy] 73)) fun e w' => (∃ u, e = .returned u) ∧ w'.heap[w3.heap.size]? = some (.cells #[.string ⟨⟨f.nm⟩⟩, .slice f.a f.b.length f.c, .int .i64 f.sy] 73 (0, 0)) ∧ ∃ tg', tg' w3.heap.size = .no ∧ Bes w' tg' pb ⟨drp Fil.nm t (drp Fil.nm s D2.fs), D2.down, D2.fuse⟩ (drp RF.nm t (drp RF.nm s l)) f w0 tg) := by
      obtain ⟨⟨v, z, h⟩, hf1, st⟩ := B3.out.alloc (.cells #[.string ⟨⟨f.nm⟩⟩, .slice f.a f.b.length f.c, .int .i64 f.sy] 73)
      have hno : tg3 w3.heap.size = .no := by
        obtain ⟨⟨v, z, h⟩, -, -⟩ := B3.out
        exact new_no h.lt (Nat.le_refl _)
      refine (rtake_any h hj).mono ?_
      rintro e w' ⟨rfl, tg', v', r1, r2, r3⟩
      have hsz : w3.heap.size < (w3.alloc (.cells #[.string ⟨⟨f.nm⟩⟩, .slice f.a f.b.length f.c, .int .i64 f.sy] 73)).heap.size := by simp
      refine ⟨⟨_, rfl⟩, (r2.1.block _ hsz (fun e => e hno)).trans new0, tg', ?_, ⟨v', z, ?_⟩, r3 f hf1, st.trans r2⟩
      · by_cases e : tg' w3.heap.size = .no
        · exact e
        · rcases r2.2 _ e with h1 | h1
          · exact absurd hno h1
          · omega
      · rw [(fnd_some hjf).2] at r1
        exact r1
    have hj0 : 0 ≤ (j : Int) := by omega
    have LE2 : Hid ((drp RF.nm t (drp RF.nm s l)).length < 64) := Nat.lt_of_le_of_lt (List.length_filter_le _ _) LE.out
    clear hp hj hjf
    go_wp2_with (first | (go_at_call 47; refine (H47.out _).mono ?_; rintro e w4 ⟨rfl, rfl⟩) | (go_at_call 52; refine H52.out.mono ?_))
    rintro e w5 ⟨⟨u, rfl⟩, hc5, tg5, hno, b5⟩
    obtain ⟨d0, d1, d2⟩ := c3 hc5
    have ff := fz hc5 0
    have hc6 := setB hc5 (i := 0) (.string ⟨⟨t⟩⟩)
    obtain ⟨m0, m1, m2⟩ := c3 hc6
    have H49 : Hid (Calls Try.prog 49 #[.pointer (some ⟨pb, 0, none⟩), .agg #[.string ⟨⟨t⟩⟩, .slice f.a f.b.length f.c, .int .i64 f.sy]] (w5.setCell ⟨w3.heap.size, 0, none⟩ (.string ⟨⟨t⟩⟩)) fun e w' => e = .returned (.tuple #[]) ∧ ∃ tg', Ref w' tg' pb ⟨ins Fil.nm ⟨t, f.b, f.sy⟩ (drp Fil.nm t (drp Fil.nm s D2.fs)), D2.down, D2.fuse⟩ ∧ Step tg tg' w0 w') := by
      have hk : Kp (· = w3.heap.size) w5 (w5.setCell ⟨w3.heap.size, 0, none⟩ (.string ⟨⟨t⟩⟩)) := Kp.of_set _ _ _ rfl
      obtain ⟨⟨v, z, h0⟩, hf0, st0⟩ := b5
      have eb : ∀ k, tg5 k ≠ .no → (w5.setCell ⟨w3.heap.size, 0, none⟩ (.string ⟨⟨t⟩⟩)).heap[k]? = w5.heap[k]? := fun k hk1 => hk.block k (h0.lt k hk1) fun e => hk1 (by rw [e]; exact hno)
      have h := h0.keep eb hk.size
      have hf1 := hf0.keep (tg1 := tg5) (fun k hk => eb k (by rw [hk]; exact nofun)) fun _ hk => hk
      have hnone : fnd RF.nm t (drp RF.nm t (drp RF.nm s l)) = none := by
        unfold fnd
        refine List.find?_eq_none.2 fun x hx => ?_
        have := (mem_drp.1 hx).2
        simpa using this
      refine (rput_any h ⟨t, f.b, f.sy, f.a, f.c⟩ ⟨hf1.row, hf1.hz, hf1.hs, hf1.hl, hf1.hc, hf1.hc2⟩ hnone LE2.out).mono ?_
      rintro e w' ⟨rfl, tg', v', r1, r2⟩
      refine ⟨rfl, tg', ⟨v', _, z, r1⟩, ?_⟩
      have hle : w0.heap.size ≤ w3.heap.size := B3.out.2.2.1.size
      have st' : Step tg tg5 w0 (w5.setCell ⟨w3.heap.size, 0, none⟩ (.string ⟨⟨t⟩⟩)) := ⟨st0.1.trans hk fun k hk e => by omega, st0.2⟩
      exact st'.trans r2
    clear b5 hc5 hc6
    go_wp2_with (go_at_call 49; refine H49.out.mono ?_)
    rintro e w6 ⟨rfl, r⟩
    go_wp2_with fail
    go_ret
    exact ⟨rfl, r⟩

theorem rrename_any {w : World} {tg : Nat → Tg} {pb : Nat} {D : DK} (h : Ref w tg pb D) (s t : List UInt8) :
    Calls Try.prog 29 #[.pointer (some ⟨pb, 0, none⟩), .string ⟨⟨s⟩⟩, .string ⟨⟨t⟩⟩] w fun e w' => e = .returned (.int .i64 (renameD D s t).1) ∧ ∃ tg', Ref w' tg' pb (renameD D s t).2 ∧ Step tg tg' w w' := by
  obtain ⟨v, l, z, h⟩ := h
  have H := there_any h s
  unfold renameD
  unfold thereC thereK at H
  cases hd : D.down with
  | true =>
    rw [hd] at H
    refine (rrn_no w _ s t _ 11 rfl H).mono ?_
    rintro e w' ⟨rfl, rfl⟩
    exact ⟨rfl, tg, ⟨v, l, z, h⟩, Step.refl _ _⟩
  | false =>
    rw [hd] at H
    rw [if_neg (by simp), h.fs, fnd_map]
    rcases pos_fnd s l with ⟨p1, p2⟩ | ⟨k, f, p1, p2, p3⟩
    · rw [p2]
      rw [p1] at H
      refine (rrn_no w _ s t _ 3 rfl H).mono ?_
      rintro e w' ⟨rfl, rfl⟩
      exact ⟨rfl, tg, ⟨v, l, z, h⟩, Step.refl _ _⟩
    · rw [p3]
      rw [p1] at H
      simp only [Option.map_some]
      cases ho : okN t with
      | false =>
        rw [if_pos rfl]
        refine (rrn_form w _ s t _ ho H).mono ?_
        rintro e w' ⟨rfl, rfl⟩
        exact ⟨rfl, tg, ⟨v, l, z, h⟩, Step.refl _ _⟩
      | true =>
        rw [if_neg (by simp)]
        have H2 := done_any h
        cases hb : (burn D).1 with
        | false =>
          rw [hb] at H2
          rw [if_neg (by simp)]
          refine (rrn_lost w _ s t _ _ ho H H2).mono ?_
          rintro e w' ⟨rfl, ⟨z', h'⟩, st⟩
          exact ⟨rfl, tg, ⟨v, l, z', h'⟩, st⟩
        | true =>
          rw [hb] at H2
          rw [if_pos rfl]
          have := rrn_ok (tg := tg) (l := l) s t k f (burn D).2 ho H (H2.mono (by
            rintro e w' ⟨rfl, ⟨z', h'⟩, st⟩
            exact ⟨rfl, ⟨v, z', h'⟩, st⟩)) p2 p3
          rw [burn_fs, h.fs] at this
          exact this
end Go.Proofs.Ytnohidalomjfmaa
