/-
  The heap's calls over what it holds: handles with their keys.
-/
import Derived.Test.YtcgaekaollhmpaaGreatPm
namespace Go.Proofs.YtcgaekaollhmpaaGreat
open Go.RowKit Go.Maps

/-- what a heap holds -/
abbrev Ct := Int → Option K
def HS.cont (S : HS) : Ct := fun x => (S.at x).map S.ky
def Ct.nil : Ct := fun _ => none
def Ct.put (C : Ct) (g : Nat) (k : K) : Ct := fun x => if x = (g : Int) then some k else C x
def Ct.del (C : Ct) (g : Nat) : Ct := fun x => if x = (g : Int) then none else C x
/-- the least entry -/
def Ct.min (C : Ct) (x : Nat) (k : K) : Prop := C x = some k ∧ ∀ (y : Nat) (k' : K), C y = some k' → y = x ∨ el k x k' y
structure Hc (w : World) (tg : Nat → Tg) (hb : Nat) (C : Ct) (g n : Nat) (S : HS) : Prop where
  h : Hp w tg hb S
  c : S.cont = C
  g : S.gv = g
  n : S.X.length = n
section
variable {w w' : World} {tg tg' : Nat → Tg} {hb g n : Nat} {C : Ct} {S S' : HS}
theorem cont_mem (hu : ∀ a ∈ S.X, ∀ b ∈ S.X, S.hd a = S.hd b → a = b) {b : Nat} (hb : b ∈ S.X) : S.cont (S.hd b) = some (S.ky b) := by unfold HS.cont; rw [at_of hu hb]; rfl
theorem cont_some {x : Int} {k : K} (h : S.cont x = some k) : ∃ b ∈ S.X, (S.hd b : Int) = x ∧ S.ky b = k := by
  unfold HS.cont at h
  obtain ⟨b, h1, h2⟩ := Option.map_eq_some_iff.1 h
  obtain ⟨k1, k2⟩ := at_some h1
  exact ⟨b, k1, k2, h2⟩
theorem cont_none {x : Int} (h : S.cont x = none) : ∀ b ∈ S.X, (S.hd b : Int) ≠ x := by
  unfold HS.cont at h
  exact at_none (Option.map_eq_none_iff.1 h)
theorem cont_eq (hu : ∀ a ∈ S.X, ∀ b ∈ S.X, S.hd a = S.hd b → a = b) {x : Int} {o : Option K} (h1 : ∀ k, o = some k → ∃ b ∈ S.X, (S.hd b : Int) = x ∧ S.ky b = k) (h2 : o = none → ∀ b ∈ S.X, (S.hd b : Int) ≠ x) : S.cont x = o := by
  cases o with
  | none =>
    cases q : S.cont x with
    | none => rfl
    | some k => obtain ⟨b, k1, k2, _⟩ := cont_some q; exact absurd k2 (h2 rfl b k1)
  | some k =>
    obtain ⟨b, k1, k2, k3⟩ := h1 k rfl
    rw [← k2, cont_mem hu k1, k3]
theorem Hc.keep (h : Hc w tg hb C g n S) (b : Below w.heap.size w w') : Hc w' tg hb C g n S := ⟨⟨h.h.m.keep b, h.h.p.chg (Chg.below b) (Alik.refl _), h.h.i, h.h.l⟩, h.c, h.g, h.n⟩
def zS : HS := ⟨0, none, none, [], fun _ => [], fun _ => nS, fun _ => 0, fun _ => ⟨0, 0, 0⟩, fun _ => none, fun _ => 0, fun _ => false, fun _ => none⟩
/-- a zero heap -/
theorem hc_zero (hB : Blk w hb 98 32 zH) : Hc w (fun k => if k = hb then .hp else .no) hb Ct.nil 0 0 zS := by
  refine ⟨⟨⟨hB.same fun j hj => ?_, nofun, fun F hF => Fam.nil _, if_pos rfl, nofun, fun F hF g q => (by cases q), fun k hk => ?_⟩, rfl, ⟨⟨fun F hF j b q => ?_, nofun, nofun⟩, nofun, nofun, nofun, nofun, nofun, nofun, nofun, List.Pairwise.nil, nofun, nofun, nofun, Nat.zero_le _⟩, ⟨fun m q => (by cases q), fun _ b q => (by cases q)⟩⟩, rfl, rfl, rfl⟩
  · unfold zH HS.hpC zS
    rfl
  · by_cases q : k = hb
    · rw [q]; exact hB.lt
    · simp [q] at hk
  · have q' : ([] : List Nat)[j]? = some b := q
    simp at q'
theorem insert_C (h : Hc w tg hb C g n S) (k : K) (hk : k.ok) (hg : g < 1048576) (hn : n + 1 ≤ 2000) :
    Calls Tryz.prog 24 #[ptr hb, ktup k.n k.d k.t] w fun e w' => e = .returned (.tuple #[.int .i64 g, .int .i64 0]) ∧ ∃ S' tg', Hc w' tg' hb (C.put g k) (g + 1) (n + 1) S' ∧ Chg (fun k => tg k ≠ .no) w w' tg tg' := by
  have hg' := h.g
  have hn' := h.n
  refine (insert_S h.h k hk (by omega) (by omega)).mono ?_
  rintro e w' ⟨rfl, b, _, S', tg', M⟩
  refine ⟨by rw [hg'], S', tg', ⟨M.h, ?_, by rw [M.gv, hg'], by rw [M.X, List.length_cons, hn']⟩, M.c⟩
  funext x
  have hhd : ∀ c ∈ S.X, S'.hd c = S.hd c ∧ S'.ky c = S.ky c := fun c hc => by
    have hcb : c ≠ b := fun q => M.nb (by rw [← q]; exact hc)
    exact ⟨by rw [M.hd, upd_other _ _ hcb], by rw [M.ky, upd_other _ _ hcb]⟩
  have hbb : S'.hd b = g ∧ S'.ky b = k := ⟨by rw [M.hd, upd_same, hg'], by rw [M.ky, upd_same]⟩
  refine cont_eq M.h.i.hu (fun k' q => ?_) (fun q c hc => ?_)
  · unfold Ct.put at q
    split at q
    · rename_i ex
      exact ⟨b, by rw [M.X]; exact List.mem_cons_self .., by rw [hbb.1, ex], by rw [hbb.2]; exact Option.some.inj q⟩
    · rw [← h.c] at q
      obtain ⟨c, k1, k2, k3⟩ := cont_some q
      exact ⟨c, by rw [M.X]; exact List.mem_cons_of_mem _ k1, by rw [(hhd c k1).1]; exact k2, by rw [(hhd c k1).2]; exact k3⟩
  · unfold Ct.put at q
    split at q
    · cases q
    · rename_i ex
      rw [← h.c] at q
      rw [M.X] at hc
      rcases List.mem_cons.1 hc with rfl | hc
      · rw [hbb.1]; exact fun q' => ex q'.symm
      · rw [(hhd c hc).1]; exact cont_none q c hc
theorem len_C (h : Hc w tg hb C g n S) : Calls Tryz.prog 75 #[ptr hb] w fun e w' => e = .returned (.int .i64 n) ∧ w' = w := by
  have hp := h.h.p
  unfold Mp at hp
  cases hm : S.mb with
  | none =>
    rw [hm] at hp
    have hX : S.X = [] := hp
    have := len_none w hb S.hpC h.h.m.hp (by show Value.map S.mb = _; rw [hm])
    rw [← h.n, hX]
    exact this
  | some m =>
    rw [hm] at hp
    obtain ⟨M, hM⟩ := hp
    have := len_some w hb m _ M S.hpC h.h.m.hp (by show Value.map S.mb = _; rw [hm]) hM.o
    rw [hM.n, h.n] at this
    exact this
theorem Hc.least (h : Hc w tg hb C g n S) (hn : n ≠ 0) : ∃ m, S.lst = some m ∧ m ∈ S.X ∧ C.min (S.hd m) (S.ky m) := by
  cases hl : S.lst with
  | none =>
    have hne : S.X ≠ [] := by intro q; have := h.n; rw [q] at this; exact hn this.symm
    obtain ⟨b, hb'⟩ := List.exists_mem_of_ne_nil _ hne
    exact absurd hb' (h.h.l.none hl b)
  | some m =>
    obtain ⟨h1, h2⟩ := h.h.l.some m hl
    refine ⟨m, rfl, h1, by rw [← h.c]; exact cont_mem h.h.i.hu h1, fun y k' q => ?_⟩
    rw [← h.c] at q
    obtain ⟨b, k1, k2, k3⟩ := cont_some q
    have hy : S.hd b = y := by omega
    rcases h2 b k1 with q' | q'
    · exact .inl (by rw [← hy, q'])
    · right
      unfold HS.lt at q'
      rw [k3, hy] at q'
      exact q'
theorem min_C (h : Hc w tg hb C g n S) (hn : n ≠ 0) : ∃ m, S.lst = some m ∧ m ∈ S.X ∧ C.min (S.hd m) (S.ky m) ∧ Calls Tryz.prog 47 #[ptr hb] w fun e w' => e = .returned (.tuple #[.int .i64 (S.hd m), ktup (S.ky m).n (S.ky m).d (S.ky m).t, .int .i64 0]) ∧ Below w.heap.size w w' := by
  obtain ⟨m, h1, h2, h3⟩ := h.least hn
  refine ⟨m, h1, h2, h3, ?_⟩
  exact min_at w hb m _ _ _ _ (n : Int) S.hpC (S.ndC m) h.h.m.hp (by show optp S.lst = _; rw [h1]; rfl) (h.h.m.nd m h2) rfl rfl rfl rfl (by simp; omega) fun w1 b1 => len_C (h.keep b1)
set_option maxHeartbeats 1000000 in
theorem min_zero (HL : Hid (∀ w1, Below w.heap.size w w1 → Calls Tryz.prog 75 #[.pointer (some ⟨hb, 0, none⟩)] w1 fun e w' => e = .returned (.int .i64 0) ∧ w' = w1)) : Calls Tryz.prog 47 #[.pointer (some ⟨hb, 0, none⟩)] w fun e w' => e = .returned (.tuple #[.int .i64 0, ktup 0 0 0, .int .i64 3]) ∧ Below w.heap.size w w' := by
  go_enter Tryz.func47, Tryz.ntmps47
  go_upto_region 1 with fail
  have B0 : Hid (Below w.heap.size w (w.alloc (.cells #[.int .u64 0, .int .u64 0, .int .i64 0] 72))) := by unfold Hid; go_grown
  have G0 : Hid ((w.alloc (.cells #[.int .u64 0, .int .u64 0, .int .i64 0] 72)).heap[w.heap.size]? = some (.cells #[.int .u64 0, .int .u64 0, .int .i64 0] 72 (0, 0))) := new0
  generalize w.alloc (.cells #[.int .u64 0, .int .u64 0, .int .i64 0] 72) = W at *
  have H11 := HL.out W B0.out
  obtain ⟨c0, c1, c2⟩ := c3 G0.out
  obtain ⟨f0, f1, f2⟩ := f3 G0.out
  go_wp2_with (go_at_call 75; refine H11.mono ?_; rintro e w1 ⟨rfl, rfl⟩)
  refine bodyPost_ret (v := .tuple #[.int .i64 0, ktup 0 0 0, .int .i64 3]) (by rw [results_tct rfl]; go_simp; rfl) rfl ?_
  exact ⟨rfl, by go_grown; exact B0.out⟩

set_option maxHeartbeats 2000000 in
theorem pop_raw (w : World) (hb m n d : Nat) (x t : Int) (R : World → Prop) (H20 : Hid (∀ w1, Below w.heap.size w w1 → Calls Tryz.prog 47 #[.pointer (some ⟨hb, 0, none⟩)] w1 fun e w' => e = .returned (.tuple #[.int .i64 x, .agg #[.int .u64 n, .int .u64 d, .int .i64 t], .int .i64 0]) ∧ Below w1.heap.size w1 w'))
    (HL : Hid (∀ w1, Below w.heap.size w w1 → w1.cell? ⟨hb, 31, none⟩ = some (.pointer (some ⟨m, 0, none⟩))))
    (H34 : Hid (∀ w2, Below w.heap.size w w2 → Calls Tryz.prog 49 #[.pointer (some ⟨hb, 0, none⟩), .pointer (some ⟨m, 0, none⟩)] w2 fun q w' => q = .returned (.tuple #[]) ∧ (∀ g o, w.heap.size ≤ g → w2.heap[g]? = some o → w'.heap[g]? = some o) ∧ Hid (∀ w3, Kp (fun k => w.heap.size ≤ k ∧ k < w2.heap.size) w' w3 → R w3))) :
    Calls Tryz.prog 27 #[.pointer (some ⟨hb, 0, none⟩)] w fun e w' => e = .returned (.tuple #[.int .i64 x, ktup n d t, .int .i64 0]) ∧ R w' := by
  go_enter Tryz.func27, Tryz.ntmps27
  go_upto_region 1 with fail
  have G0 : (w.alloc (.cells #[.int .u64 0, .int .u64 0, .int .i64 0] 72)).heap[w.heap.size]? = some (.cells #[.int .u64 0, .int .u64 0, .int .i64 0] 72 (0, 0)) := new0
  have B0 : Below w.heap.size w (w.alloc (.cells #[.int .u64 0, .int .u64 0, .int .i64 0] 72)) := by go_grown
  generalize w.alloc (.cells #[.int .u64 0, .int .u64 0, .int .i64 0] 72) = W at *
  have H2 := H20.out W B0
  go_upto_region 2 with (go_at_call 47; refine H2.mono ?_; rintro e w1 ⟨rfl, b1⟩; have G1 := at_below b1 (Nat.le_refl _) G0; have B1 := B0.trans (b1.mono B0.size); clear G0 B0 b1)
  have G2 : Hid ((w1.alloc (.cells #[.int .u64 n, .int .u64 d, .int .i64 t] 72)).heap[w.heap.size]? = some (.cells #[.int .u64 0, .int .u64 0, .int .i64 0] 72 (0, 0))) := at_alloc G1
  have G3 : Hid ((w1.alloc (.cells #[.int .u64 n, .int .u64 d, .int .i64 t] 72)).heap[w1.heap.size]? = some (.cells #[.int .u64 n, .int .u64 d, .int .i64 t] 72 (0, 0))) := new0
  have B2 : Hid (Below w.heap.size w (w1.alloc (.cells #[.int .u64 n, .int .u64 d, .int .i64 t] 72))) := B1.alloc B1.size _
  have L1 : Hid (w.heap.size ≤ w1.heap.size) := B1.size
  generalize w1.alloc (.cells #[.int .u64 n, .int .u64 d, .int .i64 t] 72) = W2 at *
  generalize w1.heap.size = bx at *
  clear B1 G1
  have k31 := HL.out W2 B2.out
  have H4 := H34.out W2 B2.out
  go_upto_region 4 with (go_at_call 49; refine H4.mono ?_; rintro e w3 ⟨rfl, hf, hR⟩)
  have G4 : Hid (w3.heap[w.heap.size]? = some (.cells #[.int .u64 0, .int .u64 0, .int .i64 0] 72 (0, 0))) := hf _ _ (Nat.le_refl _) G2.out
  have G5 : Hid (w3.heap[bx]? = some (.cells #[.int .u64 n, .int .u64 d, .int .i64 t] 72 (0, 0))) := hf _ _ L1.out G3.out
  have L2 : Hid (w.heap.size < W2.heap.size) := (Array.getElem?_eq_some_iff.1 G2.out).1
  obtain ⟨c0, c1, c2⟩ := c3 G4.out
  obtain ⟨f0, f1, f2⟩ := f3 G4.out
  obtain ⟨d0, d1, d2⟩ := c3 G5.out
  clear k31 hf
  go_region
  all_goals go_wp2_with fail
  all_goals refine bodyPost_ret (v := .tuple #[.int .i64 x, ktup n d t, .int .i64 0]) (by rw [results_tct rfl]; go_simp; rfl) rfl ?_
  all_goals refine ⟨rfl, hR.out _ ?_⟩
  all_goals (have hS : (fun k => w.heap.size ≤ k ∧ k < W2.heap.size) w.heap.size := ⟨Nat.le_refl _, L2.out⟩)
  all_goals exact (((Kp.of_set (S := fun k => w.heap.size ≤ k ∧ k < W2.heap.size) w3 ⟨w.heap.size, 0, none⟩ _ hS).trans (Kp.of_set (S := fun k => w.heap.size ≤ k ∧ k < W2.heap.size) _ ⟨w.heap.size, 1, none⟩ _ hS) fun _ _ h => h).trans (Kp.of_set (S := fun k => w.heap.size ≤ k ∧ k < W2.heap.size) _ ⟨w.heap.size, 2, none⟩ _ hS) fun _ _ h => h).drew 1
/-- Pop of a heap that has entries -/
theorem pop_C (h : Hc w tg hb C g n S) (hn : n ≠ 0) (hb2 : n ≤ 2000) : ∃ (x : Nat) (k : K), C.min x k ∧ k.ok ∧ Calls Tryz.prog 27 #[ptr hb] w fun e w' => e = .returned (.tuple #[.int .i64 x, ktup k.n k.d k.t, .int .i64 0]) ∧ ∃ S' tg', Hc w' tg' hb (C.del x) g (n - 1) S' ∧ Chg (fun k => tg k ≠ .no) w w' tg tg' := by
  obtain ⟨m, h1, h2, h3, _⟩ := min_C h hn
  have hmin := h3
  refine ⟨S.hd m, S.ky m, h3, h.h.i.ok m h2, ?_⟩
  have hpm : ∃ d, S.pl m = some (.rt d) := by
    cases hp : S.pl m with
    | none => exact absurd hp (h.h.i.all m h2 (by simp))
    | some F =>
      cases F with
      | rt d => exact ⟨d, rfl⟩
      | kd p =>
        have q1 := h.h.i.ord m h2 p hp
        have q2 : p ∈ S.X := (h.h.i.lc.plc m h2 _ hp).1
        rcases (h.h.l.some m h1).2 p q2 with q3 | q3
        · rw [q3] at q1; exact absurd q1 (el_irr _ _)
        · exact absurd q3 (el_asymm q1)
  obtain ⟨d, hpm⟩ := hpm
  refine pop_raw w hb m (S.ky m).n (S.ky m).d (S.hd m) (S.ky m).t (fun w' => ∃ S' tg', Hc w' tg' hb (C.del (S.hd m)) g (n - 1) S' ∧ Chg (fun k => tg k ≠ .no) w w' tg tg') (fun w1 b1 => ?_) (fun w1 b1 => ?_) (fun w2 b2 => ?_)
  · obtain ⟨m', q1, q2, q3, q4⟩ := min_C (h.keep b1) hn
    rw [h1] at q1
    have e := Option.some.inj q1
    subst e
    exact q4
  · have : w1.cell? ⟨hb, 31, none⟩ = some (optp S.lst) := (h.keep b1).h.m.hp.cell 31 (by decide)
    rw [this, h1]
    rfl
  · have hk := h.keep b2
    have hs : S.X.length ≤ 2000 := by rw [h.n]; exact hb2
    refine (remove_S (h := hk.h) (hs := hs) (he := h2) (hm := h1) ?_).mono ?_
    · refine (cut_root hb m _ (hk.h.m.nd m h2) (by show optp (S.par m) = _; rw [(h.h.i.rt m h2 d hpm).2]; rfl)).mono ?_
      rintro q w3 ⟨rfl, rfl⟩
      exact ⟨rfl, S, tg, d, hk.h.m, h.h.i, Alike.refl S, hpm, Chg.refl _ _ _⟩
    · rintro q w3 ⟨rfl, S', tg', G⟩
      have hno : ∀ k, w.heap.size ≤ k → tg k = .no := fun k hk' => by
        by_cases q : tg k = .no
        · exact q
        · have := h.h.m.lt k q; omega
      refine ⟨rfl, fun g' o hg' ho => (G.c.kp.block g' (Array.getElem?_eq_some_iff.1 ho).1 fun q => q (hno g' hg')).trans ho, fun w4 k4 => ?_⟩
      -- the result's cell is none of the heap's blocks
      have hnT : ∀ k, w.heap.size ≤ k → k < w2.heap.size → tg' k = .no := fun k q1 q2 => (G.c.tg k q2).trans (hno k q1)
      have hkk : ∀ k, tg' k ≠ .no → w4.heap[k]? = w3.heap[k]? := fun k hk' => k4.block k (G.h.m.lt k hk') fun ⟨q1, q2⟩ => hk' (hnT k q1 q2)
      have M4 : Mem w4 tg' hb S' := ⟨G.h.m.hp.at (hkk hb (by rw [G.h.m.tp]; exact nofun)), fun b hb' => (G.h.m.nd b hb').at (hkk b (by rw [G.h.m.tn b hb']; exact nofun)), fun F hF => (G.h.m.fm F hF).keep fun g' hg' => hkk g' (by rw [G.h.m.tf F hF g' hg']; exact nofun), G.h.m.tp, G.h.m.tn, G.h.m.tf, fun k hk' => Nat.lt_of_lt_of_le (G.h.m.lt k hk') k4.size⟩
      have P4 : Mp w4 tg' S' := by
        have hp := G.h.p
        unfold Mp at *
        cases hmb : S'.mb with
        | none => rw [hmb] at hp; exact hp
        | some mp =>
          rw [hmb] at hp
          obtain ⟨M, hM⟩ := hp
          exact ⟨M, hM.t, keepMap hM.o (hkk mp (by rw [hM.t]; exact nofun)), hM.n, hM.a⟩
      refine ⟨S', tg', ⟨⟨M4, P4, G.h.i, G.h.l⟩, ?_, by rw [G.gv, h.g], ?_⟩, ?_⟩
      · funext x
        have mX : ∀ {c}, c ∈ S'.X ↔ c ∈ S.X ∧ c ≠ m := fun {c} => by rw [G.X, List.mem_filter]; simp
        refine cont_eq G.h.i.hu (fun k' q => ?_) (fun q c hc => ?_)
        · unfold Ct.del at q
          split at q
          · cases q
          · rename_i ex
            rw [← h.c] at q
            obtain ⟨c, k1, k2, k3⟩ := cont_some q
            exact ⟨c, mX.2 ⟨k1, fun q' => ex (by rw [← k2, q'])⟩, by rw [G.hd]; exact k2, by rw [G.ky]; exact k3⟩
        · obtain ⟨c1, c2⟩ := mX.1 hc
          rw [G.hd]
          unfold Ct.del at q
          split at q
          · rename_i ex
            rw [ex]
            exact fun q' => c2 (h.h.i.hu c c1 m h2 (by omega))
          · rw [← h.c] at q
            exact cont_none q c c1
      · have e1 : (S.X.filter (· ≠ m)).length + 1 = S.X.length := by
          have : S.X.filter (· ≠ m) = S.X.erase m := by
            rw [h.h.i.nd.erase_eq_filter]
            congr 1
            funext a
            by_cases q : a = m <;> simp [q]
          rw [this, List.length_erase_of_mem h2]
          have := List.length_pos_of_mem h2
          omega
        rw [G.X]
        have := h.n
        omega
      · have c2 : Chg (fun k => tg k ≠ .no) w w2 tg tg := Chg.below b2
        refine ⟨(c2.kp.trans G.c.kp fun _ _ q => q).trans k4 fun k hk' ⟨q1, _⟩ => by omega, fun k hk' => G.c.tg k (Nat.lt_of_lt_of_le hk' b2.size)⟩
end
end Go.Proofs.YtcgaekaollhmpaaGreat
