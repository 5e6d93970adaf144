/-
  What a crash leaves of a file.
-/
import Derived.Test.YtplcpjngpkghmaaNm
import Derived.Test.YtplcpjngpkghmaaOv
namespace Go.Proofs.Ytplcpjngpkghmaa
open Go.RowKit Go.Maps Go.WideMaps Go.Sort

theorem cell_set {w : World} {g i j : Nat} {v : Value} (u : Value) (h : w.cell? ⟨g, j, none⟩ = some v) (hij : i ≠ j) : (w.setCell ⟨g, i, none⟩ u).cell? ⟨g, j, none⟩ = some v := by
  rw [World.cell?_setCell_other _ _ _ _ (fun e => hij (by simpa using congrArg Addr.off e))]
  exact h

set_option maxHeartbeats 400000 in
theorem cut_some (w : World) (fb g k c sy n m : Nat) (h : Hid (w.heap[fb]? = some (.cells #[.slice (some ⟨g, 0, none⟩) k c, .int .i64 sy] 84 (0, 0)))) (hn : n ≤ k) (hk : k ≤ c) (_hc : c ≤ 9223372036854775807) (hm : Hid (m = min sy n)) :
    Calls Try.prog 56 #[.pointer (some ⟨fb, 0, none⟩), .int .i64 n] w fun e w' => e = .returned (.tuple #[]) ∧ w' = (w.setCell ⟨fb, 0, none⟩ (.slice (some ⟨g, 0, none⟩) n c)).setCell ⟨fb, 1, none⟩ (.int .i64 m) := by
  obtain ⟨e0, e1⟩ := c2 h.out
  have f0 := fz h.out 0
  have h1 := setB (i := 0) h.out (.slice (some ⟨g, 0, none⟩) n c)
  have e1' := (c2 h1).2
  have f1 := fz h1 1
  clear h1
  go_enter Try.func56, Try.ntmps56
  go_wp2_with fail
  go_end0
  have hm' : (m : Int) = min (sy : Int) (n : Int) := by have := hm.out; omega
  rw [hm']
  exact ⟨rfl, rfl⟩
set_option maxHeartbeats 400000 in
theorem cut_none (w : World) (fb sy : Nat) (h : Hid (w.heap[fb]? = some (.cells #[.slice none 0 0, .int .i64 sy] 84 (0, 0)))) :
    Calls Try.prog 56 #[.pointer (some ⟨fb, 0, none⟩), .int .i64 0] w fun e w' => e = .returned (.tuple #[]) ∧ w' = (w.setCell ⟨fb, 0, none⟩ (.slice none 0 0)).setCell ⟨fb, 1, none⟩ (.int .i64 0) := by
  obtain ⟨e0, e1⟩ := c2 h.out
  have f0 := fz h.out 0
  have h1 := setB (i := 0) h.out (.slice none 0 0)
  have e1' := (c2 h1).2
  have f1 := fz h1 1
  clear h1
  go_enter Try.func56, Try.ntmps56
  go_wp2_with fail
  go_end0
  have hm' : min (sy : Int) 0 = 0 := by omega
  rw [hm']
  exact ⟨rfl, rfl⟩

set_option maxRecDepth 100000 in
theorem xor255 (y : UInt8) : bits .xor .u8 (y.toNat : Int) 255 = 255 - (y.toNat : Int) := by
  have h : ∀ n : Fin 256, bits .xor .u8 (n.val : Int) 255 = 255 - (n.val : Int) := by decide
  exact h ⟨y.toNat, y.toNat_lt⟩
theorem kept_eq (x : UInt8) (u kp : Nat) (h : kp = x.toNat % (u + 1)) : (wrap64 (x.toNat : Int)).tmod ((u : Int) + 1) = (kp : Int) := by
  have hx := x.toNat_lt
  have hw : wrap64 (x.toNat : Int) = (x.toNat : Int) := by unfold wrap64; omega
  rw [hw, h]
  rw [Int.tmod_eq_emod_of_nonneg (by omega), Int.natCast_emod]
  rfl
theorem cut_at (w : World) (fb g k c sy kp : Nat) (h : w.heap[fb]? = some (.cells #[.slice (some ⟨g, 0, none⟩) k c, .int .i64 sy] 84 (0, 0))) (hn : sy + kp ≤ k) (hk : k ≤ c) (hc : c ≤ 9223372036854775807) :
    Calls Try.prog 56 #[.pointer (some ⟨fb, 0, none⟩), .int .i64 ((sy : Int) + (kp : Int))] w fun e w' => e = .returned (.tuple #[]) ∧ w'.heap[fb]? = some (.cells #[.slice (some ⟨g, 0, none⟩) (sy + kp) c, .int .i64 sy] 84 (0, 0)) ∧ Kp (· = fb) w w' := by
  rw [← Int.natCast_add]
  refine (cut_some w fb g k c sy (sy + kp) sy h hn hk hc (by unfold Hid; omega)).mono ?_
  rintro e w' ⟨rfl, rfl⟩
  exact ⟨rfl, setB (i := 1) (setB (i := 0) h _) _, (Kp.of_set (S := (· = fb)) w ⟨fb, 0, none⟩ _ rfl).trans (Kp.of_set (S := (· = fb)) _ ⟨fb, 1, none⟩ _ rfl) fun _ _ h => h⟩

set_option maxHeartbeats 1000000 in
set_option maxRecDepth 100000 in
theorem crash_keep (w : World) (fb g k c sy kp : Nat) (x : UInt8) (h : Hid (w.heap[fb]? = some (.cells #[.slice (some ⟨g, 0, none⟩) k c, .int .i64 sy] 84 (0, 0)))) (hs : sy ≤ k) (hk : k ≤ c) (hb : k ≤ 1048576) (hc : c ≤ 9223372036854775807) (hkp : Hid (kp = x.toNat % (k - sy + 1))) (hx : (x.toNat : Int) < 128 ∨ kp = 0) :
    Calls Try.prog 35 #[.pointer (some ⟨fb, 0, none⟩), .int .u8 x.toNat] w fun e w' => e = .returned (.tuple #[]) ∧ w'.heap[fb]? = some (.cells #[.slice (some ⟨g, 0, none⟩) (sy + kp) c, .int .i64 ((sy : Int) + (kp : Int))] 84 (0, 0)) ∧ Kp (· = fb) w w' := by
  have H41 : Hid (Calls Try.prog 33 #[.pointer (some ⟨fb, 0, none⟩)] w fun e w' => e = .returned (.int .i64 ((k - sy : Nat) : Int)) ∧ Below w.heap.size w w') := unsynced_at w fb _ k c sy hb hs h
  have hkl : kp ≤ k - sy := by have h1 := hkp.out; have := Nat.mod_lt x.toNat (show 0 < k - sy + 1 by omega); omega
  have hK := kept_eq x (k - sy) kp hkp.out
  have H50 : Hid (∀ V : World, V.heap[fb]? = some (.cells #[.slice (some ⟨g, 0, none⟩) k c, .int .i64 sy] 84 (0, 0)) → Calls Try.prog 56 #[.pointer (some ⟨fb, 0, none⟩), .int .i64 ((sy : Int) + (kp : Int))] V fun e w' => e = .returned (.tuple #[]) ∧ w'.heap[fb]? = some (.cells #[.slice (some ⟨g, 0, none⟩) (sy + kp) c, .int .i64 sy] 84 (0, 0)) ∧ Kp (· = fb) V w') := fun V hV => cut_at V fb g k c sy kp hV (by omega) hk hc
  generalize hu : k - sy = u at *
  go_enter Try.func35, Try.ntmps35
  go_upto_region 1 with (go_at_call 33; refine H41.out.mono ?_; rintro e w1 ⟨rfl, b1⟩)
  have C1 := at_below b1 (Nat.le_refl _) h.out
  obtain ⟨e0, e1⟩ := c2 C1
  have K1 : Hid (Kp (· = fb) w w1) := Kp.of_below b1
  have HC1 : Hid _ := C1
  clear C1 b1 hK
  go_wp2_with (go_at_call 56; refine (H50.out _ HC1.out).mono ?_)
  rintro e w2 ⟨rfl, C2, k2⟩
  clear e0 e1
  obtain ⟨e0, e1⟩ := c2 C2
  have f1 := fz C2 1
  have C3 := setB (i := 1) C2 (.int .i64 ((sy : Int) + (kp : Int)))
  have P : Hid _ := And.intro C3 ((K1.out.trans k2 fun _ _ h => h).trans (Kp.of_set (S := (· = fb)) w2 ⟨fb, 1, none⟩ (.int .i64 ((sy : Int) + (kp : Int))) rfl) fun _ _ h => h)
  clear C2 C3 k2
  by_cases h1 : (128 : Int) ≤ (x.toNat : Int)
  · have kp0 : ¬ (0 : Int) < (kp : Int) := by omega
    go_wp2_with fail
    go_end0
    exact ⟨rfl, P.out.1, P.out.2⟩
  · go_wp2_with fail
    go_end0
    exact ⟨rfl, P.out.1, P.out.2⟩

set_option maxHeartbeats 1000000 in
set_option maxRecDepth 100000 in
theorem crash_flip (w : World) (fb g k c sy kp i : Nat) (x y : UInt8) (cur : Array Value) (h : Hid (w.heap[fb]? = some (.cells #[.slice (some ⟨g, 0, none⟩) k c, .int .i64 sy] 84 (0, 0)))) (hg : Hid (w.heap[g]? = some (.cells cur 5 (0, 0)))) (hne : Hid (g ≠ fb)) (hy : Hid (cur[i]? = some (.int .u8 y.toNat))) (hs : sy ≤ k) (hk : k ≤ c) (hb : k ≤ 1048576) (hc : c ≤ 9223372036854775807) (hkp : Hid (kp = x.toNat % (k - sy + 1))) (hx : 128 ≤ (x.toNat : Int)) (hx0 : 0 < (kp : Int)) (hi : Hid (sy + kp = i + 1)) (hil : i < 1048576) :
    Calls Try.prog 35 #[.pointer (some ⟨fb, 0, none⟩), .int .u8 x.toNat] w fun e w' => e = .returned (.tuple #[]) ∧ w'.heap[fb]? = some (.cells #[.slice (some ⟨g, 0, none⟩) (i + 1) c, .int .i64 ((i : Int) + 1)] 84 (0, 0)) ∧ (∃ z : Int, w'.heap[g]? = some (.cells (cur.setIfInBounds i (.int .u8 z)) 5 (0, 0)) ∧ z = 255 - (y.toNat : Int)) ∧ Kp (fun k => k = fb ∨ k = g) w w' := by
  have H41 : Hid (Calls Try.prog 33 #[.pointer (some ⟨fb, 0, none⟩)] w fun e w' => e = .returned (.int .i64 ((k - sy : Nat) : Int)) ∧ Below w.heap.size w w') := unsynced_at w fb _ k c sy hb hs h
  have hkl : kp ≤ k - sy := by have h1 := hkp.out; have := Nat.mod_lt x.toNat (show 0 < k - sy + 1 by omega); omega
  have hK := kept_eq x (k - sy) kp hkp.out
  have H50 : Hid (∀ V : World, V.heap[fb]? = some (.cells #[.slice (some ⟨g, 0, none⟩) k c, .int .i64 sy] 84 (0, 0)) → Calls Try.prog 56 #[.pointer (some ⟨fb, 0, none⟩), .int .i64 ((sy : Int) + (kp : Int))] V fun e w' => e = .returned (.tuple #[]) ∧ w'.heap[fb]? = some (.cells #[.slice (some ⟨g, 0, none⟩) (sy + kp) c, .int .i64 sy] 84 (0, 0)) ∧ Kp (· = fb) V w') := fun V hV => cut_at V fb g k c sy kp hV (by omega) hk hc
  generalize hu : k - sy = u at *
  go_enter Try.func35, Try.ntmps35
  go_upto_region 1 with (go_at_call 33; refine H41.out.mono ?_; rintro e w1 ⟨rfl, b1⟩)
  have C1 := at_below b1 (Nat.le_refl _) h.out
  obtain ⟨e0, e1⟩ := c2 C1
  have K1 : Hid (Kp (· = fb) w w1) := Kp.of_below b1
  have HC1 : Hid _ := C1
  clear C1 b1 hK
  go_wp2_with (go_at_call 56; refine (H50.out _ HC1.out).mono ?_)
  rintro e w2 ⟨rfl, C2, k2⟩
  clear e0 e1
  rw [hi.out] at C2
  have K2 : Hid (Kp (· = fb) w w2) := K1.out.trans k2 fun _ _ h => h
  have G2 : w2.heap[g]? = some (.cells cur 5 (0, 0)) := (K2.out.block g (Array.getElem?_eq_some_iff.1 hg.out).1 hne.out).trans hg.out
  obtain ⟨e0, e1⟩ := c2 C2
  have er : w2.cell? ⟨g, i, none⟩ = some (.int .u8 y.toNat) := by simp only [World.cell?, G2]; simpa using hy.out
  have fr := fz G2 i
  have HC2 : Hid _ := C2
  have HG2 : Hid _ := G2
  clear C2 G2 k2
  go_wp2_with fail
  go_region
  have C4 : Hid ((w2.setCell ⟨g, i, none⟩ (.int .u8 (bits .xor .u8 (y.toNat : Int) 255))).drew.heap[fb]? = some (.cells #[.slice (some ⟨g, 0, none⟩) (i + 1) c, .int .i64 sy] 84 (0, 0))) := (Below.heap_setCell _ _ _ _ (fun e => hne.out (by simpa using e.symm))).trans HC2.out
  have G4 : Hid ((w2.setCell ⟨g, i, none⟩ (.int .u8 (bits .xor .u8 (y.toNat : Int) 255))).drew.heap[g]? = some (.cells (cur.setIfInBounds i (.int .u8 (bits .xor .u8 (y.toNat : Int) 255))) 5 (0, 0))) := setB HG2.out _
  have K4 : Hid (Kp (fun k => k = fb ∨ k = g) w (w2.setCell ⟨g, i, none⟩ (.int .u8 (bits .xor .u8 (y.toNat : Int) 255))).drew) := by
    have := (K2.out.mono (S' := fun k => k = fb ∨ k = g) fun k _ e => .inl e).trans (Kp.of_set (S := fun k => k = fb ∨ k = g) w2 ⟨g, i, none⟩ (.int .u8 (bits .xor .u8 (y.toNat : Int) 255)) (.inr rfl)) fun _ _ h => h
    exact ⟨this.os, this.tape, this.output, this.size, this.block⟩
  have e255 : Hid (bits .xor .u8 (y.toNat : Int) 255 = 255 - (y.toNat : Int)) := xor255 y
  clear e0 e1 er fr
  generalize (w2.setCell ⟨g, i, none⟩ (.int .u8 (bits .xor .u8 (y.toNat : Int) 255))).drew = W at *
  obtain ⟨e0, e1⟩ := c2 C4.out
  have f1 := fz C4.out 1
  have C5 : Hid ((W.setCell ⟨fb, 1, none⟩ (.int .i64 ((i : Int) + 1))).heap[fb]? = some (.cells #[.slice (some ⟨g, 0, none⟩) (i + 1) c, .int .i64 ((i : Int) + 1)] 84 (0, 0))) := setB C4.out _
  have G5 : Hid ((W.setCell ⟨fb, 1, none⟩ (.int .i64 ((i : Int) + 1))).heap[g]? = some (.cells (cur.setIfInBounds i (.int .u8 (bits .xor .u8 (y.toNat : Int) 255))) 5 (0, 0))) := (Below.heap_setCell _ _ _ _ (fun e => hne.out (by simpa using e))).trans G4.out
  go_wp2_with fail
  go_end0
  exact ⟨rfl, C5.out, ⟨_, G5.out, e255.out⟩, K4.out.trans (Kp.of_set (S := fun k => k = fb ∨ k = g) W ⟨fb, 1, none⟩ _ (.inl rfl)) fun _ _ h => h⟩

def crashB (b : List UInt8) (sy : Nat) (x : UInt8) : List UInt8 :=
  if 128 ≤ x.toNat ∧ 0 < x.toNat % (b.length - sy + 1) then (b.take (sy + x.toNat % (b.length - sy + 1))).set (sy + x.toNat % (b.length - sy + 1) - 1) (255 - b.getD (sy + x.toNat % (b.length - sy + 1) - 1) 0)
  else b.take (sy + x.toNat % (b.length - sy + 1))
theorem kp_le (b : List UInt8) (sy : Nat) (x : UInt8) (h : sy ≤ b.length) : sy + x.toNat % (b.length - sy + 1) ≤ b.length := by
  have := Nat.mod_lt x.toNat (show 0 < b.length - sy + 1 by omega)
  omega
theorem crashB_length (b : List UInt8) (sy : Nat) (x : UInt8) (h : sy ≤ b.length) : (crashB b sy x).length = sy + x.toNat % (b.length - sy + 1) := by
  have := kp_le b sy x h
  unfold crashB
  split
  · rw [List.length_set, List.length_take]; omega
  · rw [List.length_take]; omega

theorem Own.take {w : World} {B g n c n' : Nat} {l : List UInt8} (h : Own w B (.slice (some ⟨g, 0, none⟩) n c) l) (hn : n' ≤ l.length) : Own w B (.slice (some ⟨g, 0, none⟩) n' c) (l.take n') := by
  have hl : (l.take n').length = n' := by rw [List.length_take]; omega
  refine ⟨by rw [bv_length, Nat.mul_one], ?_⟩
  rcases h.2 with ⟨e, _⟩ | ⟨g', cap, cur, e, hb, hgg, h1, h2, h3, h4⟩
  · cases e
  · cases e
    refine .inr ⟨g, c, cur, by rw [hl], hb, hgg, by omega, h2, h3, ?_⟩
    rw [hl, Nat.mul_one]
    rw [Nat.mul_one] at h4
    unfold bv at h4 ⊢
    rw [List.map_take, ← h4, List.take_take]
    congr 1
    omega
theorem Own.flip {w w' : World} {g n c i : Nat} {l : List UInt8} {y : UInt8} {cur : Array Value} (h : Own w 0 (.slice (some ⟨g, 0, none⟩) n c) l) (hc : w.heap[g]? = some (.cells cur 5 (0, 0))) (hg : w'.heap[g]? = some (.cells (cur.setIfInBounds i (.int .u8 y.toNat)) 5 (0, 0))) (hi : i < l.length) : Own w' 0 (.slice (some ⟨g, 0, none⟩) (i + 1) c) ((l.take (i + 1)).set i y) := by
  have hl : ((l.take (i + 1)).set i y).length = i + 1 := by rw [List.length_set, List.length_take]; omega
  refine ⟨by rw [bv_length, Nat.mul_one], ?_⟩
  rcases h.2 with ⟨e, _⟩ | ⟨g', cap, cur', e, hb, hgg, h1, h2, h3, h4⟩
  · cases e
  · cases e
    rw [hc] at hgg
    cases hgg
    refine .inr ⟨g, c, cur.setIfInBounds i (.int .u8 y.toNat), by rw [hl], Nat.zero_le _, hg, by omega, h2, by rw [Array.size_setIfInBounds]; exact h3, ?_⟩
    rw [hl, Nat.mul_one, Array.toList_setIfInBounds, List.take_set]
    rw [Nat.mul_one] at h4
    unfold bv at h4 ⊢
    rw [List.map_set, List.map_take, ← h4, List.take_take]
    congr 2
    omega

theorem DkAt.crashed {w w' : World} {tg : Nat → Tg} {pb : Nat} {D : DK} {mb : Option Nat} {l : List Fl} {z : Int} {f : Fl} {n b' : List UInt8} {g c t : Nat} (h : DkAt w tg pb D mb l z) (hf : fnd Fl.nm n l = some f) (hg : f.v.ownBlock = some g) (ht : b'.length = t) (hl : t ≤ 1048576)
    (hc : w'.heap[f.fb]? = some (.cells #[.slice (some ⟨g, 0, none⟩) t c, .int .i64 t] 84 (0, 0))) (ho : Own w' 0 (.slice (some ⟨g, 0, none⟩) t c) b') (hk : Kp (fun k => k = f.fb ∨ k = g) w w') :
    DkAt w' tg pb ⟨upd Fil.nm n ⟨n, b', b'.length⟩ D.fs, D.down, D.fuse⟩ mb (upd Fl.nm n ⟨n, b', b'.length, f.fb, .slice (some ⟨g, 0, none⟩) t c⟩ l) z ∧ Step tg tg w w' := by
  obtain ⟨hfl, hfn⟩ := fnd_some hf
  have hF := h.fl f hfl
  have hk' : Kp (fun k => tg k = .fl n ∨ tg k = .rw n) w w' := hk.mono fun k _ e => by
    rcases e with rfl | rfl
    · exact .inl (by rw [hF.tb, hfn])
    · exact .inr (by rw [hF.tr _ hg, hfn])
  refine ⟨?_, hk'.mono fun k _ e => by rcases e with e | e <;> rw [e] <;> exact nofun, fun _ h => .inl h⟩
  have := h.updated (f' := ⟨n, b', b'.length, f.fb, .slice (some ⟨g, 0, none⟩) t c⟩) hf rfl rfl hk' (fun k _ e => e) (fun _ _ => rfl) (fun k hk1 => Nat.lt_of_lt_of_le (h.lt k hk1) hk.size)
    ⟨by rw [ht]; exact hc, ho, by rw [hF.tb, hfn], fun g' hg' => by cases hg'; rw [hF.tr g hg, hfn], Nat.le_refl _, by show b'.length ≤ _; omega⟩
  rw [map_upd Fl.s_nm, ← h.fs] at this
  exact this

/-- what a crash leaves of a file with bytes that aren't synced -/
theorem crash_any {w : World} {tg : Nat → Tg} {pb : Nat} {D : DK} {mb : Option Nat} {l : List Fl} {z : Int} {f : Fl} {n : List UInt8} (h : DkAt w tg pb D mb l z) (hf : fnd Fl.nm n l = some f) (hs : f.sy < f.b.length) (x : UInt8) :
    Calls Try.prog 35 #[.pointer (some ⟨f.fb, 0, none⟩), .int .u8 x.toNat] w fun e w' => e = .returned (.tuple #[]) ∧ ∃ v, DkAt w' tg pb ⟨upd Fil.nm n ⟨n, crashB f.b f.sy x, (crashB f.b f.sy x).length⟩ D.fs, D.down, D.fuse⟩ mb (upd Fl.nm n ⟨n, crashB f.b f.sy x, (crashB f.b f.sy x).length, f.fb, v⟩ l) z ∧ Step tg tg w w' := by
  obtain ⟨hfl, hfn⟩ := fnd_some hf
  have hF := h.fl f hfl
  have hne : f.v.ownBlock ≠ some f.fb := fun e => by have := hF.tr _ e; rw [hF.tb] at this; cases this
  have hown := hF.own
  obtain ⟨_, cc, hv, hcc⟩ : ∃ (g c : Nat), f.v = .slice (some ⟨g, 0, none⟩) f.b.length c ∧ (∃ cur, w.heap[g]? = some (.cells cur 5 (0, 0)) ∧ f.b.length ≤ c ∧ c ≤ maxLen ∧ cur.toList.take (f.b.length * 1) = bv f.b) := by
    rcases hown.2 with ⟨_, h0⟩ | ⟨g, cap, cur, e, hb, hgg, h1, h2, h3, h4⟩
    · omega
    · exact ⟨g, cap, e, cur, hgg, h1, h2, h4⟩
  rename_i g
  obtain ⟨cur, hgg, hcap, hmax, hcur⟩ := hcc
  have hob : f.v.ownBlock = some g := by rw [hv]; rfl
  have hgne : g ≠ f.fb := fun e => hne (by rw [hob, e])
  have hcell := hF.cell
  rw [hv] at hcell
  have hown' := hown
  rw [hv] at hown'
  have hkle := kp_le f.b f.sy x hF.hs
  have hlen := crashB_length f.b f.sy x hF.hs
  have hbl := hF.hl
  by_cases hfl' : 128 ≤ x.toNat ∧ 0 < x.toNat % (f.b.length - f.sy + 1)
  · obtain ⟨i, hi⟩ : ∃ i, f.sy + x.toNat % (f.b.length - f.sy + 1) = i + 1 := ⟨f.sy + x.toNat % (f.b.length - f.sy + 1) - 1, by omega⟩
    obtain ⟨y, hy⟩ : ∃ y, f.b[i]? = some y := ⟨f.b[i]'(by omega), List.getElem?_eq_getElem _⟩
    have hcy : cur[i]? = some (.int .u8 y.toNat) := by
      have h1 := bv_get hy
      rw [← hcur, List.getElem?_take] at h1
      rw [if_pos (by omega)] at h1
      simpa using h1
    have hB : crashB f.b f.sy x = (f.b.take (i + 1)).set i (255 - y) := by
      unfold crashB
      rw [if_pos hfl', hi, Nat.add_sub_cancel]
      congr 2
      rw [List.getD_eq_getElem?_getD, hy]
      rfl
    refine (crash_flip w f.fb g f.b.length cc f.sy _ i x y cur hcell hgg hgne hcy hF.hs hcap hbl (by unfold maxLen at hmax; omega) rfl (by omega) (by omega) hi (by omega)).mono ?_
    rintro e w' ⟨rfl, h1, ⟨zz, h2, hz⟩, hk⟩
    refine ⟨rfl, .slice (some ⟨g, 0, none⟩) (i + 1) cc, ?_⟩
    rw [hi] at hlen
    refine h.crashed hf hob hlen (by omega) h1 ?_ hk
    rw [hB]
    rw [hz, inv_byte y] at h2
    exact hown'.flip hgg h2 (by omega)
  · have hB : crashB f.b f.sy x = f.b.take (f.sy + x.toNat % (f.b.length - f.sy + 1)) := by unfold crashB; rw [if_neg hfl']
    refine (crash_keep w f.fb g f.b.length cc f.sy _ x hcell hF.hs hcap hbl (by unfold maxLen at hmax; omega) rfl (by omega)).mono ?_
    rintro e w' ⟨rfl, h1, hk⟩
    refine ⟨rfl, .slice (some ⟨g, 0, none⟩) (f.sy + x.toNat % (f.b.length - f.sy + 1)) cc, ?_⟩
    refine h.crashed hf hob hlen (by omega) ?_ ?_ (hk.mono fun k _ e => .inl e)
    · rw [h1, Int.natCast_add]
    · rw [hB]
      exact (hown'.take hkle).keepAt fun g' hg' => by cases hg'; exact hk.block g (Array.getElem?_eq_some_iff.1 hgg).1 hgne
end Go.Proofs.Ytplcpjngpkghmaa
