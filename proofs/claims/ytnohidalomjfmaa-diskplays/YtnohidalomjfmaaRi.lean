/-
  The document's disk: Restart.
-/
import Derived.Test.YtnohidalomjfmaaRh
import Derived.Test.YtnohidalomjfmaaRt
namespace Go.Proofs.Ytnohidalomjfmaa
open Go.RowKit Go.Maps

theorem RAt.rebyte2 {w w2 : World} {tg : Nat → Tg} {pb : Nat} {D : DK} {g n c : Nat} {l : List RF} {z : Int} {k : Nat} {f : RF} {b : List UInt8} {q : Option Addr} {kk cc : Nat} (h : RAt w tg pb D (.slice (some ⟨g, 0, none⟩) n c) l z) (hf : l[k]? = some f)
    (ho : Own w2 w.heap.size (.slice q kk cc) b) (hb : Below w.heap.size w w2) (hl : b.length ≤ 1048576) :
    RAt ((w2.setCell ⟨g, k * 3 + 1, none⟩ (.slice q kk cc)).setCell ⟨g, k * 3 + 2, none⟩ (.int .i64 kk)) (tgB tg (.slice q kk cc)) pb ⟨upd Fil.nm f.nm ⟨f.nm, b, b.length⟩ D.fs, D.down, D.fuse⟩ (.slice (some ⟨g, 0, none⟩) n c) (l.set k ⟨f.nm, b, b.length, q, cc⟩) z ∧ Step tg (tgB tg (.slice q kk cc)) w ((w2.setCell ⟨g, k * 3 + 1, none⟩ (.slice q kk cc)).setCell ⟨g, k * 3 + 2, none⟩ (.int .i64 kk)) := by
  obtain ⟨hL, hq, rfl⟩ := own_parts ho
  obtain ⟨hc1, hc2⟩ := ho.cap
  have hlt := World.ownsRow.lt ho
  have hg : g < w.heap.size := h.lt g (by rw [h.tm g rfl]; exact nofun)
  have h2 := h.keepB hb
  have ho1 := owns_set (owns_set h2.own (g := g) rfl (k * 3 + 1) (.slice q b.length cc)) (g := g) rfl (k * 3 + 2) (.int .i64 b.length)
  have e := flat_both (f := f) (f' := ⟨f.nm, b, b.length, q, cc⟩) rfl hf
  unfold RF.v at e
  simp only at e
  rw [← e] at ho1
  have hk : Kp (fun j => tg j = .mp) w ((w2.setCell ⟨g, k * 3 + 1, none⟩ (.slice q b.length cc)).setCell ⟨g, k * 3 + 2, none⟩ (.int .i64 b.length)) := ((Kp.of_below (S := fun j => tg j = .mp) hb).trans (Kp.of_set (S := fun j => tg j = .mp) _ ⟨g, k * 3 + 1, none⟩ (.slice q b.length cc) (h.tm g rfl)) fun _ _ e => e).trans (Kp.of_set (S := fun j => tg j = .mp) _ ⟨g, k * 3 + 2, none⟩ (.int .i64 b.length) (h.tm g rfl)) fun _ _ e => e
  refine h.recell (f' := ⟨f.nm, b, b.length, q, cc⟩) hf rfl ho1 hk ?_ ?_ ?_
  · intro j hj
    unfold tgB
    split
    · rename_i e
      have := (hlt j e).1
      have := h.lt j hj
      omega
    · rfl
  · intro j hj
    unfold tgB at hj
    split at hj
    · rename_i e
      right
      have h1 := hlt j e
      exact ⟨h1.1, by simpa [World.setCell] using h1.2⟩
    · exact .inl hj
  · refine ⟨?_, hq, Nat.le_refl _, hl, hc1, hc2⟩
    rcases hL with h0 | ⟨g', o', rfl, hr⟩
    · exact .inl h0
    · have h1 := (hlt g' rfl).1
      refine .inr ⟨g', o', rfl, hr.keepAt ((Below.heap_setCell _ _ _ _ (by simp only [ne_eq]; omega)).trans (Below.heap_setCell _ _ _ _ (by simp only [ne_eq]; omega))), ?_⟩
      exact if_pos rfl

theorem lies_tk {w : World} {q : Option Addr} {l : List UInt8} (h : Lies w q l) (t : Nat) : Lies w q (l.take t) := by
  rcases h with rfl | ⟨g, o, e, h⟩
  · exact .inl (by simp)
  · refine .inr ⟨g, o, e, fun k x hx => h k x ?_⟩
    rw [List.getElem?_take] at hx
    split at hx
    · exact hx
    · cases hx
theorem rst_skip {f : Fil} {r : List Fil} {ch : List UInt8} (h : ¬ f.sy < f.b.length) : rst (f :: r) ch = f :: rst r ch := by rw [rst, if_neg h]
theorem rst_take {f : Fil} {r : List Fil} {ch : List UInt8} (h : f.sy < f.b.length) : rst (f :: r) ch = ⟨f.nm, crashB f.b f.sy (ch.headD 0), (crashB f.b f.sy (ch.headD 0)).length⟩ :: rst r ch.tail := by rw [rst, if_pos h]
/-- in the loop -/
structure RsI (w : World) (tg : Nat → Tg) (pb g n c : Nat) (l : List RF) (ch : List UInt8) (k u : Nat) (tg' : Nat → Tg) (L : List RF) (wr : World) : Prop where
  at_ : RAt wr tg' pb ⟨L.map RF.s, false, none⟩ (.slice (some ⟨g, 0, none⟩) n c) L (-1)
  st : Step tg tg' w wr
  len : L.length = n
  eq : rst (l.map RF.s) ch = (L.take k).map RF.s ++ rst ((L.drop k).map RF.s) (ch.drop u)
  hu : u ≤ k
theorem RsI.skip {w wr : World} {tg tg' : Nat → Tg} {pb g n c : Nat} {l L : List RF} {ch : List UInt8} {k u : Nat} {f : RF} (h : RsI w tg pb g n c l ch k u tg' L wr) (hf : L[k]? = some f) (hs : ¬ f.sy < f.b.length) (o : Obj) : RsI w tg pb g n c l ch (k + 1) u tg' L (wr.alloc o) := by
  have b : Below wr.heap.size wr (wr.alloc o) := (Below.refl _ wr).alloc (Nat.le_refl _) _
  refine ⟨h.at_.keepB b, h.st.trans (Step.of_below _ b), h.len, ?_, by have := h.hu; omega⟩
  obtain ⟨hk, rfl⟩ := List.getElem?_eq_some_iff.1 hf
  rw [h.eq, List.drop_eq_getElem_cons hk, List.take_succ_eq_append_getElem hk, List.map_append, List.append_assoc]
  congr 1
  show rst (L[k].s :: _) _ = [L[k].s] ++ _
  rw [rst_skip (show ¬ L[k].s.sy < L[k].s.b.length from hs)]
  rfl
theorem RsI.done {w wr w2 : World} {tg tg' : Nat → Tg} {pb g n c : Nat} {l L : List RF} {ch : List UInt8} {k u : Nat} {f : RF} {q : Option Addr} {kk cc : Nat} {o : Obj} (h : RsI w tg pb g n c l ch k u tg' L wr) (hf : L[k]? = some f) (hs : f.sy < f.b.length)
    (ho : Own w2 (wr.heap.size + 1) (.slice q kk cc) (crashB f.b f.sy ((ch.drop u).headD 0))) (hb : Below (wr.heap.size + 1) (wr.alloc o) w2) :
    ∃ tg2 L2, RsI w tg pb g n c l ch (k + 1) (u + 1) tg2 L2 ((w2.setCell ⟨g, k * 3 + 1, none⟩ (.slice q kk cc)).setCell ⟨g, k * 3 + 2, none⟩ (.int .i64 kk)) := by
  have hsz : (wr.alloc o).heap.size = wr.heap.size + 1 := by simp
  rw [← hsz] at ho hb
  have b : Below wr.heap.size wr (wr.alloc o) := (Below.refl _ wr).alloc (Nat.le_refl _) _
  have hF := h.at_.fl f (List.mem_of_getElem? hf)
  have hlen := crashB_length f.b f.sy ((ch.drop u).headD 0) hF.hs
  have hle := kp_le f.b f.sy ((ch.drop u).headD 0) hF.hs
  obtain ⟨r, st⟩ := (h.at_.keepB b).rebyte2 hf ho hb (by have := hF.hl; omega)
  obtain ⟨hk, rfl⟩ := List.getElem?_eq_some_iff.1 hf
  refine ⟨tgB tg' (.slice q kk cc), L.set k ⟨L[k].nm, crashB L[k].b L[k].sy ((ch.drop u).headD 0), (crashB L[k].b L[k].sy ((ch.drop u).headD 0)).length, q, cc⟩, ⟨?_, h.st.trans ((Step.of_below _ b).trans st), by rw [List.length_set]; exact h.len, ?_, by have := h.hu; omega⟩⟩
  · have e := r.fs
    simp only at e r
    rw [e] at r
    exact r
  · rw [h.eq, List.drop_eq_getElem_cons hk, List.take_succ_eq_append_getElem (by rw [List.length_set]; exact hk), List.getElem_set_self, List.map_append, List.append_assoc, List.take_set_of_le (Nat.le_refl _), List.drop_set_of_lt (by omega)]
    congr 1
    show rst (L[k].s :: _) _ = [_] ++ _
    rw [rst_take (show L[k].s.sy < L[k].s.b.length from hs), List.tail_drop]
    rfl

theorem rs_arith (bl sy c : Nat) (x : UInt8) (hs : sy < bl) (hc : bl ≤ c) : ∃ kp, kp = x.toNat % (bl - sy + 1) ∧ sy + kp ≤ bl ∧ (x.toNat : Int).tmod ((bl : Int) - (sy : Int) + 1) = (kp : Int) ∧ (wrap64 (x.toNat : Int)).tmod ((bl : Int) - (sy : Int) + 1) = (kp : Int) ∧ ((bl : Int) - (sy : Int) == 0) = false ∧ (sy : Int) + (kp : Int) ≤ (c : Int) ∧ ((bl : Int) - (sy : Int) + 1 == 0) = false := by
  have hx := x.toNat_lt
  have hk := Nat.mod_lt x.toNat (show 0 < bl - sy + 1 by omega)
  have e1 : (x.toNat : Int).tmod ((bl : Int) - (sy : Int) + 1) = ((x.toNat % (bl - sy + 1) : Nat) : Int) := by
    rw [show ((bl : Int) - (sy : Int) + 1) = ((bl - sy + 1 : Nat) : Int) by omega]
    rfl
  refine ⟨x.toNat % (bl - sy + 1), rfl, by omega, e1, ?_, by simp; omega, by omega, by simp; omega⟩
  rw [show wrap64 (x.toNat : Int) = (x.toNat : Int) by unfold wrap64; omega]
  exact e1
theorem meas (n k : Nat) (h : k < n) : n - (intOf (.int .i64 ((k : Int) + 1))).toNat < n - (intOf (.int .i64 (k : Int))).toNat := by
  simp [intOf]; omega
theorem w64 (x : UInt8) : wrap64 (x.toNat : Int) = (x.toNat : Int) := by
  have := x.toNat_lt
  unfold wrap64
  omega
theorem take_len {b : List UInt8} {n : Nat} (h : n ≤ b.length) : (b.take n).length = n := by rw [List.length_take]; omega
set_option maxHeartbeats 2000000 in
set_option maxRecDepth 100000 in
theorem rrst_loop {w : World} {tg : Nat → Tg} {pb g n c : Nat} {l : List RF} {D : DK} {z : Int} (h : Hid (RAt w tg pb D (.slice (some ⟨g, 0, none⟩) n c) l z)) (ch : List UInt8) (q : Option Addr) (m cc : Nat) (hm : Hid (ch.length = m)) (hm2 : m < 1152921504606846976) (hln : Hid (l.length = n)) (hn64 : n ≤ 64) (hL : Hid (LiesOff w tg q ch)) :
    Calls Try.prog 32 #[.pointer (some ⟨pb, 0, none⟩), .slice q m cc] w fun e w' => e = .returned (.tuple #[]) ∧ ∃ tg', Ref w' tg' pb (restartD ⟨l.map RF.s, D.down, D.fuse⟩ ch) ∧ Step tg tg' w w' := by
  have hc := h.out.cell
  obtain ⟨e0, e1, e2⟩ := c3 hc
  have f1 := fz hc 1
  have f2 := fz hc 2
  have S0 : Hid (RsI w tg pb g n c l ch 0 0 tg l ((w.setCell ⟨pb, 2, none⟩ (.bool false)).setCell ⟨pb, 1, none⟩ (.int .i64 (-1)))) := by
    have hk : Kp (· = pb) w ((w.setCell ⟨pb, 2, none⟩ (.bool false)).setCell ⟨pb, 1, none⟩ (.int .i64 (-1))) := (Kp.of_set (S := (· = pb)) w ⟨pb, 2, none⟩ (.bool false) rfl).trans (Kp.of_set (S := (· = pb)) _ ⟨pb, 1, none⟩ (.int .i64 (-1)) rfl) fun _ _ e => e
    have hc2 := setB (i := 1) (setB (i := 2) hc (.bool false)) (.int .i64 (-1))
    refine ⟨?_, Step.of_kp (by rw [h.out.tp]; exact nofun) hk, hln.out, rfl, Nat.le_refl _⟩
    exact h.out.turn (D' := ⟨l.map RF.s, false, none⟩) (z' := -1) hc2 hk h.out.fs.symm rfl
  clear hc
  go_enter Try.func32, Try.ntmps32
  go_wp2_with fail
  generalize hW : (w.setCell ⟨pb, 2, none⟩ (.bool false)).setCell ⟨pb, 1, none⟩ (.int .i64 (-1)) = W at *
  go_loopw [4, 5] (fun a i wr => ∃ (u k : Nat) (tg' : Nat → Tg) (L : List RF), a = .int .i64 u ∧ i = .int .i64 k ∧ k ≤ n ∧ RsI w tg pb g n c l ch k u tg' L wr) (fun _ i _ => n - (intOf i).toNat)
  case atStart => exact ⟨0, 0, tg, l, rfl, rfl, Nat.zero_le _, S0.out⟩
  case round =>
    obtain ⟨u, k, tg', L, rfl, rfl, hk, hp⟩ := hrel
    have HP : Hid (RsI w tg pb g n c l ch k u tg' L wr) := hp
    obtain ⟨d0, d1, d2⟩ := c3 hp.at_.cell
    have huk : u ≤ k := hp.hu
    clear hp e0 e1 e2 f1 f2 S0 hW
    by_cases hlt : k < n
    · obtain ⟨f, hf⟩ : ∃ f, L[k]? = some f := ⟨L[k]'(by have := HP.out.len; omega), List.getElem?_eq_getElem _⟩
      have HF : Hid (L[k]? = some f) := hf
      have hF := HP.out.at_.fl f (List.mem_of_getElem? hf)
      obtain ⟨g', c', e', -, -, c0, c1, c2, cf, -⟩ := HP.out.at_.cells hf
      cases e'
      have FF : Hid (RFAt wr tg' f) := hF
      have hbl := hF.hl
      have hsy := hF.hs
      have hi : (k : Int) < (L.length : Int) := by omega
      unfold RF.n at c0
      unfold RF.v at c1
      have cf1 := cf (k * 3 + 1)
      have cf2 := cf (k * 3 + 2)
      clear hf hF cf
      by_cases hs : f.sy < f.b.length
      · obtain ⟨x, hx⟩ : ∃ x, x = (ch.drop u).headD 0 := ⟨_, rfl⟩
        obtain ⟨kp, hkp, hkb, hK0, hK1, hz, hsk, hd1⟩ := rs_arith f.b.length f.sy f.c x hs FF.out.hc
        have HKP : Hid (kp = x.toNat % (f.b.length - f.sy + 1)) := hkp
        obtain ⟨ga, oa, ha⟩ : ∃ ga oa, f.a = some ⟨ga, oa, none⟩ := by
          rcases FF.out.row with h0 | ⟨g1, o1, h1, _⟩
          · rw [h0] at hs; simp at hs
          · exact ⟨g1, o1, h1⟩
        rw [ha] at c1
        have LL : Hid ((f.b.take (f.sy + kp)).length = f.sy + kp) := take_len hkb
        have HKB : Hid (f.sy + kp ≤ f.b.length) := hkb
        clear hkp
        have LI : Hid (∀ o, Lies (wr.alloc o) (some ⟨ga, oa, none⟩) (f.b.take (f.sy + kp))) := fun o => by
          have := FF.out.lies.keep ((Below.refl _ wr).alloc (Nat.le_refl _) o) (Nat.le_refl _)
          rw [ha] at this
          exact lies_tk this _
        have hpw : pb < wr.heap.size := block_lt_of_cell d0
        have hgw : g < wr.heap.size := block_lt_of_cell c0
        by_cases hu : u < m
        · obtain ⟨gq, oq, hq, hr⟩ : ∃ gq oq, q = some ⟨gq, oq, none⟩ ∧ Row wr gq oq ch := by
            rcases (hL.out.step HP.out.st).lies with h0 | ⟨g1, o1, h1, h2⟩
            · have := hm.out; rw [h0] at this; simp at this; omega
            · exact ⟨g1, o1, h1, h2⟩
          subst hq
          have hxu : ch[u]? = some x := by
            rw [hx, List.headD_eq_head?_getD, List.head?_drop]
            have : u < ch.length := by have := hm.out; omega
            rw [List.getElem?_eq_getElem this]
            rfl
          have hcx := hr u x hxu
          have hiu : (u : Int) < (m : Int) := by omega
          have hgq : gq < wr.heap.size := block_lt_of_cell hcx
          have HX : Hid (x = (ch.drop u).headD 0) := hx
          clear hr hxu hx huk hu
          go_wp2_with (at_builtin; refine append_bytes rfl _ _ rfl (wr.alloc (.cells #[.string ⟨⟨f.nm⟩⟩, .slice (some ⟨ga, oa, none⟩) f.b.length f.c, .int .i64 f.sy] 73)).heap.size _ [] (f.b.take (f.sy + kp)) rfl (Own.nil _ _) (some ⟨ga, oa, none⟩) f.c (f.sy + kp) rfl LL.out nofun (LI.out _) ?_ (Nat.le_refl _) ?_)
          · exact Nat.le_trans hkb (Nat.le_trans hbl (by decide))
          clear hK0 hK1 hd1 hz hsk
          intro v3 w3 o3 b3
          obtain ⟨N, hN⟩ : ∃ N, f.sy + kp = N := ⟨_, rfl⟩
          obtain ⟨q3, cc3, rfl, -⟩ := o3.shape
          rw [LL.out, hN] at o3
          rw [LL.out, hN]
          have AT3 := ((HP.out.at_.keepB ((Below.refl _ wr).alloc (Nat.le_refl _) _)).keepB (b3.mono (by simp)))
          obtain ⟨m0, m1, m2⟩ := c3 AT3.cell
          obtain ⟨g', c', e', -, -, j0, j1, j2, jf, -⟩ := AT3.cells HF.out
          cases e'
          unfold RF.v at j1
          have jf1 := jf (k * 3 + 1)
          have jf2 := jf (k * 3 + 2)
          have O3 : Hid (Own w3 (wr.heap.size + 1) (.slice q3 N cc3) (f.b.take N)) := o3
          have B3 : Hid (Below (wr.heap.size + 1) (wr.alloc (.cells #[.string ⟨⟨f.nm⟩⟩, .slice (some ⟨ga, oa, none⟩) f.b.length f.c, .int .i64 f.sy] 73)) w3) := b3
          clear o3 b3 AT3 j0 jf c0 c1 c2 d0 d1 d2 cf1 cf2
          have hNb : N ≤ f.b.length := by omega
          by_cases hx1 : 128 ≤ x.toNat
          · by_cases hx2 : 0 < kp
            · have hx3 : (0 : Int) < (kp : Int) := by omega
              obtain ⟨i, rfl⟩ : ∃ i, N = i + 1 := ⟨N - 1, by omega⟩
              obtain ⟨y, hy⟩ : ∃ y, f.b[i]? = some y := ⟨f.b[i]'(by omega), List.getElem?_eq_getElem _⟩
              have hyt : (f.b.take (i + 1))[i]? = some y := by rw [List.getElem?_take, if_pos (by omega)]; exact hy
              obtain ⟨g3, hq3, hy3, hf3, hg3⟩ : ∃ g3, q3 = some ⟨g3, 0, none⟩ ∧ w3.cell? ⟨g3, i, none⟩ = some (.int .u8 y.toNat) ∧ w3.frozen? ⟨g3, i, none⟩ = false ∧ wr.heap.size + 1 ≤ g3 := by
                rcases O3.out.2 with ⟨_, h0⟩ | ⟨g3, cap, cur, e, hb, hgg, _⟩
                · rw [take_len hNb] at h0
                  omega
                · rw [take_len hNb] at e
                  cases e
                  have hc := World.ownsRow.cells O3.out (g := g3) rfl i _ (bv_get hyt)
                  rw [Addr.add_lit, Nat.zero_add] at hc
                  exact ⟨g3, rfl, hc, fz hgg i, hb⟩
              subst hq3
              have hCB : Hid (crashB f.b f.sy ((ch.drop u).headD 0) = (f.b.take (i + 1)).set i (255 - y)) := by
                refine (?_ : _ = _)
                rw [← HX.out]
                unfold crashB
                rw [← HKP.out, if_pos ⟨hx1, hx2⟩, hN, Nat.add_sub_cancel, List.getD_eq_getElem?_getD, hy]
                rfl
              have hv : (255 : Int) - (y.toNat : Int) = ((255 - y : UInt8).toNat : Int) := inv_byte y
              have O4 : Hid (Own (w3.setCell ⟨g3, i, none⟩ (.int .u8 ((255 : Int) - (y.toNat : Int)))) (wr.heap.size + 1) (.slice (some ⟨g3, 0, none⟩) (i + 1) cc3) ((f.b.take (i + 1)).set i (255 - y))) := by
                rw [hv]
                exact O3.out.set (255 - y)
              have B4 : Hid (Below (wr.heap.size + 1) (wr.alloc (.cells #[.string ⟨⟨f.nm⟩⟩, .slice (some ⟨ga, oa, none⟩) f.b.length f.c, .int .i64 f.sy] 73)) (w3.setCell ⟨g3, i, none⟩ (.int .u8 ((255 : Int) - (y.toNat : Int))))) := B3.out.setCell (p := ⟨g3, i, none⟩) hg3 _
              clear hy hyt hv
              have hne1 : ¬ pb = g3 := by omega
              have hne2 : ¬ g = g3 := by omega
              have hne3 : ¬ g3 = pb := by omega
              have hne4 : ¬ g3 = g := by omega
              have hyb := y.toNat_lt
              have hii : (i : Int) < (i : Int) + 1 := by omega
              have hw1 : (128 : Int) ≤ wrap64 (x.toNat : Int) := by rw [w64]; exact Int.ofNat_le.2 hx1
              go_wp2_with fail
              obtain ⟨tg2, L2, r⟩ := HP.out.done HF.out hs (by rw [hCB.out]; exact O4.out) B4.out
              exact ⟨⟨u + 1, k + 1, tg2, L2, rfl, rfl, hlt, r⟩, meas _ _ hlt⟩
            · have hx3 : ¬ (0 : Int) < (kp : Int) := by omega
              have hCB : Hid (crashB f.b f.sy ((ch.drop u).headD 0) = f.b.take N) := by
                refine (?_ : _ = _)
                rw [← HX.out]
                unfold crashB
                rw [← HKP.out, if_neg (fun e => hx2 e.2), hN]
              have hw1 : (128 : Int) ≤ wrap64 (x.toNat : Int) := by rw [w64]; exact Int.ofNat_le.2 hx1
              go_wp2_with fail
              obtain ⟨tg2, L2, r⟩ := HP.out.done HF.out hs (by rw [hCB.out]; exact O3.out) B3.out
              exact ⟨⟨u + 1, k + 1, tg2, L2, rfl, rfl, hlt, r⟩, meas _ _ hlt⟩
          · have hCB : Hid (crashB f.b f.sy ((ch.drop u).headD 0) = f.b.take N) := by
              refine (?_ : _ = _)
              rw [← HX.out]
              unfold crashB
              rw [← HKP.out, if_neg (fun e => hx1 e.1), hN]
            have hw1 : ¬ (128 : Int) ≤ wrap64 (x.toNat : Int) := by rw [w64]; exact (fun e => hx1 (Int.ofNat_le.1 e))
            go_wp2_with fail
            obtain ⟨tg2, L2, r⟩ := HP.out.done HF.out hs (by rw [hCB.out]; exact O3.out) B3.out
            exact ⟨⟨u + 1, k + 1, tg2, L2, rfl, rfl, hlt, r⟩, meas _ _ hlt⟩
        · have hx0 : x = 0 := by
            rw [hx, List.drop_of_length_le (by have := hm.out; omega)]
            rfl
          have hk0 : kp = 0 := by
            rw [HKP.out, hx0]
            exact Nat.zero_mod _
          subst hk0
          rw [hx0] at hK0 HKP
          rw [Nat.add_zero] at LL LI HKB hkb
          have HX : Hid ((ch.drop u).headD 0 = 0) := by rw [← hx]; exact hx0
          have hiu : (m : Int) ≤ (u : Int) := by omega
          have hK2 : Int.tmod 0 ((f.b.length : Int) - (f.sy : Int) + 1) = 0 := Int.zero_tmod _
          have hub : (u : Int) < 64 := by omega
          clear hx0 hx huk hu hK0 hK1
          go_wp2_with (at_builtin; refine append_bytes rfl _ _ rfl (wr.alloc (.cells #[.string ⟨⟨f.nm⟩⟩, .slice (some ⟨ga, oa, none⟩) f.b.length f.c, .int .i64 f.sy] 73)).heap.size _ [] (f.b.take f.sy) rfl (Own.nil _ _) (some ⟨ga, oa, none⟩) f.c f.sy rfl LL.out nofun (LI.out _) ?_ (Nat.le_refl _) ?_)
          · exact Nat.le_trans hkb (Nat.le_trans hbl (by decide))
          clear hd1 hz hsk hK2
          intro v3 w3 o3 b3
          obtain ⟨N, hN⟩ : ∃ N, f.sy = N := ⟨_, rfl⟩
          obtain ⟨q3, cc3, rfl, -⟩ := o3.shape
          rw [LL.out, hN] at o3
          rw [LL.out, hN]
          have AT3 := ((HP.out.at_.keepB ((Below.refl _ wr).alloc (Nat.le_refl _) _)).keepB (b3.mono (by simp)))
          obtain ⟨m0, m1, m2⟩ := c3 AT3.cell
          obtain ⟨g', c', e', -, -, j0, j1, j2, jf, -⟩ := AT3.cells HF.out
          cases e'
          unfold RF.v at j1
          have jf1 := jf (k * 3 + 1)
          have jf2 := jf (k * 3 + 2)
          have hCB : Hid (crashB f.b f.sy ((ch.drop u).headD 0) = f.b.take N) := by
            refine (?_ : _ = _)
            rw [HX.out]
            unfold crashB
            rw [if_neg (fun e => absurd e.1 (by decide)), ← hN]
            congr 1
          have O3 : Hid (Own w3 (wr.heap.size + 1) (.slice q3 N cc3) (f.b.take N)) := o3
          have B3 : Hid (Below (wr.heap.size + 1) (wr.alloc (.cells #[.string ⟨⟨f.nm⟩⟩, .slice (some ⟨ga, oa, none⟩) f.b.length f.c, .int .i64 N] 73)) w3) := by rw [← hN]; exact b3
          clear o3 b3 AT3 j0 jf c0 c1 c2 d0 d1 d2 cf1 cf2
          go_wp2_with fail
          obtain ⟨tg2, L2, r⟩ := HP.out.done HF.out hs (by rw [hCB.out]; exact O3.out) B3.out
          exact ⟨⟨u + 1, k + 1, tg2, L2, rfl, rfl, hlt, r⟩, meas _ _ hlt⟩
      · have hs0 : f.b.length = f.sy := by omega
        have hz : ((f.b.length : Int) - (f.sy : Int) == 0) = true := by simp; omega
        go_wp2_with fail
        refine ⟨⟨u, k + 1, tg', L, rfl, by go_num, by omega, HP.out.skip HF.out hs _⟩, ?_⟩
        simp [intOf]; omega
    · go_wp2_with fail
      go_end0
      have hE := HP.out
      have e1 := hE.eq
      rw [List.take_of_length_le (by have := hE.len; omega), List.drop_of_length_le (by have := hE.len; omega)] at e1
      refine ⟨rfl, tg', ⟨.slice (some ⟨g, 0, none⟩) n c, L, -1, ?_⟩, hE.st⟩
      unfold restartD
      rw [e1]
      simp only [List.map_nil, rst, List.append_nil]
      exact hE.at_

set_option maxHeartbeats 400000 in
theorem rrst_zero (x y : Value) (pb : Nat) (u : Value) (w : World) (h : Hid (w.heap[pb]? = some (.cells #[.slice none 0 0, x, y] 35 (0, 0)))) :
    Calls Try.prog 32 #[.pointer (some ⟨pb, 0, none⟩), u] w fun e w' => e = .returned (.tuple #[]) ∧ w' = (w.setCell ⟨pb, 2, none⟩ (.bool false)).setCell ⟨pb, 1, none⟩ (.int .i64 (-1)) := by
  obtain ⟨e0, e1, e2⟩ := c3 h.out
  have f1 := fz h.out 1
  have f2 := fz h.out 2
  go_enter Try.func32, Try.ntmps32
  go_wp2_with fail
  go_rounds 1
  go_end0
  exact ⟨rfl, rfl⟩
theorem rrestart_any {w : World} {tg : Nat → Tg} {pb : Nat} {D : DK} (h : Ref w tg pb D) (ch : List UInt8) (q : Option Addr) (m c : Nat) (hm : ch.length = m) (hm2 : m < 1152921504606846976) (hL : LiesOff w tg q ch) :
    Calls Try.prog 32 #[.pointer (some ⟨pb, 0, none⟩), .slice q m c] w fun e w' => e = .returned (.tuple #[]) ∧ ∃ tg', Ref w' tg' pb (restartD D ch) ∧ Step tg tg' w w' := by
  obtain ⟨v, l, z, h⟩ := h
  have hc := h.cell
  rcases rowV_own h.own with ⟨rfl, h0⟩ | ⟨g, c', rfl, -⟩
  · obtain rfl := List.eq_nil_of_length_eq_zero h0
    refine (rrst_zero _ _ pb _ w hc).mono ?_
    rintro e w' ⟨rfl, rfl⟩
    have hk : Kp (· = pb) w ((w.setCell ⟨pb, 2, none⟩ (.bool false)).setCell ⟨pb, 1, none⟩ (.int .i64 (-1))) := (Kp.of_set (S := (· = pb)) w ⟨pb, 2, none⟩ (.bool false) rfl).trans (Kp.of_set (S := (· = pb)) _ ⟨pb, 1, none⟩ (.int .i64 (-1)) rfl) fun _ _ e => e
    have hc2 := setB (i := 1) (setB (i := 2) hc (.bool false)) (.int .i64 (-1))
    refine ⟨rfl, tg, ⟨.slice none 0 0, [], -1, ?_⟩, Step.of_kp (by rw [h.tp]; exact nofun) hk⟩
    have e : D.fs = [] := h.fs
    unfold restartD
    rw [e]
    exact h.turn (D' := ⟨[], false, none⟩) (z' := -1) hc2 hk e.symm rfl
  · have := rrst_loop (D := D) h ch q m c hm hm2 rfl h.len hL
    rw [← h.fs] at this
    exact this
end Go.Proofs.Ytnohidalomjfmaa
