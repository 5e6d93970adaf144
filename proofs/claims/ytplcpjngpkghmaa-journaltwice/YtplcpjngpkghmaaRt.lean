/-
  Restart: the walk.
-/
import Derived.Test.YtplcpjngpkghmaaRs
namespace Go.Proofs.Ytplcpjngpkghmaa
open Go.RowKit Go.Maps Go.WideMaps Go.Sort

def CrR (tg : Nat → Tg) (pb : Nat) (D : DK) (mb : Option Nat) (l : List Fl) (z : Int) (f : Fl) (x : UInt8) (w w' : World) : Prop := ∃ v, DkAt w' tg pb ⟨upd Fil.nm f.nm ⟨f.nm, crashB f.b f.sy x, (crashB f.b f.sy x).length⟩ D.fs, D.down, D.fuse⟩ mb (upd Fl.nm f.nm ⟨f.nm, crashB f.b f.sy x, (crashB f.b f.sy x).length, f.fb, v⟩ l) z ∧ Step tg tg w w'
set_option maxHeartbeats 4000000 in
set_option maxRecDepth 100000 in
theorem restart_at {w : World} {tg : Nat → Tg} {pb : Nat} {D : DK} {mb : Option Nat} {l : List Fl} {z : Int} (h : Hid (DkAt w tg pb D mb l z)) (ch : List UInt8) (q : Option Addr) (m c : Nat) (hm : Hid (ch.length = m)) (hc : Hid (m ≤ c)) (hL : Hid (LiesOff w tg q ch)) :
    Calls Try.prog 15 #[.pointer (some ⟨pb, 0, none⟩), .slice q m c] w fun e w' => e = .returned (.tuple #[]) ∧ Dsk w' tg pb (restartD D ch) ∧ Step tg tg w w' := by
  have H40 : Hid (Calls Try.prog 32 #[.pointer (some ⟨pb, 0, none⟩)] w fun e w' => ∃ v, e = .returned v ∧ w'.ownsRow w.heap.size 9 1 v l.length ((l.map Fl.nm).map encStr) ∧ Below w.heap.size w w') := names_any h.out
  go_enter Try.func15, Try.ntmps15
  go_wp2_with (go_at_call 32; refine H40.out.mono ?_)
  rintro e w1 ⟨v, rfl, hrow, b1⟩
  obtain ⟨n, hn⟩ : ∃ n, n = l.length := ⟨_, rfl⟩
  have hnl : n ≤ 64 := by rw [hn]; exact h.out.len
  obtain ⟨av, cv, hv⟩ : ∃ av cv, v = .slice av n cv := by
    rcases hrow.2 with ⟨hv, h0⟩ | ⟨g, cap, cur, hv, _⟩
    · exact ⟨none, 0, by rw [hv, hn, h0]⟩
    · exact ⟨_, cap, by rw [hv, hn]⟩
  subst hv
  have R0 : Hid (∃ a r ch', RsAt w tg pb l D.fs ch D mb z (.slice av n cv) 0 q m c w1 a r ch') := by
    refine ⟨[], l, ch, rfl, hm.out, hc.out, hL.out.step (Step.of_below tg b1), ?_, rfl, by rw [h.out.fs]; rfl, hrow, Step.of_below tg b1⟩
    have := h.out.keepB b1
    rw [List.nil_append, ← h.out.fs]
    exact this
  clear hrow b1 H40
  go_wp2_with fail
  go_loopw [1, 13] (fun cw iw wr => ∃ (k : Nat) (q : Option Addr) (m c : Nat), k ≤ n ∧ cw = .slice q m c ∧ iw = .int .i64 k ∧ ∃ a r ch', RsAt w tg pb l D.fs ch D mb z (.slice av n cv) k q m c wr a r ch') (fun _ i _ => n - (intOf i).toNat)
  case atStart => exact ⟨0, q, m, c, Nat.zero_le _, rfl, rfl, R0.out⟩
  case round =>
    obtain ⟨k, q, m, c, hk, rfl, rfl, a, r, ch', hR⟩ := hrel
    have HR : Hid _ := hR
    clear hR
    by_cases hlt : k < n
    · cases r with
      | nil => exact absurd HR.out.size (by simp only [List.length_nil]; omega)
      | cons f r =>
        have hd := HR.out.dk
        have hfd := fnd_mid hd.srt
        have hF := hd.fl f (fnd_some hfd).1
        have hnl2 := name_len hd.mp (fnd_some hfd).1
        have hlk := look_at hd.mp ⟨f.nm.toArray⟩ (by simpa [ByteArray.size] using hnl2)
        rw [show (⟨f.nm.toArray⟩ : ByteArray).data.toList = f.nm by simp, hfd] at hlk
        simp only [fptr] at hlk
        obtain ⟨e0, -, -, -⟩ := c4 hd.cell
        obtain ⟨gn, cap, hgv, hcell⟩ : ∃ gn cap, (Value.slice av n cv) = .slice (some ⟨gn, 0, none⟩) n cap ∧ wr.cell? ⟨gn, k, none⟩ = some (.string ⟨f.nm.toArray⟩) := by
          rcases HR.out.row.2 with ⟨_, h0⟩ | ⟨g, cap, cur, hv, hb, hgg, _⟩
          · omega
          · have hv' : (Value.slice av n cv) = .slice (some ⟨g, 0, none⟩) n cap := by rw [hv, ← hn]
            refine ⟨g, cap, hv', ?_⟩
            have hx : ((l.map Fl.nm).map encStr)[k]? = some (.string ⟨f.nm.toArray⟩) := by
              rw [← HR.out.nms, List.map_map, List.getElem?_map, List.getElem?_append_right (by rw [HR.out.len]; exact Nat.le_refl _), HR.out.len, Nat.sub_self]
              rfl
            have hc0 := World.ownsRow.cells HR.out.row (g := g) (by rw [hv']; rfl) k _ hx
            rwa [Addr.add_lit, Nat.zero_add] at hc0
        cases hgv
        obtain ⟨fa, fc, hfv, -⟩ := hF.own.shape
        have hfc := hF.cell
        rw [hfv] at hfc
        have H41 : Hid (Calls Try.prog 33 #[.pointer (some ⟨f.fb, 0, none⟩)] wr fun e w' => e = .returned (.int .i64 ((f.b.length - f.sy : Nat) : Int)) ∧ Below wr.heap.size wr w') := unsynced_at wr f.fb fa _ fc f.sy hF.hl hF.hs hfc
        clear hfc hfv hnl2
        by_cases hs : f.sy < f.b.length
        · have hpos : (0 : Int) < ((f.b.length - f.sy : Nat) : Int) := by omega
          generalize hu : f.b.length - f.sy = u at *
          clear hF hd
          go_wp2_with (go_at_call 33; refine H41.out.mono ?_)
          rintro e w2 ⟨rfl, b2⟩
          have L2 : Hid (LiesOff w2 tg q ch') := HR.out.lo.step (Step.of_below tg b2)
          have D2 : Hid _ := HR.out.dk.keepB b2
          have S2 : Hid (Step tg tg wr w2) := Step.of_below tg b2
          clear b2 hlk e0 hcell
          obtain ⟨x, hx⟩ : ∃ x, ch'.headD 0 = x := ⟨_, rfl⟩
          obtain ⟨t, ht⟩ : ∃ t, ch'.tail = t := ⟨_, rfl⟩
          have H42 : Hid (Calls Try.prog 34 #[.slice q m c] w2 fun e w' => (∃ q' c', e = .returned (.tuple #[.int .u8 x.toNat, .slice q' t.length c']) ∧ t.length ≤ c' ∧ LiesOff w' tg q' t) ∧ Below w2.heap.size w2 w') := by
            have := next_any ch' q m c HR.out.cm HR.out.cc L2.out
            rw [hx, ht] at this
            exact this
          have HX0 : Hid (ch'.headD 0 = x) := hx
          have HT0 : Hid (ch'.tail = t) := ht
          clear hx ht
          go_wp2_with (go_at_call 34; refine H42.out.mono ?_)
          rintro e w3 ⟨⟨q3, c3, rfl, hc3, L3⟩, b3⟩
          have HL3 : Hid (LiesOff w3 tg q3 t) := L3
          have D3 : Hid _ := D2.out.keepB b3
          have S3 : Hid (Step tg tg wr w3) := S2.out.trans (Step.of_below tg b3)
          have HC3 : Hid _ := hc3
          clear b3 L3 hc3
          have H43 : Hid (Calls Try.prog 35 #[.pointer (some ⟨f.fb, 0, none⟩), .int .u8 x.toNat] w3 fun e w' => e = .returned (.tuple #[]) ∧ CrR tg pb ⟨(a ++ f :: r).map Fl.s, D.down, D.fuse⟩ mb (a ++ f :: r) z f x w3 w') := crash_any D3.out hfd hs x
          go_wp2_with (go_at_call 35; refine H43.out.mono ?_)
          rintro e w4 ⟨rfl, hcr⟩
          obtain ⟨v4, d4, s4⟩ := hcr
          rw [upd_mid D3.out.srt rfl] at d4
          have HX : Hid (∃ a r ch'', RsAt w tg pb l D.fs ch D mb z (.slice (some ⟨gn, 0, none⟩) n cv) (k + 1) q3 t.length c3 w4 a r ch'') := by
            have hb : ∀ g, (Value.slice (some ⟨gn, 0, none⟩) n cv).ownBlock = some g → w4.heap[g]? = wr.heap[g]? := fun g hg => by
              have h1 := World.ownsRow.lt HR.out.row g hg
              exact (S3.out.trans s4).1.block g h1.2 fun e => by have := h.out.lt g e; omega
            have hD : (⟨upd Fil.nm f.nm ⟨f.nm, crashB f.b f.sy x, (crashB f.b f.sy x).length⟩ ((a ++ f :: r).map Fl.s), D.down, D.fuse⟩ : DK) = ⟨(a ++ ⟨f.nm, crashB f.b f.sy x, (crashB f.b f.sy x).length, f.fb, v4⟩ :: r).map Fl.s, D.down, D.fuse⟩ := by
              rw [← upd_mid (y := (⟨f.nm, crashB f.b f.sy x, (crashB f.b f.sy x).length, f.fb, v4⟩ : Fl)) D3.out.srt rfl, map_upd Fl.s_nm]
              rfl
            have d4' := d4
            rw [hD] at d4'
            refine ⟨a ++ [⟨f.nm, crashB f.b f.sy x, (crashB f.b f.sy x).length, f.fb, v4⟩], r, t, by rw [List.length_append, HR.out.len]; rfl, rfl, HC3.out, HL3.out.step s4, by rw [List.append_assoc]; exact d4', ?_, ?_, keepRow HR.out.row hb, HR.out.st.trans (S3.out.trans s4)⟩
            · rw [← HR.out.nms, List.append_assoc, List.map_append, List.map_append, List.map_append]; rfl
            · rw [HR.out.rs, List.map_append, List.append_assoc, List.map_cons]
              show _ ++ rst (f.s :: _) _ = _
              conv => lhs; unfold rst
              rw [if_pos (show f.s.sy < f.s.b.length from hs), HX0.out, HT0.out]
              rfl
          clear d4 s4
          go_wp2_with fail
          refine ⟨⟨k + 1, q3, _, c3, by omega, rfl, by go_num, HX.out⟩, ?_⟩
          simp [intOf]; omega
        · have hz0 : f.b.length - f.sy = 0 := by omega
          have HSY : Hid (¬ f.sy < f.b.length) := hs
          rw [hz0] at H41
          clear hF hd hs hz0
          go_wp2_with (go_at_call 33; refine H41.out.mono ?_)
          rintro e w2 ⟨rfl, b2⟩
          have HX : Hid (∃ a r ch'', RsAt w tg pb l D.fs ch D mb z (.slice (some ⟨gn, 0, none⟩) n cv) (k + 1) q m c w2 a r ch'') := by
            refine ⟨a ++ [f], r, ch', by rw [List.length_append, HR.out.len]; rfl, HR.out.cm, HR.out.cc, HR.out.lo.step (Step.of_below tg b2), by rw [List.append_assoc]; exact HR.out.dk.keepB b2, ?_, ?_, keepRow HR.out.row (fun g hg => b2.block g (World.ownsRow.lt HR.out.row g hg).2), HR.out.st.trans (Step.of_below tg b2)⟩
            · rw [← HR.out.nms, List.append_assoc]; rfl
            · rw [HR.out.rs, List.map_append, List.append_assoc, List.map_cons]
              show _ ++ rst (f.s :: _) _ = _
              conv => lhs; unfold rst
              rw [if_neg (show ¬ f.s.sy < f.s.b.length from HSY.out)]
              rfl
          clear b2 hlk e0 hcell
          go_wp2_with fail
          refine ⟨⟨k + 1, q, m, c, by omega, rfl, by go_num, HX.out⟩, ?_⟩
          simp [intOf]; omega
    · have hr : r = [] := by
        have := HR.out.size
        exact List.eq_nil_of_length_eq_zero (by omega)
      subst hr
      have hd := HR.out.dk
      obtain ⟨e0, e1, e2, e3⟩ := c4 hd.cell
      have f1 := fz hd.cell 1
      have h1 := setB (i := 1) hd.cell (.bool false)
      have f2 := fz h1 2
      obtain ⟨-, -, g2, -⟩ := c4 h1
      have h2 := setB (i := 2) h1 (.bool false)
      have f3 := fz h2 3
      obtain ⟨-, -, -, g3⟩ := c4 h2
      have h3 := setB (i := 3) h2 (.int .i64 0)
      have hk3 : Kp (· = pb) wr (((wr.setCell ⟨pb, 1, none⟩ (.bool false)).setCell ⟨pb, 2, none⟩ (.bool false)).setCell ⟨pb, 3, none⟩ (.int .i64 0)) :=
        ((Kp.of_set (S := (· = pb)) wr ⟨pb, 1, none⟩ (.bool false) rfl).trans (Kp.of_set (S := (· = pb)) _ ⟨pb, 2, none⟩ (.bool false) rfl) fun _ _ h => h).trans (Kp.of_set (S := (· = pb)) _ ⟨pb, 3, none⟩ (.int .i64 0) rfl) fun _ _ h => h
      have HD : Hid (Dsk (((wr.setCell ⟨pb, 1, none⟩ (.bool false)).setCell ⟨pb, 2, none⟩ (.bool false)).setCell ⟨pb, 3, none⟩ (.int .i64 0)) tg pb (restartD D ch)) := by
        refine ⟨_, _, 0, hd.turn h3 hk3 ?_ nofun⟩
        show rst D.fs ch = _
        rw [HR.out.rs, List.append_nil]
        show _ ++ rst [] _ = _
        unfold rst
        rw [List.append_nil]
      have HS : Hid (Step tg tg w (((wr.setCell ⟨pb, 1, none⟩ (.bool false)).setCell ⟨pb, 2, none⟩ (.bool false)).setCell ⟨pb, 3, none⟩ (.int .i64 0))) := HR.out.st.trans (Step.of_kp (by rw [h.out.tp]; exact nofun) hk3)
      clear h1 h2 h3 hk3 hd
      go_wp2_with fail
      go_end0
      exact ⟨rfl, HD.out, HS.out⟩
theorem restart_any {w : World} {tg : Nat → Tg} {pb : Nat} {D : DK} (h : Dsk w tg pb D) (ch : List UInt8) (q : Option Addr) (m c : Nat) (hm : ch.length = m) (hc : m ≤ c) (hL : LiesOff w tg q ch) :
    Calls Try.prog 15 #[.pointer (some ⟨pb, 0, none⟩), .slice q m c] w fun e w' => e = .returned (.tuple #[]) ∧ Dsk w' tg pb (restartD D ch) ∧ Step tg tg w w' := by
  obtain ⟨mb, l, z, h⟩ := h
  exact restart_at h ch q m c hm hc hL
end Go.Proofs.Ytplcpjngpkghmaa
