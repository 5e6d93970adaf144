/-
  Expire.
-/
import Derived.Test.YtihjmigjphljnaaAg
namespace Go.Proofs.Ytihjmigjphljnaa
open Go.RowKit Go.Maps Go.WideMaps Go.Sort Go.Shelf
open Tk

theorem sr_ext {w : World} {v : Value} {L : List (List UInt8)} (h : SR w v L) : ∃ a c, v = .slice a L.length c := h.shape
set_option maxHeartbeats 1000000 in
theorem sort_any {w : World} {p : Option Addr} {n c : Nat} {L M : List (List UInt8)} (h : SR w (.slice p n c) L) (hn : n ≤ 4096) (hp : L.Perm M) (hs : M.Pairwise fun x y => bytesBefore x y = true) :
    Calls Try.prog 36 #[.slice p n c] w fun e w' => e = .returned (.tuple #[]) ∧ Hid (SR w' (.slice p n c) M ∧ Kp (fun j => (Value.slice p n c).ownBlock = some j) w w') := by
  have hl := h.len
  rcases h.2 with ⟨e, hz⟩ | ⟨gb, cap', cur, e, hbase, hgb, r1, r2, r3, r4⟩
  · have hL : L = [] := List.eq_nil_of_length_eq_zero hz
    subst hL
    have hM : M = [] := hp.nil_eq.symm
    subst hM
    cases e
    refine (AnyM.slices_Sort_string_none Try.sort36 none 0 w).mono ?_
    rintro e w' ⟨rfl, rfl⟩
    exact ⟨rfl, GRow.nil _ _ _ _ _, Kp.refl _ _⟩
  · cases e
    have hH : Holds encStr w gb 0 L.toArray := holds_of_block hgb (by have h4 := r4; rw [Nat.mul_one] at h4; rw [map_flat]; simpa using h4)
    have hgl : gb < w.heap.size := (Array.getElem?_eq_some_iff.1 hgb).1
    refine (AnyM.slices_Sort_string Try.sort36 gb 0 c L w hH hgl (by omega)).mono ?_
    rintro e w' ⟨rfl, nn, os, rfl⟩
    have h1 := ownsRow_sorted (n := nn) (os := os) (ss := L) (ts := L.mergeSort fun x y => decide (x ≤ y)) (by simp) hbase hgb r1 r2 r3
    rw [names_sorted hs hp] at h1 ⊢
    refine ⟨rfl, ?_, ?_⟩
    · unfold SR GRow
      rw [← map_flat, ← hp.length_eq]
      exact h1
    · exact Kp.of_grown (grownBy_sorted _) fun k e => by cases e; rfl
theorem ExS.fin {w0 W w2 : World} {tb n : Nat} {S S1 : HS} {mb : Option Nat} {D : List Nd} {R R' T : List Al} {v u : Value} {now : Int} (h : ExS w0 W tb S S1 mb D R' T v u n) (hT : TbAt w0 tb S mb D R) (hl : T.length = n) (hp : T.Perm ((expN D now).map Nd.al)) (hq : R'.Perm (als (expR D now))) (hs : SR w2 u ((expN D now).map Nd.k)) (k : Kp (fun j => u.ownBlock = some j) W w2) :
    Xp w0 w2 tb S mb (expR D now) ((expN D now).map Nd.k) u := by
  have e1 : T.take n = T := List.take_of_length_le (by omega)
  have e2 : (T.map Al.k).Perm ((expN D now).map Nd.k) := by
    have := hp.map Al.k
    rw [List.map_map] at this
    exact this
  have hmp := h.mp
  rw [e1, kill_exp hT.srt now e2] at hmp
  have hst : ∀ k, Tf tb S1 mb k → Tf tb S mb k ∨ w0.heap.size ≤ k := fun k hk => by
    rcases hk with q | q
    · rcases h.fp k q with q | q
      · exact .inl (.inl q)
      · exact .inr q
    · exact .inl (.inr q)
  refine ⟨hs, S1, R', ⟨h.ck.off k fun j q q' => (h.un j q').2.1 q, h.nv, hmp.keep fun m hm => k.block m ?_ fun q => ?_, srt_exp hT.srt now, ?_, hq, fun m hm => (h.sep m hm).1, fun y hy => ?_⟩, ⟨⟨k.os.trans h.kp.os, k.tape.trans h.kp.tape, k.output.trans h.kp.output, Nat.le_trans h.kp.size k.size, fun j hj hn => (k.block j (Nat.lt_of_lt_of_le hj h.kp.size) fun q => ?_).trans (h.kp.block j hj hn)⟩, hst⟩, fun j q => ⟨(h.un j q).1, fun q2 => ?_⟩⟩
  · subst hm
    exact hmp.lt
  · have := (h.un m q).1
    have := (h.sep m hm).2
    omega
  · unfold expR
    rw [List.length_map]
    exact hT.len
  · obtain ⟨z, hz, rfl⟩ := List.mem_map.1 hy
    have := hT.ok z hz
    unfold Nd.exp
    split
    · exact this
    · exact this
  · have := (h.un j q).1
    omega
  · rcases q2 with q2 | q2
    · exact (h.un j q).2.1 q2
    · have := (h.un j q).1
      have := (h.sep j q2).2
      omega
set_option maxHeartbeats 1000000 in
theorem exp_nil (w : World) (now : Int) : Calls Try.prog 20 #[.pointer none, .int .i64 now] w fun e w' => e = .returned (.slice none 0 0) ∧ w' = w := by
  go_enter Try.func20, Try.ntmps20
  go_wp2_with fail
  go_ret
  exact ⟨rfl, rfl⟩
set_option maxHeartbeats 4000000 in
set_option maxRecDepth 100000 in
theorem exp_at {w : World} {tb : Nat} {S : HS} {mb : Option Nat} {D : List Nd} {R : List Al} (hT : TbAt w tb S mb D R) (now : Int) :
    Calls Try.prog 20 #[.pointer (some ⟨tb, 0, none⟩), .int .i64 now] w fun e w' => ∃ p c', e = .returned (.slice p (expN D now).length c') ∧ Hid (Xp w w' tb S mb (expR D now) ((expN D now).map Nd.k) (.slice p (expN D now).length c')) := by
  have HT : Hid (TbAt w tb S mb D R) := hT
  have HD : Hid (Calls Try.prog 35 #[.pointer (some ⟨tb, 1, none⟩), .int .i64 now] w fun e w' => ∃ v S', e = .returned v ∧ Hid (Dd w w' tb S S' v (pw now R) (dw now R))) := due_C hT.ck now
  have HP : Hid ((pw now R).Perm ((expN D now).map Nd.al)) := pw_perm hT.ck.s hT.al now
  have HQ : Hid ((dw now R).Perm (als (expR D now))) := dw_perm hT.ck.s hT.al now
  have hlen : (pw now R).length = (expN D now).length := by rw [HP.out.length_eq, List.length_map]
  have hn12 : (expN D now).length ≤ 12 := Nat.le_trans (List.length_filter_le ..) hT.len
  clear hT
  generalize hN : (expN D now).length = n at *
  have HN : Hid ((expN D now).length = n) := hN
  clear hN
  generalize hTT : pw now R = T at *
  generalize hRR : dw now R = R' at *
  have HL : Hid (T.length = n) := hlen
  clear hTT hRR hlen
  go_enter Try.func20, Try.ntmps20
  go_upto_region 5 with (go_at_call 35; refine HD.out.mono ?_; rintro e w1 ⟨v, S1, rfl, hd⟩; obtain ⟨q, c, rfl⟩ := hd.out.r.shape; rw [HL.out])
  clear HD
  have HX : Hid (ExS w w1 tb S S1 mb D R' T (.slice q n c) (.slice none 0 0) 0) := by
    have h1 := hd.out
    refine ⟨h1.c.c, h1.c.g.nv.trans HT.out.nv, ?_, by rw [HL.out] at h1; exact h1.r, GRow.nil _ _ _ _ _, h1.c.g.kp.mono fun k _ q => .inl q, h1.c.g.fp, fun m hm => ⟨fun q => ?_, HT.out.lt (.inr hm)⟩, fun j q => by rw [HL.out] at h1; exact h1.n j q, fun j q => by cases q⟩
    · have e : D.map (kill ((T.take 0).map Al.k)) = D := map_kill_nil D
      rw [e]
      refine HT.out.mp.keep fun m hm => h1.c.g.kp.block m (HT.out.lt (.inr hm)) (HT.out.sep m hm)
    · rcases h1.c.g.fp m q with q | q
      · exact HT.out.sep m hm q
      · have := HT.out.lt (.inr hm)
        omega
  clear hd
  go_loopw [5, 17] (fun u t wr => ∃ i p c', i ≤ n ∧ u = .slice p i c' ∧ t = .int .i64 (i : Nat) ∧ Hid (ExS w wr tb S S1 mb D R' T (.slice q n c) (.slice p i c') i)) (fun u t _ => n - (intOf t).toNat)
  case atStart => exact ⟨0, none, 0, Nat.zero_le _, rfl, rfl, HX.out⟩
  case round =>
    obtain ⟨i, p, c', hi, rfl, rfl, HI⟩ := hrel
    clear HX
    by_cases hlt : i < n
    · obtain ⟨a, ha⟩ : ∃ a, T[i]? = some a := ⟨T[i]'(by have := HL.out; omega), List.getElem?_eq_getElem _⟩
      have HA : Hid (T[i]? = some a) := ha
      obtain ⟨g, c2, ev⟩ := HI.out.row.row (by have := (List.getElem?_eq_some_iff.1 ha).1; omega)
      have eq : q = some ⟨g, 0, none⟩ := by injection ev
      clear ev
      subst eq
      have x0 := HI.out.row.c0 ha
      have x1 := HI.out.row.c1 ha
      have hii : (i : Int) < (n : Int) := by omega
      -- the node
      have HF : Hid (∃ x, fnd Nd.k a.k D = some x ∧ x.nm = a.nm ∧ x.ok) := by
        have hm : a ∈ (expN D now).map Nd.al := HP.out.mem_iff.1 (List.mem_of_getElem? ha)
        obtain ⟨x, h1, rfl⟩ := List.mem_map.1 hm
        have h2 := (List.mem_filter.1 h1).1
        exact ⟨x, fnd_of HT.out.srt h2, rfl, HT.out.ok x h2⟩
      obtain ⟨x, hfx, hnx, hox⟩ := HF.out
      obtain ⟨m, rfl⟩ : ∃ m, mb = some m := by
        cases hmb : mb with
        | some m => exact ⟨m, rfl⟩
        | none =>
          have h1 := HT.out.mp
          rw [hmb] at h1
          have h2 : D = [] := h1
          rw [h2] at hfx
          cases hfx
      have HX : Hid (fnd Nd.k a.k D = some x) := hfx
      obtain ⟨y, hy⟩ : ∃ y, kill ((T.take i).map Al.k) x = y := ⟨_, rfl⟩
      have HY : Hid (kill ((T.take i).map Al.k) x = y) := hy
      have hyn : y.nm = a.nm := by rw [← hy, kill_nm, hnx]
      have hsz : a.nm.size ≤ 281474976710656 := by rw [← hnx]; exact hox.1
      have HLK : Hid (∀ W, Below wr.heap.size wr W → (Instr.lookup 57 (.map (some m)) (.string a.nm) false).run Try.prog W = .ok (.agg #[.string a.nm, .int .i64 y.ep, .int .i64 y.v.a, .int .i64 y.v.b, .int .i64 y.v.c, .int .i64 y.v.d, .int .i64 y.sn, .bool y.lv]) W) := fun W b => by
        have h1 := look_node (HI.out.below b).mp a.nm (by unfold maxLen; omega)
        have h2 : getN (D.map (kill ((T.take i).map Al.k))) a.nm.data.toList = y := by
          unfold getN
          rw [fnd_kill _ (show fnd Nd.k a.nm.data.toList D = some x from hfx), hy]
          rfl
        rw [h2] at h1
        unfold Nd.val at h1
        rw [hyn] at h1
        exact h1
      have hcw : Hid (tb < wr.heap.size) := HI.out.ck.c.m.lt tb (.inl rfl)
      clear ha hfx hnx hox hy HF
      go_upto_region 7 with fail
      have b1 : Below wr.heap.size wr (wr.alloc (.cells #[.string a.nm, .int .i64 a.at'] 79)) := (Below.refl _ _).alloc (Nat.le_refl _) _
      have I1 : Hid (ExS w (wr.alloc (.cells #[.string a.nm, .int .i64 a.at'] 79)) tb S S1 (some m) D R' T (.slice (some ⟨g, 0, none⟩) n c) (.slice p i c') i) := HI.out.below b1
      have z0 : (wr.alloc (.cells #[.string a.nm, .int .i64 a.at'] 79)).cell? ⟨wr.heap.size, 0, none⟩ = some (.string a.nm) := by rw [cell_of new0]; rfl
      have hlk : (Instr.lookup 57 (.map (some m)) (.string a.nm) false).run Try.prog (wr.alloc (.cells #[.string a.nm, .int .i64 a.at'] 79)).drew = _ := HLK.out _ b1.drew
      have hlk2 : (Instr.lookup 57 (.map (some m)) (.string a.nm) false).run Try.prog ((wr.alloc (.cells #[.string a.nm, .int .i64 a.at'] 79)).alloc (.cells #[.string ⟨#[]⟩, .int .i64 0, .int .i64 0, .int .i64 0, .int .i64 0, .int .i64 0, .int .i64 0, .bool false] 46)).drew = _ := HLK.out _ (b1.alloc (by simp) _).drew
      have c0 := I1.out.c0
      have z0' : ((wr.alloc (.cells #[.string a.nm, .int .i64 a.at'] 79)).alloc (.cells #[.string ⟨#[]⟩, .int .i64 0, .int .i64 0, .int .i64 0, .int .i64 0, .int .i64 0, .int .i64 0, .bool false] 46)).cell? ⟨wr.heap.size, 0, none⟩ = some (.string a.nm) := cell_below z0 ((Below.refl _ _).alloc (Nat.le_refl _) _)
      have c0' : ((wr.alloc (.cells #[.string a.nm, .int .i64 a.at'] 79)).alloc (.cells #[.string ⟨#[]⟩, .int .i64 0, .int .i64 0, .int .i64 0, .int .i64 0, .int .i64 0, .int .i64 0, .bool false] 46)).cell? ⟨tb, 0, none⟩ = some (.map (some m)) := cell_below c0 ((Below.refl _ _).alloc (Nat.le_refl _) _)
      clear x0 x1 HLK HI b1
      generalize wr.heap.size = g7 at *
      generalize wr.alloc (.cells #[.string a.nm, .int .i64 a.at'] 79) = W1 at *
      go_cut [8] from 21 to 27 (fun s8 wx => s8 = .pointer (some ⟨W1.heap.size, 0, none⟩) ∧ Hid (wx = (W1.alloc (.cells #[.string a.nm, .int .i64 y.ep, .int .i64 y.v.a, .int .i64 y.v.b, .int .i64 y.v.c, .int .i64 y.v.d, .int .i64 y.sn, .bool y.lv] 46)).drew))
      case first =>
        go_region
        all_goals (go_wp2_with fail; go_meet; exact ⟨rfl, rfl⟩)
      case rest =>
        obtain ⟨rfl, HW⟩ := hcut
        clear c0 z0 hlk hlk2 c0' z0'
        have b2 : Below W1.heap.size W1 wc := by rw [HW.out]; exact ((Below.refl _ _).alloc (Nat.le_refl _) _).drew
        have Z2 : Hid (wc.heap[W1.heap.size]? = some (.cells #[.string a.nm, .int .i64 y.ep, .int .i64 y.v.a, .int .i64 y.v.b, .int .i64 y.v.c, .int .i64 y.v.d, .int .i64 y.sn, .bool y.lv] 46 (0, 0))) := by rw [HW.out]; exact new0 (w := W1)
        have I2 : Hid (ExS w wc tb S S1 (some m) D R' T (.slice (some ⟨g, 0, none⟩) n c) (.slice p i c') i) := I1.out.below b2
        have hge : Hid (w.heap.size ≤ W1.heap.size) := I1.out.kp.size
        have hfr : Hid (∀ k, k < W1.heap.size → k ≠ W1.heap.size) := fun k h => by omega
        have z7 : wc.cell? ⟨W1.heap.size, 7, none⟩ = some (.bool y.lv) := by rw [cell_of Z2.out]; rfl
        have f7 := fz Z2.out 7
        have b3 : Below W1.heap.size W1 (wc.setCell ⟨W1.heap.size, 7, none⟩ (.bool false)) := b2.setCell (Nat.le_refl _) _
        have Z3 : Hid ((wc.setCell ⟨W1.heap.size, 7, none⟩ (.bool false)).heap[W1.heap.size]? = some (.cells #[.string a.nm, .int .i64 y.ep, .int .i64 y.v.a, .int .i64 y.v.b, .int .i64 y.v.c, .int .i64 y.v.d, .int .i64 y.sn, .bool false] 46 (0, 0))) := setB Z2.out _
        have I3 : Hid (ExS w (wc.setCell ⟨W1.heap.size, 7, none⟩ (.bool false)) tb S S1 (some m) D R' T (.slice (some ⟨g, 0, none⟩) n c) (.slice p i c') i) := I1.out.below b3
        go_upto_region 9 with fail
        clear z7 f7 b2 b3 Z2 I1 I2 hfr HW
        generalize wc.setCell ⟨W1.heap.size, 7, none⟩ (.bool false) = W3 at *
        generalize W1.heap.size = g8 at *
        have c3 := I3.out.c0
        have z0 : W3.cell? ⟨g8, 0, none⟩ = some (.string a.nm) := by rw [cell_of Z3.out]; rfl
        have z1 : W3.cell? ⟨g8, 1, none⟩ = some (.int .i64 y.ep) := by rw [cell_of Z3.out]; rfl
        have z2 : W3.cell? ⟨g8, 2, none⟩ = some (.int .i64 y.v.a) := by rw [cell_of Z3.out]; rfl
        have z3 : W3.cell? ⟨g8, 3, none⟩ = some (.int .i64 y.v.b) := by rw [cell_of Z3.out]; rfl
        have z4 : W3.cell? ⟨g8, 4, none⟩ = some (.int .i64 y.v.c) := by rw [cell_of Z3.out]; rfl
        have z5 : W3.cell? ⟨g8, 5, none⟩ = some (.int .i64 y.v.d) := by rw [cell_of Z3.out]; rfl
        have z6 : W3.cell? ⟨g8, 6, none⟩ = some (.int .i64 y.sn) := by rw [cell_of Z3.out]; rfl
        have z7 : W3.cell? ⟨g8, 7, none⟩ = some (.bool false) := by rw [cell_of Z3.out]; rfl
        have I4 : Hid (ExS w W3.drew tb S S1 (some m) D R' T (.slice (some ⟨g, 0, none⟩) n c) (.slice p i c') i) := I3.out.below (Below.refl _ W3).drew
        have hkey : keyOf Try.prog 9 (.string a.nm) = some (.string y.off.k) := by
          have h1 := keyOf_string_mk (P := Try.prog) (s := a.nm) Try.underlying9 (by unfold maxLen; omega)
          rw [h1, ← hyn]
          rfl
        have hpv : pN (.agg #[.string a.nm, .int .i64 y.ep, .int .i64 y.v.a, .int .i64 y.v.b, .int .i64 y.v.c, .int .i64 y.v.d, .int .i64 y.sn, .bool false]) = some (.held y.off, []) := by
          have h1 := pN_val y.off
          unfold Nd.val at h1
          rw [show y.off.nm = a.nm from hyn] at h1
          exact h1
        obtain ⟨W4, hrun, hM4, hgr⟩ := World.ownsMap.update (w := W3.drew) I4.out.mp law9 Try.underlying57 (by have := HT.out.len; rw [List.length_map]; unfold maxLen; omega) hkey hpv
        have HG : Hid (W3.drew.grownBy W4 (some m)) := hgr
        have HM : Hid (W4.ownsMap Try.prog 9 pN m ((D.map (kill ((T.take i).map Al.k))).length + 1) ((mapOf (D.map (kill ((T.take i).map Al.k)))).put (.string (kill ((T.take i).map Al.k) x).off.k) (.held (kill ((T.take i).map Al.k) x).off))) := by rw [HY.out]; exact hM4
        have K4 : Hid (Kp (· = m) W3.drew W4) := Kp.of_grown hgr fun k e => (Option.some.inj e).symm
        have hgm : g8 ≠ m := fun e => I4.out.mp.ne (show W3.drew.heap[g8]? = _ from Z3.out) e.symm
        have hg8 : g8 < W3.heap.size := (Array.getElem?_eq_some_iff.1 Z3.out).1
        have Z4 : Hid (W4.heap[g8]? = some (.cells #[.string a.nm, .int .i64 y.ep, .int .i64 y.v.a, .int .i64 y.v.b, .int .i64 y.v.c, .int .i64 y.v.d, .int .i64 y.sn, .bool false] 46 (0, 0))) := (K4.out.block g8 hg8 hgm).trans Z3.out
        clear hM4 hgr hkey hpv hgm hg8 K4
        go_region
        all_goals
          clear c3 z0 z1 z2 z3 z4 z5 z6 z7 hrun
          have z0 : W4.cell? ⟨g8, 0, none⟩ = some (.string a.nm) := by rw [cell_of Z4.out]; rfl
          have HU : Hid (SR (W4.alloc (.cells #[.string a.nm] 9)) (.slice p i c') ((T.take i).map Al.k)) := by
            refine (I4.out.out.keep fun j q => ?_).below ((Below.refl _ _).alloc (Nat.le_refl _) _)
            refine HG.out.block j (I4.out.out.lt q) fun e => ?_
            have := (I4.out.un j q).1
            have := (I4.out.sep m rfl).2
            have e2 := Option.some.inj e
            omega
          have hkl : ((T.take i).map Al.k).length = i := by rw [List.length_map, List.length_take]; have := HL.out; omega
          have z9 : (W4.alloc (.cells #[.string a.nm] 9)).cell? ⟨W4.heap.size, 0, none⟩ = some (.string a.nm) := by rw [cell_of new0]; rfl
          have b5 : Hid (Below W4.heap.size W4 (W4.alloc (.cells #[.string a.nm] 9))) := (Below.refl _ _).alloc (Nat.le_refl _) _
          have HK : Hid (((T.take i).map Al.k).length = i ∧ i + 1 ≤ 4096) := ⟨hkl, by omega⟩
          clear hkl
          go_wp2_with (at_builtin; refine append_s rfl _ _ rfl (.slice p i c') ((T.take i).map Al.k) i HK.out.1 rfl HU.out W4.heap.size a.nm rfl z9 HK.out.2 ?_; intro u' w6 h1 h2 h4; have I6 : Hid _ := I4.out.next HT.out.srt HA.out HX.out HM.out HG.out b5.out h1 h2 h4; obtain ⟨p3, c3, rfl⟩ := h1.shape; rw [List.length_append, HK.out.1])
          refine ⟨⟨i + 1, p3, c3, by omega, rfl, by simp, ?_⟩, ?_⟩
          · have h6 := I6.out
            rw [List.length_append, HK.out.1] at h6
            exact h6
          · simp [intOf]
            omega
    · obtain rfl : i = n := by omega
      have hii : ¬ (i : Int) < (i : Int) := by omega
      have HE : Hid (Calls Try.prog 36 #[.slice p i c'] wr fun e w' => e = .returned (.tuple #[]) ∧ Hid (Xp w w' tb S mb (expR D now) ((expN D now).map Nd.k) (.slice p i c'))) := by
        have e2 : (T.map Al.k).Perm ((expN D now).map Nd.k) := by
          have := HP.out.map Al.k
          rw [List.map_map] at this
          exact this
        have h1 := HI.out.out
        rw [List.take_of_length_le (by have := HL.out; omega)] at h1
        refine (sort_any h1 (by omega) e2 (List.pairwise_map.2 (srt_expN HT.out.srt now))).mono ?_
        rintro e w' ⟨rfl, h2⟩
        exact ⟨rfl, HI.out.fin HT.out HL.out HP.out HQ.out h2.out.1 h2.out.2⟩
      clear HI HP HQ HT HN HL
      go_wp2_with (go_at_call 36; refine HE.out.mono ?_; rintro e w6 ⟨rfl, h6⟩)
      go_ret
      exact ⟨p, c', rfl, h6.out⟩
theorem exp_any {w : World} {X : Nat → Prop} {tb : Nat} {D : List Nd} (h : Tab w X tb D) (now : Int) :
    Calls Try.prog 20 #[.pointer (some ⟨tb, 0, none⟩), .int .i64 now] w fun e w' => ∃ p c', e = .returned (.slice p (expN D now).length c') ∧ Hid (∃ X', Tab w' X' tb (expR D now) ∧ Step X X' w w' ∧ SR w' (.slice p (expN D now).length c') ((expN D now).map Nd.k) ∧ ∀ j, (Value.slice p (expN D now).length c').ownBlock = some j → w.heap.size ≤ j ∧ ¬ X' j) := by
  obtain ⟨⟨S, mb, R, h1, hX⟩, hlt⟩ := h
  refine (exp_at h1 now).mono ?_
  rintro e w' ⟨p, c', rfl, hx⟩
  obtain ⟨S', R', h2, h3, h4⟩ := hx.out.t
  refine ⟨p, c', rfl, Tf tb S' mb, h2.tab, h3.mono hX, hx.out.r, h4⟩
end Go.Proofs.Ytihjmigjphljnaa
