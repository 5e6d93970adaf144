/-
  hear: a live node is put in, and its lease runs anew.
-/
import Derived.Test.YtihjmigjphljnaaAb
import Derived.Carry
import Derived.Deep.CutBlock
import Derived.Deep.CutRange
import Derived.Deep.DeepCutAuto
import Derived.Deep.RegionHeld3
namespace Go.Proofs.Ytihjmigjphljnaa
open Go.RowKit Go.Maps Go.WideMaps
open Tk

def HS.wn (S : HS) (x : Value) : HS := { S with nv := x }
theorem ck_nv {w : World} {tb : Nat} {S : HS} {R : List Al} (h : Ck w tb S R) (x : Value) : Ck (w.setCell ⟨tb, 0, none⟩ x) tb (HS.wn S x) R := by
  refine ⟨⟨⟨?_, ?_, ?_, h.c.m.no, h.c.m.ok, h.c.m.sm⟩, h.c.h⟩, h.p, h.s⟩
  · have := setB h.c.m.hp (i := 0) x
    exact this
  · exact h.c.m.rw.keep fun g hg => Below.heap_setCell _ _ _ _ fun e => h.c.m.rw.ne h.c.m.hp (by decide) ((show g = tb from e) ▸ hg)
  · have := h.c.m.mp
    show match S.mb with | none => S.l = [] | some m => ∃ M, MpL _ m S.l M
    cases hm : S.mb with
    | none => rw [hm] at this; exact this
    | some m =>
      rw [hm] at this
      obtain ⟨M, hM⟩ := this
      exact ⟨M, hM.keep (Below.heap_setCell _ _ _ _ (hM.o.ne h.c.m.hp))⟩
theorem tb_made {w : World} {tb : Nat} {S : HS} {D : List Nd} {R : List Al} (h : TbAt w tb S none D R) : TbAt ((w.setCell ⟨tb, 0, none⟩ (.map (some w.heap.size))).alloc (.map #[] 0)) tb (HS.wn S (.map (some w.heap.size))) (some w.heap.size) D R := by
  have h0 : D = [] := h.mp
  subst h0
  have hsz : (w.setCell ⟨tb, 0, none⟩ (.map (some w.heap.size))).heap.size = w.heap.size := by simp [World.setCell]
  have b1 : Below w.heap.size (w.setCell ⟨tb, 0, none⟩ (.map (some w.heap.size))) ((w.setCell ⟨tb, 0, none⟩ (.map (some w.heap.size))).alloc (.map #[] 0)) := (Below.refl _ _).alloc (by rw [hsz]; exact Nat.le_refl _) _
  have hm1 := World.ownsMap_made (w.setCell ⟨tb, 0, none⟩ (.map (some w.heap.size))) Try.prog 9 pN
  rw [hsz] at hm1
  have hck := ck_nv h.ck (.map (some w.heap.size))
  refine ⟨hck.below (by rw [hsz]; exact b1), rfl, ?_, h.srt, h.len, h.al, fun m hm q => ?_, h.ok⟩
  · exact Tk.tight hm1
  · have := hck.c.m.lt m q
    rw [hsz, ← Option.some.inj hm] at this
    omega
/-- ahead of the map's update -/
structure Hs (w W : World) (tb m : Nat) (S S1 : HS) (mb : Option Nat) (D : List Nd) (R : List Al) (n : Nd) : Prop where
  t : TbAt W tb S1 (some m) D R
  x : W.heap[w.heap.size]? = some (.cells #[.string n.nm, .int .i64 n.ep, .int .i64 n.v.a, .int .i64 n.v.b, .int .i64 n.v.c, .int .i64 n.v.d, .int .i64 n.sn, .bool n.lv] 46 (0, 0))
  kp : Kp (· = tb) w W
  lo : mb = some m ∨ w.heap.size ≤ m
  s1 : S1.lv = S.lv ∧ S1.mb = S.mb
/-- what hear leaves -/
structure Hd (w w' : World) (tb : Nat) (S : HS) (mb : Option Nat) (D : List Nd) (R : List Al) (n : Nd) : Prop where
  t : ∃ S' mb' R', TbAt w' tb S' mb' (put n D) R' ∧ Step (Tf tb S mb) (Tf tb S' mb') w w'
theorem setR_few {s : ByteArray} {x : Int} {R : List Al} (h : R.length ≤ 12) : setR s x R = Tk.ins ⟨s, x⟩ (Tk.drp s.data.toList R) := by
  unfold setR
  rw [if_neg]
  have : ¬ 1024 ≤ R.length := by omega
  simp [this]
theorem hear_end {w W W3 w' : World} {tb m : Nat} {S S1 S2 : HS} {mb : Option Nat} {D : List Nd} {R : List Al} {n : Nd} (h : Hs w W tb m S S1 mb D R n) (hn : n.ok) (hl : n.lv = true) (hr : (put n D).length ≤ 12)
    (hm : W3.ownsMap Try.prog 9 pN m (D.length + 1) ((mapOf D).put (.string n.k) (.held n))) (hg : W.grownBy W3 (some m)) (hc : Cg W3 w' tb S1 S2 (setR n.nm (n.sn + 10) R)) : Hd w w' tb S mb D R n := by
  have hRl : R.length ≤ 12 := by rw [h.t.al.length_eq]; exact Nat.le_trans (als_length D) h.t.len
  rw [setR_few hRl] at hc
  rw [mapOf_put] at hm
  have hm' := Tk.tight hm
  rw [mapOf_size] at hm'
  have k3 : Kp (· = m) W W3 := Kp.of_grown hg fun k e => (Option.some.inj e).symm
  have hml := hm.lt
  have hsep := h.t.sep m rfl
  have hsz := h.kp.size
  have hsz3 := k3.size
  have hmm : w'.heap[m]? = W3.heap[m]? := hc.g.kp.block m hml hsep
  have hlm : m < W.heap.size := h.t.mp.lt
  have fpS : ∀ k, Tk.Fp tb S1 k → Tk.Fp tb S k := fun k q => by unfold Tk.Fp at *; rw [h.s1.1, h.s1.2] at q; exact q
  refine ⟨S2, some m, _, ⟨hc.c, by rw [hc.g.nv, h.t.nv], ?_, srt_put h.t.srt, hr, als_put hl h.t.al, fun j hj q => ?_, fun y hy => ?_⟩, ?_, fun k hk => ?_⟩
  · exact keepMap hm' hmm
  · have e := Option.some.inj hj
    subst e
    rcases hc.g.fp _ q with q | q
    · exact hsep q
    · omega
  · rcases mem_put.1 hy with rfl | hy
    · exact hn
    · exact h.t.ok y hy.1
  · exact ⟨hc.g.kp.os.trans (k3.os.trans h.kp.os), hc.g.kp.tape.trans (k3.tape.trans h.kp.tape), hc.g.kp.output.trans (k3.output.trans h.kp.output), Nat.le_trans hsz (Nat.le_trans hsz3 hc.g.kp.size), fun k hk hn' => by
      refine (hc.g.kp.block k (by omega) fun q => hn' (.inl (fpS k q))).trans ((k3.block k (by omega) fun q => ?_).trans (h.kp.block k hk fun q => hn' (.inl (.inl q))))
      rcases h.lo with e | e
      · exact hn' (.inr (by rw [e, show k = m from q]))
      · have : k = m := q
        omega⟩
  · rcases hk with q | q
    · rcases hc.g.fp k q with q | q
      · exact .inl (.inl (fpS k q))
      · exact .inr (by omega)
    · have e := Option.some.inj q
      subst e
      rcases h.lo with e | e
      · exact .inl (.inr e)
      · exact .inr e
set_option maxHeartbeats 1000000 in
set_option maxRecDepth 100000 in
theorem hear_any {w : World} {tb : Nat} {S : HS} {mb : Option Nat} {D : List Nd} {R : List Al} {n : Nd} (hw : Hid (TbAt w tb S mb D R)) (hn : Hid n.ok) (hl : Hid (n.lv = true)) (hr : Hid ((put n D).length ≤ 12)) :
    Calls Try.prog 33 #[.pointer (some ⟨tb, 0, none⟩), n.val] w fun e w' => e = .returned (.tuple #[]) ∧ Hid (Hd w w' tb S mb D R n) := by
  have hE : Hid (∀ W W3 w' m S1 S2, Hs w W tb m S S1 mb D R n → W3.ownsMap Try.prog 9 pN m (D.length + 1) ((mapOf D).put (.string n.k) (.held n)) → W.grownBy W3 (some m) → Cg W3 w' tb S1 S2 (setR n.nm (n.sn + 10) R) → Hd w w' tb S mb D R n) := fun W W3 w' m S1 S2 h1 h2 h3 h4 => hear_end h1 hn.out hl.out hr.out h2 h3 h4
  have hno : Hid (n.nm.size ≤ 281474976710656 ∧ 0 ≤ n.sn ∧ n.sn ≤ 1099511627776) := ⟨hn.out.1, hn.out.2.2.2⟩
  have hv : n.val = .agg #[.string n.nm, .int .i64 n.ep, .int .i64 n.v.a, .int .i64 n.v.b, .int .i64 n.v.c, .int .i64 n.v.d, .int .i64 n.sn, .bool n.lv] := rfl
  have hD : Hid (D.length ≤ 12) := hw.out.len
  clear hn hl hr
  rw [hv]
  have hpv : Hid (pN (.agg #[.string n.nm, .int .i64 n.ep, .int .i64 n.v.a, .int .i64 n.v.b, .int .i64 n.v.c, .int .i64 n.v.d, .int .i64 n.sn, .bool n.lv]) = some (.held n, [])) := pN_val n
  have hkey : Hid (keyOf Try.prog 9 (.string n.nm) = some (.string n.k)) := keyOf_string_mk (P := Try.prog) Try.underlying9 (by have := hno.out.1; unfold maxLen; omega)
  clear hv
  have B0 : Hid (Below w.heap.size w (w.alloc (.cells #[.string n.nm, .int .i64 n.ep, .int .i64 n.v.a, .int .i64 n.v.b, .int .i64 n.v.c, .int .i64 n.v.d, .int .i64 n.sn, .bool n.lv] 46 (0, 0)))) := (Below.refl _ w).alloc (Nat.le_refl _) _
  have X0 : Hid ((w.alloc (.cells #[.string n.nm, .int .i64 n.ep, .int .i64 n.v.a, .int .i64 n.v.b, .int .i64 n.v.c, .int .i64 n.v.d, .int .i64 n.sn, .bool n.lv] 46 (0, 0))).heap[w.heap.size]? = some (.cells #[.string n.nm, .int .i64 n.ep, .int .i64 n.v.a, .int .i64 n.v.b, .int .i64 n.v.c, .int .i64 n.v.d, .int .i64 n.sn, .bool n.lv] 46 (0, 0))) := new0
  have hnm : ∀ w, (binOp .eql 57 (.map mb) (.map none)).run Try.prog w = .ok (.bool mb.isNone) w := fun w => run_eql_map_nil w 57 9 46 mb Try.underlying57
  have W0E : Hid (TbAt (w.alloc (.cells #[.string n.nm, .int .i64 n.ep, .int .i64 n.v.a, .int .i64 n.v.b, .int .i64 n.v.c, .int .i64 n.v.d, .int .i64 n.sn, .bool n.lv] 46 (0, 0))) tb S mb D R) := hw.out.keep fun k hk => B0.out.block k (hw.out.lt hk)
  go_enter Try.func33, Try.ntmps33
  go_upto_region 1 with fail
  generalize w.alloc (.cells #[.string n.nm, .int .i64 n.ep, .int .i64 n.v.a, .int .i64 n.v.b, .int .i64 n.v.c, .int .i64 n.v.d, .int .i64 n.sn, .bool n.lv] 46) = W0 at *
  have e1 : W0.cell? ⟨tb, 0, none⟩ = some (.map mb) := W0E.out.c0
  have f1 := fz W0E.out.ck.c.m.hp 0
  have hcb : tb < W0.heap.size := W0E.out.lt (.inl (.inl rfl))
  have hbx : w.heap.size < W0.heap.size := (Array.getElem?_eq_some_iff.1 X0.out).1
  have hcw : Hid (tb < w.heap.size) := hw.out.lt (.inl (.inl rfl))
  go_upto_if 8 with fail
  go_cut [] from 9 to 12 (fun wx => ∃ m S1, Hid (Hs w wx tb m S S1 mb D R n))
  case first =>
    cases mb with
    | some m =>
      have HE : Hid (Hs w W0 tb m S S (some m) D R n) := ⟨W0E.out, X0.out, Kp.of_below B0.out, .inl rfl, rfl, rfl⟩
      go_wp2_with fail
      go_meet
      exact ⟨_, _, HE⟩
    | none =>
      have HE : Hid (Hs w ((W0.setCell ⟨tb, 0, none⟩ (.map (some W0.heap.size))).alloc (.map #[] 0)) tb W0.heap.size S (HS.wn S (.map (some W0.heap.size))) none D R n) := by
        refine ⟨tb_made W0E.out, ?_, ?_, .inr (Nat.le_of_lt hbx), rfl, rfl⟩
        · have hsz : (W0.setCell ⟨tb, 0, none⟩ (.map (some W0.heap.size))).heap.size = W0.heap.size := by simp [World.setCell]
          have b1 : Below W0.heap.size (W0.setCell ⟨tb, 0, none⟩ (.map (some W0.heap.size))) ((W0.setCell ⟨tb, 0, none⟩ (.map (some W0.heap.size))).alloc (.map #[] 0)) := (Below.refl _ _).alloc (by rw [hsz]; exact Nat.le_refl _) _
          exact (b1.block _ hbx).trans ((Below.heap_setCell W0 ⟨tb, 0, none⟩ (.map (some W0.heap.size)) _ (by have := hcw.out; show w.heap.size ≠ tb; omega)).trans X0.out)
        · exact ((Kp.of_below B0.out).trans (Kp.of_set (S := (· = tb)) W0 ⟨tb, 0, none⟩ _ rfl) fun _ _ h => h).trans (Kp.alloc (S := (· = tb)) _ _) fun _ _ h => h
      have hmm := @run_makeMap Try.prog
      have hc2 : tb < (W0.alloc (.map #[] 0)).heap.size := by simp; omega
      go_wp2_with fail
      go_meet
      exact ⟨_, _, HE⟩
  case rest =>
    obtain ⟨m, S1, HG⟩ := hcut
    clear B0 X0 W0E e1 f1 hcb hbx hw hnm hcw
    generalize wc = W at *
    have e0 : W.cell? ⟨tb, 0, none⟩ = some (.map (some m)) := HG.out.t.c0
    have hbx : w.heap.size < W.heap.size := (Array.getElem?_eq_some_iff.1 HG.out.x).1
    obtain ⟨W3, hrun, hM3, hgr⟩ := World.ownsMap.update (w := W.drew) HG.out.t.mp law9 Try.underlying57 (by have := hD.out; unfold maxLen; omega) hkey.out hpv.out
    have K3 : Hid (Kp (· = m) W W3) := by
      have := Kp.of_grown (S := (· = m)) hgr fun k e => (Option.some.inj e).symm
      exact ⟨this.os, this.tape, this.output, this.size, this.block⟩
    have G3 : Hid (W.grownBy W3 (some m)) := by
      refine ⟨hgr.os, hgr.tape, hgr.output, hgr.size, hgr.block⟩
    have HB : Hid (W3.heap[w.heap.size]? = some (.cells #[.string n.nm, .int .i64 n.ep, .int .i64 n.v.a, .int .i64 n.v.b, .int .i64 n.v.c, .int .i64 n.v.d, .int .i64 n.sn, .bool n.lv] 46 (0, 0))) :=
      (K3.out.block _ hbx (fun q => HG.out.t.mp.ne HG.out.x q.symm)).trans HG.out.x
    have hltb : tb < W.heap.size := HG.out.t.lt (.inl (.inl rfl))
    have HC : Hid (Calls Try.prog 44 #[.pointer (some ⟨tb, 1, none⟩), .string n.nm, .int .i64 (n.sn + 10)] W3.drew fun e w' => e = .returned (.int .i64 (setC n.nm.data.toList R)) ∧ Hid (∃ S', Cg W3.drew w' tb S1 S' (setR n.nm (n.sn + 10) R))) := by
      have hk : Ck W3 tb S1 R := ⟨⟨HG.out.t.ck.c.m.keep fun k hk => K3.out.block k (HG.out.t.lt (.inl hk)) fun q => HG.out.t.sep m rfl ((show k = m from q) ▸ hk), HG.out.t.ck.c.h⟩, HG.out.t.ck.p, HG.out.t.ck.s⟩
      exact set_C (hk.below (w' := W3.drew) ⟨rfl, rfl, rfl, Nat.le_refl _, fun _ _ => rfl⟩) n.nm (n.sn + 10) hno.out.1
    have hM3' : Hid _ := hM3
    have hwr : Hid (IntKind.i64.wrap (n.sn + 10) = n.sn + 10) := by have := hno.out; unfold Hid; rw [IntKind.wrap_i64]; omega
    have hq : Hid (∀ w' S2, Cg W3.drew w' tb S1 S2 (setR n.nm (n.sn + 10) R) → Hd w w' tb S mb D R n) := fun w' S2 hc => hE.out W W3 w' m S1 S2 HG.out hM3'.out G3.out ⟨hc.c, ⟨⟨hc.g.kp.os, hc.g.kp.tape, hc.g.kp.output, hc.g.kp.size, hc.g.kp.block⟩, hc.g.fp, hc.g.nv⟩⟩
    have b0 := HG.out.x
    have p0 : W.cell? ⟨w.heap.size, 0, none⟩ = some (.string n.nm) := by rw [cell_of b0]; rfl
    have p1 : W.cell? ⟨w.heap.size, 1, none⟩ = some (.int .i64 n.ep) := by rw [cell_of b0]; rfl
    have p2 : W.cell? ⟨w.heap.size, 2, none⟩ = some (.int .i64 n.v.a) := by rw [cell_of b0]; rfl
    have p3 : W.cell? ⟨w.heap.size, 3, none⟩ = some (.int .i64 n.v.b) := by rw [cell_of b0]; rfl
    have p4 : W.cell? ⟨w.heap.size, 4, none⟩ = some (.int .i64 n.v.c) := by rw [cell_of b0]; rfl
    have p5 : W.cell? ⟨w.heap.size, 5, none⟩ = some (.int .i64 n.v.d) := by rw [cell_of b0]; rfl
    have p6 : W.cell? ⟨w.heap.size, 6, none⟩ = some (.int .i64 n.sn) := by rw [cell_of b0]; rfl
    have p7 : W.cell? ⟨w.heap.size, 7, none⟩ = some (.bool n.lv) := by rw [cell_of b0]; rfl
    clear HG hE hM3 hM3' hgr G3 b0 hkey hpv hno hbx hltb
    go_upto_region 3 with fail
    go_region
    clear p0 p1 p2 p3 p4 p5 p6 p7 e0 hrun
    have p0 : W3.cell? ⟨w.heap.size, 0, none⟩ = some (.string n.nm) := by rw [cell_of HB.out]; rfl
    have p6 : W3.cell? ⟨w.heap.size, 6, none⟩ = some (.int .i64 n.sn) := by rw [cell_of HB.out]; rfl
    go_upto_region 4 with fail
    go_region_with (go_at_call 44; rw [hwr.out]; refine HC.out.mono ?_; rintro e w5 ⟨rfl, hh⟩)
    all_goals (go_wp2_with fail)
    all_goals (go_end0; obtain ⟨S2, hc⟩ := hh.out; exact ⟨rfl, hq.out _ _ hc⟩)
end Go.Proofs.Ytihjmigjphljnaa
