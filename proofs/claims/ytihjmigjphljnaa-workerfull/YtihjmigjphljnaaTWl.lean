/-
  line.Push: the row grows.
-/
import Derived.Test.YtihjmigjphljnaaTWk
import Derived.Deep.OwnRows
import Derived.Deep.RegionLaw
import Derived.Deep.AppendLies
namespace Go.Proofs.Ytihjmigjphljnaa.Tk
open Go.RowKit Go.Maps Go.WideMaps
variable {nv : Value}

theorem info45 : (Try.prog.info? 79).map (fun i => (i.zero, i.size, i.bytes)) = some (some (.agg #[.string ⟨#[]⟩, .int .i64 0]), 2, 24) := by kernel_rfl
def e0 : Al := ⟨⟨#[]⟩, 0⟩
theorem flat_one (a : Al) : flat [a] = [.string a.nm, .int .i64 a.at'] := rfl
/-- the row grown by an empty alarm, and the clock's cell written -/
structure Gr (nv : Value) (w0 w' : World) (cb bx m : Nat) (v v' : Value) (l : List Al) (M : DataW Nat) : Prop where
  b : w'.heap[cb]? = some (.cells #[nv, v', .map (some m)] 63 (0, 0))
  r : Row w' v' (l ++ [e0])
  x : w'.heap[bx]? = some (.cells #[.pointer (some ⟨cb, 1, none⟩)] 100 (0, 0))
  m : Mp w' m M
  kp : Kp (fun j => j = cb ∨ v.ownBlock = some j) w0 w'
  lo : ∀ j, v'.ownBlock = some j → v.ownBlock = some j ∨ w0.heap.size ≤ j
/-- ahead of the append -/
structure Ga (nv : Value) (w : World) (cb bx m : Nat) (v : Value) (l : List Al) (M : DataW Nat) : Prop where
  b : w.heap[cb]? = some (.cells #[nv, v, .map (some m)] 63 (0, 0))
  r : Row w v l
  x : w.heap[bx]? = some (.cells #[.pointer (some ⟨cb, 1, none⟩)] 100 (0, 0))
  m : Mp w m M
  s : l.length < 1024
theorem Row.ne {w : World} {v : Value} {l : List Al} (h : Row w v l) {b : Nat} {cs : Array Value} {t : TypeId} {f : Nat × Nat} (hb : w.heap[b]? = some (.cells cs t f)) (ht : t ≠ 79) : v.ownBlock ≠ some b := fun q => by
  rcases h.2 with ⟨rfl, _⟩ | ⟨g', cap, cur, rfl, _, hgg, _⟩
  · cases q
  · have e : g' = b := by simpa [Value.ownBlock] using q
    rw [e, hb] at hgg
    cases hgg
    exact ht rfl
theorem Row.nem {w : World} {v : Value} {l : List Al} (h : Row w v l) {m : Nat} {M : DataW Nat} (hm : Mp w m M) : v.ownBlock ≠ some m := fun q => by
  rcases h.2 with ⟨rfl, _⟩ | ⟨g', cap, cur, rfl, _, hgg, _⟩
  · cases q
  · have e : g' = m := by simpa [Value.ownBlock] using q
    exact hm.ne hgg e.symm
theorem grow_end {W w4 : World} {cb bx m n g cap c : Nat} {q : Option Addr} {l : List Al} {M : DataW Nat} (h : Ga nv W cb bx m (.slice q n c) l M) (hl : l.length = n) (ho : w4.ownsRow 0 79 2 (.slice (some ⟨g, 0, none⟩) (n + 1) cap) (n + 1) (flat l ++ flat [e0])) (hg : (W.alloc (.cells #[.string ⟨#[]⟩, .int .i64 0] 79)).drew.grownBy w4 (Value.slice q n c).ownBlock) (hat : (Value.slice q n c).ownBlock = some g ∨ g = W.heap.size + 1) :
    w4.heap[cb]? = some (.cells #[nv, .slice q n c, .map (some m)] 63 (0, 0)) ∧ w4.heap[bx]? = some (.cells #[.pointer (some ⟨cb, 1, none⟩)] 100 (0, 0)) ∧ Gr nv W (w4.setCell ⟨cb, 1, none⟩ (.slice (some ⟨g, 0, none⟩) (n + 1) cap)) cb bx m (.slice q n c) (.slice (some ⟨g, 0, none⟩) (n + 1) cap) l M := by
  have K1 : Kp (fun j => (Value.slice q n c).ownBlock = some j) W w4 := by
    have := Kp.of_grown (S := fun j => (Value.slice q n c).ownBlock = some j) hg fun j e => e
    exact ((Kp.alloc W (.cells #[.string ⟨#[]⟩, .int .i64 0] 79)).drew 1).trans this fun _ _ h => h
  have hlc := (Array.getElem?_eq_some_iff.1 h.b).1
  have hlx := (Array.getElem?_eq_some_iff.1 h.x).1
  have hlm := h.m.lt'
  have hb4 := (K1.block cb hlc (h.r.ne h.b (by decide))).trans h.b
  have hx4 := (K1.block bx hlx (h.r.ne h.x (by decide))).trans h.x
  have hm4 := h.m.keep (K1.block m hlm (h.r.nem h.m))
  have hgc : g ≠ cb := by
    rcases hat with e | e
    · exact fun e' => h.r.ne h.b (by decide) (by rw [← e']; exact e)
    · omega
  have hxc : bx ≠ cb := fun e => by have h1 := h.x; rw [e, h.b] at h1; exact absurd h1 (by simp)
  have hln : (l ++ [e0]).length = n + 1 := by rw [List.length_append, hl]; rfl
  refine ⟨hb4, hx4, ⟨setB hb4 _, ?_, (Below.heap_setCell _ _ _ _ hxc).trans hx4, hm4.keep (Below.heap_setCell _ _ _ _ (hm4.ne hb4)), ?_, fun j q' => ?_⟩⟩
  · unfold Row
    rw [hln, flat_append]
    exact ownsKeep ho fun g' hg' => Below.heap_setCell _ _ _ _ (by have : g = g' := Option.some.inj hg'; rw [← this]; exact hgc)
  · exact (K1.mono (S' := fun j => j = cb ∨ (Value.slice q n c).ownBlock = some j) fun _ _ h => .inr h).trans (Kp.of_set (S := (· = cb)) _ ⟨cb, 1, none⟩ _ rfl) fun _ _ h => .inl h
  · have : g = j := Option.some.inj q'
    rcases hat with e | e
    · exact .inl (by rw [← this]; exact e)
    · right; omega
/-- ahead of the append, as the call's start has it -/
structure Gs (nv : Value) (w W : World) (cb m : Nat) (mb : Option Nat) (v : Value) (l : List Al) (M : DataW Nat) : Prop where
  g : Ga nv W cb w.heap.size m v l M
  mp : MpL W m l M
  kp : Kp (· = cb) w W
  lo : mb = some m ∨ w.heap.size ≤ m
set_option maxHeartbeats 2000000 in
set_option maxRecDepth 100000 in
theorem push_raw (w : World) (cb : Nat) (mb : Option Nat) (l : List Al) (n : Nat) (q : Option Addr) (c : Nat) (a : Al) (hl : Hid (l.length = n)) (h : Hid (Mem w cb ⟨.slice q n c, mb, l, nv⟩)) (Q : World → Prop) (hn : n < 1024)
    (HQ : Hid (∀ W W4 m M g cap, Gs nv w W cb m mb (.slice q n c) l M → Gr nv W W4 cb w.heap.size m (.slice q n c) (.slice (some ⟨g, 0, none⟩) (n + 1) cap) l M → Calls Try.prog 97 #[.agg #[.pointer (some ⟨cb, 1, none⟩)], .agg #[.string a.nm, .int .i64 a.at'], .int .i64 n] W4.drew fun e w' => e = .returned (.tuple #[]) ∧ Q w')) :
    Calls Try.prog 95 #[.agg #[.pointer (some ⟨cb, 1, none⟩)], .iface 79 (.agg #[.string a.nm, .int .i64 a.at'])] w fun e w' => e = .returned (.tuple #[]) ∧ Q w' := by
  obtain ⟨i0, hi, hz0, hz1, hz2⟩ := info_parts info45
  have HI : Hid (Try.prog.info? 79 = some i0 ∧ i0.zero = some (.agg #[.string ⟨#[]⟩, .int .i64 0]) ∧ i0.size = 2 ∧ i0.bytes = 24) := ⟨hi, hz0, hz1, hz2⟩
  clear hi hz0 hz1 hz2
  have H63 : Hid (n + 1 ≤ maxLen ∧ (n + 1) * 24 ≤ 140737488355328 ∧ n < 1024) := ⟨by unfold maxLen; omega, by omega, hn⟩
  obtain ⟨an, aa⟩ := a
  simp only at HQ ⊢
  have a1 := assert45 (.agg #[.string an, .int .i64 aa])
  have hn1 : (n : Int) < 1024 := by omega
  clear hn
  have B0 : Hid (Below w.heap.size w (w.alloc (.cells #[.pointer (some ⟨cb, 1, none⟩)] 100 (0, 0)))) := (Below.refl _ w).alloc (Nat.le_refl _) _
  have X0 : Hid ((w.alloc (.cells #[.pointer (some ⟨cb, 1, none⟩)] 100 (0, 0))).heap[w.heap.size]? = some (.cells #[.pointer (some ⟨cb, 1, none⟩)] 100 (0, 0))) := new0
  have hnm : ∀ w, (binOp .eql 59 (.map mb) (.map none)).run Try.prog w = .ok (.bool mb.isNone) w := fun w => run_eql_map_nil w 59 9 3 mb Try.underlying59
  go_enter Try.func95, Try.ntmps95
  go_upto_region 1 with fail
  generalize w.alloc (.cells #[.pointer (some ⟨cb, 1, none⟩)] 100 (0, 0)) = W0 at *
  have M0 : Hid (Mem W0 cb ⟨.slice q n c, mb, l, nv⟩) := h.out.below B0.out
  have e1 : W0.cell? ⟨cb, 2, none⟩ = some (.map mb) := M0.out.c1
  have f1 := fz M0.out.hp 2
  have p0 : W0.cell? ⟨w.heap.size, 0, none⟩ = some (.pointer (some ⟨cb, 1, none⟩)) := by rw [cell_of X0.out]; rfl
  have hcb : cb < W0.heap.size := M0.out.lt cb (.inl rfl)
  have hbx : w.heap.size < W0.heap.size := (Array.getElem?_eq_some_iff.1 X0.out).1
  have hcw : Hid (cb < w.heap.size) := h.out.lt cb (.inl rfl)
  go_upto_if 9 with fail
  go_cut [10] from 11 to 14 (fun _ wx => ∃ m M, Hid (Gs nv w wx cb m mb (.slice q n c) l M))
  case first =>
    cases mb with
    | some m =>
      have HE : Hid (∃ m' M, Gs nv w W0 cb m' (some m) (.slice q n c) l M) := by
        obtain ⟨M, hM⟩ := M0.out.mp
        exact ⟨m, M, ⟨M0.out.hp, M0.out.rw, X0.out, hM.o, by rw [hl.out]; exact H63.out.2.2⟩, hM, Kp.of_below B0.out, .inl rfl⟩
      go_wp2_with fail
      go_meet
      obtain ⟨m', M, HE⟩ := HE.out
      exact ⟨m', M, HE⟩
    | none =>
      have HE : Hid (∃ m' M, Gs nv w ((W0.setCell ⟨cb, 2, none⟩ (.map (some W0.heap.size))).alloc (.map #[] 0)) cb m' none (.slice q n c) l M) := by
        have hl0 : l = [] := M0.out.mp
        subst hl0
        have hsz : (W0.setCell ⟨cb, 2, none⟩ (.map (some W0.heap.size))).heap.size = W0.heap.size := by simp [World.setCell]
        have b1 : Below W0.heap.size (W0.setCell ⟨cb, 2, none⟩ (.map (some W0.heap.size))) ((W0.setCell ⟨cb, 2, none⟩ (.map (some W0.heap.size))).alloc (.map #[] 0)) := (Below.refl _ _).alloc (by rw [hsz]; exact Nat.le_refl _) _
        have hp1 := (b1.block cb hcb).trans (setB M0.out.hp (i := 2) (.map (some W0.heap.size)))
        have hxc : w.heap.size ≠ cb := by have := hcw.out; omega
        have hx1 := (b1.block _ hbx).trans ((Below.heap_setCell W0 ⟨cb, 2, none⟩ (.map (some W0.heap.size)) _ hxc).trans X0.out)
        have hm1 := World.ownsMap_made (W0.setCell ⟨cb, 2, none⟩ (.map (some W0.heap.size))) Try.prog 9 iE
        rw [hsz] at hm1
        have hm2 : Mp ((W0.setCell ⟨cb, 2, none⟩ (.map (some W0.heap.size))).alloc (.map #[] 0)) W0.heap.size (.map []) := tight hm1
        refine ⟨W0.heap.size, .map [], ⟨hp1, ?_, hx1, hm2, by decide⟩, ⟨hm2, rfl, fun s z => rfl⟩, ?_, .inr (Nat.le_of_lt hbx)⟩
        · refine M0.out.rw.keep fun g hg => ?_
          have hgl := M0.out.rw.lt hg
          exact (b1.block g hgl).trans (Below.heap_setCell W0 ⟨cb, 2, none⟩ _ g (fun e => M0.out.rw.ne M0.out.hp (by decide) ((show g = cb from e) ▸ hg)))
        · exact ((Kp.of_below B0.out).trans (Kp.of_set (S := (· = cb)) W0 ⟨cb, 2, none⟩ _ rfl) fun _ _ h => h).trans (Kp.alloc (S := (· = cb)) _ _) fun _ _ h => h
      have hmm := @run_makeMap Try.prog
      have hc2 : cb < (W0.alloc (.map #[] 0)).heap.size := by simp; omega
      go_wp2_with fail
      go_meet
      obtain ⟨m', M, HE⟩ := HE.out
      exact ⟨m', M, HE⟩
  case rest =>
    obtain ⟨m, M, HG⟩ := hcut
    clear M0 X0 e1 f1 p0 hcb hbx h hnm B0
    have G0 : Hid (Ga nv wc cb w.heap.size m (.slice q n c) l M) := HG.out.g
    generalize wc = W at *
    have e0' : W.cell? ⟨cb, 1, none⟩ = some (.slice q n c) := by rw [cell_of G0.out.b]; rfl
    have f0 := fz G0.out.b 1
    have p0 : W.cell? ⟨w.heap.size, 0, none⟩ = some (.pointer (some ⟨cb, 1, none⟩)) := by rw [cell_of G0.out.x]; rfl
    have hcb : cb < W.heap.size := (Array.getElem?_eq_some_iff.1 G0.out.b).1
    have hbx : w.heap.size < W.heap.size := (Array.getElem?_eq_some_iff.1 G0.out.x).1
    have O1 : Hid ((W.alloc (.cells #[.string ⟨#[]⟩, .int .i64 0] 79)).drew.ownsRow 0 79 2 (.slice q n c) n (flat l)) := by
      have := ownsKeep G0.out.r (w1 := (W.alloc (.cells #[.string ⟨#[]⟩, .int .i64 0] 79)).drew) fun g hg => Below.heap_alloc W _ g (G0.out.r.lt hg)
      rw [hl.out] at this
      exact this
    have HN : Hid (∀ j u, (flat [e0])[j]? = some u → (W.alloc (.cells #[.string ⟨#[]⟩, .int .i64 0] 79)).drew.cell? ((⟨W.heap.size, 0, none⟩ : Addr).add j) = some u) :=
      World.news_of_block (cs := #[.string ⟨#[]⟩, .int .i64 0]) (t := 79) (fr := (0, 0)) (new0 (w := W))
    have H1 : Hid (∀ u ∈ flat [e0], u.oneCell' = true) := by
      intro u hu
      simp only [flat_one, List.mem_cons, List.not_mem_nil, or_false] at hu
      rcases hu with rfl | rfl <;> rfl
    have HS : Hid ((W.alloc (.cells #[.string ⟨#[]⟩, .int .i64 0] 79)).drew.heap.size = W.heap.size + 1) := by
      refine (?_ : _ = _)
      simp
    go_upto_region 3 with fail
    go_cut [15] from 16 to 26 (fun _ wx => ∃ g cap, Hid (Gr nv W wx cb w.heap.size m (.slice q n c) (.slice (some ⟨g, 0, none⟩) (n + 1) cap) l M))
    case first =>
      go_region_law (refine step_append_lies _ rfl (.tmp 21) (.tmp 23) 58 rfl 0 79 i0 _ 2 24 Try.underlying58 HI.out.1 HI.out.2.1 HI.out.2.2.1 HI.out.2.2.2 rfl (by decide) (.slice q n c) n (flat l) (by simp [Act.eval]) O1.out ⟨W.heap.size, 0, none⟩ 1 1 (flat [e0]) (by simp [Act.eval]) rfl HN.out H1.out (by decide) H63.out.1 H63.out.2.1 (Nat.zero_le _) _ HS.out ?_; intro g cap w4 hown hgrow hat hlt; obtain ⟨hw4, hx4, hpw⟩ := grow_end G0.out hl.out hown hgrow hat; clear hown hgrow hat hlt; have d0 : w4.cell? ⟨cb, 1, none⟩ = some (.slice q n c) := (by rw [cell_of hw4]; rfl); have df := fz hw4 1; have d1 : w4.cell? ⟨w.heap.size, 0, none⟩ = some (.pointer (some ⟨cb, 1, none⟩)) := (by rw [cell_of hx4]; rfl); have HW : Hid (Gr nv W (w4.setCell ⟨cb, 1, none⟩ (.slice (some ⟨g, 0, none⟩) (n + 1) cap)) cb w.heap.size m (.slice q n c) (.slice (some ⟨g, 0, none⟩) (n + 1) cap) l M) := hpw; clear hpw hw4 hx4)
      all_goals (go_wp2_with fail; go_meet)
      all_goals exact ⟨_, _, HW⟩
    case rest =>
      obtain ⟨g, cap, HW⟩ := hcut
      clear O1 HN H1 HS HI e0' f0 p0
      have c0 : wc.cell? ⟨cb, 1, none⟩ = some (.slice (some ⟨g, 0, none⟩) (n + 1) cap) := by rw [cell_of HW.out.b]; rfl
      have p0 : wc.cell? ⟨w.heap.size, 0, none⟩ = some (.pointer (some ⟨cb, 1, none⟩)) := by rw [cell_of HW.out.x]; rfl
      have HQ1 : Hid (Calls Try.prog 97 #[.agg #[.pointer (some ⟨cb, 1, none⟩)], .agg #[.string an, .int .i64 aa], .int .i64 n] wc.drew fun e w' => e = .returned (.tuple #[]) ∧ Q w') := HQ.out W wc m M g cap HG.out HW.out
      clear HQ HG HW G0 hl hcb hbx H63
      go_upto_region 4 with fail
      have hwr : Hid (IntKind.i64.wrap (n : Int) = (n : Int)) := by unfold Hid; rw [IntKind.wrap_i64]; omega
      go_region_with (go_at_call 97; rw [hwr.out]; refine HQ1.out.mono ?_; rintro e w5 ⟨rfl, hq⟩)
      all_goals (go_wp2_with fail)
      all_goals (go_end0; exact ⟨rfl, hq⟩)
end Go.Proofs.Ytihjmigjphljnaa.Tk
