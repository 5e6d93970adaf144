/-
  A run of calls: Get, a step of any kind, same; a crash beside a box; a disk that is up, opened again.
-/
import Derived.Test.YtplcpjngpkghmaaKr
namespace Go.Proofs.Ytplcpjngpkghmaa
open Go.RowKit Go.Maps
variable {w0 w w' : World} {pb lb rb N : Nat}

theorem run_same (h : Run w0 w pb lb rb N) : Calls Try.prog 19 #[.pointer (some ⟨lb, 0, none⟩), .pointer (some ⟨rb, 0, none⟩)] w fun e w' => e = .returned (.bool true) ∧ Run w0 w' pb lb rb N := by
  have h0 := h
  obtain ⟨D, pt, first, l, tg, lt, R, v, hb, hd⟩ := h
  refine (same_at (w0 := w0) hb hd.sm).mono ?_
  rintro e w' ⟨rfl, b⟩
  exact ⟨rfl, h0.keep b⟩
theorem run_get (h : Run w0 w pb lb rb N) (n : Int) (q : Option Addr) (m c : Nat) :
    Calls Try.prog 18 #[.pointer (some ⟨lb, 0, none⟩), .pointer (some ⟨rb, 0, none⟩), .agg #[.int .i64 4, .int .i64 n, .slice q m c]] w fun e w' => e = .returned (.bool true) ∧ Run w0 w' pb lb rb N := by
  have hB : Below w.heap.size w (w.alloc (.cells #[.int .i64 4, .int .i64 n, .slice q m c] 33)) := (Below.refl _ w).alloc (Nat.le_refl _) _
  have h1 := h.keep hB
  have hn0 : (w.alloc (.cells #[.int .i64 4, .int .i64 n, .slice q m c] 33)).heap[w.heap.size]? = some (.cells #[.int .i64 4, .int .i64 n, .slice q m c] 33 (0, 0)) := new0
  have h2 := h1
  obtain ⟨D, pt, first, l, tg, lt, R, v, hb, hd⟩ := h1
  generalize hW : w.alloc (.cells #[.int .i64 4, .int .i64 n, .slice q m c] 33) = W at *
  obtain ⟨u, hg⟩ := hb.j.g
  have hbd := hg.bd
  by_cases hin : (first : Int) ≤ n ∧ n < (first : Int) + l.length
  · obtain ⟨k, rfl⟩ : ∃ k : Nat, n = (first : Int) + k := ⟨(n - first).toNat, by omega⟩
    have hk : k < l.length := by omega
    obtain ⟨r, hr⟩ : ∃ r, l[k]? = some r := ⟨l[k], List.getElem?_eq_getElem _⟩
    obtain ⟨r', hr', hrb⟩ := hd.sm.e k r hr
    have hmem := List.mem_of_getElem? hr'
    have hlen : r.b.length < 1152921504606846976 := by have := (hg.fl r (List.mem_of_getElem? hr)).hl; omega
    refine step_get w lb rb _ 0 q m c (fun q1 m1 _ V => m1 = r.b.length ∧ Lies V q1 r.b ∧ Below W.heap.size W V) (fun q1 m1 _ q2 m2 _ V => m1 = r.b.length ∧ Lies V q1 r.b ∧ m2 = r'.b.length ∧ Lies V q2 r'.b ∧ Below W.heap.size W V) (fun V => Run w0 V pb lb rb N) ?_ ?_ ?_
    · rw [hW]
      refine (get_ok (P := NoP) hb.j k r hr hk hbd).mono ?_
      rintro e V ⟨q1, c1, rfl, o1, b1⟩
      exact ⟨q1, _, c1, rfl, ⟨rfl, (own_parts o1).1, b1⟩, at_below b1 (Nat.le_refl _) hn0⟩
    · intro V q1 m1 c1 ⟨e1, l1, b1⟩
      have hf := hd.sm.f
      have hnx := hd.sm.n
      have hRf : Rf V w0.heap.size rb R := Rf.keep ⟨v, hb.r⟩ b1
      have := rget_ok hRf (first + k) r' (by omega) (by omega) hr'
      rw [show (((first + k : Nat)) : Int) = (first : Int) + k by omega] at this
      refine this.mono ?_
      rintro e V' ⟨rfl, rfl⟩
      exact ⟨_, _, _, rfl, e1, l1, rfl, (own_parts ((hb.r.ps.each r' hmem).keep b1)).1, b1⟩
    · intro V q1 m1 c1 q2 m2 c2 ⟨e1, l1, e2, l2, b1⟩
      subst e1 e2
      refine (same_any r.b r'.b q1 q2 c1 c2 V hlen l1 l2).mono ?_
      rintro e V' ⟨rfl, b2⟩
      exact ⟨ret_b (decide_eq_true hrb.symm), (h2.keep b1).keep b2⟩
  · have hno : n < first ∨ (first : Int) + l.length ≤ n := by omega
    refine step_get w lb rb n 2 q m c (fun q1 m1 _ V => m1 = 0 ∧ Below W.heap.size W V) (fun q1 m1 _ q2 m2 _ V => m1 = 0 ∧ m2 = 0 ∧ Below W.heap.size W V) (fun V => Run w0 V pb lb rb N) ?_ ?_ ?_
    · rw [hW]
      refine (get_no (P := NoP) hb.j n hno).mono ?_
      rintro e V ⟨rfl, b1⟩
      exact ⟨none, 0, 0, rfl, ⟨rfl, b1⟩, at_below b1 (Nat.le_refl _) hn0⟩
    · intro V q1 m1 c1 ⟨e1, b1⟩
      have hf := hd.sm.f
      have hnx := hd.sm.n
      have hRf : Rf V w0.heap.size rb R := Rf.keep ⟨v, hb.r⟩ b1
      refine (rget_no hRf n (by omega)).mono ?_
      rintro e V' ⟨rfl, rfl⟩
      exact ⟨_, _, _, rfl, e1, rfl, b1⟩
    · intro V q1 m1 c1 q2 m2 c2 ⟨e1, e2, b1⟩
      subst e1 e2
      refine (same_any [] [] q1 q2 c1 c2 V (by decide) (.inl rfl) (.inl rfl)).mono ?_
      rintro e V' ⟨rfl, b2⟩
      exact ⟨rfl, (h2.keep b1).keep b2⟩
theorem run_step (h : Run w0 w pb lb rb N) (hN : N ≤ 900000) (k n : Int) (r : RC) (hL : Lies w0 r.a r.b) (hz : r.a = none → r.c = 0) :
    Calls Try.prog 18 #[.pointer (some ⟨lb, 0, none⟩), .pointer (some ⟨rb, 0, none⟩), .agg #[.int .i64 k, .int .i64 n, .slice r.a r.b.length r.c]] w fun e w' => e = .returned (.bool true) ∧ Run w0 w' pb lb rb (N + 100 + r.b.length) := by
  by_cases k1 : k = 1
  · subst k1; exact run_append h hN n r hL hz
  have up : ∀ {w'}, Run w0 w' pb lb rb N → Run w0 w' pb lb rb (N + 100 + r.b.length) := fun h => h.mono (by omega)
  by_cases k2 : k = 2
  · subst k2
    exact (run_sync h n r.a r.b.length r.c).mono fun e w' h => ⟨h.1, up h.2⟩
  by_cases k3 : k = 3
  · subst k3
    exact (run_trim h (by omega) n r.a r.b.length r.c).mono fun e w' h => ⟨h.1, up h.2⟩
  by_cases k4 : k = 4
  · subst k4
    exact (run_get h n r.a r.b.length r.c).mono fun e w' h => ⟨h.1, up h.2⟩
  refine (step_none w lb rb k n r.a r.b.length r.c (by simpa using k1) (by simpa using k2) (by simpa using k3) (by simpa using k4)).mono ?_
  rintro e w' ⟨rfl, b⟩
  exact ⟨rfl, up (h.keep b)⟩
/-- a crash, beside a box that stays -/
theorem run_restart_box (h : Run w0 w pb lb rb N) (ob : Obj) (a : Option Addr) (n d : Nat) (ch : List UInt8) (hc : ch.length = n) (hd : n ≤ d) (hL : Lies w0 a ch) :
    Calls Try.prog 15 #[.pointer (some ⟨pb, 0, none⟩), .slice a n d] (w.alloc ob) fun e w' => e = .returned (.tuple #[]) ∧ Cra w0 w' pb rb N ∧ w'.heap[w.heap.size]? = some ob := by
  obtain ⟨D, pt, first, l, tg, lt, R, v, hb0, hD⟩ := h
  have hno : tg w.heap.size = .no := no_of fun e => by have := hb0.j.d.lt e; omega
  have hb := hb0.keep ((Below.refl _ w).alloc (Nat.le_refl _) ob)
  have hbox : (w.alloc ob).heap[w.heap.size]? = some ob := new0
  generalize w.alloc ob = W at *
  obtain ⟨s, y, hs, hsy, hfs⟩ := hD.fs
  obtain ⟨u, hg⟩ := hb.j.g
  have h80 : ∀ p ∈ l.map RC.b, p.length ≤ 4080 := fun p hp => by
    obtain ⟨r, hr, rfl⟩ := List.mem_map.1 hp
    exact (hg.fl r hr).hl
  obtain ⟨k, t, sy', y', h1, h2, h3, h4, h5⟩ := restart_logY (D := D) first s _ (l.map RC.b) h80 (by rw [List.length_map]; exact hs) rfl hfs ch
  rw [List.length_map] at h2
  have hkl : ((l.map RC.b).take k).length = k := by rw [List.length_take, List.length_map]; omega
  have hn := hD.sm.n
  have hnx := hD.nx
  have hln := hD.ln
  refine (restart_any hb.j.d ch a n d hc hd (off_of hb.j.t1 hb.j.b hL)).mono ?_
  rintro e w' ⟨rfl, dd, st⟩
  have hne : ∀ g, RB rb v R g → w'.heap[g]? = W.heap[g]? := fun g hg' => st.1.block g (hb.r.lt hg').2 fun e => e (hb.ap g hg').1
  refine ⟨rfl, ⟨restartD D ch, tg, R, v, first, sy', (l.map RC.b).take k, t, y', ⟨dd, hb.j.t1, hb.j.b.trans (st.below hb.j.b.size hb.j.t1).1, rfl, rfl, h3, h4, fun p hp => h80 p (List.mem_of_mem_take hp), hb.r.keepAt hne, fun g hg' => (hb.ap g hg').1, hD.sm.f, by omega, by omega, fun j p hp => ?_, by omega, by omega⟩⟩, (st.1.block _ (Array.getElem?_eq_some_iff.1 hbox).1 fun e => e hno).trans hbox⟩
  rw [List.getElem?_take] at hp
  split at hp
  · rw [List.getElem?_map, Option.map_eq_some_iff] at hp
    obtain ⟨r, hr, rfl⟩ := hp
    exact hD.sm.e j r hr
  · cases hp
/-- a run whose disk is up -/
def RunU (w0 w : World) (pb lb rb N : Nat) : Prop := ∃ D pt first l tg lt R v, Bo w0 w pb lb rb D pt first l tg lt R v ∧ Dat pb D pt first l R N ∧ R.ov = false
def DownR (w0 : World) (pb lb rb N : Nat) (e : Ending) (w' : World) : Prop := (e = .returned (.bool true) ∧ Run w0 w' pb lb rb N) ∨ (e = .returned (.bool false) ∧ RunU w0 w' pb lb rb N)
theorem run_down (h : Run w0 w pb lb rb N) : Calls Try.prog 17 #[.pointer (some ⟨pb, 0, none⟩)] w fun e w' => DownR w0 pb lb rb N e w' := by
  obtain ⟨D, pt, first, l, tg, lt, R, v, hb, hd⟩ := h
  obtain ⟨mb, fl, z, hk⟩ := hb.j.d
  refine (down_at w pb _ _ _ _ hk.cell).mono ?_
  rintro e w' ⟨rfl, rfl⟩
  cases ho : R.ov
  · exact .inr ⟨by rw [(hd.up ho).2], D, pt, first, l, tg, lt, R, v, hb, hd, ho⟩
  · exact .inl ⟨by rw [(hd.dn ho).2], D, pt, first, l, tg, lt, R, v, hb, hd⟩
/-- behind SetFuse(-1): to be opened again -/
def CraU (w0 w : World) (pb rb N : Nat) : Prop := ∃ D tg R v first sy recs t y, CraAt w0 w pb rb N D tg R v first sy recs t y ∧ R.ov = false
theorem runU_fuse (h : RunU w0 w pb lb rb N) : Calls Try.prog 14 #[.pointer (some ⟨pb, 0, none⟩), .int .i64 (-1)] w fun e w' => e = .returned (.tuple #[]) ∧ CraU w0 w' pb rb N := by
  obtain ⟨D, pt, first, l, tg, lt, R, v, hb, hd, ho⟩ := h
  obtain ⟨s, y, hs, hsy, hfs⟩ := hd.fs
  refine (setfuse_any (-1) (by decide) hb.j.d).mono ?_
  rintro e w' ⟨rfl, dd, st⟩
  have hb' := hb.back (hb.prog.left dd st)
  obtain ⟨u, hg⟩ := hb'.j.g
  have hsx := hb.r.sx
  have hn := hd.sm.n
  refine ⟨rfl, setF D (-1), tg, R, v, first, _, l.map RC.b, [], y, ⟨hb'.j.d, hb'.j.t1, hb'.j.b, (hd.up ho).2, rfl, by rw [List.append_nil]; exact hfs, torn_nil, fun p hp => ?_, hb'.r, fun g hg' => (hb'.ap g hg').1, hd.sm.f, ?_, ?_, fun k p hp => ?_, ?_, ?_⟩, ho⟩
  · obtain ⟨r, hr, rfl⟩ := List.mem_map.1 hp
    exact (hg.fl r hr).hl
  · rw [List.length_map]; omega
  · rw [List.length_map]; omega
  · rw [List.getElem?_map, Option.map_eq_some_iff] at hp
    obtain ⟨r, hr, rfl⟩ := hp
    exact hd.sm.e k r hr
  · rw [List.length_map]; exact hd.nx
  · rw [List.append_nil]; exact hd.ln
def CamU (w0 w : World) (pb lb rb N : Nat) : Prop := ∃ D first l tg lt R v, CamAt w0 w pb lb rb N D first l tg lt R v ∧ R.ov = false
theorem craU_opened (h : CraU w0 w pb rb N) (hN : N ≤ 1000000) (u : Value) :
    Calls Try.prog 12 #[.pointer (some ⟨pb, 0, none⟩), u] w fun e w' => e = .returned (.pointer (some ⟨w.heap.size, 0, none⟩)) ∧ CamU w0 w' pb w.heap.size rb N := by
  obtain ⟨D, tg, R, v, first, sy, recs, t, y, c, ho⟩ := h
  have hln := c.ln
  have hnx := c.nx
  refine opened_at _ _ _ _ ((open_up (P := PR w rb v R) (w0 := w0) c.d c.t1 c.b (fun g o hp => ⟨hp.2, c.ap g hp.1⟩) c.dn c.fu first recs t c.fs (by omega) (by show _ ≤ _; omega) c.h80 c.tn).mono ?_)
  rintro e w' ⟨rfl, D', lt, l, hm, j, u'⟩
  have hl : l.length = recs.length := by rw [← hm, List.length_map]
  have hE : ∀ g, RB rb v R g → ∃ o, w.heap[g]? = some o ∧ (w'.heap[g]? = some o ∧ tg g = .no ∧ lt g = .no) := fun g hg => ⟨w.heap[g]'(c.r.lt hg).2, Array.getElem?_eq_getElem _, j.pr g _ ⟨hg, Array.getElem?_eq_getElem _⟩⟩
  have hle : (encB first recs).length ≤ 16 + N := by rw [List.length_append] at hln; omega
  have hn1 := c.n1
  have hn2 := c.n2
  refine ⟨rfl, D', first, l, tg, lt, R, v, ⟨⟨j.protect nofun, c.r.keepAt fun g hg => ?_, fun g hg => ?_⟩, c.f, by omega, by omega, fun k r hr => ?_, by rw [hm]; exact u', by omega, by rw [hm]; exact hle⟩, ho⟩
  · obtain ⟨o, h1, h2, _⟩ := hE g hg
    rw [h1, h2]
  · obtain ⟨o, _, _, h3⟩ := hE g hg
    exact h3
  · exact c.e k r.b (by rw [← hm, List.getElem?_map, hr]; rfl)
theorem camU_cell (h : CamU w0 w pb lb rb N) : ∃ v, w.cell? ⟨rb, 6, none⟩ = some v ∧ w.frozen? ⟨rb, 6, none⟩ = false := by
  obtain ⟨D, first, l, tg, lt, R, v, c, ho⟩ := h
  exact ⟨_, (k7 c.bo.r.cell).2.2.2.2.2.2, fz c.bo.r.cell 6⟩
theorem camU_set (h : CamU w0 w pb lb rb N) : Cam w0 (w.setCell ⟨rb, 6, none⟩ (.bool false)) pb lb rb N := by
  obtain ⟨D, first, l, tg, lt, R, v, c, ho⟩ := h
  refine ⟨D, first, l, tg, lt, { R with ov := false }, v, ⟨c.bo.set ((Kp.refl _ w).put 6 _) (setB c.bo.r.cell _) rfl c.bo.r.nx c.bo.r.fx c.bo.r.sx, c.f, c.n1, c.n2, c.e, c.up, c.nx, c.ln⟩⟩
end Go.Proofs.Ytplcpjngpkghmaa
