/-
  A run of calls: a crash.
-/
import Derived.Test.YtplcpjngpkghmaaKp
namespace Go.Proofs.Ytplcpjngpkghmaa
open Go.RowKit Go.Maps
variable {w0 w w' : World} {pb lb rb N : Nat}

/-- behind Restart -/
structure CraAt (w0 w : World) (pb rb N : Nat) (D : DK) (tg : Nat → Tg) (R : RL) (v : Value) (first sy : Nat) (recs : List (List UInt8)) (t : List UInt8) (y : OB) : Prop where
  d : Dsk w tg pb D
  t1 : ∀ k, tg k ≠ .no → w0.heap.size ≤ k
  b : Below w0.heap.size w0 w
  dn : D.down = false
  fu : D.fuse = none
  fs : D.fs = fsN none (some (encB first recs ++ t, sy)) y
  tn : Torn t
  h80 : ∀ p ∈ recs, p.length ≤ 4080
  r : RfAt w w0.heap.size rb R v
  ap : ∀ g, RB rb v R g → tg g = .no
  f : R.first = first
  n1 : R.syn ≤ first + recs.length
  n2 : first + recs.length ≤ R.next
  e : ∀ (k : Nat) (p : List UInt8), recs[k]? = some p → ∃ r', R.all[first + k]? = some r' ∧ r'.b = p
  nx : first + recs.length ≤ N
  ln : (encB first recs ++ t).length ≤ 16 + N
def Cra (w0 w : World) (pb rb N : Nat) : Prop := ∃ D tg R v first sy recs t y, CraAt w0 w pb rb N D tg R v first sy recs t y
theorem run_restart (h : Run w0 w pb lb rb N) (a : Option Addr) (n d : Nat) (ch : List UInt8) (hc : ch.length = n) (hd : n ≤ d) (hL : Lies w0 a ch) :
    Calls Try.prog 15 #[.pointer (some ⟨pb, 0, none⟩), .slice a n d] w fun e w' => e = .returned (.tuple #[]) ∧ Cra w0 w' pb rb N := by
  obtain ⟨D, pt, first, l, tg, lt, R, v, hb, hD⟩ := h
  obtain ⟨s, y, hs, hsy, hfs⟩ := hD.fs
  obtain ⟨u, hg⟩ := hb.j.g
  have h80 : ∀ p ∈ l.map RC.b, p.length ≤ 4080 := fun p hp => by
    obtain ⟨r, hr, rfl⟩ := List.mem_map.1 hp
    exact (hg.fl r hr).hl
  obtain ⟨k, t, sy', y', h1, h2, h3, h4, h5⟩ := restart_logY (D := D) first s _ (l.map RC.b) h80 (by rw [List.length_map]; exact hs) rfl hfs ch
  rw [List.length_map] at h2
  have hkl : ((l.map RC.b).take k).length = k := by rw [List.length_take, List.length_map]; omega
  have hn := hD.sm.n
  have hnx := hD.nx
  have hln := hD.ln
  refine (restart_any hb.j.d ch a n d hc hd (off_of hb.j.t1 hb.j.b hL)).mono ?_
  rintro e w' ⟨rfl, dd, st⟩
  have hne : ∀ g, RB rb v R g → w'.heap[g]? = w.heap[g]? := fun g hg' => st.1.block g (hb.r.lt hg').2 fun e => e (hb.ap g hg').1
  refine ⟨rfl, restartD D ch, tg, R, v, first, sy', (l.map RC.b).take k, t, y', ⟨dd, hb.j.t1, hb.j.b.trans (st.below hb.j.b.size hb.j.t1).1, rfl, rfl, h3, h4, fun p hp => h80 p (List.mem_of_mem_take hp), hb.r.keepAt hne, fun g hg' => (hb.ap g hg').1, hD.sm.f, by omega, by omega, fun j p hp => ?_, by omega, by omega⟩⟩
  rw [List.getElem?_take] at hp
  split at hp
  · rw [List.getElem?_map, Option.map_eq_some_iff] at hp
    obtain ⟨r, hr, rfl⟩ := hp
    exact hD.sm.e j r hr
  · cases hp
/-- behind Open, ahead of came -/
structure CamAt (w0 w : World) (pb lb rb N : Nat) (D : DK) (first : Nat) (l : List RC) (tg lt : Nat → Tg) (R : RL) (v : Value) : Prop where
  bo : Bo w0 w pb lb rb D (some ⟨pb, 0, none⟩) first l tg lt R v
  f : R.first = first
  n1 : R.syn ≤ first + l.length
  n2 : first + l.length ≤ R.next
  e : ∀ (k : Nat) (r : RC), l[k]? = some r → ∃ r', R.all[first + k]? = some r' ∧ r'.b = r.b
  up : Up D none (encB first (l.map RC.b)) (encB first (l.map RC.b)).length
  nx : first + l.length ≤ N
  ln : (encB first (l.map RC.b)).length ≤ 16 + N
def Cam (w0 w : World) (pb lb rb N : Nat) : Prop := ∃ D first l tg lt R v, CamAt w0 w pb lb rb N D first l tg lt R v
theorem cra_opened (h : Cra w0 w pb rb N) (hN : N ≤ 1000000) (u : Value) :
    Calls Try.prog 12 #[.pointer (some ⟨pb, 0, none⟩), u] w fun e w' => e = .returned (.pointer (some ⟨w.heap.size, 0, none⟩)) ∧ Cam w0 w' pb w.heap.size rb N := by
  obtain ⟨D, tg, R, v, first, sy, recs, t, y, c⟩ := h
  have hln := c.ln
  have hnx := c.nx
  refine opened_at _ _ _ _ ((open_up (P := PR w rb v R) (w0 := w0) c.d c.t1 c.b (fun g o hp => ⟨hp.2, c.ap g hp.1⟩) c.dn c.fu first recs t c.fs (by omega) (by show _ ≤ _; omega) c.h80 c.tn).mono ?_)
  rintro e w' ⟨rfl, D', lt, l, hm, j, u'⟩
  have hl : l.length = recs.length := by rw [← hm, List.length_map]
  have hE : ∀ g, RB rb v R g → ∃ o, w.heap[g]? = some o ∧ (w'.heap[g]? = some o ∧ tg g = .no ∧ lt g = .no) := fun g hg => ⟨w.heap[g]'(c.r.lt hg).2, Array.getElem?_eq_getElem _, j.pr g _ ⟨hg, Array.getElem?_eq_getElem _⟩⟩
  have hle : (encB first recs).length ≤ 16 + N := by rw [List.length_append] at hln; omega
  have hn1 := c.n1
  have hn2 := c.n2
  refine ⟨rfl, D', first, l, tg, lt, R, v, ⟨⟨j.protect nofun, c.r.keepAt fun g hg => ?_, fun g hg => ?_⟩, c.f, by omega, by omega, fun k r hr => ?_, by rw [hm]; exact u', by omega, by rw [hm]; exact hle⟩⟩
  · obtain ⟨o, h1, h2, _⟩ := hE g hg
    rw [h1, h2]
  · obtain ⟨o, _, _, h3⟩ := hE g hg
    exact h3
  · exact c.e k r.b (by rw [← hm, List.getElem?_map, hr]; rfl)
theorem cam_came (h : Cam w0 w pb lb rb N) : Calls Try.prog 16 #[.pointer (some ⟨lb, 0, none⟩), .pointer (some ⟨rb, 0, none⟩)] w fun e w' => e = .returned (.bool true) ∧ Run w0 w' pb lb rb N := by
  obtain ⟨D, first, l, tg, lt, R, v, c⟩ := h
  refine (came_law c.bo c.f c.n1 c.n2 c.e).mono ?_
  rintro e w' ⟨rfl, hb⟩
  refine ⟨rfl, D, _, first, l, tg, lt, R.came (first + l.length), v, hb, ⟨⟨c.f, rfl, c.e⟩, ⟨l.length, none, Nat.le_refl _, rfl, ?_⟩, fun _ => ⟨rfl, c.up.dn⟩, nofun, c.nx, c.ln⟩⟩
  rw [c.up.fs, List.take_of_length_le (by simp)]
end Go.Proofs.Ytplcpjngpkghmaa
