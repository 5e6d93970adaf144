/-
  drop and Remove on any queue.
-/
import Derived.Test.YthlbeofonbbbdaaQs
namespace Go.Proofs.Ythlbeofonbbbdaa
open Go.RowKit Go.Maps Go.WideMaps

theorem drop_any {w : World} {ow : Nat → Option (List UInt8)} {pb m m2 N : Nat} {l : List Hd} {q : List Hq} {a : Hd} (h : QAt w ow pb (some m) (some m2) l q N) (hne : m2 ≠ m) (ha : a ∈ l) (hz : a.j.tn.length ≤ 281474976710656) :
    Calls Try.prog 36 #[.pointer (some ⟨pb, 0, none⟩), .pointer (some ⟨a.b, 0, none⟩)] w fun e w' => e = .returned (.tuple #[]) ∧ RemR w w' pb (some m) (some m2) l q N a.j.job := by
  obtain ⟨M, hM⟩ := h.W.wm
  have hmh : w.ownsMap Try.prog 9 pE m2 q.length (mapH q) := h.H.hm
  obtain ⟨y, hy, hyn⟩ := h.H.has a ha
  obtain ⟨hc, hg⟩ := h.H.hp y hy
  have hC : y.C (a.h : Int) = some (ky a.j) := (h.H.ct y hy _ _).2 ⟨a, ha, hyn.symm, rfl, rfl⟩
  obtain ⟨-, y', e1, e2, -⟩ := hc.ok hC
  have hwf : (Lit.int .i64 (a.h : Int)).wf = true := wf_of (by omega)
  have hzm : (⟨⟨a.j.tn⟩⟩ : ByteArray).size ≤ maxLen := by show a.j.tn.length ≤ _; unfold maxLen; omega
  have HLK : ∀ k, (Instr.lookup 52 (.map (some m2)) (.string ⟨⟨a.j.tn⟩⟩) false).run Try.prog (w.drewN k) = .ok (.pointer (some ⟨y.hb, 0, none⟩)) (w.drewN k) := fun k => by
    have := look_H (w := w.drewN k) (mh := some m2) (q := q) (keepMap hmh rfl) ⟨⟨a.j.tn⟩⟩ hzm
    rw [show (⟨⟨a.j.tn⟩⟩ : ByteArray).data.toList = y.nm from hyn.symm, fndN_self h.H.srt hy] at this
    exact this
  have ltO : ∀ k, Oq pb (some m) (some m2) l k → k < w.heap.size := fun k hk => h.lt (.inl hk)
  have hpF : ∀ k, Oq pb (some m) (some m2) l k → ¬ Fp y.hb y.S k := fun k hk hf => by
    have := h.H.oh y hy k hf
    rw [h.oo k hk] at this
    cases this
  have om : Oq pb (some m) (some m2) l m := .inr (.inl rfl)
  have om2 : Oq pb (some m) (some m2) l m2 := .inr (.inr (.inl rfl))
  have H50 : ∀ k, Calls Try.prog 50 #[.pointer (some ⟨y.hb, 0, none⟩), .int .i64 a.h] (w.drewN k) fun e w' => e = .returned (.int .i64 0) ∧ Hid ((∃ S', Hc w' y.hb (y.C.del a.h) y.g (y.n - 1) S' ∧ Kp (Fp y.hb y.S) w w' ∧ ∀ k, Fp y.hb S' k → Fp y.hb y.S k ∨ w.heap.size ≤ k) ∧ D1 w' pb a.b m m2 y.hb q.length a.j.job a.j.pr a.h ((y.n - 1 : Nat) : Int) ⟨⟨a.j.tn⟩⟩ M (mapH q)) := fun k => by
    have hck : Hc (w.drewN k) y.hb y.C y.g y.n y.S := hc.keep fun _ _ => rfl
    obtain ⟨g', eg, hr⟩ := rem_C hck hwf hC
    have eg' : g' = a.h := by omega
    rw [eg'] at hr
    refine hr.mono fun e w1 ⟨he, S', k1, k2⟩ => ?_
    have kk : Kp (Fp y.hb y.S) w w1 := ⟨k2.kp.os, k2.kp.tape, k2.kp.output, k2.kp.size, k2.kp.block⟩
    have at1 : ∀ k, Oq pb (some m) (some m2) l k → w1.heap[k]? = w.heap[k]? := fun k hk => kk.block k (ltO k hk) (hpF k hk)
    exact ⟨he, ⟨S', k1, kk, k2.fp⟩, (at1 pb (.inl rfl)).trans h.W.cell, (at1 a.b (.inr (.inr (.inr ⟨a, ha, rfl⟩)))).trans (h.W.blk a ha), keepMap hM.o (at1 m om), keepMap hmh (at1 m2 om2), len_C k1⟩
  have hn : l.Pairwise fun a b => a.j.job ≠ b.j.job := by
    have := h.W.nj
    unfold NJ at this
    rw [List.pairwise_map] at this
    exact this
  by_cases hz0 : y.n - 1 = 0
  · rw [hz0] at H50
    refine (drop_last w pb a.b m m2 y.hb q.length a.j.job a.j.pr a.h ⟨⟨a.j.tn⟩⟩ M (mapH q) _ (wf_ok (h.W.ok a ha)) hzm hne h.W.cell (h.W.blk a ha) HLK H50).mono ?_
    rintro e w' ⟨he, w1, ⟨S', k1, k2, k3⟩, ho, ho2, hk⟩
    refine ⟨he, rem_Q (q' := drpN Hq.nm a.j.tn q) (S' := S') h hM ha hy hyn ho (fun z hz' => .inr (mem_drpN.1 hz')) ?_ (srtN_drp h.H.srt) (fun b hb => ?_) (Nat.le_trans (List.length_filter_le _ _) h.H.len) ((k2.mono fun _ _ e => .inl e).trans hk fun k _ e => .inr e) k3⟩
    · rw [show (⟨⟨a.j.tn⟩⟩ : ByteArray).data.toList = a.j.tn from rfl, mapH_del] at ho2
      have := tight ho2
      rw [mapH_size] at this
      exact this
    · obtain ⟨hb1, hb2⟩ := mem_oH.1 hb
      obtain ⟨z, hz1, hz2⟩ := h.H.has b hb1
      refine ⟨z, mem_drpN.2 ⟨hz1, fun e => ?_⟩, hz2⟩
      have c1 := h.H.cnt y hy
      have c3 := one_out (a := a) (l := l.filter fun b => b.j.tn == y.nm) (hn.filter _) (List.mem_filter.2 ⟨ha, by simp [hyn]⟩)
      have c4 : b ∈ oH a.j.job (l.filter fun b => b.j.tn == y.nm) := mem_oH.2 ⟨List.mem_filter.2 ⟨hb1, by simp [hyn, ← hz2, e]⟩, hb2⟩
      have c5 := List.length_pos_of_mem c4
      omega
  · refine (drop_more w pb a.b m m2 y.hb q.length a.j.job a.j.pr a.h ((y.n - 1 : Nat) : Int) ⟨⟨a.j.tn⟩⟩ M (mapH q) _ (by omega) (wf_ok (h.W.ok a ha)) h.W.cell (h.W.blk a ha) HLK H50).mono ?_
    rintro e w' ⟨he, w1, ⟨S', k1, k2, k3⟩, ho, hk⟩
    have hmw := k2.size
    have hc' : Hc w' y.hb (y.C.del a.h) y.g (y.n - 1) S' := k1.keep fun k hk' => hk.block k (k1.h.lt k hk') fun e => by
      have e' : k = m := e
      have := ltO m om
      rcases k3 k hk' with q1 | q1
      · exact hpF m om (e' ▸ q1)
      · omega
    refine ⟨he, rem_Q (q' := q.map (chQ a.j.tn (y.C.del a.h) y.g (y.n - 1) S')) (S' := S') h hM ha hy hyn ho (fun z' hz' => ?_) ?_ ?_ (fun b hb => ?_) (by rw [List.length_map]; exact h.H.len) ((k2.mono fun _ _ e => .inl e).trans hk fun k _ e => .inr (.inl e)) k3⟩
    · obtain ⟨z, hz1, rfl⟩ := List.mem_map.1 hz'
      unfold chQ
      by_cases e : z.nm = a.j.tn
      · rw [if_pos e, srtN_one h.H.srt hz1 hy (e.trans hyn.symm)]
        exact .inl ⟨rfl, hz0, hc'⟩
      · rw [if_neg e]; exact .inr ⟨hz1, e⟩
    · show World.ownsMap _ _ _ _ _ _ _
      rw [List.length_map, mapH_ch]
      exact keepMap hmh ((hk.block m2 (Nat.lt_of_lt_of_le (ltO m2 om2) k2.size) hne).trans (k2.block m2 (ltO m2 om2) (hpF m2 om2)))
    · refine List.pairwise_map.2 (h.H.srt.imp fun {a b} hab => ?_)
      rw [chQ_nm, chQ_nm]
      exact hab
    · obtain ⟨z, hz1, hz2⟩ := h.H.has b (mem_oH.1 hb).1
      exact ⟨_, List.mem_map.2 ⟨z, hz1, rfl⟩, by rw [chQ_nm]; exact hz2⟩
theorem rem_any {w : World} {S : Nat → Prop} {pb N : Nat} {D : List J} (h : Que w S pb D N) (x : Int) (hx : wf x) (hz : ∀ y ∈ D, y.tn.length ≤ 281474976710656) :
    Calls Try.prog 16 #[.pointer (some ⟨pb, 0, none⟩), .int .i64 x] w fun e w' => e = .returned (.int .i64 (remD D x).1) ∧ Hid (PuR w w' S pb (remD D x).2 N) := by
  obtain ⟨⟨ow, mw, mh, l, q, h1, h2, h3, h4⟩, h5⟩ := id h
  have hfd : Calls Try.prog 29 #[.pointer (some ⟨pb, 0, none⟩), .int .i64 x] w fun e w' => e = .returned (optp (aJ l x)) ∧ w' = w := find_Q h1.W x hx
  have e1 : fJ x D = (l.find? fun a => decide (a.j.job = x)).map Hd.j := by rw [← fJ_perm h1.W.nj h2, fJ_at]
  unfold aJ at hfd
  unfold remD
  cases hq : l.find? fun a => decide (a.j.job = x) with
  | none =>
    rw [hq] at hfd e1
    simp only [Option.map_none] at e1
    rw [e1]
    exact (rem_no w pb x hfd).mono fun e w' ⟨he, hw⟩ => ⟨he, S, by rw [hw]; exact h, by rw [hw]; exact Kp.refl _ _, fun k hk => .inl hk⟩
  | some a =>
    rw [hq] at hfd e1
    simp only [Option.map_some] at e1
    rw [e1]
    have ha := List.mem_of_find?_eq_some hq
    have hax : a.j.job = x := by have := List.find?_some hq; simpa using this
    have haz : a.j.tn.length ≤ 281474976710656 := hz _ (h2.mem_iff.1 (List.mem_map.2 ⟨a, ha, rfl⟩))
    cases mw with
    | none =>
      have hl : l = [] := h1.W.wm
      rw [hl] at ha
      cases ha
    | some m =>
      obtain ⟨m2, rfl, hne⟩ := h1.ns m rfl
      refine rem_yes w pb a.b x (fun w' => PuR w w' S pb (dJ x D) N) hfd ((drop_any h1 hne ha haz).mono ?_)
      rintro e w' ⟨he, ow', q', a1, a3, a4⟩
      rw [hax] at a1 a4
      refine ⟨he, Owq pb (some m) (some m2) (oH x l) q', ⟨⟨ow', some m, some m2, oH x l, q', a1, ?_, srt_dJ h3, fun k hk => hk⟩, fun k hk => a1.lt hk⟩, a3.mono fun k _ e => h4 k e, fun k hk => (a4 k hk).imp (h4 k) id⟩
      rw [oH_map]
      exact h2.filter _
end Go.Proofs.Ythlbeofonbbbdaa
