/-
  A run of calls: Append.
-/
import Derived.Test.YtplcpjngpkghmaaKo
namespace Go.Proofs.Ytplcpjngpkghmaa
open Go.RowKit Go.Maps

/-- beside the reference's blocks, one block more -/
def PX (w : World) (rb : Nat) (v : Value) (R : RL) (b0 : Nat) : Nat → Obj → Prop := fun g o => (RB rb v R g ∨ g = b0) ∧ w.heap[g]? = some o
variable {w0 w w' : World} {pb lb rb first first' b0 : Nat} {D D' : DK} {pt pt' : Option Addr} {l l' : List RC} {tg lt tg' lt' : Nat → Tg} {R : RL} {v : Value}
theorem Bo.progX (h : Bo w0 w pb lb rb D pt first l tg lt R v) (h1 : tg b0 = .no) (h2 : lt b0 = .no) : LJ (PX w rb v R b0) w0 w pb lb D pt first l tg lt :=
  h.j.protect fun g o hp => ⟨hp.2, by
    rcases hp.1 with h3 | rfl
    · exact h.ap g h3
    · exact ⟨h1, h2⟩⟩
theorem Bo.backX (h : Bo w0 w pb lb rb D pt first l tg lt R v) {ob : Obj} (hb : w.heap[b0]? = some ob) (j : LJ (PX w rb v R b0) w0 w' pb lb D' pt' first' l' tg' lt') : Bo w0 w' pb lb rb D' pt' first' l' tg' lt' R v ∧ w'.heap[b0]? = some ob :=
  ⟨h.back (j.protect fun g o hp => j.pr g o ⟨.inl hp.1, hp.2⟩), (j.pr b0 ob ⟨.inr rfl, hb⟩).1⟩
theorem SmL.app {r : RC} {r' : RC} (h : SmL first l R) (e : r'.b = r.b) (hn : R.next ≤ R.all.length) : SmL first (l ++ [r]) (R.app r') := by
  have ht : (R.all.take R.next).length = R.next := by rw [List.length_take]; omega
  refine ⟨h.f, ?_, fun k x hx => ?_⟩
  · show R.next + 1 = _
    rw [h.n, List.length_append]; rfl
  · show ∃ r'', (R.all.take R.next ++ [r'])[first + k]? = some r'' ∧ _
    have hn2 := h.n
    by_cases hk : k < l.length
    · rw [List.getElem?_append_left hk] at hx
      obtain ⟨y, h1, h2⟩ := h.e k x hx
      refine ⟨y, ?_, h2⟩
      rw [List.getElem?_append_left (by omega), List.getElem?_take, if_pos (by omega)]
      exact h1
    · rw [List.getElem?_append_right (by omega)] at hx
      have h0 : k - l.length = 0 := by
        by_cases h1 : k - l.length = 0
        · exact h1
        · rw [List.getElem?_eq_none (by simp; omega)] at hx; cases hx
      rw [h0] at hx
      obtain rfl : r = x := by simpa using hx
      refine ⟨r', ?_, e⟩
      rw [List.getElem?_append_right (by omega), ht, show first + k - R.next = 0 by omega]
      rfl
theorem SmL.lost {r' : RC} (h : SmL first l R) (hn : R.next ≤ R.all.length) : SmL first l { R.app r' with next := R.next, mb := true, ov := true } := by
  have ht : (R.all.take R.next).length = R.next := by rw [List.length_take]; omega
  refine ⟨h.f, h.n, fun k x hx => ?_⟩
  show ∃ r'', (R.all.take R.next ++ [r'])[first + k]? = some r'' ∧ _
  have hn2 := h.n
  have hk := (List.getElem?_eq_some_iff.1 hx).1
  obtain ⟨y, h1, h2⟩ := h.e k x hx
  refine ⟨y, ?_, h2⟩
  rw [List.getElem?_append_left (by omega), List.getElem?_take, if_pos (by omega)]
  exact h1
theorem run_append {N : Nat} (h : Run w0 w pb lb rb N) (hN : N ≤ 900000) (n : Int) (r : RC) (hL : Lies w0 r.a r.b) (hz : r.a = none → r.c = 0) :
    Calls Try.prog 18 #[.pointer (some ⟨lb, 0, none⟩), .pointer (some ⟨rb, 0, none⟩), .agg #[.int .i64 1, .int .i64 n, .slice r.a r.b.length r.c]] w fun e w' => e = .returned (.bool true) ∧ Run w0 w' pb lb rb (N + 100 + r.b.length) := by
  obtain ⟨D, pt, first, l, tg, lt, R, v, hb, hd⟩ := h
  obtain ⟨s, y, hs, hsy, hfs⟩ := hd.fs
  have hnx := hd.nx
  have hln := hd.ln
  obtain ⟨V, hV⟩ : ∃ V, w.alloc (.cells #[.int .i64 1, .int .i64 n, .slice r.a r.b.length r.c] 33) = V := ⟨_, rfl⟩
  have bV : Below w.heap.size w V := by rw [← hV]; exact (Below.refl _ w).alloc (Nat.le_refl _) _
  have hbx : V.heap[w.heap.size]? = some (.cells #[.int .i64 1, .int .i64 n, .slice r.a r.b.length r.c] 33 (0, 0)) := by rw [← hV]; exact new0
  have hB := hb.keep bV
  have t1 : tg w.heap.size = .no := no_of fun e => by have := hb.j.d.lt e; omega
  have t2 : lt w.heap.size = .no := no_of fun e => by
    obtain ⟨u, hg⟩ := hb.j.g
    have := hg.lt_ _ e
    omega
  have hj := hB.progX t1 t2
  have hRn := hd.sm.n
  cases ho : R.ov
  · obtain ⟨rfl, hdn⟩ := hd.up ho
    have hc := hB.r.cell
    rw [ho] at hc
    by_cases hbig : 4080 < r.b.length
    · refine step_app_same w lb rb v (.int .i64 R.syn) R.mb R.tr n R.first R.next 0 1 r.a r.b.length r.c (fun w' => w' = V) _ (by decide) ?_ ?_
      · rw [hV]
        obtain ⟨u, hg⟩ := hB.j.g
        refine (lap_long V _ r.a r.b.length r.c (by omega) (over_no V lb _ _ _ hg.cell)).mono ?_
        rintro e w' ⟨rfl, rfl⟩
        exact ⟨rfl, rfl, hc, hbx⟩
      · rintro V' rfl
        refine (rapp_long hB.r ho r.a r.b.length r.c (by omega)).mono ?_
        rintro e w' ⟨rfl, rfl⟩
        exact ⟨rfl, D, _, first, l, tg, lt, R, v, hB, ⟨hd.sm, hd.fs, hd.up, hd.dn, by omega, by omega⟩⟩
    · have hfl := Crc.frame_length r.b
      have hAA := append_L (D := D) (o := none) (y := y) hdn hfs (Crc.frame r.b) (by omega)
      obtain ⟨Q, hQ⟩ : ∃ Q, appendD D nmL (Crc.frame r.b) = Q := ⟨_, rfl⟩
      rw [hQ] at hAA
      rcases hAA with ⟨h1, h2, h3, -⟩ | ⟨h1, h2, -, y', h4⟩
      · refine step_app_same w lb rb v (.int .i64 R.syn) R.mb R.tr n R.first R.next ((first : Int) + l.length) 0 r.a r.b.length r.c (fun w' => ∃ tg' lt' a c', Bo w0 w' pb lb rb Q.2 (some ⟨pb, 0, none⟩) first (l ++ [⟨r.b, a, c'⟩]) tg' lt' R v) _ (by decide) ?_ ?_
        · rw [hV]
          refine (lap_ok (P := PX V rb v R w.heap.size) hj r.b r.a _ r.c (by omega) rfl hz (off_of hj.t1 hj.b hL) (off_of hj.t2 hj.b hL) (by omega) (by omega) Q.2 (hQ.trans (pair_of h1))).mono ?_
          rintro e w' ⟨rfl, tg', lt', a, c', j⟩
          obtain ⟨k1, k2⟩ := hB.backX hbx j
          have hc' := k1.r.cell
          rw [ho] at hc'
          exact ⟨rfl, ⟨tg', lt', a, c', k1⟩, hc', k2⟩
        · rintro V' ⟨tg', lt', a, c', k1⟩
          have := rapp_any k1.r k1.j.b.size ho r.b r.a r.b.length r.c (by omega) rfl hz (hL.keep k1.j.b (Nat.le_refl _)) (by omega)
          rw [hRn, show ((first + l.length : Nat) : Int) = (first : Int) + l.length by omega] at this
          refine this.mono ?_
          rintro e w' ⟨rfl, v', a2, c2, q1, q2, q3⟩
          refine ⟨rfl, Q.2, _, first, l ++ [⟨r.b, a, c'⟩], tg', lt', R.app ⟨r.b, a2, c2⟩, v', k1.ref q1 q2 q3, ⟨hd.sm.app rfl k1.r.nx, ⟨s, y, ?_, hsy, ?_⟩, fun _ => ⟨rfl, h3⟩, fun e => ?_, ?_, ?_⟩⟩
          · rw [List.length_append]; omega
          · rw [h2, List.map_append, show [RC.mk r.b a c'].map RC.b = [r.b] from rfl, encB_snoc', List.take_append_of_le_length (by rw [List.length_map]; exact hs)]
          · have e' : R.ov = true := e
            rw [ho] at e'; cases e'
          · rw [List.length_append]; simp; omega
          · rw [List.map_append, show [RC.mk r.b a c'].map RC.b = [r.b] from rfl, encB_snoc', List.length_append]; omega
      · have hwr : IntKind.i64.wrap (((R.next + 1 : Nat) : Int) - 1) = R.next := by rw [IntKind.wrap_i64]; omega
        refine (step_app_lost w lb rb v (.int .i64 R.syn) R.mb R.tr n R.first R.next ((R.next + 1 : Nat) : Int) r.a r.b.length r.c (fun w' => ∃ tg', Bo w0 w' pb lb rb Q.2 none first l tg' lt R v) (fun v' w' => ∃ tg' a c', Bo w0 w' pb lb rb Q.2 none first l tg' lt (R.app ⟨r.b, a, c'⟩) v') (by omega) hwr ?_ ?_).mono ?_
        · rw [hV]
          refine (lap_lost (P := PX V rb v R w.heap.size) hj r.b r.a _ r.c (by omega) rfl hz (off_of hj.t1 hj.b hL) Q.2 (hQ.trans (by rw [← h1]))).mono ?_
          rintro e w' ⟨rfl, tg', j⟩
          obtain ⟨k1, k2⟩ := hB.backX hbx j
          have hc' := k1.r.cell
          rw [ho] at hc'
          exact ⟨rfl, ⟨tg', k1⟩, hc', k2⟩
        · rintro V' ⟨tg', k1⟩
          refine (rapp_any k1.r k1.j.b.size ho r.b r.a r.b.length r.c (by omega) rfl hz (hL.keep k1.j.b (Nat.le_refl _)) (by omega)).mono ?_
          rintro e w' ⟨rfl, v', a2, c2, q1, q2, q3⟩
          have hc' := q1.cell
          rw [show (R.app ⟨r.b, a2, c2⟩).ov = false from ho] at hc'
          exact ⟨_, v', rfl, ⟨tg', a2, c2, k1.ref q1 q2 q3⟩, hc'⟩
        · rintro e w' ⟨rfl, v', w2, ⟨tg', a2, c2, k1⟩, hc2, rfl⟩
          refine ⟨rfl, Q.2, _, first, l, tg', lt, { R.app ⟨r.b, a2, c2⟩ with next := R.next, mb := true, ov := true }, v', k1.set ((((Kp.refl _ w2).put 2 _).put 4 _).put 6 _) (setB (setB (setB hc2 _) _) _) rfl ?_ hb.r.fx hb.r.sx, ⟨hd.sm.lost hb.r.nx, ⟨s, y', hs, hsy, h4⟩, nofun, fun _ => ⟨rfl, h2⟩, by omega, by omega⟩⟩
          have := k1.r.nx
          show R.next ≤ (R.all.take R.next ++ [_]).length
          have h5 : R.next + 1 ≤ (R.all.take R.next ++ [(⟨r.b, a2, c2⟩ : RC)]).length := this
          omega
  · obtain ⟨rfl, hdn⟩ := hd.dn ho
    have hc := hB.r.cell
    rw [ho] at hc
    refine step_app_over w lb rb v (.int .i64 R.syn) R.mb R.tr n R.first R.next 0 r.a r.b.length r.c (fun w' => w' = V) _ ?_ ?_
    · rw [hV]
      obtain ⟨u, hg⟩ := hB.j.g
      refine (lap_over V _ _ (over_yes V lb _ _ hg.cell)).mono ?_
      rintro e w' ⟨rfl, rfl⟩
      exact ⟨rfl, rfl, hc, hbx⟩
    · rintro V' rfl
      refine (rapp_over hB.r ho _).mono ?_
      rintro e w' ⟨rfl, rfl⟩
      exact ⟨rfl, D, _, first, l, tg, lt, R, v, hB, ⟨hd.sm, hd.fs, hd.up, hd.dn, by omega, by omega⟩⟩
end Go.Proofs.Ytplcpjngpkghmaa
