/-
  A run of calls: Trim.
-/
import Derived.Test.YtplcpjngpkghmaaKn
namespace Go.Proofs.Ytplcpjngpkghmaa
open Go.RowKit Go.Maps

theorem SmL.drop {first k : Nat} {l : List RC} {R : RL} (h : SmL first l R) (hk : k ≤ l.length) (sy : Nat) : SmL (first + k) (l.drop k) { R with first := first + k, syn := sy } := by
  refine ⟨rfl, ?_, fun j r hr => ?_⟩
  · show R.next = _
    rw [h.n, List.length_drop]; omega
  · rw [List.getElem?_drop] at hr
    obtain ⟨r', h1, h2⟩ := h.e _ _ hr
    exact ⟨r', by show R.all[first + k + j]? = _; rw [Nat.add_assoc]; exact h1, h2⟩
theorem encB_length (f : Nat) (recs : List (List UInt8)) : (encB f recs).length = 16 + (recs.flatMap Crc.frame).length := by
  have := congrArg List.length (encB_split f recs [] 0)
  have h0 := encB_len3 f [] nofun
  simp only [List.append_nil, List.take_zero, List.drop_zero, List.length_append, List.map_nil, List.length_nil] at this h0
  omega
theorem encB_drop_le (first k : Nat) (l : List RC) : (encB (first + k) ((l.drop k).map RC.b)).length ≤ (encB first (l.map RC.b)).length := by
  rw [encB_length, encB_length]
  have : ((l.map RC.b).flatMap Crc.frame).length = (((l.map RC.b).take k).flatMap Crc.frame).length + (((l.map RC.b).drop k).flatMap Crc.frame).length := by
    rw [← List.length_append, ← List.flatMap_append, List.take_append_drop]
  rw [List.map_drop]
  omega
structure TF (n : Int) (first m k : Nat) : Prop where
  nz : ¬ ((m : Int) + 1) = 0
  b1 : IntKind.u64.wrap n = n % 18446744073709551616
  b2 : IntKind.i64.wrap (((first : Int) + m) - first) = (m : Int) + 1 - 1
  b3 : IntKind.i64.wrap ((m : Int) + 1) = (m : Int) + 1
  b4 : IntKind.u64.wrap ((m : Int) + 1) = (m : Int) + 1
  b5 : (n % 18446744073709551616).tmod ((m : Int) + 1) = (k : Int)
  b6 : wrap64 (k : Int) = (k : Int)
  b7 : wrap64 ((first : Int) + k) = (first : Int) + k
theorem TF.of (n : Int) (first m : Nat) (h : first + m < 4611686018427387904) : TF n first m (trK n m) := by
  obtain ⟨nz, b1, b2, b3, b4, b5, b6, b7⟩ := trim_facts n first m h
  exact ⟨nz, b1, b2, b3, b4, b5, b6, b7⟩
theorem run_trim {w0 w : World} {pb lb rb N : Nat} (h : Run w0 w pb lb rb N) (hN : N ≤ 1000000) (n : Int) (q : Option Addr) (m c : Nat) :
    Calls Try.prog 18 #[.pointer (some ⟨lb, 0, none⟩), .pointer (some ⟨rb, 0, none⟩), .agg #[.int .i64 3, .int .i64 n, .slice q m c]] w fun e w' => e = .returned (.bool true) ∧ Run w0 w' pb lb rb N := by
  refine step_trim w lb rb n q m c _ fun V bV => ?_
  obtain ⟨D, pt, first, l, tg, lt, R, v, hb, hd⟩ := h.keep bV
  obtain ⟨s, y, hs, hsy, hfs⟩ := hd.fs
  have hnx := hd.nx
  have hc := hb.r.cell
  rw [hd.sm.f, hd.sm.n, show ((first + l.length : Nat) : Int) = (first : Int) + l.length by omega] at hc
  have BF : Hid (TF n first l.length (trK n l.length)) := TF.of n first l.length (by omega)
  have hk := trK_le n l.length
  generalize trK n l.length = k at *
  cases ho : R.ov
  · obtain ⟨rfl, hdn⟩ := hd.up ho
    rw [ho] at hc
    by_cases h0 : k = 0
    · subst h0
      have b7 := BF.out.b7
      rw [show ((first : Int) + ((0 : Nat) : Int)) = (first : Int) by omega] at b7
      have B7 : Hid (wrap64 (first : Int) = first) := b7
      clear b7
      rcases sync_L (D := D) (o := none) (y := y) (encB first (l.map RC.b)) _ hdn hfs with ⟨h1, h2, h3, -⟩ | ⟨h1, h2, -, y', h4⟩
      · refine (trim_ok V lb rb v (.int .i64 R.syn) R.mb R.tr n _ first _ _ _ first (fun w' => Bo w0 w' pb lb rb (syncD D nmL).2 (some ⟨pb, 0, none⟩) first l tg lt R v) BF.out.nz BF.out.b1 BF.out.b2 BF.out.b3 BF.out.b4 BF.out.b5 BF.out.b6 (by simpa using B7.out) hc fun V' bV' => ?_).mono ?_
        · refine (ltr_first (P := PR V' rb v R) (hb.keep bV').prog (syncD D nmL).2 (pair_of h1)).mono ?_
          rintro e w' ⟨rfl, j⟩
          have hB := (hb.keep bV').back j
          have hc' := hB.r.cell
          rw [ho, hd.sm.f, hd.sm.n, show ((first + l.length : Nat) : Int) = (first : Int) + l.length by omega] at hc'
          exact ⟨rfl, hB, hc'⟩
        · rintro e w' ⟨rfl, w1, hB, hc1, rfl⟩
          refine ⟨rfl, _, _, first, l, tg, lt, { R with first := first, syn := R.next }, v, hB.set (((Kp.refl _ w1).put 1 _).put 3 _) ?_ rfl hB.r.nx (by show first ≤ R.next; rw [hd.sm.n]; omega) (Nat.le_refl _), ⟨⟨rfl, hd.sm.n, hd.sm.e⟩, ⟨l.length, y, Nat.le_refl _, hd.sm.n, ?_⟩, fun _ => ⟨rfl, h3⟩, fun e => ?_, hd.nx, hd.ln⟩⟩
          · show _ = some (Obj.cells #[v, .int .i64 first, .int .i64 R.next, .int .i64 R.next, .bool R.mb, .int .i64 R.tr, .bool R.ov] 40 (0, 0))
            rw [ho, hd.sm.n, show ((first + l.length : Nat) : Int) = (first : Int) + l.length by omega]
            exact setB (setB hc1 _) _
          · rw [h2, List.take_of_length_le (by simp)]
          · have e' : R.ov = true := e
            rw [ho] at e'; cases e'
      · refine (trim_lost V lb rb v (.int .i64 R.syn) R.mb R.tr n _ first _ _ _ first (fun w' => Bo w0 w' pb lb rb (syncD D nmL).2 none first l tg lt R v) BF.out.nz BF.out.b1 BF.out.b2 BF.out.b3 BF.out.b4 BF.out.b5 BF.out.b6 (by simpa using B7.out) hc fun V' bV' => ?_).mono ?_
        · refine (ltr_first_lost (P := PR V' rb v R) (hb.keep bV').prog (syncD D nmL).2 (by show syncD D nmL = _; rw [← h1])).mono ?_
          rintro e w' ⟨rfl, j⟩
          have hB := (hb.keep bV').back j
          have hc' := hB.r.cell
          rw [ho, hd.sm.f, hd.sm.n, show ((first + l.length : Nat) : Int) = (first : Int) + l.length by omega] at hc'
          exact ⟨rfl, hB, hc'⟩
        · rintro e w' ⟨rfl, w1, hB, hc1, rfl⟩
          refine ⟨rfl, _, _, first, l, tg, lt, { R with tr := first, ov := true }, v, hB.set (((Kp.refl _ w1).put 6 _).put 5 _) ?_ rfl hB.r.nx hB.r.fx hB.r.sx, ⟨⟨hd.sm.f, hd.sm.n, hd.sm.e⟩, ⟨s, y', hs, hsy, h4⟩, nofun, fun _ => ⟨rfl, h2⟩, hd.nx, hd.ln⟩⟩
          show _ = some (Obj.cells #[v, .int .i64 R.first, .int .i64 R.next, .int .i64 R.syn, .bool R.mb, .int .i64 first, .bool true] 40 (0, 0))
          rw [hd.sm.f, hd.sm.n, show ((first + l.length : Nat) : Int) = (first : Int) + l.length by omega]
          exact setB (setB hc1 _) _
    · have hln := encB_drop_le first k l
      have hln' := hd.ln
      have hRR := replace_N (D := D) (o := none) (y := y) hdn hfs (first + k) ((l.drop k).map RC.b) (by omega)
      obtain ⟨Q, hQ⟩ : ∃ Q, replaceD D (first + k) ((l.drop k).map RC.b) = Q := ⟨_, rfl⟩
      rw [hQ] at hRR
      rcases hRR with ⟨h1, h2, h3, -⟩ | ⟨h1, h2, -, y', h4⟩
      · refine (trim_ok V lb rb v (.int .i64 R.syn) R.mb R.tr n _ first _ _ _ _ (fun w' => ∃ tg', Bo w0 w' pb lb rb Q.2 (some ⟨pb, 0, none⟩) (first + k) (l.drop k) tg' lt R v) BF.out.nz BF.out.b1 BF.out.b2 BF.out.b3 BF.out.b4 BF.out.b5 BF.out.b6 BF.out.b7 hc fun V' bV' => ?_).mono ?_
        · refine (ltr_ok (P := PR V' rb v R) (hb.keep bV').prog k (by omega) hk Q.2 (hQ.trans (pair_of h1))).mono ?_
          rintro e w' ⟨rfl, tg', j⟩
          have hB := (hb.keep bV').back j
          have hc' := hB.r.cell
          rw [ho, hd.sm.f, hd.sm.n, show ((first + l.length : Nat) : Int) = (first : Int) + l.length by omega] at hc'
          exact ⟨rfl, ⟨tg', hB⟩, hc'⟩
        · rintro e w' ⟨rfl, w1, ⟨tg', hB⟩, hc1, rfl⟩
          refine ⟨rfl, _, _, first + k, l.drop k, tg', lt, { R with first := first + k, syn := R.next }, v, hB.set (((Kp.refl _ w1).put 1 _).put 3 _) ?_ rfl hB.r.nx (by show first + k ≤ R.next; rw [hd.sm.n]; omega) (Nat.le_refl _), ⟨hd.sm.drop hk _, ⟨(l.drop k).length, none, Nat.le_refl _, (hd.sm.drop hk 0).n, ?_⟩, fun _ => ⟨rfl, h3⟩, fun e => ?_, ?_, by omega⟩⟩
          · show _ = some (Obj.cells #[v, .int .i64 ((first + k : Nat) : Int), .int .i64 R.next, .int .i64 R.next, .bool R.mb, .int .i64 R.tr, .bool R.ov] 40 (0, 0))
            rw [ho, hd.sm.n, show ((first + l.length : Nat) : Int) = (first : Int) + l.length by omega, show ((first + k : Nat) : Int) = (first : Int) + k by omega]
            exact setB (setB hc1 _) _
          · rw [h2, List.take_of_length_le (by simp)]
          · have e' : R.ov = true := e
            rw [ho] at e'; cases e'
          · rw [List.length_drop]; omega
      · refine (trim_lost V lb rb v (.int .i64 R.syn) R.mb R.tr n _ first _ _ _ _ (fun w' => ∃ tg', Bo w0 w' pb lb rb Q.2 none first l tg' lt R v) BF.out.nz BF.out.b1 BF.out.b2 BF.out.b3 BF.out.b4 BF.out.b5 BF.out.b6 BF.out.b7 hc fun V' bV' => ?_).mono ?_
        · refine (ltr_lost (P := PR V' rb v R) (hb.keep bV').prog k (by omega) hk Q.2 (hQ.trans (by rw [← h1]))).mono ?_
          rintro e w' ⟨rfl, tg', j⟩
          have hB := (hb.keep bV').back j
          have hc' := hB.r.cell
          rw [ho, hd.sm.f, hd.sm.n, show ((first + l.length : Nat) : Int) = (first : Int) + l.length by omega] at hc'
          exact ⟨rfl, ⟨tg', hB⟩, hc'⟩
        · rintro e w' ⟨rfl, w1, ⟨tg', hB⟩, hc1, rfl⟩
          refine ⟨rfl, _, _, first, l, tg', lt, { R with tr := (first : Int) + k, ov := true }, v, hB.set (((Kp.refl _ w1).put 6 _).put 5 _) ?_ rfl hB.r.nx hB.r.fx hB.r.sx, ⟨⟨hd.sm.f, hd.sm.n, hd.sm.e⟩, ⟨s, y', hs, hsy, h4⟩, nofun, fun _ => ⟨rfl, h2⟩, hd.nx, hd.ln⟩⟩
          show _ = some (Obj.cells #[v, .int .i64 R.first, .int .i64 R.next, .int .i64 R.syn, .bool R.mb, .int .i64 ((first : Int) + k), .bool true] 40 (0, 0))
          rw [hd.sm.f, hd.sm.n, show ((first + l.length : Nat) : Int) = (first : Int) + l.length by omega]
          exact setB (setB hc1 _) _
  · obtain ⟨rfl, hdn⟩ := hd.dn ho
    rw [ho] at hc
    refine (trim_over V lb rb v (.int .i64 R.syn) R.mb R.tr n _ first _ _ _ _ (fun w' => Bo w0 w' pb lb rb D none first l tg lt R v) BF.out.nz BF.out.b1 BF.out.b2 BF.out.b3 BF.out.b4 BF.out.b5 BF.out.b6 BF.out.b7 hc fun V' bV' => ?_).mono ?_
    · have hV := hb.keep bV'
      have hc' := hV.r.cell
      rw [ho, hd.sm.f, hd.sm.n, show ((first + l.length : Nat) : Int) = (first : Int) + l.length by omega] at hc'
      obtain ⟨u, hg⟩ := hV.j.g
      refine (ltr_over V' _ _ (over_yes V' lb _ _ hg.cell)).mono ?_
      rintro e w' ⟨rfl, rfl⟩
      exact ⟨rfl, hV, hc'⟩
    · rintro e w' ⟨rfl, w1, hB, -, rfl⟩
      exact ⟨rfl, _, _, _, _, _, _, _, _, hB, hd⟩
end Go.Proofs.Ytplcpjngpkghmaa
