/-
  The heap whole: its map, its order; add.
-/
import Derived.Test.YthlbeofonbbbdaaNh
namespace Go.Proofs.Ythlbeofonbbbdaa
open Go.RowKit Go.Maps

/-- the entry with a handle -/
def HS.at (S : HS) (x : Int) : Option Nat := S.l.find? fun b => ((S.hd b : Int) == x)
def HS.uh (S : HS) : Prop := ∀ a ∈ S.l, ∀ b ∈ S.l, S.hd a = S.hd b → a = b
theorem at_some {S : HS} {x : Int} {b : Nat} (h : S.at x = some b) : b ∈ S.l ∧ (S.hd b : Int) = x := ⟨List.mem_of_find?_eq_some h, by have := List.find?_some h; simpa using this⟩
theorem at_none {S : HS} {x : Int} (h : S.at x = none) : ∀ b ∈ S.l, (S.hd b : Int) ≠ x := fun b hb e => by
  have := List.find?_eq_none.1 h b hb
  simp [e] at this
theorem at_of {S : HS} (hu : S.uh) {b : Nat} (hb : b ∈ S.l) : S.at (S.hd b) = some b := by
  cases h : S.at (S.hd b) with
  | none => exact absurd rfl (at_none h b hb)
  | some c =>
    obtain ⟨h1, h2⟩ := at_some h
    rw [hu c h1 b hb (by omega)]
theorem at_eq {S : HS} (hu : S.uh) {x : Int} {o : Option Nat} (h1 : ∀ b, o = some b → b ∈ S.l ∧ (S.hd b : Int) = x) (h2 : o = none → ∀ b ∈ S.l, (S.hd b : Int) ≠ x) : S.at x = o := by
  cases o with
  | none =>
    cases h : S.at x with
    | none => rfl
    | some c => obtain ⟨k1, k2⟩ := at_some h; exact absurd k2 (h2 rfl c k1)
  | some b =>
    obtain ⟨k1, k2⟩ := h1 b rfl
    rw [← k2]
    exact at_of hu k1
structure MpA (w : World) (S : HS) (m : Nat) (M : DataW Nat) : Prop where
  o : w.ownsMap Try.prog 3 pE m (Maps.size M) M
  n : Maps.size M = S.l.length
  a : ∀ (x : Int) (z : DataW Nat), M.atKey (.int .i64 x) z = (S.at x).elim z .held
def Mp (w : World) (S : HS) : Prop := match S.mb with
  | none => S.l = []
  | some m => ∃ M, MpA w S m M
structure Hp (w : World) (hb : Nat) (S : HS) : Prop where
  m : Mem w hb S
  p : Mp w S
  v : Vv S.l.length S.v
  hu : S.uh
  hg : ∀ b ∈ S.l, S.hd b < S.gv
  gv : S.gv ≤ 1048576
  ln : S.l.length ≤ S.gv
section
variable {w w' : World} {hb : Nat} {S S' : HS}
theorem map_ne {m n : Nat} {M : DataW Nat} {b t k : Nat} {f : Nat → Value} (h : w.ownsMap Try.prog 3 pE m n M) (hb : Blk w b t k f) : b ≠ m := fun e => by
  subst e
  obtain ⟨es, clock, hm, _⟩ := h
  unfold Blk at hb
  rw [hm] at hb
  cases hb
theorem map_fam {m n : Nat} {M : DataW Nat} {v : Value} {l : List Nat} (h : w.ownsMap Try.prog 3 pE m n M) (hf : Fam w v l) : v.ownBlock ≠ some m := fun e => by
  obtain ⟨es, clock, hm, _⟩ := h
  rcases hf.2 with ⟨rfl, _⟩ | ⟨g1, cap, cur, rfl, hb', hgg, rest⟩
  · cases e
  · have e1 : g1 = m := by simpa [Value.ownBlock] using e
    subst e1
    rw [hgg] at hm
    cases hm
theorem Mem.map_fl (h : Mem w hb S) {m n : Nat} {M : DataW Nat} (hm : w.ownsMap Try.prog 3 pE m n M) : ¬ Fl S m := by
  rintro (q | q)
  · obtain ⟨i, hi⟩ := List.getElem?_of_mem q
    exact map_ne hm (h.nd i m hi) rfl
  · exact map_fam hm h.fm q
theorem at_perm {l' : List Nat} (hp : l'.Perm S.l) (hu : S.uh) (x : Int) : (S.wl l').at x = S.at x := by
  have hu' : (S.wl l').uh := fun a ha b hb' q => hu a (hp.mem_iff.1 ha) b (hp.mem_iff.1 hb') q
  refine at_eq hu' (fun b q => ?_) (fun q b hb' => at_none q b (hp.mem_iff.1 hb'))
  obtain ⟨h1, h2⟩ := at_some q
  exact ⟨hp.mem_iff.2 h1, h2⟩
theorem MpA.keep {m : Nat} {M : DataW Nat} (h : MpA w S m M) (e : w'.heap[m]? = w.heap[m]?) : MpA w' S m M := ⟨keepMap h.o e, h.n, h.a⟩
theorem Mp.keep (h : Mp w S) (e : ∀ m, S.mb = some m → m < w.heap.size → w'.heap[m]? = w.heap[m]?) : Mp w' S := by
  unfold Mp at *
  cases hm : S.mb with
  | none => rw [hm] at h; exact h
  | some m =>
    rw [hm] at h
    obtain ⟨M, h⟩ := h
    exact ⟨M, h.keep (e m hm h.o.lt)⟩
theorem Mp.lt (h : Mp w S) {m : Nat} (e : S.mb = some m) : m < w.heap.size := by
  unfold Mp at h
  rw [e] at h
  obtain ⟨M, h⟩ := h
  exact h.o.lt
theorem Hp.lt (h : Hp w hb S) (k : Nat) (hk : Fp hb S k) : k < w.heap.size := by
  rcases hk with hk | hk | hk | hk
  · exact h.m.lt k (.inl hk)
  · exact h.m.lt k (.inr (.inl hk))
  · exact h.m.lt k (.inr (.inr hk))
  · exact h.p.lt hk
theorem Hp.keep (h : Hp w hb S) (b : ∀ k, Fp hb S k → w'.heap[k]? = w.heap[k]?) : Hp w' hb S := ⟨h.m.keep b, h.p.keep fun m e _ => b m (.inr (.inr (.inr e))), h.v, h.hu, h.hg, h.gv, h.ln⟩
theorem Hp.below (h : Hp w hb S) (b : Below w.heap.size w w') : Hp w' hb S := h.keep fun k hk => b.block k (h.lt k hk)
/-- behind mend -/
theorem Mn.hp {w0 : World} (h : Mn w0 w hb S) (hm : Mem w0 hb S) (hp : Mp w0 S) (hu : S.uh) (hg : ∀ b ∈ S.l, S.hd b < S.gv) (gv : S.gv ≤ 1048576) (ln : S.l.length ≤ S.gv) : ∃ l', l'.Perm S.l ∧ Hp w hb (S.wl l') ∧ Chg hb S (S.wl l') w0 w := by
  obtain ⟨l', M, v⟩ := h
  refine ⟨l', M.p, ⟨M.m, ?_, ?_, fun a ha b hb' q => hu a (M.p.mem_iff.1 ha) b (M.p.mem_iff.1 hb') q, fun b hb' => hg b (M.p.mem_iff.1 hb'), gv, by show l'.length ≤ _; rw [M.len]; exact ln⟩, ?_⟩
  · unfold Mp at *
    show match S.mb with | none => l' = [] | some m => _
    cases hmb : S.mb with
    | none => rw [hmb] at hp; have := M.p.length_eq; rw [hp] at this; exact List.eq_nil_of_length_eq_zero this
    | some m =>
      rw [hmb] at hp
      obtain ⟨D, hD⟩ := hp
      exact ⟨D, keepMap hD.o (M.k.block m hD.o.lt (hm.map_fl hD.o)), hD.n.trans M.p.length_eq.symm, fun x z => by rw [at_perm M.p hu]; exact hD.a x z⟩
  · rw [show (S.wl l').l.length = S.l.length from M.len]; exact v
  · refine ⟨M.k.mono fun k _ q => q.elim (fun q => .inr (.inl q)) fun q => .inr (.inr (.inl q)), fun k q => .inl ?_⟩
    rcases q with q | q | q | q
    · exact .inl q
    · exact .inr (.inl (M.p.mem_iff.1 q))
    · exact .inr (.inr (.inl q))
    · exact .inr (.inr (.inr q))
end

/-- a pointer put behind an owned row -/
theorem append_ptr {ops : Array Oper} {rest : List Oper} {o : Oper} {a : Act} {Q : Exit → Act → World → Prop} {w : World} (hgd : o.guard = none) (s x : Operand)
    (ho : o.op = .call { callee := .builtin .append, args := #[s, x], argTypes := #[100, 100] }) (v : Value) (l : List Nat) (b : Nat) (hs : a.eval s = v) (hown : Fam w v l)
    (g c : Nat) (hx : a.eval x = .slice (some ⟨g, 0, none⟩) 1 c) (hm : w.cell? ⟨g, 0, none⟩ = some (ptr b)) (hb : l.length ≤ 1048576)
    (h : ∀ v' w', Fam w' v' (l ++ [b]) → w.grownBy w' v.ownBlock → (v'.ownBlock = v.ownBlock ∨ v'.ownBlock = some w.heap.size) → wpList Try.prog ops Q rest (a.put o.dst v') w') :
    wpList Try.prog ops Q (o :: rest) a w := by
  obtain ⟨i0, hi, hz0, hz1, hz2⟩ := info_parts info67
  refine wpList_append_own_at _ hgd s x 100 ho 0 95 i0 (.pointer none) 1 8 Try.underlying100 hi hz0 hz1 hz2 rfl (by decide) v l.length (l.map ptr) hs hown _ 1 c [ptr b] hx rfl
    (fun j u hu => ?_) (by intro u hu; simp only [List.mem_singleton] at hu; subst hu; rfl) (by unfold maxLen; omega) (by omega) (Nat.zero_le _) (fun v' w' h1 h2 _ h4 => h v' w' ?_ h2 h4)
  · cases j with
    | zero => simp at hu; subst hu; exact hm
    | succ j => simp at hu
  · unfold Fam
    rw [List.length_append, List.map_append]
    exact h1
theorem loc_of {W w : World} {v v' : Value} {o : Obj} (hsz : w.heap.size ≤ W.heap.size) (h3 : v'.ownBlock = v.ownBlock ∨ v'.ownBlock = some (W.alloc o).heap.size) : ∀ k, v'.ownBlock = some k → v.ownBlock = some k ∨ w.heap.size ≤ k := fun k hk => by
  rcases h3 with h3 | h3 <;> rw [h3] at hk
  · exact .inl hk
  · simp at hk; right; omega
/-- behind the entry's being laid in map and row -/
structure AddD (w W : World) (hb eb : Nat) (f g : Nat → Value) (mb : Option Nat) (lv v' : Value) (l : List Nat) (m n : Nat) (M' : DataW Nat) : Prop where
  hp : Blk W hb 102 3 (fset (fset f 1 (.map (some m))) 2 v')
  en : Blk W eb 104 5 (fset g 4 (.int .i64 l.length))
  fm : Fam W v' (l ++ [eb])
  mp : W.ownsMap Try.prog 3 pE m n M'
  kp : Kp (fun k => k = hb ∨ k = eb ∨ lv.ownBlock = some k ∨ mb = some k) w W
  lo : ∀ k, v'.ownBlock = some k → lv.ownBlock = some k ∨ w.heap.size ≤ k
  lm : mb = some m ∨ w.heap.size ≤ m
set_option maxHeartbeats 2000000 in
theorem add_some (w : World) (hb eb m n x : Nat) (M : DataW Nat) (f g : Nat → Value) (l : List Nat) (lv : Value) (R : World → Prop) (hx : x < 9223372036854775808) (hn : n < maxLen) (h : Hid (Blk w hb 102 3 f)) (hf1 : f 1 = .map (some m)) (hf2 : f 2 = lv) (he : Hid (Blk w eb 104 5 g)) (hg : g 0 = .int .i64 x) (hv : Hid (Fam w lv l)) (hl : l.length ≤ 1048575) (hown : Hid (w.ownsMap Try.prog 3 pE m n M))
    (H33 : Hid (∀ W v', AddD w W hb eb f g (some m) lv v' l m (n + 1) (M.put (.int .i64 x) (.held eb)) → Calls Try.prog 63 #[.pointer (some ⟨hb, 0, none⟩), .int .i64 l.length] W fun e w' => e = .returned (.tuple #[]) ∧ Hid (R w'))) :
    Calls Try.prog 53 #[ptr hb, ptr eb] w fun e w' => e = .returned (.tuple #[]) ∧ R w' := by
  have qT : ∀ (w : World) (r : Option Nat), (binOp .eql 99 (.map r) (.map none)).run Try.prog w = .ok (.bool r.isNone) w := fun w r => run_eql_map_nil w _ _ _ r Try.underlying99
  obtain ⟨a, c, hlv⟩ := hv.out.shape
  subst hlv
  have e1 := h.out.cell 1 (by decide)
  have e2 := he.out.cell 0 (by decide)
  rw [hf1] at e1
  rw [hg] at e2
  obtain ⟨w2, hr2, H2⟩ : ∃ w2, (Instr.mapUpdate 99 (.map (some m)) (.int .i64 x) (.pointer (some ⟨eb, 0, none⟩))).run Try.prog w.drew = .ok () w2 ∧ Hid (w2.ownsMap Try.prog 3 pE m (n + 1) (M.put (.int .i64 x) (.held eb)) ∧ Kp (· = m) w w2) := by
    obtain ⟨w2, hr2, hown2, hgr2⟩ := (keepMap (w1 := w.drew) hown.out rfl).update law3 Try.underlying99 hn (key3 x hx) (val := .pointer (some ⟨eb, 0, none⟩)) (d := .held eb) (ps := []) rfl
    have hk : Kp (· = m) w.drew w2 := Kp.of_grown hgr2 fun k e => (Option.some.inj e).symm
    exact ⟨w2, hr2, hown2, ⟨hk.os, hk.tape, hk.output, hk.size, hk.block⟩⟩
  have HHE : Hid (hb ≠ eb) := blk_ne h.out he.out (by decide)
  have A1 : Hid (Blk w2 hb 102 3 f) := blk_keep h.out H2.out.2 (map_ne hown.out h.out)
  have A2 : Hid (Blk w2 eb 104 5 g) := blk_keep he.out H2.out.2 (map_ne hown.out he.out)
  have A3 : Hid (Fam w2 (.slice a l.length c) l) := hv.out.keep fun k hk => H2.out.2.block k (hv.out.lt hk) fun e => map_fam hown.out hv.out (by rw [← e]; exact hk)
  have B1 : Hid (Blk (w2.setCell ⟨eb, 4, none⟩ (.int .i64 l.length)) hb 102 3 (fset f 1 (.map (some m)))) := (A1.out.other _ _ (fun e => HHE.out e.symm)).same fun i _ => by unfold fset; split <;> simp_all
  have B2 : Hid (Blk (w2.setCell ⟨eb, 4, none⟩ (.int .i64 l.length)) eb 104 5 (fset g 4 (.int .i64 l.length))) := A2.out.set 4 _
  have B3 : Hid (Fam (w2.setCell ⟨eb, 4, none⟩ (.int .i64 l.length)) (.slice a l.length c) l) := fam_other A3.out _ _ (A3.out.ne A2.out (by decide))
  have B4 : Hid ((w2.setCell ⟨eb, 4, none⟩ (.int .i64 l.length)).ownsMap Try.prog 3 pE m (n + 1) (M.put (.int .i64 x) (.held eb))) := keepMap H2.out.1 (Below.heap_setCell _ _ _ _ fun e => map_ne H2.out.1 A2.out e.symm)
  have B5 : Hid (Kp (fun k => k = hb ∨ k = eb ∨ (Value.slice a l.length c).ownBlock = some k ∨ some m = some k) w (w2.setCell ⟨eb, 4, none⟩ (.int .i64 l.length))) := (H2.out.2.mono (S' := fun k => k = hb ∨ k = eb ∨ (Value.slice a l.length c).ownBlock = some k ∨ some m = some k) fun k _ e => .inr (.inr (.inr (by rw [e])))).trans (Kp.of_set (S := (· = eb)) _ ⟨eb, 4, none⟩ _ rfl) fun k _ e => .inr (.inl e)
  have e3 := A1.out.cell 2 (by decide)
  rw [hf2] at e3
  have e4 := A2.out.cell 4 (by decide)
  have f4 := A2.out.fz 4
  unfold ptr
  clear hf1 hg hx hn
  go_enter Try.func53, Try.ntmps53
  go_upto_region 2 with fail
  go_region
  all_goals go_upto_region 4 with fail
  generalize w2.setCell ⟨eb, 4, none⟩ (.int .i64 l.length) = W at *
  clear e1 e2 e3 e4 f4 hr2 H2 A1 A2 A3 h he hv hown
  have e3 := B1.out.cell 2 (by decide)
  rw [show fset f 1 (.map (some m)) 2 = f 2 from rfl, hf2] at e3
  have H1 : Hid (Fam (W.alloc (.cells #[ptr eb] 95)) (.slice a l.length c) l) := B3.out.keep fun k hk => Below.heap_alloc W _ k (B3.out.lt hk)
  have c1 : Hid ((W.alloc (.cells #[ptr eb] 95)).cell? ⟨W.heap.size, 0, none⟩ = some (ptr eb)) := by
    unfold Hid World.cell?
    rw [new0]
    rfl
  have hsz : Hid (w.heap.size ≤ W.heap.size) := B5.out.size
  go_upto_region 5 with (at_builtin; refine append_ptr (w := W.alloc (.cells #[ptr eb] 95)) rfl _ _ rfl (.slice a l.length c) l eb rfl H1.out W.heap.size 1 rfl c1.out (by omega) ?_; intro v' w3 h1 h2 h3; obtain ⟨a', c', ev⟩ := h1.shape; rw [List.length_append, List.length_singleton] at ev; subst ev; have K2 : Hid (Kp (fun k => (Value.slice a l.length c).ownBlock = some k) W w3) := (Kp.alloc W (.cells #[ptr eb] 95)).trans (Kp.of_grown (S := fun k => (Value.slice a l.length c).ownBlock = some k) h2 fun k e => e) fun _ _ h => h; have P2 : Hid (Blk w3 hb 102 3 (fset f 1 (.map (some m)))) := blk_keep B1.out K2.out (fun e => B3.out.ne B1.out (by decide) e); have E2 : Hid (Blk w3 eb 104 5 (fset g 4 (.int .i64 l.length))) := blk_keep B2.out K2.out (fun e => B3.out.ne B2.out (by decide) e); have M2 : Hid (w3.ownsMap Try.prog 3 pE m (n + 1) (M.put (.int .i64 x) (.held eb))) := keepMap B4.out (K2.out.block m B4.out.lt (fun e => map_fam B4.out B3.out e)); have e5 := P2.out.cell 2 (by decide); have f5 := P2.out.fz 2; have R1 : Hid (Fam w3 (.slice a' (l.length + 1) c') (l ++ [eb])) := h1; have R3 : Hid (∀ k, (Value.slice a' (l.length + 1) c').ownBlock = some k → (Value.slice a l.length c).ownBlock = some k ∨ w.heap.size ≤ k) := loc_of hsz.out h3; clear h1 h2 h3)
  have HA : Hid (AddD w (w3.setCell ⟨hb, 2, none⟩ (.slice a' (l.length + 1) c')) hb eb f g (some m) (.slice a l.length c) (.slice a' (l.length + 1) c') l m (n + 1) (M.put (.int .i64 x) (.held eb))) :=
    ⟨P2.out.set 2 _, E2.out.other _ _ HHE.out, fam_other R1.out _ _ (R1.out.ne P2.out (by decide)), keepMap M2.out (Below.heap_setCell _ _ _ _ fun e => map_ne M2.out P2.out e.symm),
      (B5.out.trans (S' := fun k => (Value.slice a l.length c).ownBlock = some k) K2.out fun k _ e => .inr (.inr (.inl e))).trans (Kp.of_set (S := (· = hb)) _ ⟨hb, 2, none⟩ _ rfl) fun k _ e => .inl e, R3.out, (.inl rfl)⟩
  generalize w3.setCell ⟨hb, 2, none⟩ (.slice a' (l.length + 1) c') = W4 at *
  have e6 : W4.cell? ⟨eb, 4, none⟩ = some (.int .i64 l.length) := HA.out.en.cell 4 (by decide)
  have H9 := H33.out W4 _ HA.out
  clear e3 e5 f5 H1 c1 K2 P2 E2 M2 R1 R3 B1 B2 B3 B4 B5 HA
  go_wp2_with (go_at_call 63; refine H9.mono ?_; first | rintro e w5 rfl h5 | rintro e w5 ⟨rfl, h5⟩)
  go_end0
  exact ⟨rfl, h5.out⟩
set_option maxHeartbeats 2000000 in
theorem add_none (w : World) (hb eb x : Nat) (f g : Nat → Value) (l : List Nat) (lv : Value) (R : World → Prop) (hx : x < 9223372036854775808) (h : Hid (Blk w hb 102 3 f)) (hf1 : f 1 = .map none) (hf2 : f 2 = lv) (he : Hid (Blk w eb 104 5 g)) (hg : g 0 = .int .i64 x) (hv : Hid (Fam w lv l)) (hl : l.length ≤ 1048575)
    (H33 : Hid (∀ W v' m, AddD w W hb eb f g none lv v' l m 1 (m0.put (.int .i64 x) (.held eb)) → Calls Try.prog 63 #[.pointer (some ⟨hb, 0, none⟩), .int .i64 l.length] W fun e w' => e = .returned (.tuple #[]) ∧ Hid (R w'))) :
    Calls Try.prog 53 #[ptr hb, ptr eb] w fun e w' => e = .returned (.tuple #[]) ∧ R w' := by
  have qT : ∀ (w : World) (r : Option Nat), (binOp .eql 99 (.map r) (.map none)).run Try.prog w = .ok (.bool r.isNone) w := fun w r => run_eql_map_nil w _ _ _ r Try.underlying99
  have hmm := @run_makeMap Try.prog
  obtain ⟨a, c, hlv⟩ := hv.out.shape
  subst hlv
  have HHE : Hid (hb ≠ eb) := blk_ne h.out he.out (by decide)
  have e1 := h.out.cell 1 (by decide)
  rw [hf1] at e1
  have e1a := (blk_alloc h.out (.map #[] 0)).cell 1 (by decide)
  rw [hf1] at e1a
  have f0 := (blk_alloc h.out (.map #[] 0)).fz 1
  have G1 : Hid (Blk ((w.alloc (.map #[] 0)).setCell ⟨hb, 1, none⟩ (.map (some w.heap.size))) hb 102 3 (fset f 1 (.map (some w.heap.size)))) := (blk_alloc h.out (.map #[] 0)).set 1 _
  have G0 : Hid (Blk ((w.alloc (.map #[] 0)).setCell ⟨hb, 1, none⟩ (.map (some w.heap.size))) eb 104 5 g) := (blk_alloc he.out (.map #[] 0)).other _ _ HHE.out
  have hm : Hid (hb < w.heap.size) := h.out.lt
  have G2 : Hid (((w.alloc (.map #[] 0)).setCell ⟨hb, 1, none⟩ (.map (some w.heap.size))).ownsMap Try.prog 3 pE w.heap.size 0 m0) := (World.ownsMap_made w Try.prog 3 pE).setCell (by have := hm.out; simp; omega) _
  have G3 : Hid (Kp (· = hb) w ((w.alloc (.map #[] 0)).setCell ⟨hb, 1, none⟩ (.map (some w.heap.size)))) := (Kp.of_below ((Below.refl _ w).alloc (Nat.le_refl _) _)).trans (Kp.of_set (S := (· = hb)) _ ⟨hb, 1, none⟩ _ rfl) fun _ _ h => h
  have G4 : Hid (Fam ((w.alloc (.map #[] 0)).setCell ⟨hb, 1, none⟩ (.map (some w.heap.size))) (.slice a l.length c) l) := hv.out.keep fun k hk => (G3.out.block k (hv.out.lt hk) fun e => hv.out.ne h.out (by decide) (by rw [← e]; exact hk))
  unfold ptr
  go_enter Try.func53, Try.ntmps53
  go_upto_region 2 with fail
  clear e1 f0 e1a
  generalize (w.alloc (.map #[] 0)).setCell ⟨hb, 1, none⟩ (.map (some w.heap.size)) = V at *
  have hms : Hid (w.heap.size = w.heap.size) := rfl
  have e1 : V.cell? ⟨hb, 1, none⟩ = some (.map (some w.heap.size)) := G1.out.cell 1 (by decide)
  have e2 := G0.out.cell 0 (by decide)
  rw [hg] at e2
  obtain ⟨m, hmd⟩ : ∃ m, m = w.heap.size := ⟨_, rfl⟩
  rw [← hmd] at G1 G2 e1
  have HMD : Hid (m = w.heap.size) := hmd
  clear hmd hms
  obtain ⟨w2, hr2, H2⟩ : ∃ w2, (Instr.mapUpdate 99 (.map (some m)) (.int .i64 x) (.pointer (some ⟨eb, 0, none⟩))).run Try.prog V.drew = .ok () w2 ∧ Hid (w2.ownsMap Try.prog 3 pE m 1 (m0.put (.int .i64 x) (.held eb)) ∧ Kp (· = m) V w2) := by
    obtain ⟨w2, hr2, hown2, hgr2⟩ := (keepMap (w1 := V.drew) G2.out rfl).update law3 Try.underlying99 (by unfold maxLen; omega) (key3 x hx) (val := .pointer (some ⟨eb, 0, none⟩)) (d := .held eb) (ps := []) rfl
    have hk : Kp (· = m) V.drew w2 := Kp.of_grown hgr2 fun k e => (Option.some.inj e).symm
    exact ⟨w2, hr2, hown2, ⟨hk.os, hk.tape, hk.output, hk.size, hk.block⟩⟩
  have A1 : Hid (Blk w2 hb 102 3 (fset f 1 (.map (some m)))) := blk_keep G1.out H2.out.2 (map_ne G2.out G1.out)
  have A2 : Hid (Blk w2 eb 104 5 g) := blk_keep G0.out H2.out.2 (map_ne G2.out G0.out)
  have A3 : Hid (Fam w2 (.slice a l.length c) l) := G4.out.keep fun k hk => H2.out.2.block k (G4.out.lt hk) fun e => map_fam G2.out G4.out (by rw [← e]; exact hk)
  have B1 : Hid (Blk (w2.setCell ⟨eb, 4, none⟩ (.int .i64 l.length)) hb 102 3 (fset f 1 (.map (some m)))) := A1.out.other _ _ (fun e => HHE.out e.symm)
  have B2 : Hid (Blk (w2.setCell ⟨eb, 4, none⟩ (.int .i64 l.length)) eb 104 5 (fset g 4 (.int .i64 l.length))) := A2.out.set 4 _
  have B3 : Hid (Fam (w2.setCell ⟨eb, 4, none⟩ (.int .i64 l.length)) (.slice a l.length c) l) := fam_other A3.out _ _ (A3.out.ne A2.out (by decide))
  have B4 : Hid ((w2.setCell ⟨eb, 4, none⟩ (.int .i64 l.length)).ownsMap Try.prog 3 pE m 1 (m0.put (.int .i64 x) (.held eb))) := keepMap H2.out.1 (Below.heap_setCell _ _ _ _ fun e => map_ne H2.out.1 A2.out e.symm)
  have B5 : Hid (Kp (fun k => k = hb ∨ k = eb ∨ (Value.slice a l.length c).ownBlock = some k ∨ none = some k) w (w2.setCell ⟨eb, 4, none⟩ (.int .i64 l.length))) := ((G3.out.mono (S' := fun k => k = hb ∨ k = eb ∨ (Value.slice a l.length c).ownBlock = some k ∨ none = some k) fun k _ e => .inl e).trans H2.out.2 fun k hk e => by have := HMD.out; omega).trans (Kp.of_set (S := (· = eb)) _ ⟨eb, 4, none⟩ _ rfl) fun k _ e => .inr (.inl e)
  have e3 := A1.out.cell 2 (by decide)
  rw [show fset f 1 (.map (some m)) 2 = f 2 from rfl, hf2] at e3
  have e4 := A2.out.cell 4 (by decide)
  have f4 := A2.out.fz 4
  clear hf1 hg hx G0 G1 G2 G3 G4
  go_region
  all_goals go_upto_region 4 with fail
  generalize w2.setCell ⟨eb, 4, none⟩ (.int .i64 l.length) = W at *
  clear e1 e2 e3 e4 f4 hr2 H2 A1 A2 A3 h he hv
  have e3 := B1.out.cell 2 (by decide)
  rw [show fset f 1 (.map (some m)) 2 = f 2 from rfl, hf2] at e3
  have H1 : Hid (Fam (W.alloc (.cells #[ptr eb] 95)) (.slice a l.length c) l) := B3.out.keep fun k hk => Below.heap_alloc W _ k (B3.out.lt hk)
  have c1 : Hid ((W.alloc (.cells #[ptr eb] 95)).cell? ⟨W.heap.size, 0, none⟩ = some (ptr eb)) := by
    unfold Hid World.cell?
    rw [new0]
    rfl
  have hsz : Hid (w.heap.size ≤ W.heap.size) := B5.out.size
  go_upto_region 5 with (at_builtin; refine append_ptr (w := W.alloc (.cells #[ptr eb] 95)) rfl _ _ rfl (.slice a l.length c) l eb rfl H1.out W.heap.size 1 rfl c1.out (by omega) ?_; intro v' w3 h1 h2 h3; obtain ⟨a', c', ev⟩ := h1.shape; rw [List.length_append, List.length_singleton] at ev; subst ev; have K2 : Hid (Kp (fun k => (Value.slice a l.length c).ownBlock = some k) W w3) := (Kp.alloc W (.cells #[ptr eb] 95)).trans (Kp.of_grown (S := fun k => (Value.slice a l.length c).ownBlock = some k) h2 fun k e => e) fun _ _ h => h; have P2 : Hid (Blk w3 hb 102 3 (fset f 1 (.map (some m)))) := blk_keep B1.out K2.out (fun e => B3.out.ne B1.out (by decide) e); have E2 : Hid (Blk w3 eb 104 5 (fset g 4 (.int .i64 l.length))) := blk_keep B2.out K2.out (fun e => B3.out.ne B2.out (by decide) e); have M2 : Hid (w3.ownsMap Try.prog 3 pE m 1 (m0.put (.int .i64 x) (.held eb))) := keepMap B4.out (K2.out.block m B4.out.lt (fun e => map_fam B4.out B3.out e)); have e5 := P2.out.cell 2 (by decide); have f5 := P2.out.fz 2; have R1 : Hid (Fam w3 (.slice a' (l.length + 1) c') (l ++ [eb])) := h1; have R3 : Hid (∀ k, (Value.slice a' (l.length + 1) c').ownBlock = some k → (Value.slice a l.length c).ownBlock = some k ∨ w.heap.size ≤ k) := loc_of hsz.out h3; clear h1 h2 h3)
  have HA : Hid (AddD w (w3.setCell ⟨hb, 2, none⟩ (.slice a' (l.length + 1) c')) hb eb f g none (.slice a l.length c) (.slice a' (l.length + 1) c') l m 1 (m0.put (.int .i64 x) (.held eb))) :=
    ⟨P2.out.set 2 _, E2.out.other _ _ HHE.out, fam_other R1.out _ _ (R1.out.ne P2.out (by decide)), keepMap M2.out (Below.heap_setCell _ _ _ _ fun e => map_ne M2.out P2.out e.symm),
      (B5.out.trans (S' := fun k => (Value.slice a l.length c).ownBlock = some k) K2.out fun k _ e => .inr (.inr (.inl e))).trans (Kp.of_set (S := (· = hb)) _ ⟨hb, 2, none⟩ _ rfl) fun k _ e => .inl e, R3.out, (.inr (by rw [HMD.out]; exact Nat.le_refl _))⟩
  generalize w3.setCell ⟨hb, 2, none⟩ (.slice a' (l.length + 1) c') = W4 at *
  have e6 : W4.cell? ⟨eb, 4, none⟩ = some (.int .i64 l.length) := HA.out.en.cell 4 (by decide)
  have H9 := H33.out W4 _ _ HA.out
  clear e3 e5 f5 H1 c1 K2 P2 E2 M2 R1 R3 B1 B2 B3 B4 B5 HA
  go_wp2_with (go_at_call 63; refine H9.mono ?_; first | rintro e w5 rfl h5 | rintro e w5 ⟨rfl, h5⟩)
  go_end0
  exact ⟨rfl, h5.out⟩
end Go.Proofs.Ythlbeofonbbbdaa
