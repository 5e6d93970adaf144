/-
  The family's join; the heap's raise, and offer where there is none yet.
-/
import Derived.Test.YtcgaekaollhmpaaGreatNb
namespace Go.Proofs.YtcgaekaollhmpaaGreat
open Go.RowKit Go.Maps

theorem info68 : (Tryz.prog.info? 96).map (fun i => (i.zero, i.size, i.bytes)) = some (some (.pointer none), 1, 8) := by kernel_rfl
theorem blk_keep {w w1 : World} {b t n : Nat} {f : Nat → Value} (h : Blk w b t n f) {S : Nat → Prop} (k : Kp S w w1) (hS : ¬ S b) : Blk w1 b t n f := h.at (k.block b h.lt hS)
/-- the entries of a family, as its row has them -/
def Fam (w : World) (v : Value) (l : List Nat) : Prop := w.ownsRow 0 96 1 v l.length (l.map ptr)
theorem Fam.nil (w : World) : Fam w (.slice none 0 0) [] := World.ownsRow_nil w 0 96 1
theorem Fam.shape {w : World} {v : Value} {l : List Nat} (h : Fam w v l) : ∃ a c, v = .slice a l.length c := by
  rcases h.2 with ⟨rfl, h0⟩ | ⟨g, cap, cur, rfl, _⟩
  · exact ⟨none, 0, by rw [h0]⟩
  · exact ⟨_, _, rfl⟩
theorem Fam.lt {w : World} {v : Value} {l : List Nat} (h : Fam w v l) {g : Nat} (e : v.ownBlock = some g) : g < w.heap.size := (World.ownsRow.lt h g e).2
theorem Fam.ne {w : World} {v : Value} {l : List Nat} (h : Fam w v l) {b t n : Nat} {f : Nat → Value} (hb : Blk w b t n f) (ht : t ≠ 96) : v.ownBlock ≠ some b := fun e => by
  rcases h.2 with ⟨rfl, _⟩ | ⟨g1, cap, cur, rfl, hb', hgg, rest⟩
  · cases e
  · have e1 : g1 = b := by simpa [Value.ownBlock] using e
    subst e1
    unfold Blk at hb
    rw [hgg] at hb
    cases hb
    exact ht rfl
theorem Fam.keep {w w1 : World} {v : Value} {l : List Nat} (h : Fam w v l) (b : ∀ g, v.ownBlock = some g → w1.heap[g]? = w.heap[g]?) : Fam w1 v l := ownsKeep h b

/-- a pointer put behind an owned row -/
theorem append_ptr {ops : Array Oper} {rest : List Oper} {o : Oper} {a : Act} {Q : Exit → Act → World → Prop} {w : World} (hgd : o.guard = none) (s x : Operand)
    (ho : o.op = .call { callee := .builtin .append, args := #[s, x], argTypes := #[94, 94] }) (v : Value) (l : List Nat) (b : Nat) (hs : a.eval s = v) (hown : Fam w v l)
    (g c : Nat) (hx : a.eval x = .slice (some ⟨g, 0, none⟩) 1 c) (hm : w.cell? ⟨g, 0, none⟩ = some (ptr b)) (hb : l.length ≤ 1048576)
    (h : ∀ v' w', Fam w' v' (l ++ [b]) → w.grownBy w' v.ownBlock → (v'.ownBlock = v.ownBlock ∨ v'.ownBlock = some w.heap.size) → wpList Tryz.prog ops Q rest (a.put o.dst v') w') :
    wpList Tryz.prog ops Q (o :: rest) a w := by
  obtain ⟨i0, hi, hz0, hz1, hz2⟩ := info_parts info68
  refine wpList_append_own_at _ hgd s x 94 ho 0 96 i0 (.pointer none) 1 8 Tryz.underlying94 hi hz0 hz1 hz2 rfl (by decide) v l.length (l.map ptr) hs hown _ 1 c [ptr b] hx rfl
    (fun j u hu => ?_) (by intro u hu; simp only [List.mem_singleton] at hu; subst hu; rfl) (by unfold maxLen; omega) (by omega) (Nat.zero_le _) (fun v' w' h1 h2 _ h4 => h v' w' ?_ h2 h4)
  · cases j with
    | zero => simp at hu; subst hu; exact hm
    | succ j => simp at hu
  · unfold Fam
    rw [List.length_append, List.map_append]
    exact h1

theorem loc_of {W w : World} {v v' : Value} {o : Obj} (hsz : w.heap.size ≤ W.heap.size) (h3 : v'.ownBlock = v.ownBlock ∨ v'.ownBlock = some (W.alloc o).heap.size) : ∀ k, v'.ownBlock = some k → v.ownBlock = some k ∨ w.heap.size ≤ k := fun k hk => by
  rcases h3 with h3 | h3 <;> rw [h3] at hk
  · exact .inl hk
  · simp at hk; right; omega
set_option maxHeartbeats 1000000 in
theorem join_any (w : World) (p o tp np eb : Nat) (v : Value) (l : List Nat) (f g : Nat → Value) (hp : Hid (Blk w p tp np f)) (ho : o < np) (htp : tp ≠ 96) (hf : f o = v) (he : Hid (Blk w eb 100 8 g)) (hne : p ≠ eb) (hl : l.length ≤ 1048576) (hv : Hid (Fam w v l)) :
    Calls Tryz.prog 73 #[.pointer (some ⟨p, o, none⟩), ptr eb] w fun e w' => e = .returned (.tuple #[]) ∧ ∃ v', Fam w' v' (l ++ [eb]) ∧ Blk w' p tp np (fset f o v') ∧ Blk w' eb 100 8 (fset g 6 (.int .i64 l.length)) ∧ Kp (fun k => k = p ∨ k = eb ∨ v.ownBlock = some k) w w' ∧ (∀ k, v'.ownBlock = some k → v.ownBlock = some k ∨ w.heap.size ≤ k) := by
  obtain ⟨a, c, rfl⟩ := hv.out.shape
  have e1 := hp.out.cell o ho
  rw [hf] at e1
  have e2 := he.out.cell 6 (by decide)
  have f2 := he.out.fz 6
  have G1 : Hid (Blk (w.setCell ⟨eb, 6, none⟩ (.int .i64 l.length)) eb 100 8 (fset g 6 (.int .i64 l.length))) := he.out.set 6 _
  have G2 : Hid (Blk (w.setCell ⟨eb, 6, none⟩ (.int .i64 l.length)) p tp np f) := hp.out.other _ _ (fun e => hne e.symm)
  have G3 : Hid (Fam (w.setCell ⟨eb, 6, none⟩ (.int .i64 l.length)) (.slice a l.length c) l) := hv.out.keep fun k hk => Below.heap_setCell _ _ _ _ fun e => hv.out.ne he.out (by decide) (by rw [← show k = eb from e]; exact hk)
  have G4 : Hid (Kp (fun k => k = p ∨ k = eb ∨ (Value.slice a l.length c).ownBlock = some k) w (w.setCell ⟨eb, 6, none⟩ (.int .i64 l.length))) := Kp.of_set _ _ _ (.inr (.inl rfl))
  have hsz : Hid (w.heap.size ≤ (w.setCell ⟨eb, 6, none⟩ (.int .i64 l.length)).heap.size) := G4.out.size
  unfold ptr
  go_enter Tryz.func73, Tryz.ntmps73
  go_upto_region 1 with fail
  clear e1 f2 e2
  generalize w.setCell ⟨eb, 6, none⟩ (.int .i64 l.length) = W at *
  have e1 := G2.out.cell o ho
  rw [hf] at e1
  have H1 : Hid (Fam (W.alloc (.cells #[ptr eb] 96)) (.slice a l.length c) l) := G3.out.keep fun k hk => Below.heap_alloc W _ k (G3.out.lt hk)
  have c1 : Hid ((W.alloc (.cells #[ptr eb] 96)).cell? ⟨W.heap.size, 0, none⟩ = some (ptr eb)) := by
    unfold Hid World.cell?
    rw [new0]
    rfl
  go_wp2_with (at_builtin; refine append_ptr (w := W.alloc (.cells #[ptr eb] 96)) rfl _ _ rfl (.slice a l.length c) l eb rfl H1.out W.heap.size 1 rfl c1.out hl ?_; intro v' w2 h1 h2 h3; obtain ⟨a', c', ev⟩ := h1.shape; rw [List.length_append, List.length_singleton] at ev; subst ev; have K2 : Hid (Kp (fun k => (Value.slice a l.length c).ownBlock = some k) W w2) := (Kp.alloc W (.cells #[ptr eb] 96)).trans (Kp.of_grown (S := fun k => (Value.slice a l.length c).ownBlock = some k) h2 fun k e => e) fun _ _ h => h; have P2 : Hid (Blk w2 p tp np f) := blk_keep G2.out K2.out (fun e => G3.out.ne G2.out htp e); have E2 : Hid (Blk w2 eb 100 8 (fset g 6 (.int .i64 l.length))) := blk_keep G1.out K2.out (fun e => G3.out.ne G1.out (by decide) e); have e3 := P2.out.cell o ho; have f3 := P2.out.fz o; have R1 : Hid (Fam w2 (.slice a' (l.length + 1) c') (l ++ [eb])) := h1; have R3 : Hid (∀ k, (Value.slice a' (l.length + 1) c').ownBlock = some k → (Value.slice a l.length c).ownBlock = some k ∨ w.heap.size ≤ k) := loc_of hsz.out h3; clear h1 h2 h3)
  go_end0
  refine ⟨rfl, _, ?_, P2.out.set o _, E2.out.other _ _ hne, ?_, R3.out⟩
  · exact R1.out.keep fun k hk => Below.heap_setCell _ ⟨p, o, none⟩ _ _ fun e => R1.out.ne P2.out htp (by rw [← show k = p from e]; exact hk)
  · exact (G4.out.trans K2.out fun k _ h => .inr (.inr h)).trans (Kp.of_set (S := (· = p)) _ ⟨p, o, none⟩ _ rfl) fun k _ h => .inl h

/-- behind raise: e is a root -/
structure Raised (w w' : World) (hb eb d : Nat) (l : List Nat) (f g : Nat → Value) (v' : Value) : Prop where
  fam : Fam w' v' (l ++ [eb])
  hp : Blk w' hb 98 32 (fset f (2 + d) v')
  en : Blk w' eb 100 8 (fset (fset g 4 (.pointer none)) 6 (.int .i64 l.length))
  kp : Kp (fun k => k = hb ∨ k = eb ∨ (f (2 + d)).ownBlock = some k) w w'
  loc : ∀ k, v'.ownBlock = some k → (f (2 + d)).ownBlock = some k ∨ w.heap.size ≤ k
set_option maxHeartbeats 1000000 in
theorem raise_any (w : World) (hb eb d c : Nat) (a : Option Addr) (l : List Nat) (f g : Nat → Value) (h : Hid (Blk w hb 98 32 f)) (he : Hid (Blk w eb 100 8 g)) (hg : g 5 = .slice a d c) (hd : d < 29) (hne : hb ≠ eb) (hl : l.length ≤ 1048576) (hv : Hid (Fam w (f (2 + d)) l)) :
    Calls Tryz.prog 45 #[ptr hb, ptr eb] w fun e w' => e = .returned (.tuple #[]) ∧ ∃ v', Raised w w' hb eb d l f g v' := by
  have e2 := he.out.cell 4 (by decide)
  have f2 := he.out.fz 4
  have G1 : Hid (Blk (w.setCell ⟨eb, 4, none⟩ (.pointer none)) eb 100 8 (fset g 4 (.pointer none))) := he.out.set 4 _
  have G2 : Hid (Blk (w.setCell ⟨eb, 4, none⟩ (.pointer none)) hb 98 32 f) := h.out.other _ _ (fun e => hne e.symm)
  have G3 : Hid (Fam (w.setCell ⟨eb, 4, none⟩ (.pointer none)) (f (2 + d)) l) := hv.out.keep fun k hk => Below.heap_setCell _ _ _ _ fun e => hv.out.ne he.out (by decide) (by rw [← show k = eb from e]; exact hk)
  have G4 : Hid (Kp (fun k => k = hb ∨ k = eb ∨ (f (2 + d)).ownBlock = some k) w (w.setCell ⟨eb, 4, none⟩ (.pointer none))) := Kp.of_set _ _ _ (.inr (.inl rfl))
  unfold ptr
  go_enter Tryz.func45, Tryz.ntmps45
  go_upto_region 1 with fail
  clear f2 e2
  generalize w.setCell ⟨eb, 4, none⟩ (.pointer none) = W at *
  have HR : Hid (Calls Tryz.prog 72 #[.pointer (some ⟨hb, 0, none⟩), .pointer (some ⟨eb, 0, none⟩)] W fun e w' => e = .returned (.pointer (some ⟨hb, 2 + d, none⟩)) ∧ Below W.heap.size W w' ∧ w'.heap.size = W.heap.size) := row_any W hb eb d c a _ G1.out hg hd
  have HJ : Hid (∀ w1, Below W.heap.size W w1 → Calls Tryz.prog 73 #[.pointer (some ⟨hb, 2 + d, none⟩), .pointer (some ⟨eb, 0, none⟩)] w1 fun e w' => e = .returned (.tuple #[]) ∧ ∃ v', Raised w w' hb eb d l f g v') := fun w1 b1 => by
    refine (join_any w1 hb (2 + d) 98 32 eb (f (2 + d)) l f _ (G2.out.at (b1.block _ G2.out.lt)) (by omega) (by decide) rfl (G1.out.at (b1.block _ G1.out.lt)) hne hl (G3.out.keep fun k hk => b1.block k (G3.out.lt hk))).mono ?_
    rintro e w' ⟨rfl, v', h1, h2, h3, h4, h5⟩
    have hs : w.heap.size ≤ w1.heap.size := Nat.le_trans G4.out.size b1.size
    exact ⟨rfl, v', h1, h2, h3, (G4.out.trans (S' := fun _ => False) (Kp.of_below b1) (fun _ _ h => h.elim)).trans h4 fun _ _ h => h, fun k hk => (h5 k hk).imp_right fun h => Nat.le_trans hs h⟩
  clear G1 G2 G3 G4 h he hv hg hd hne hl
  go_wp2_with (first | (go_at_call 72; refine HR.out.mono ?_; rintro e w1 ⟨rfl, b1, _⟩) | (go_at_call 73; refine (HJ.out _ b1).mono ?_; rintro e w2 ⟨rfl, v', R⟩))
  go_end0
  exact ⟨rfl, v', R⟩

set_option maxHeartbeats 1000000 in
theorem offer_none (w : World) (hb eb : Nat) (f : Nat → Value) (h : Hid (Blk w hb 98 32 f)) (hf : f 31 = .pointer none) :
    Calls Tryz.prog 46 #[ptr hb, ptr eb] w fun e w' => e = .returned (.tuple #[]) ∧ Blk w' hb 98 32 (fset f 31 (ptr eb)) ∧ Kp (· = hb) w w' := by
  have e1 := h.out.cell 31 (by decide)
  rw [hf] at e1
  have f1 := h.out.fz 31
  unfold ptr
  go_enter Tryz.func46, Tryz.ntmps46
  go_wp2_with fail
  go_end0
  exact ⟨rfl, h.out.set 31 _, Kp.of_set _ _ _ rfl⟩
end Go.Proofs.YtcgaekaollhmpaaGreat
