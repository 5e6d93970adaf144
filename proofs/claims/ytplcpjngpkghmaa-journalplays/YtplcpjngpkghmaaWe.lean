/-
  A file that is made, and bytes put behind a file's: the disk behind it.
-/
import Derived.Test.YtplcpjngpkghmaaWd
namespace Go.Proofs.Ytplcpjngpkghmaa
open Go.RowKit Go.Maps Go.WideMaps

def tagA (tg : Nat → Tg) (n : Nat) (nm : List UInt8) (b : Bool) : Nat → Tg := fun k => if k = n then .fl nm else if b = true ∧ k = n + 1 then .mp else tg k
theorem add_any {w : World} {tg : Nat → Tg} {pb : Nat} {D : DK} {mb : Option Nat} {l : List Fl} {z : Int} (h : DkAt w tg pb D mb l z) (s : ByteArray) (hs : s.size ≤ maxLen) (hc : s.size ≤ 281474976710656) (hf : fnd Fl.nm s.data.toList l = none) (hl : l.length < 64) :
    Calls Try.prog 52 #[.pointer (some ⟨pb, 0, none⟩), .string s] w fun e w' => e = .returned (.pointer (some ⟨w.heap.size, 0, none⟩)) ∧ ∃ tg' mb', DkAt w' tg' pb ⟨(ins Fl.nm ⟨s.data.toList, [], 0, w.heap.size, .slice none 0 0⟩ l).map Fl.s, D.down, D.fuse⟩ mb' (ins Fl.nm ⟨s.data.toList, [], 0, w.heap.size, .slice none 0 0⟩ l) z ∧ Step tg tg' w w' := by
  refine add_raw w pb s (fun w' => ∃ tg' mb', DkAt w' tg' pb ⟨(ins Fl.nm ⟨s.data.toList, [], 0, w.heap.size, .slice none 0 0⟩ l).map Fl.s, D.down, D.fuse⟩ mb' (ins Fl.nm ⟨s.data.toList, [], 0, w.heap.size, .slice none 0 0⟩ l) z ∧ Step tg tg' w w') ?_
  have b0 : Below w.heap.size w (w.alloc (.cells #[.slice none 0 0, .int .i64 0] 84)) := (Below.refl _ w).alloc (Nat.le_refl _) _
  have h0 := h.keepB b0
  have n0 : (w.alloc (.cells #[.slice none 0 0, .int .i64 0] 84)).heap[w.heap.size]? = some (.cells #[.slice none 0 0, .int .i64 0] 84 (0, 0)) := new0
  have hsz : (w.alloc (.cells #[.slice none 0 0, .int .i64 0] 84)).heap.size = w.heap.size + 1 := by simp
  generalize (w.alloc (.cells #[.slice none 0 0, .int .i64 0] 84)) = W at *
  have hpb := h.lt pb (by rw [h.tp]; exact nofun)
  have hmne : ∀ m, mb = some m → tg m = .mp := fun m e => by have := h.mp; rw [e] at this; exact this.1
  refine (put_any W pb mb l ⟨s.data.toList, [], 0, w.heap.size, .slice none 0 0⟩ _ _ _ s hs hc rfl h0.cell ?_ h.len).mono ?_
  · have := h0.mp
    unfold MpAt at this
    cases mb with
    | none => exact this
    | some m =>
      refine ⟨fun e => ?_, this.2⟩
      have t := this.1
      rw [e, h.tp] at t
      cases t
  rintro e w' ⟨rfl, m', hm', hcell, hown, hk⟩
  refine ⟨rfl, tagA tg w.heap.size s.data.toList mb.isNone, some m', ?_, ?_⟩
  · rw [show l = drp Fl.nm s.data.toList l from (drp_none hf).symm]
    refine h0.putted (f := ⟨s.data.toList, [], 0, w.heap.size, .slice none 0 0⟩) hcell hk ?_ ?_ ?_ ?_ ?_ hown ?_ ?_ h.srt (fun g hg => hg)
    · intro k _ hS
      rcases hS with rfl | hS
      · exact .inl h.tp
      · exact .inr (hmne k hS.symm)
    · unfold tagA
      rw [if_neg (by omega), if_neg (by omega), h.tp]
    · unfold tagA
      rcases hm' with rfl | ⟨rfl, rfl⟩
      · have := h.lt m' (by rw [hmne m' rfl]; exact nofun)
        rw [if_neg (by omega), if_neg (by omega), hmne m' rfl]
      · rw [if_neg (by omega), if_pos ⟨rfl, hsz⟩]
    · intro g hg _ k hk1
      have := h.lt k (by rcases hk1 with hk1 | hk1 <;> rw [hk1] <;> exact nofun)
      unfold tagA
      rw [if_neg (by omega), if_neg (by omega)]
    · refine ⟨?_, Own.nil _ _, ?_, nofun, Nat.le_refl _, Nat.zero_le _⟩
      · refine (hk.block _ (by simp only; omega) ?_).trans n0
        rintro (e | e)
        · simp only at e; omega
        · have := h.lt _ (by rw [hmne _ e.symm]; exact nofun); simp only at this; omega
      · unfold tagA
        rw [if_pos rfl]
    · rw [drp_none (n := s.data.toList) hf, ins_length]; omega
    · intro k hk1
      have := hk.size
      unfold tagA at hk1
      split at hk1
      · omega
      · split at hk1
        · rename_i h1
          rcases hm' with rfl | ⟨rfl, rfl⟩
          · cases h1.1
          · have := hown.lt; omega
        · have := h.lt k hk1; omega
  · refine ⟨(Kp.of_below b0).trans hk fun k hk1 hS => ?_, fun k hk1 => ?_⟩
    · rcases hS with rfl | hS
      · rw [h.tp]; exact nofun
      · rw [hmne k hS.symm]; exact nofun
    · unfold tagA at hk1
      split at hk1
      · right; omega
      · split at hk1
        · right; omega
        · exact .inl hk1

theorem DkAt.updated {w w1 : World} {tg tg' : Nat → Tg} {pb : Nat} {D : DK} {mb : Option Nat} {l : List Fl} {z : Int} {f f' : Fl} {n : List UInt8} {S : Nat → Prop} (h : DkAt w tg pb D mb l z) (hf : fnd Fl.nm n l = some f) (hn : f'.nm = n) (hb : f'.fb = f.fb)
    (hk : Kp S w w1) (hS : ∀ k, k < w.heap.size → S k → tg k = .fl n ∨ tg k = .rw n) (t1 : ∀ k, tg k ≠ .no → tg' k = tg k) (ht : ∀ k, tg' k ≠ .no → k < w1.heap.size) (hF : FlAt w1 tg' f') :
    DkAt w1 tg' pb ⟨(upd Fl.nm n f' l).map Fl.s, D.down, D.fuse⟩ mb (upd Fl.nm n f' l) z := by
  have hb' : ∀ k, tg k ≠ .no → tg k ≠ .fl n → tg k ≠ .rw n → w1.heap[k]? = w.heap[k]? := fun k h1 h2 h3 => hk.block k (h.lt k h1) fun e => (hS k (h.lt k h1) e).elim h2 h3
  have hm : mapOf (upd Fl.nm n f' l) = mapOf l := by
    unfold mapOf
    congr 1
    exact upd_self h.srt hf (g := fun f : Fl => (Lit.string f.nm, DataW.held (H := Nat) f.fb)) (by rw [hn, hb, (fnd_some hf).2])
  refine ⟨(hb' pb (by rw [h.tp]; exact nofun) (by rw [h.tp]; exact nofun) (by rw [h.tp]; exact nofun)).trans h.cell, (t1 pb (by rw [h.tp]; exact nofun)).trans h.tp, rfl, h.fz, ?_, fun g hg => ?_, srt_upd hn h.srt, by rw [upd_length]; exact h.len, ht⟩
  · have := h.mp
    unfold MpAt at *
    cases mb with
    | none => subst this; rfl
    | some m => exact ⟨(t1 m (by rw [this.1]; exact nofun)).trans this.1, by rw [hm, upd_length]; exact keepMap this.2 (hb' m (by rw [this.1]; exact nofun) (by rw [this.1]; exact nofun) (by rw [this.1]; exact nofun))⟩
  · rcases mem_upd hg with rfl | ⟨hg1, hg2⟩
    · exact hF
    · refine (h.fl g hg1).keep (fun k hk1 => hb' k ?_ ?_ ?_) (fun k hk1 => t1 k ?_)
      all_goals rcases hk1 with hk1 | hk1 <;> rw [hk1]
      all_goals first | (intro e; injection e with e; exact hg2 e) | (intro e; cases e)

/-- bytes that lie outside a disk -/
def LiesOff (w : World) (tg : Nat → Tg) (a : Option Addr) (l : List UInt8) : Prop := l = [] ∨ ∃ g o, a = some ⟨g, o, none⟩ ∧ Row w g o l ∧ g < w.heap.size ∧ tg g = .no
theorem LiesOff.lies {w : World} {tg : Nat → Tg} {a : Option Addr} {l : List UInt8} (h : LiesOff w tg a l) : Lies w a l := by
  rcases h with h | ⟨g, o, e, h, _⟩
  · exact .inl h
  · exact .inr ⟨g, o, e, h⟩
theorem Row.keepAt {w w1 : World} {g o : Nat} {l : List UInt8} (h : Row w g o l) (e : w1.heap[g]? = w.heap[g]?) : Row w1 g o l := fun k x hx => (World.cell?_of_block (a := ⟨g, o + k, none⟩) e).trans (h k x hx)
theorem LiesOff.step {w w1 : World} {tg tg1 : Nat → Tg} {a : Option Addr} {l : List UInt8} (h : LiesOff w tg a l) (st : Step tg tg1 w w1) : LiesOff w1 tg1 a l := by
  rcases h with h | ⟨g, o, e, h, h1, h2⟩
  · exact .inl h
  · refine .inr ⟨g, o, e, h.keepAt (st.1.block g h1 fun k => k h2), Nat.lt_of_lt_of_le h1 st.1.size, ?_⟩
    by_cases h3 : tg1 g = .no
    · exact h3
    · rcases st.2 g h3 with h4 | h4
      · exact absurd h2 h4
      · omega

/-- bytes put behind an owned row, and where they lie then -/
theorem append_loc {ops : Array Oper} {rest : List Oper} {o : Oper} {a : Act} {Q : Exit → Act → World → Prop} {w : World} (hgd : o.guard = none) (s x : Operand)
    (ho : o.op = .call { callee := .builtin .append, args := #[s, x], argTypes := #[31, 31] }) (v : Value) (l m : List UInt8) (hs : a.eval s = v) (hown : Own w 0 v l)
    (q : Option Addr) (c n : Nat) (hx : a.eval x = .slice q n c) (hn : m.length = n) (hq : q = none → c = 0) (hm : Lies w q m) (hb : l.length + m.length ≤ 140737488355328)
    (h : ∀ v' w', Own w' 0 v' (l ++ m) → w.grownBy w' v.ownBlock → (v'.ownBlock = v.ownBlock ∨ v'.ownBlock = some w.heap.size) → wpList Try.prog ops Q rest (a.put o.dst v') w') :
    wpList Try.prog ops Q (o :: rest) a w := by
  obtain ⟨i0, hi, hz0, hz1, hz2⟩ := info_parts info5
  have fin : ∀ v' w', w'.ownsRow 0 5 1 v' (l.length + m.length) (bv l ++ bv m) → w.grownBy w' v.ownBlock → (v'.ownBlock = v.ownBlock ∨ v'.ownBlock = some w.heap.size) → wpList Try.prog ops Q rest (a.put o.dst v') w' := by
    intro v' w' h1 h2 h3
    refine h v' w' ?_ h2 h3
    unfold Own
    rw [List.length_append, bv_append]
    exact h1
  cases q with
  | none =>
    have hm0 : m = [] := by
      rcases hm with h | ⟨g, o, e, _⟩
      · exact h
      · cases e
    subst hm0
    simp only [List.length_nil] at hn
    subst hn
    rw [hq rfl] at hx
    refine wpList_append_own_none hgd s x 31 ho 0 5 i0 1 Try.underlying31 hi v l.length (bv l) hs hown hx ?_
    refine fin v w ?_ (World.grownBy.refl _ _) (.inl rfl)
    simp only [bv, List.map_nil, List.append_nil, List.length_nil, Nat.add_zero]
    exact hown
  | some ad =>
    subst hn
    refine wpList_append_own_at _ hgd s x 31 ho 0 5 i0 (.int .u8 0) 1 1 Try.underlying31 hi hz0 hz1 hz2 rfl (by decide) v l.length (bv l) hs hown ad m.length c (bv m) hx (by rw [bv_length]; omega)
      (fun j u hu => ?_) (bv_one m) (by unfold maxLen; omega) (by omega) (Nat.zero_le _) (fun v' w' h1 h2 _ h4 => fin v' w' h1 h2 h4)
    rcases hm with rfl | ⟨g, o, e, hr⟩
    · simp [bv] at hu
    · obtain rfl := Option.some.inj e
      unfold bv at hu
      rw [List.getElem?_map, Option.map_eq_some_iff] at hu
      obtain ⟨y, hy, rfl⟩ := hu
      rw [Addr.add_lit]
      exact hr j y hy

def tagR (tg : Nat → Tg) (nm : List UInt8) (v : Value) : Nat → Tg := fun k => if v.ownBlock = some k then .rw nm else tg k
/-- behind an append and the store of its slice -/
theorem DkAt.appended {w w1 : World} {tg : Nat → Tg} {pb : Nat} {D : DK} {mb : Option Nat} {l : List Fl} {z : Int} {f : Fl} {n m : List UInt8} {v' : Value} (h : DkAt w tg pb D mb l z) (hf : fnd Fl.nm n l = some f) (hm : f.b.length + m.length ≤ 1048576)
    (ho : Own w1 0 v' (f.b ++ m)) (hg : w.grownBy w1 f.v.ownBlock) (hloc : v'.ownBlock = f.v.ownBlock ∨ v'.ownBlock = some w.heap.size) :
    w1.heap[f.fb]? = some (.cells #[f.v, .int .i64 f.sy] 84 (0, 0)) ∧ DkAt (w1.setCell ⟨f.fb, 0, none⟩ v') (tagR tg n v') pb ⟨(upd Fl.nm n ⟨n, f.b ++ m, f.sy, f.fb, v'⟩ l).map Fl.s, D.down, D.fuse⟩ mb (upd Fl.nm n ⟨n, f.b ++ m, f.sy, f.fb, v'⟩ l) z
      ∧ Step tg (tagR tg n v') w (w1.setCell ⟨f.fb, 0, none⟩ v') := by
  obtain ⟨hfl, hfn⟩ := fnd_some hf
  have hF := h.fl f hfl
  have hlt : f.fb < w.heap.size := h.lt _ (by rw [hF.tb]; exact nofun)
  have hne : f.v.ownBlock ≠ some f.fb := fun e => by have := hF.tr _ e; rw [hF.tb] at this; cases this
  have hc1 : w1.heap[f.fb]? = some (.cells #[f.v, .int .i64 f.sy] 84 (0, 0)) := (hg.block _ hlt (fun e => hne e.symm)).trans hF.cell
  have hv' : v'.ownBlock ≠ some f.fb := fun e => by
    rcases hloc with h1 | h1
    · exact hne (h1.symm.trans e)
    · rw [h1] at e; injection e with e; omega
  have hk : Kp (fun k => tg k = .fl n ∨ tg k = .rw n) w (w1.setCell ⟨f.fb, 0, none⟩ v') :=
    (Kp.of_grown (S := fun k => tg k = .fl n ∨ tg k = .rw n) hg (fun k e => .inr (by rw [hF.tr k e, hfn]))).trans (Kp.of_set (S := fun k => tg k = .fl n ∨ tg k = .rw n) _ ⟨f.fb, 0, none⟩ _ (.inl (by rw [hF.tb, hfn]))) fun _ _ h => h
  have hlt' : ∀ k, v'.ownBlock = some k → k < w1.heap.size := fun k e => (World.ownsRow.lt ho k e).2
  have hsame : ∀ k, tg k ≠ .no → tagR tg n v' k = tg k := by
    intro k hk1
    unfold tagR
    split
    · rename_i e
      rcases hloc with h1 | h1
      · rw [h1] at e; rw [hF.tr k e, hfn]
      · rw [h1] at e; injection e with e; exact absurd (h.lt k hk1) (by omega)
    · rfl
  refine ⟨hc1, h.updated hf rfl rfl hk (fun k _ e => e) hsame ?_ ?_, ?_, ?_⟩
  · intro k hk1
    unfold tagR at hk1
    have hsz : (w1.setCell ⟨f.fb, 0, none⟩ v').heap.size = w1.heap.size := by simp [World.setCell]
    rw [hsz]
    split at hk1
    · rename_i e; exact hlt' k e
    · exact Nat.lt_of_lt_of_le (h.lt k hk1) hg.size
  · refine ⟨?_, ?_, ?_, ?_, ?_, ?_⟩
    · exact setB hc1 _
    · exact ho.keepAt fun g hg' => Below.heap_setCell _ _ _ _ (fun e => hv' (by rw [hg', e]))
    · show tagR tg n v' f.fb = .fl n
      rw [hsame _ (by rw [hF.tb]; exact nofun), hF.tb, hfn]
    · intro g hg'
      show tagR tg n v' g = .rw n
      unfold tagR
      rw [if_pos hg']
    · show f.sy ≤ (f.b ++ m).length
      rw [List.length_append]; have := hF.hs; omega
    · show (f.b ++ m).length ≤ 1048576
      rw [List.length_append]; omega
  · exact hk.mono fun k _ e => by rcases e with e | e <;> rw [e] <;> exact nofun
  · intro k hk1
    unfold tagR at hk1
    split at hk1
    · rename_i e
      rcases hloc with h1 | h1
      · rw [h1] at e; left; rw [hF.tr k e]; exact nofun
      · rw [h1] at e; injection e with e; right; omega
    · exact .inl hk1
end Go.Proofs.Ytplcpjngpkghmaa
