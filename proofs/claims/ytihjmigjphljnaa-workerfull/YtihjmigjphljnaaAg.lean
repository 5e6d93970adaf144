/-
  Expire: what it does to lists and memory.
-/
import Derived.Test.YtihjmigjphljnaaAf
import Derived.Test.YtihjmigjphljnaaGr
import Derived.Test.YtihjmigjphljnaaIter
import Derived.Sort.OwnSorted
namespace Go.Proofs.Ytihjmigjphljnaa
open Go.RowKit Go.Maps Go.WideMaps Go.Sort Go.Shelf
open Tk

def leB (x y : List UInt8) : Bool := decide (x ≤ y)
theorem bb_lt : ∀ {a b : List UInt8}, bytesBefore a b = true → a < b
  | [], [], h => by simp [bytesBefore] at h
  | [], _ :: _, _ => List.nil_lt_cons _ _
  | _ :: _, [], h => by simp [bytesBefore] at h
  | x :: r, y :: s, h => by
    simp only [bytesBefore, Bool.or_eq_true, decide_eq_true_eq, Bool.and_eq_true, beq_iff_eq] at h
    rw [List.cons_lt_cons_iff]
    rcases h with h | ⟨h1, h2⟩
    · exact .inl h
    · exact .inr ⟨h1, bb_lt h2⟩
theorem names_sorted {l ss : List (List UInt8)} (hs : l.Pairwise fun x y => bytesBefore x y = true) (hp : ss.Perm l) : ss.mergeSort (fun x y => decide (x ≤ y)) = l := by
  have tr : ∀ a b c : List UInt8, leB a b = true → leB b c = true → leB a c = true := fun a b c h1 h2 => by simp only [leB, decide_eq_true_eq] at *; exact List.le_trans h1 h2
  have tot : ∀ a b : List UInt8, (leB a b || leB b a) = true := fun a b => by simp only [leB, Bool.or_eq_true, decide_eq_true_eq]; exact List.le_total a b
  refine List.Perm.eq_of_pairwise (le := fun a b => leB a b = true) (fun a b _ _ h1 h2 => ?_) (List.pairwise_mergeSort tr tot ss) ?_ ((List.mergeSort_perm ss leB).trans hp)
  · simp only [leB, decide_eq_true_eq] at h1 h2
    exact List.le_antisymm h1 h2
  · refine List.Pairwise.imp (fun {a b} hab => ?_) hs
    simp only [leB, decide_eq_true_eq]
    exact List.le_of_lt (bb_lt hab)
/-- in a list in order what is due comes first -/
theorem pw_filter (now : Int) : ∀ {R : List Al}, Tk.Srt R → pw now R = R.filter (fun a => decide (a.at' ≤ now)) ∧ dw now R = R.filter (fun a => !decide (a.at' ≤ now))
  | [], _ => ⟨rfl, rfl⟩
  | a :: r, h => by
    have h1 := List.pairwise_cons.1 h
    obtain ⟨i1, i2⟩ := pw_filter now h1.2
    unfold pw dw at *
    by_cases q : a.at' ≤ now
    · have e : decide (a.at' ≤ now) = true := decide_eq_true q
      constructor
      · simp [q, i1]
      · simp [q, i2]
    · have e : decide (a.at' ≤ now) = false := decide_eq_false q
      have hr : ∀ b ∈ r, ¬ b.at' ≤ now := fun b hb => by
        have := at_le (lt_le (h1.1 b hb))
        omega
      constructor
      · simp only [List.takeWhile_cons, List.filter_cons, e, Bool.false_eq_true, if_false]
        exact (List.filter_eq_nil_iff.2 fun b hb => by simpa using hr b hb).symm
      · simp only [List.dropWhile_cons, List.filter_cons, e, Bool.false_eq_true, if_false, Bool.not_false, if_true]
        rw [List.filter_eq_self.2 fun b hb => by simpa using hr b hb]
theorem pw_perm {D : List Nd} {R : List Al} (hs : Tk.Srt R) (hp : R.Perm (als D)) (now : Int) : (pw now R).Perm ((expN D now).map Nd.al) := by
  rw [(pw_filter now hs).1, ← lost_als]
  exact hp.filter _
theorem dw_perm {D : List Nd} {R : List Al} (hs : Tk.Srt R) (hp : R.Perm (als D)) (now : Int) : (dw now R).Perm (als (expR D now)) := by
  rw [(pw_filter now hs).2, exp_als]
  exact hp.filter _
/-! ### rows of names -/
def sC (s : List UInt8) : List Value := [.string ⟨⟨s⟩⟩]
theorem sC_len (s : List UInt8) : (sC s).length = 1 := rfl
theorem sC_one (s : List UInt8) : ∀ u ∈ sC s, u.oneCell' = true := by
  intro u hu
  simp only [sC, List.mem_cons, List.not_mem_nil, or_false] at hu
  subst hu
  rfl
abbrev SR (w : World) (v : Value) (L : List (List UInt8)) : Prop := GRow 9 1 sC 0 w v L
theorem map_flat (L : List (List UInt8)) : L.map encStr = L.flatMap sC := by
  induction L with
  | nil => rfl
  | cons a r ih => rw [List.map_cons, List.flatMap_cons, ih]; rfl
theorem info9 : (Try.prog.info? 9).map (fun i => (i.zero, i.size, i.bytes)) = some (some (.string ⟨#[]⟩), 1, 16) := by kernel_rfl
theorem append_s {ops : Array Oper} {rest : List Oper} {o : Oper} {a : Act} {Q : Exit → Act → World → Prop} {w : World} (hgd : o.guard = none) (s x : Operand) (ho : o.op = .call { callee := .builtin .append, args := #[s, x], argTypes := #[43, 43] }) (v : Value) (T : List (List UInt8)) (n : Nat) (hn : T.length = n) (hs : a.eval s = v) (hown : SR w v T)
    (g : Nat) (k : ByteArray) (hx : a.eval x = .slice (some ⟨g, 0, none⟩) 1 1) (hm : w.cell? ⟨g, 0, none⟩ = some (.string k)) (hb : n + 1 ≤ 4096)
    (h : ∀ v' w', SR w' v' (T ++ [k.data.toList]) → w.grownBy w' v.ownBlock → (v'.ownBlock = v.ownBlock ∨ v'.ownBlock = some w.heap.size) → wpList Try.prog ops Q rest (a.put o.dst v') w') :
    wpList Try.prog ops Q (o :: rest) a w := by
  obtain ⟨i0, hi, hz0, hz1, hz2⟩ := info_parts info9
  refine wpList_append_own_at _ hgd s x 43 ho 0 9 i0 _ 1 16 Try.underlying43 hi hz0 hz1 hz2 rfl (by decide) v n (T.flatMap sC) hs (by rw [← hn]; exact hown) ⟨g, 0, none⟩ 1 1 [.string k] hx rfl (fun j u hj => ?_) (sC_one k.data.toList) (by unfold maxLen; omega) (by omega) (Nat.zero_le _) (fun v' w' h1 h2 _ h4 => h v' w' ?_ h2 h4)
  · rw [Addr.add_lit]
    match j, hj with
    | 0, hj =>
      have : u = .string k := by simpa using hj.symm
      rw [this]
      exact hm
    | j + 1, hj => simp at hj
  · unfold SR GRow
    rw [List.flatMap_append, List.length_append, hn]
    exact h1
/-! ### while Expire goes through the alarms -/
structure ExS (w0 wr : World) (tb : Nat) (S S1 : HS) (mb : Option Nat) (D : List Nd) (R' T : List Al) (v u : Value) (i : Nat) : Prop where
  ck : Ck wr tb S1 R'
  nv : S1.nv = .map mb
  mp : MpN wr mb (D.map (kill ((T.take i).map Al.k)))
  row : Row wr v T
  out : SR wr u ((T.take i).map Al.k)
  kp : Kp (Tf tb S mb) w0 wr
  fp : ∀ k, Tk.Fp tb S1 k → Tk.Fp tb S k ∨ w0.heap.size ≤ k
  sep : ∀ m, mb = some m → ¬ Tk.Fp tb S1 m ∧ m < w0.heap.size
  vn : ∀ j, v.ownBlock = some j → w0.heap.size ≤ j ∧ ¬ Tk.Fp tb S1 j
  un : ∀ j, u.ownBlock = some j → w0.heap.size ≤ j ∧ ¬ Tk.Fp tb S1 j ∧ v.ownBlock ≠ some j
section
variable {w0 wr W W1 w1 w2 : World} {tb m i : Nat} {S S1 : HS} {mb : Option Nat} {D : List Nd} {R R' T : List Al} {v u u' : Value} {a : Al} {n : Nd}
theorem ExS.below (h : ExS w0 wr tb S S1 mb D R' T v u i) (b : Below wr.heap.size wr W) : ExS w0 W tb S S1 mb D R' T v u i :=
  ⟨h.ck.below b, h.nv, h.mp.keep fun m hm => b.block m (by subst hm; exact h.mp.lt), h.row.below b, h.out.below b, h.kp.trans (Kp.of_below b : Kp (Tf tb S mb) wr W) fun _ _ q => q, h.fp, h.sep, h.vn, h.un⟩
theorem ExS.c0 (h : ExS w0 wr tb S S1 mb D R' T v u i) : wr.cell? ⟨tb, 0, none⟩ = some (.map mb) := by rw [cell_of h.ck.c.m.hp, h.nv]; rfl
theorem kill_nm (ks : List (List UInt8)) (n : Nd) : (kill ks n).nm = n.nm := by unfold kill Nd.off; split <;> rfl
theorem ExS.next (h : ExS w0 W tb S S1 (some m) D R' T v u i) (hD : Srt Nd.k D) (ha : T[i]? = some a) (hf : fnd Nd.k a.k D = some n)
    (hM : W1.ownsMap Try.prog 9 pN m ((D.map (kill ((T.take i).map Al.k))).length + 1) ((mapOf (D.map (kill ((T.take i).map Al.k)))).put (.string (kill ((T.take i).map Al.k) n).off.k) (.held (kill ((T.take i).map Al.k) n).off)))
    (hg : W.grownBy W1 (some m)) (b : Below W1.heap.size W1 w1) (hr : SR w2 u' ((T.take i).map Al.k ++ [a.k])) (gr : w1.grownBy w2 u.ownBlock) (hv : u'.ownBlock = u.ownBlock ∨ u'.ownBlock = some w1.heap.size) :
    ExS w0 w2 tb S S1 (some m) D R' T v u' (i + 1) := by
  have k1 : Kp (· = m) W W1 := Kp.of_grown hg fun k e => (Option.some.inj e).symm
  have k2 : Kp (fun j => u.ownBlock = some j) w1 w2 := Kp.of_grown gr fun j q => q
  have s0 := h.kp.size
  have s1 := k1.size
  have s2 := b.size
  have s3 := k2.size
  obtain ⟨hm1, hm2⟩ := h.sep m rfl
  have blk : ∀ j, j < W.heap.size → j ≠ m → u.ownBlock ≠ some j → w2.heap[j]? = W.heap[j]? := fun j hj hn hu => (k2.block j (by omega) hu).trans ((b.block j (by omega)).trans (k1.block j hj hn))
  have uw : ∀ j, u.ownBlock = some j → j < W.heap.size := fun j q => h.out.lt q
  have et : (T.take (i + 1)).map Al.k = (T.take i).map Al.k ++ [a.k] := by
    rw [List.take_add_one, ha, List.map_append]; rfl
  have mu : u.ownBlock ≠ some m := fun q => by have := (h.un m q).1; omega
  have vm : ∀ j, v.ownBlock = some j → j ≠ m := fun j q e => by have := (h.vn j q).1; omega
  have em : w2.heap[m]? = W1.heap[m]? := (k2.block m (by have := hM.lt; omega) mu).trans (b.block m hM.lt)
  refine ⟨⟨⟨h.ck.c.m.keep fun k hk => blk k (h.ck.c.m.lt k hk) (fun e => hm1 (e ▸ hk)) fun q => (h.un k q).2.1 hk, h.ck.c.h⟩, h.ck.p, h.ck.s⟩, h.nv, ?_, h.row.keep fun g q => blk g (h.row.lt q) (vm g q) fun q' => (h.un g q').2.2 q, ?_, ?_, h.fp, h.sep, h.vn, fun j q => ?_⟩
  · rw [et]
    unfold MpN
    rw [← kill_more hD _ hf]
    rw [mapOf_put] at hM
    have := Tk.tight hM
    rw [mapOf_size] at this
    exact keepMap this em
  · rw [et]
    exact hr
  · refine ⟨k2.os.trans (b.os.trans (k1.os.trans h.kp.os)), k2.tape.trans (b.tape.trans (k1.tape.trans h.kp.tape)), k2.output.trans (b.output.trans (k1.output.trans h.kp.output)), by omega, fun k hk hn => (blk k (by omega) (fun e => hn (.inr (by rw [e]))) fun q => ?_).trans (h.kp.block k hk hn)⟩
    have := (h.un k q).1
    omega
  · rcases hv with e | e
    · rw [e] at q
      exact h.un j q
    · rw [e] at q
      have e2 := Option.some.inj q
      subst e2
      refine ⟨by omega, fun q2 => ?_, fun q2 => ?_⟩
      · have := h.ck.c.m.lt _ q2
        omega
      · have := h.row.lt q2
        omega
/-- what Expire leaves -/
structure Xp (w w' : World) (tb : Nat) (S : HS) (mb : Option Nat) (D : List Nd) (L : List (List UInt8)) (v : Value) : Prop where
  r : SR w' v L
  t : ∃ S' R', TbAt w' tb S' mb D R' ∧ Step (Tf tb S mb) (Tf tb S' mb) w w' ∧ ∀ j, v.ownBlock = some j → w.heap.size ≤ j ∧ ¬ Tf tb S' mb j
end
end Go.Proofs.Ytihjmigjphljnaa
