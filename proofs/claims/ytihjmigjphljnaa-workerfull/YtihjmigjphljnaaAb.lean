/-
  A table of nodes in memory: its block (nodes' map; the clock's row and map), both maps, the clock's row.
-/
import Derived.Test.YtihjmigjphljnaaSp
import Derived.Test.YtihjmigjphljnaaTNd
import Derived.Maps.OwnSet
namespace Go.Proofs.Ytihjmigjphljnaa
open Go.RowKit Go.Maps Go.WideMaps
open Tk

def vec (v : V) : Value := .agg #[.int .i64 v.a, .int .i64 v.b, .int .i64 v.c, .int .i64 v.d]
def Nd.val (n : Nd) : Value := .agg #[.string n.nm, .int .i64 n.ep, .int .i64 n.v.a, .int .i64 n.v.b, .int .i64 n.v.c, .int .i64 n.v.d, .int .i64 n.sn, .bool n.lv]
/-- a node's cells -/
def Nd.cs (n : Nd) : List Value := [.string n.nm, .int .i64 n.ep, .int .i64 n.v.a, .int .i64 n.v.b, .int .i64 n.v.c, .int .i64 n.v.d, .int .i64 n.sn, .bool n.lv]
theorem vec_inj {v u : V} (h : vec v = vec u) : v = u := by
  cases v; cases u
  simp [vec] at h
  simp [h]
theorem Nd.val_inj {n m : Nd} (h : n.val = m.val) : n = m := by
  obtain ⟨a, b, c, d, e⟩ := n
  obtain ⟨a', b', c', d', e'⟩ := m
  obtain ⟨c0, c1, c2, c3⟩ := c
  obtain ⟨u0, u1, u2, u3⟩ := c'
  simp [Nd.val] at h
  obtain ⟨rfl, rfl, rfl, rfl, rfl, rfl, rfl, rfl⟩ := h
  rfl
open Classical in
/-- how a node in the map reads -/
noncomputable def pN (v : Value) : Option (DataW Nd × List MemPlace) := if h : ∃ n : Nd, v = n.val then some (.held h.choose, []) else none
theorem pN_val (n : Nd) : pN n.val = some (.held n, []) := by
  have h : ∃ m : Nd, n.val = m.val := ⟨n, rfl⟩
  unfold pN
  rw [dif_pos h, ← Nd.val_inj h.choose_spec]
theorem pN_held {v : Value} {n : Nd} {ps : List MemPlace} (h : pN v = some (.held n, ps)) : v = n.val := by
  unfold pN at h
  split at h
  · rename_i q
    have e : q.choose = n := by
      have := congrArg Prod.fst (Option.some.inj h)
      simpa using this
    rw [← e]
    exact q.choose_spec
  · cases h
def mapOf (l : List Nd) : DataW Nd := .map (l.map fun f => (.string f.k, .held f))
theorem mapOf_put (l : List Nd) (f : Nd) : (mapOf l).put (.string f.k) (.held f) = mapOf (put f l) := by
  unfold mapOf put
  rw [DataW.put_eq]
  unfold ChangeMaps.putKey
  congr 1
  have e : ∀ l : List Nd, DataW.insert (Lit.string f.k, DataW.held f) (l.map fun f => (Lit.string f.k, DataW.held f)) = (ins Nd.k f l).map fun f => (Lit.string f.k, DataW.held f) := by
    intro l
    induction l with
    | nil => rfl
    | cons z r ih =>
      simp only [List.map_cons]
      unfold DataW.insert ins
      by_cases hb : bytesBefore f.k z.k = true
      · rw [if_pos (show Lit.before (Lit.string f.k, DataW.held (H := Nd) f).fst (Lit.string z.k, DataW.held (H := Nd) z).fst = true from hb), if_pos hb]; rfl
      · rw [if_neg (show ¬ Lit.before (Lit.string f.k, DataW.held (H := Nd) f).fst (Lit.string z.k, DataW.held (H := Nd) z).fst = true from hb), if_neg hb, ih]; rfl
  rw [← e]
  congr 1
  unfold drp
  rw [List.filter_map]
  congr 1
theorem mapOf_find (l : List Nd) (n : List UInt8) : (l.map fun f => (Lit.string f.k, DataW.held f)).find? (fun p : Lit × DataW Nd => p.1.sameKey (.string n)) = (fnd Nd.k n l).map fun f => (Lit.string f.k, DataW.held f) := by
  unfold fnd
  rw [List.find?_map]
  have e : ((fun p : Lit × DataW Nd => p.1.sameKey (.string n)) ∘ fun f : Nd => (Lit.string f.k, DataW.held f)) = fun f => f.k == n := by
    funext f; rfl
  rw [e]
theorem mapOf_at (l : List Nd) (n : List UInt8) : (mapOf l).atKey (.string n) (.held Nd.z) = .held ((fnd Nd.k n l).getD Nd.z) := by
  unfold mapOf DataW.atKey
  simp only
  rw [mapOf_find]
  cases fnd Nd.k n l <;> rfl
theorem mapOf_has (l : List Nd) (n : List UInt8) : Maps.has (mapOf l) (.string n) = (fnd Nd.k n l).isSome := by
  unfold mapOf
  rw [Maps.has_eq, List.any_map]
  unfold fnd
  induction l with
  | nil => rfl
  | cons z r ih =>
    rw [List.any_cons, ih, List.find?_cons]
    show ((z.k == n) || _) = _
    cases z.k == n <;> rfl
theorem mapOf_size (l : List Nd) : Maps.size (mapOf l) = l.length := by unfold mapOf; rw [Maps.size_eq, List.length_map]
theorem zero46 (w : World) : (zeroValue 46).run Try.prog w = .ok Nd.z.val w := by kernel_rfl
theorem pN_zero : pN Nd.z.val = some (.held Nd.z, []) := pN_val _
def getN (D : List Nd) (s : List UInt8) : Nd := (fnd Nd.k s D).getD Nd.z
def MpN (w : World) (mb : Option Nat) (l : List Nd) : Prop := match mb with
  | none => l = []
  | some m => w.ownsMap Try.prog 9 pN m l.length (mapOf l)
theorem look_node {w : World} {mb : Option Nat} {l : List Nd} (h : MpN w mb l) (s : ByteArray) (hs : s.size ≤ maxLen) :
    (Instr.lookup 57 (.map mb) (.string s) false).run Try.prog w = .ok (getN l s.data.toList).val w := by
  have hkey := keyOf_string_mk (P := Try.prog) Try.underlying9 hs
  unfold MpN at h
  cases mb with
  | none =>
    subst h
    have := Maps.look_nil (w := w) false law9 Try.underlying57 (zero46 w) hkey
    simpa [getN, fnd] using this
  | some m =>
    obtain ⟨v, ps, hr, hv⟩ := World.ownsMap.lookup h law9 Try.underlying57 (zero46 w) pN_zero hkey
    rw [mapOf_at] at hv
    rw [hr, pN_held hv]
    rfl
theorem look_ok {w : World} {mb : Option Nat} {l : List Nd} (h : MpN w mb l) (s : ByteArray) (hs : s.size ≤ maxLen) :
    (Instr.lookup 57 (.map mb) (.string s) true).run Try.prog w = .ok (.tuple #[(getN l s.data.toList).val, .bool (fnd Nd.k s.data.toList l).isSome]) w := by
  have hkey := keyOf_string_mk (P := Try.prog) Try.underlying9 hs
  unfold MpN at h
  cases mb with
  | none =>
    subst h
    have := Maps.look_nil (w := w) true law9 Try.underlying57 (zero46 w) hkey
    simpa [getN, fnd] using this
  | some m =>
    obtain ⟨v, ps, hr, hv⟩ := World.ownsMap.look_ok h law9 Try.underlying57 (zero46 w) pN_zero hkey
    rw [mapOf_at] at hv
    rw [hr, pN_held hv, mapOf_has]
    rfl
theorem MpN.keep {w w1 : World} {mb : Option Nat} {l : List Nd} (h : MpN w mb l) (e : ∀ m, mb = some m → w1.heap[m]? = w.heap[m]?) : MpN w1 mb l := by
  unfold MpN at *
  cases mb with
  | none => exact h
  | some m => exact keepMap h (e m rfl)
theorem MpN.lt {w : World} {m : Nat} {l : List Nd} (h : MpN w (some m) l) : m < w.heap.size := World.ownsMap.lt h
theorem MpN.ne {w : World} {m : Nat} {l : List Nd} (h : MpN w (some m) l) {g : Nat} {cs : Array Value} {t : TypeId} {f : Nat × Nat} (hg : w.heap[g]? = some (.cells cs t f)) : m ≠ g := by
  rintro rfl
  obtain ⟨es, clock, hb, _⟩ := h
  rw [hb] at hg
  cases hg
structure TbAt (w : World) (tb : Nat) (S : HS) (mb : Option Nat) (D : List Nd) (R : List Al) : Prop where
  ck : Ck w tb S R
  nv : S.nv = .map mb
  mp : MpN w mb D
  srt : Srt Nd.k D
  len : D.length ≤ 12
  al : R.Perm (als D)
  sep : ∀ m, mb = some m → ¬ Tk.Fp tb S m
  ok : ∀ n ∈ D, n.ok
def Tf (tb : Nat) (S : HS) (mb : Option Nat) (k : Nat) : Prop := Tk.Fp tb S k ∨ mb = some k
section
variable {w w' w1 : World} {tb : Nat} {S S' : HS} {mb mb' : Option Nat} {D : List Nd} {R : List Al} {X : Nat → Prop}
theorem TbAt.c0 (h : TbAt w tb S mb D R) : w.cell? ⟨tb, 0, none⟩ = some (.map mb) := by rw [cell_of h.ck.c.m.hp, h.nv]; rfl
theorem TbAt.lt (h : TbAt w tb S mb D R) {k : Nat} (hk : Tf tb S mb k) : k < w.heap.size := by
  rcases hk with hk | rfl
  · exact h.ck.c.m.lt k hk
  · exact h.mp.lt
theorem TbAt.keep (h : TbAt w tb S mb D R) (e : ∀ k, Tf tb S mb k → w1.heap[k]? = w.heap[k]?) : TbAt w1 tb S mb D R :=
  ⟨⟨⟨h.ck.c.m.keep fun k hk => e k (.inl hk), h.ck.c.h⟩, h.ck.p, h.ck.s⟩, h.nv, h.mp.keep fun m hm => e m (.inr hm), h.srt, h.len, h.al, h.sep, h.ok⟩
/-- a table of the program's own make at block tb; X: blocks that are its own -/
def Tab (w : World) (X : Nat → Prop) (tb : Nat) (D : List Nd) : Prop := (∃ S mb R, TbAt w tb S mb D R ∧ ∀ k, Tf tb S mb k → X k) ∧ ∀ k, X k → k < w.heap.size
theorem Tab.keep (h : Tab w X tb D) (e : ∀ k, X k → w1.heap[k]? = w.heap[k]?) (hs : w.heap.size ≤ w1.heap.size) : Tab w1 X tb D := by
  obtain ⟨⟨S, mb, R, h1, h3⟩, h4⟩ := h
  exact ⟨⟨S, mb, R, h1.keep fun k hk => e k (h3 k hk), h3⟩, fun k hk => Nat.lt_of_lt_of_le (h4 k hk) hs⟩
theorem Tab.keepB (h : Tab w X tb D) (b : Below w.heap.size w w1) : Tab w1 X tb D := h.keep (fun k hk => b.block k (h.2 k hk)) b.size
theorem Tab.keepK {T : Nat → Prop} (h : Tab w X tb D) (b : Kp T w w1) (hd : ∀ k, X k → ¬ T k) : Tab w1 X tb D := h.keep (fun k hk => b.block k (h.2 k hk) (hd k hk)) b.size
theorem Tab.len (h : Tab w X tb D) : D.length ≤ 12 := by obtain ⟨⟨S, mb, R, h1, h3⟩, h4⟩ := h; exact h1.len
theorem Tab.srt (h : Tab w X tb D) : Srt Nd.k D := by obtain ⟨⟨S, mb, R, h1, h3⟩, h4⟩ := h; exact h1.srt
theorem Tab.ok (h : Tab w X tb D) : ∀ n ∈ D, n.ok := by obtain ⟨⟨S, mb, R, h1, h3⟩, h4⟩ := h; exact h1.ok
theorem TbAt.tab (h : TbAt w tb S mb D R) : Tab w (Tf tb S mb) tb D := ⟨⟨S, mb, R, h, fun _ hk => hk⟩, fun _ hk => h.lt hk⟩
end
/-- a step of a table within what it owns -/
theorem TbAt.within {w w' : World} {tb : Nat} {S S' : HS} {mb mb' : Option Nat} {D : List Nd} {R : List Al} {X : Nat → Prop} (h : TbAt w' tb S' mb' D R) (hX : ∀ k, Tf tb S mb k → X k) (hst : Step (Tf tb S mb) (Tf tb S' mb') w w') : ∃ X', Tab w' X' tb D ∧ Step X X' w w' :=
  ⟨Tf tb S' mb', h.tab, hst.mono hX⟩
theorem new_any (w : World) : Calls Try.prog 10 #[] w fun e w' => e = .returned (.pointer (some ⟨w.heap.size, 0, none⟩)) ∧ w' = w.alloc (.cells #[.map none, .slice none 0 0, .map none] 63 (0, 0)) := by
  go_enter Try.func10, Try.ntmps10
  go_wp2_with fail
  go_ret
  exact ⟨rfl, rfl⟩
theorem tab_new (w : World) : Tab (w.alloc (.cells #[.map none, .slice none 0 0, .map none] 63 (0, 0))) (· = w.heap.size) w.heap.size [] := by
  refine ⟨⟨_, none, [], ⟨zero_C w, rfl, rfl, List.Pairwise.nil, Nat.zero_le _, .refl _, (fun _ h => nomatch h), (fun _ h => nomatch h)⟩, fun k hk => ?_⟩, fun k hk => by rw [show k = w.heap.size from hk, World.size_alloc]; omega⟩
  rcases hk with (h | h | h) | h
  · exact h
  · cases h
  · cases h
  · cases h
end Go.Proofs.Ytihjmigjphljnaa
