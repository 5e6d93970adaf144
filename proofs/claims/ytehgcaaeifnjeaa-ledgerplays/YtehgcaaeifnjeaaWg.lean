/-
  What the ledger's function post keeps: the map of accounts behind the entries so far, and the accounts that are written behind it.
-/
import Derived.Test.YtehgcaaeifnjeaaWf
import Derived.Test.YtehgcaaeifnjeaaMs
import Derived.Maps.RangeWalk
import Derived.Laws.IdiomRangeMap
namespace Go.Proofs.Ytehgcaaeifnjeaa
open Go.RowKit Go.Maps Go.WideMaps

open Classical in
/-- how an account's value reads -/
noncomputable def aE (v : Value) : Option (DataW (V × V) × List MemPlace) := if h : ∃ p : V × V, v = .agg (c8 p.1 p.2) then some (.held h.choose, []) else none
theorem c8_inj {v u v' u' : V} (h : c8 v u = c8 v' u') : v = v' ∧ u = u' := by
  unfold c8 at h
  simp at h
  obtain ⟨h0, h1, h2, h3, h4, h5, h6, h7⟩ := h
  exact ⟨V.ext' h0 h1 h2 h3, V.ext' h4 h5 h6 h7⟩
theorem aE_mk (v u : V) : aE (.agg (c8 v u)) = some (.held (v, u), []) := by
  have h : ∃ p : V × V, Value.agg (c8 v u) = .agg (c8 p.1 p.2) := ⟨(v, u), rfl⟩
  unfold aE
  rw [dif_pos h]
  have := h.choose_spec
  have e : c8 v u = c8 h.choose.1 h.choose.2 := by injection this
  obtain ⟨e1, e2⟩ := c8_inj e
  rw [show h.choose = (v, u) from Prod.ext e1.symm e2.symm]
def mkA (p : V × V) : Value := .agg (c8 p.1 p.2)
theorem aE_inv (v : Value) (y : DataW (V × V) × List MemPlace) (h : aE v = some y) : ∃ c, v = mkA c := by
  unfold aE at h
  split at h
  · rename_i q; exact q
  · cases h
theorem aE_held {v : Value} {x u : V} {ps : List MemPlace} (h : aE v = some (.held (x, u), ps)) : v = .agg (c8 x u) := by
  obtain ⟨c, rfl⟩ := aE_inv v _ h
  have := aE_mk c.1 c.2
  rw [show (Value.agg (c8 c.1 c.2)) = mkA c from rfl, h] at this
  injection this with this
  injection this with this _
  injection this with this
  have e1 : c = (x, u) := this.symm
  rw [e1]
  rfl
theorem invS (key : Value) (kl : Lit) (h : keyOf Try.prog 9 key = some kl) : ∃ x : ByteArray, key = .string x := by
  obtain ⟨s, e, _⟩ := string_of_keyOf Try.underlying9 h
  exact ⟨s, e⟩
def mapA (l : List A) : DataW (V × V) := .map (l.map fun f => (.string f.nm, .held (f.lim, f.us)))
theorem mapA_put (l : List A) (n : List UInt8) (x u : V) : (mapA l).put (.string n) (.held (x, u)) = mapA (ins A.nm ⟨n, x, u⟩ (drp A.nm n l)) := by
  unfold mapA
  rw [DataW.put_eq]
  unfold ChangeMaps.putKey
  congr 1
  have e : ∀ l : List A, DataW.insert (Lit.string n, DataW.held (x, u)) (l.map fun f => (Lit.string f.nm, DataW.held (f.lim, f.us))) = (ins A.nm ⟨n, x, u⟩ l).map fun f => (Lit.string f.nm, DataW.held (f.lim, f.us)) := by
    intro l
    induction l with
    | nil => rfl
    | cons z r ih =>
      simp only [List.map_cons]
      unfold DataW.insert ins
      by_cases hb : bytesBefore n z.nm = true
      · rw [if_pos (show Lit.before (Lit.string n, DataW.held (H := V × V) (x, u)).fst (Lit.string z.nm, DataW.held (H := V × V) (z.lim, z.us)).fst = true from hb), if_pos hb]; rfl
      · rw [if_neg (show ¬ Lit.before (Lit.string n, DataW.held (H := V × V) (x, u)).fst (Lit.string z.nm, DataW.held (H := V × V) (z.lim, z.us)).fst = true from hb), if_neg hb, ih]; rfl
  rw [← e]
  congr 1
  unfold drp
  rw [List.filter_map]
  congr 1
theorem mapA_at (l : List A) (n : List UInt8) (z : DataW (V × V)) : (mapA l).atKey (.string n) z = match fnd A.nm n l with | none => z | some f => .held (f.lim, f.us) := by
  unfold mapA DataW.atKey fnd
  simp only [List.find?_map]
  have e : ((fun p : Lit × DataW (V × V) => p.1.sameKey (.string n)) ∘ fun f : A => (Lit.string f.nm, DataW.held (f.lim, f.us))) = fun f => f.nm == n := by
    funext f; rfl
  rw [e]
  cases l.find? (fun f => f.nm == n) <;> rfl
theorem mapA_has (l : List A) (n : List UInt8) : Maps.has (mapA l) (.string n) = (fnd A.nm n l).isSome := by
  cases h : fnd A.nm n l with
  | none => exact has_false_of_atKey fun z => by rw [mapA_at, h]
  | some a => exact has_true_of_atKey (y := .held (a.lim, a.us)) fun z => by rw [mapA_at, h]
theorem fnd_put {n m : List UInt8} {l : List A} {x : A} (hx : x.nm = n) : fnd A.nm m (ins A.nm x (drp A.nm n l)) = if m = n then some x else fnd A.nm m l := by
  have h1 : ∀ l : List A, (∀ y ∈ l, y.nm ≠ n) → fnd A.nm n (ins A.nm x l) = some x := by
    intro l
    induction l with
    | nil => intro _; simp [ins, fnd, hx]
    | cons z r ih =>
      intro h
      have hz : z.nm ≠ n := h z (List.mem_cons_self ..)
      have := ih fun w hw => h w (List.mem_cons_of_mem _ hw)
      unfold ins
      split
      · simp [fnd, hx]
      · unfold fnd at *
        simp [hz, this]
  have h2 : ∀ l : List A, m ≠ n → fnd A.nm m (ins A.nm x l) = fnd A.nm m l := by
    intro l hm
    have hxm : ¬ x.nm = m := fun q => hm (q.symm.trans hx)
    induction l with
    | nil => simp [ins, fnd, hxm]
    | cons z r ih =>
      unfold ins
      split
      · simp [fnd, hxm]
      · unfold fnd at *
        rw [List.find?_cons, List.find?_cons, ih]
  have h3 : ∀ l : List A, m ≠ n → fnd A.nm m (drp A.nm n l) = fnd A.nm m l := by
    intro l hm
    unfold fnd drp
    rw [List.find?_filter]
    congr 1
    funext y
    by_cases q : y.nm = m
    · simp [q, hm]
    · simp [q]
  by_cases q : m = n
  · subst q
    rw [if_pos rfl]
    exact h1 _ fun y hy => (mem_drp.1 hy).2
  · rw [if_neg q, h2 _ q, h3 _ q]
theorem zero69 (w : World) : (zeroValue 69).run Try.prog w = .ok (.agg (c8 V.nil V.nil)) w := by kernel_rfl
/-- the accounts behind the entries so far -/
structure Aft (D L : List A) (u : List UInt8 → V) : Prop where
  no : ∀ n, fnd A.nm n L = none → u n = u0 D n
  yes : ∀ n b, fnd A.nm n L = some b → ∃ a, fnd A.nm n D = some a ∧ b = ⟨n, a.lim, u n⟩
  ok : ∀ n a, fnd A.nm n D = some a → (u n).ok = true
theorem Aft.start {D : List A} (h : ∀ a ∈ D, a.lim.ok = true ∧ a.us.ok = true) : Aft D [] (u0 D) := by
  refine ⟨fun _ _ => rfl, fun n b hb => (nomatch hb), fun n a ha => ?_⟩
  unfold u0
  rw [ha]
  exact (h a (fnd_some ha).1).2
theorem Aft.put {D L : List A} {u : List UInt8 → V} (h : Aft D L u) {n : List UInt8} {a : A} {x : V} (ha : fnd A.nm n D = some a) (hx : x.ok = true) : Aft D (ins A.nm ⟨n, a.lim, x⟩ (drp A.nm n L)) (fun m => if m = n then x else u m) := by
  refine ⟨fun m hm => ?_, fun m b hb => ?_, fun m b hb => ?_⟩
  · rw [fnd_put (n := n) (x := ⟨n, a.lim, x⟩) rfl] at hm
    by_cases q : m = n
    · rw [if_pos q] at hm; cases hm
    · rw [if_neg q] at hm; simp only [if_neg q]; exact h.no m hm
  · rw [fnd_put (n := n) (x := ⟨n, a.lim, x⟩) rfl] at hb
    by_cases q : m = n
    · subst q
      rw [if_pos rfl] at hb
      exact ⟨a, ha, by simp only [if_pos]; exact (Option.some.inj hb).symm⟩
    · rw [if_neg q] at hb; simp only [if_neg q]; exact h.yes m b hb
  · by_cases q : m = n
    · simp only [if_pos q]; exact hx
    · simp only [if_neg q]; exact h.ok m b hb
/-- the map, looked up -/
theorem aft_look {w : World} {m n : Nat} {D L : List A} {u : List UInt8 → V} (ho : w.ownsMap Try.prog 9 aE m n (mapA L)) (h : Aft D L u) (s : ByteArray) (hs : s.size ≤ 281474976710656) {a : A} (ha : fnd A.nm s.data.toList D = some a) :
    (Instr.lookup 83 (.map (some m)) (.string s) true).run Try.prog w = .ok (.tuple #[.agg (if (fnd A.nm s.data.toList L).isSome then c8 a.lim (u s.data.toList) else c8 V.nil V.nil), .bool (fnd A.nm s.data.toList L).isSome]) w := by
  have hkey := keyOf_string_mk (P := Try.prog) (k := 9) Try.underlying9 (s := s) (by unfold maxLen; omega)
  obtain ⟨v, ps, hr, hv⟩ := ho.look_ok law9 Try.underlying83 (zero69 w) (aE_mk V.nil V.nil) hkey
  rw [hr, mapA_has]
  rw [mapA_at] at hv
  cases hf : fnd A.nm s.data.toList L with
  | none =>
    rw [hf] at hv
    rw [aE_held hv]
    rfl
  | some b =>
    rw [hf] at hv
    obtain ⟨a', ha', rfl⟩ := h.yes _ b hf
    obtain rfl := Option.some.inj (ha'.symm.trans ha)
    rw [aE_held hv]
    rfl

/-! ### the accounts are written -/
def Ac.setg (g : List UInt8 → V) (a : Ac) : Ac := ⟨a.nm, a.lim, g a.nm, a.fb⟩
def setG (g : List UInt8 → V) (l : List Ac) : List Ac := l.map (Ac.setg g)
theorem setG_s (g : List UInt8 → V) (l : List Ac) : (setG g l).map Ac.s = setU g (l.map Ac.s) := by unfold setG setU; rw [List.map_map, List.map_map]; rfl
theorem fnd_setG (g : List UInt8 → V) (l : List Ac) (n : List UInt8) : fnd Ac.nm n (setG g l) = (fnd Ac.nm n l).map (Ac.setg g) := (map_fnd (f := Ac.setg g) (mn := Ac.nm) (fun _ => rfl) n l).symm
theorem upd_setG {g : List UInt8 → V} {l : List Ac} {n : List UInt8} {a : Ac} {x : V} (hs : Srt Ac.nm l) (ha : fnd Ac.nm n l = some a) : upd Ac.nm n ⟨n, a.lim, x, a.fb⟩ (setG g l) = setG (fun m => if m = n then x else g m) l := by
  unfold upd setG
  rw [List.map_map]
  refine List.map_congr_left fun b hb => ?_
  obtain ⟨h1, h2⟩ := fnd_some ha
  by_cases q : b.nm = n
  · have e : b = a := srt_one hs hb h1 (q.trans h2.symm)
    subst e
    simp [Function.comp, Ac.setg, q]
  · simp [Function.comp, Ac.setg, q]
theorem fp_setG {g : List UInt8 → V} {pb : Nat} {mb : Option Nat} {l : List Ac} {k : Nat} : Fp pb mb (setG g l) k ↔ Fp pb mb l k := by
  unfold Fp setG
  constructor
  · rintro (h | h | ⟨a, ha, e⟩)
    · exact .inl h
    · exact .inr (.inl h)
    · obtain ⟨b, hb, rfl⟩ := List.mem_map.1 ha
      exact .inr (.inr ⟨b, hb, e⟩)
  · rintro (h | h | ⟨a, ha, e⟩)
    · exact .inl h
    · exact .inr (.inl h)
    · exact .inr (.inr ⟨_, List.mem_map.2 ⟨a, ha, rfl⟩, e⟩)
/-- while the accounts are written -/
structure Wrt (w0 w : World) (pb : Nat) (mb : Option Nat) (l : List Ac) (u : List UInt8 → V) (L : List A) (m r n : Nat) (left : Lit → Bool) (cnt : Nat) : Prop where
  g : LgAt w pb mb (setG (fun n => if left (.string n) then u0 (l.map Ac.s) n else u n) l)
  k : Kp (fun k => ∃ a ∈ l, a.fb = k) w0 w
  rg : w.ranges Try.prog 9 aE m r n (mapA L) left cnt
  hm : w0.heap.size ≤ m
  hr : w0.heap.size ≤ r
  hl : ∀ n, left (.string n) = true → ∃ b, fnd A.nm n L = some b
theorem ranges_keep {w w1 : World} {b r n : Nat} {D : DataW (V × V)} {left : Lit → Bool} {cnt : Nat} (h : w.ranges Try.prog 9 aE b r n D left cnt) (e1 : w1.heap[b]? = w.heap[b]?) (e2 : w1.heap[r]? = w.heap[r]?) : w1.ranges Try.prog 9 aE b r n D left cnt := by
  obtain ⟨es, clock, since, seen, c0, hb, F, hs, hD, hr, rest⟩ := h
  exact ⟨es, clock, since, seen, c0, e1.trans hb, F, hs, hD, e2.trans hr, rest⟩
theorem setG_self {l : List Ac} (hs : Srt Ac.nm l) : setG (u0 (l.map Ac.s)) l = l := by
  unfold setG
  refine (List.map_congr_left fun a ha => ?_).trans (List.map_id _)
  have hsA : Srt A.nm (l.map Ac.s) := List.pairwise_map.2 hs
  have := fnd_self hsA (List.mem_map.2 ⟨a, ha, rfl⟩)
  unfold Ac.setg u0
  rw [show fnd A.nm a.nm (l.map Ac.s) = some a.s from this]
  rfl
theorem Wrt.start {w0 w w' : World} {pb : Nat} {mb : Option Nat} {l : List Ac} {u : List UInt8 → V} {L : List A} {m n : Nat} (h0 : LgAt w0 pb mb l) (hb : Below w0.heap.size w0 w) (hA : Aft (l.map Ac.s) L u) (hm : w0.heap.size ≤ m) (hr : w'.ranges Try.prog 9 aE m w.heap.size n (mapA L) (Maps.has (mapA L)) (Maps.size (mapA L))) (hg : w.grownBy w' none) : Wrt w0 w' pb mb l u L m w.heap.size n (Maps.has (mapA L)) (Maps.size (mapA L)) := by
  have hk : Kp (fun _ => False) w w' := Kp.of_grown hg fun k e => by cases e
  have hK : Kp (fun _ => False) w0 w' := (Kp.of_below hb).trans hk fun _ _ h => h
  refine ⟨?_, hK.mono fun _ _ h => h.elim, hr, hm, hb.size, fun n hn => ?_⟩
  · have e : setG (fun n => if Maps.has (mapA L) (.string n) then u0 (l.map Ac.s) n else u n) l = l := by
      have : (fun n => if Maps.has (mapA L) (.string n) then u0 (l.map Ac.s) n else u n) = u0 (l.map Ac.s) := by
        funext n
        rw [mapA_has]
        cases hf : fnd A.nm n L with
        | none => exact hA.no n hf
        | some b => rfl
      rw [this, setG_self h0.srt]
    rw [e]
    exact h0.keep fun k hk => hK.block k (h0.lt hk) fun h => h
  · rw [mapA_has] at hn
    exact Option.isSome_iff_exists.1 hn
theorem Wrt.iter {w0 w w' : World} {pb : Nat} {mb : Option Nat} {l : List Ac} {u : List UInt8 → V} {L : List A} {m r n cnt : Nat} {left : Lit → Bool} (h : Wrt w0 w pb mb l u L m r n left cnt) (h0 : LgAt w0 pb mb l) (hg : w.grownBy w' (some r)) :
    LgAt w' pb mb (setG (fun n => if left (.string n) then u0 (l.map Ac.s) n else u n) l) ∧ Kp (fun k => ∃ a ∈ l, a.fb = k) w0 w' := by
  have hk : Kp (· = r) w w' := Kp.of_grown hg fun k e => (Option.some.inj e).symm
  refine ⟨h.g.keep fun k hk' => hk.block k (h.g.lt hk') fun q => ?_, h.k.trans hk fun k hk' q => ?_⟩
  · have := h0.lt (fp_setG.1 hk')
    have := h.hr
    omega
  · have := h.hr
    omega
theorem Wrt.next {w0 w w' w2 : World} {pb : Nat} {mb : Option Nat} {l : List Ac} {u : List UInt8 → V} {L : List A} {m r n cnt cnt' : Nat} {left : Lit → Bool} (h : Wrt w0 w pb mb l u L m r n left cnt) (h0 : LgAt w0 pb mb l) (hA : Aft (l.map Ac.s) L u) {s : ByteArray} {a : Ac} (ha : fnd Ac.nm s.data.toList l = some a)
    (h1 : LgAt w' pb mb (setG (fun n => if left (.string n) then u0 (l.map Ac.s) n else u n) l)) (hK : Kp (fun k => ∃ a ∈ l, a.fb = k) w0 w')
    (hr : w'.ranges Try.prog 9 aE m r n (mapA L) (fun z => left z && !z.sameKey (.string s.data.toList)) cnt')
    (hc : w2.heap[a.fb]? = some (.cells (c8 a.lim (u s.data.toList)) 69 (0, 0))) (hk : Kp (· = a.fb) w' w2) : Wrt w0 w2 pb mb l u L m r n (fun z => left z && !z.sameKey (.string s.data.toList)) cnt' := by
  obtain ⟨ha1, ha2⟩ := fnd_some ha
  have hfb : a.fb < w0.heap.size := h0.lt (.inr (.inr ⟨a, ha1, rfl⟩))
  have hfd : fnd A.nm s.data.toList (l.map Ac.s) = some a.s := by rw [fnd_s, ha]; rfl
  refine ⟨?_, hK.trans hk fun k hk' q => ⟨a, ha1, q.symm⟩, ranges_keep hr (hk.block m hr.owns.lt fun q => ?_) (hk.block r hr.lt fun q => ?_), h.hm, h.hr, fun n hn => ?_⟩
  · have hw := h1.written (w' := w2) (n := s.data.toList) (a := a.setg fun n => if left (.string n) then u0 (l.map Ac.s) n else u n) (v := a.lim) (u := u s.data.toList) (by rw [fnd_setG, ha]; rfl) hc (fun k hk' hne => hk.block k hk' hne) (h0.ok a ha1).1 (hA.ok _ _ hfd)
    have e := upd_setG (g := fun n => if left (.string n) then u0 (l.map Ac.s) n else u n) (x := u s.data.toList) h0.srt ha
    rw [show (a.setg fun n => if left (.string n) then u0 (l.map Ac.s) n else u n).fb = a.fb from rfl, e] at hw
    have e2 : (fun m => if m = s.data.toList then u s.data.toList else if left (.string m) then u0 (l.map Ac.s) m else u m) = fun n => if (left (.string n) && !(Lit.string n).sameKey (.string s.data.toList)) = true then u0 (l.map Ac.s) n else u n := by
      funext m
      by_cases q : m = s.data.toList
      · subst q
        have : (Lit.string s.data.toList).sameKey (.string s.data.toList) = true := by show (s.data.toList == s.data.toList) = true; simp
        rw [if_pos rfl, this]
        simp
      · have : (Lit.string m).sameKey (.string s.data.toList) = false := by show (m == s.data.toList) = false; simpa using q
        rw [if_neg q, this]
        simp
    rw [e2] at hw
    exact hw
  · have := h.hm
    omega
  · have := h.hr
    omega
  · have := hn
    simp only [Bool.and_eq_true] at this
    exact h.hl n this.1
theorem Wrt.done {w0 w : World} {pb : Nat} {mb : Option Nat} {l : List Ac} {u : List UInt8 → V} {L : List A} {m r n cnt : Nat} {left : Lit → Bool} (h : Wrt w0 w pb mb l u L m r n left cnt) (hl : ∀ kl, left kl = false) : LgAt w pb mb (setG u l) := by
  have := h.g
  rw [show (fun n => if left (.string n) then u0 (l.map Ac.s) n else u n) = u from funext fun n => by rw [hl]; rfl] at this
  exact this
end Go.Proofs.Ytehgcaaeifnjeaa
