/-
  add over the heap as plain data; Insert. Insert. drop: an entry taken out of the line. tell, outer, Min, Max. A heap in a law, with blocks that are kept; the calls on no heap.
-/
import Derived.Test.YtcfnonfghlgphaaHNi
namespace Go.Proofs.Ytcfnonfghlgphaa.Hp
open Go.RowKit Go.Maps

def upd {α : Type} (f : Nat → α) (b : Nat) (x : α) : Nat → α := fun k => if k = b then x else f k
theorem upd_same {α : Type} (f : Nat → α) (b : Nat) (x : α) : upd f b x b = x := if_pos rfl
theorem upd_other {α : Type} (f : Nat → α) {b k : Nat} (x : α) (h : k ≠ b) : upd f b x k = f k := if_neg h
theorem lit_ne {x y : Int} (h : x ≠ y) : Lit.int .i64 x ≠ Lit.int .i64 y := fun e => h (by injection e)
theorem isKey (x : Int) : WideAt.IsKeyLit (Lit.int .i64 x) := trivial
theorem tidy0 : Maps.Tidy m0 := tidy_empty
theorem isMap0 : Maps.IsMap m0 := isMap_empty
theorem size0 : Maps.size m0 = 0 := rfl
theorem m0_a (x : Int) (z : DataW Nat) : m0.atKey (.int .i64 x) z = z := rfl
def HS.add (S : HS) (m : Nat) (v : Value) (b g : Nat) (k : K) : HS := ⟨S.gv, some m, v, S.l ++ [b], upd S.hd b g, upd S.ky b k⟩
section
variable {w w' W : World} {hb eb m g n : Nat} {S S' : HS} {v' : Value} {k : K}
theorem ne_of_in {l : List Nat} {a b : Nat} (ha : a ∈ l) (hb : b ∉ l) : a ≠ b := fun e => hb (by rw [← e]; exact ha)
theorem add_uh (hu : S.uh) (hg : ∀ b ∈ S.l, S.hd b < g) (hn : eb ∉ S.l) : (S.add m v' eb g k).uh := by
  intro a ha b hb' q
  have q' : upd S.hd eb g a = upd S.hd eb g b := q
  rcases List.mem_append.1 ha with a1 | a1 <;> rcases List.mem_append.1 hb' with b1 | b1
  · rw [upd_other _ _ (ne_of_in a1 hn), upd_other _ _ (ne_of_in b1 hn)] at q'
    exact hu a a1 b b1 q'
  · have e : b = eb := by simpa using b1
    rw [upd_other _ _ (ne_of_in a1 hn), e, upd_same] at q'
    have := hg a a1
    omega
  · have e : a = eb := by simpa using a1
    rw [upd_other _ _ (ne_of_in b1 hn), e, upd_same] at q'
    have := hg b b1
    omega
  · have e1 : a = eb := by simpa using a1
    have e2 : b = eb := by simpa using b1
    rw [e1, e2]
theorem mp_put {M : DataW Nat} (ht : Maps.Tidy M) (hi : Maps.IsMap M) (hs : Maps.size M = S.l.length) (ha : ∀ (x : Int) (z : DataW Nat), M.atKey (.int .i64 x) z = (S.at x).elim z .held) (hu : S.uh) (hg : ∀ b ∈ S.l, S.hd b < g) (hn : eb ∉ S.l) (ho : W.ownsMap Try.prog 3 pE m n (M.put (.int .i64 g) (.held eb))) :
    MpA W (S.add m v' eb g k) m (M.put (.int .i64 g) (.held eb)) := by
  have hu' := add_uh (m := m) (v' := v') (k := k) hu hg hn
  have hno : S.at g = none := by
    cases q : S.at g with
    | none => rfl
    | some c => obtain ⟨h1, h2⟩ := at_some q; have := hg c h1; omega
  have hhas : Maps.has M (.int .i64 g) = false := has_false_of_atKey fun z => by rw [ha, hno]; rfl
  have hold : ∀ c ∈ S.l, (S.add m v' eb g k).hd c = S.hd c := fun c hc => upd_other _ _ (ne_of_in hc hn)
  refine ⟨tight ho, ?_, fun x z => ?_⟩
  · rw [size_put ht, hhas, hs]
    show _ = (S.l ++ [eb]).length
    rw [List.length_append]
    rfl
  · by_cases ex : x = (g : Int)
    · subst ex
      rw [atKey_put_same hi (isKey _)]
      have : (S.add m v' eb g k).at g = some eb := by
        have := at_of (S := S.add m v' eb g k) hu' (b := eb) (List.mem_append_right _ (List.mem_singleton.2 rfl))
        rw [show (S.add m v' eb g k).hd eb = g from upd_same _ _ _] at this
        exact this
      rw [this]
      rfl
    · rw [atKey_put_other (lit_ne ex), ha]
      congr 1
      refine (at_eq (S := S.add m v' eb g k) hu' (fun c hc => ?_) (fun q c hc => ?_)).symm
      · obtain ⟨h1, h2⟩ := at_some hc
        exact ⟨List.mem_append_left _ h1, by rw [hold c h1]; exact h2⟩
      · rcases List.mem_append.1 hc with hc | hc
        · rw [hold c hc]; exact at_none q c hc
        · have e : c = eb := by simpa using hc
          subst e
          rw [show (S.add m v' c g k).hd c = g from upd_same _ _ _]
          exact fun q' => ex q'.symm
theorem add_v (hn : eb ∉ S.l) {i : Nat} (hi : i < S.l.length) : (S.add m v' eb g k).v i = S.v i := by
  unfold HS.v HS.en
  have h1 : (S.add m v' eb g k).l.getD i 0 = S.l.getD i 0 := by
    show (S.l ++ [eb]).getD i 0 = _
    rw [List.getD_eq_getElem?_getD, List.getD_eq_getElem?_getD, List.getElem?_append_left hi]
  rw [h1]
  have hne : S.l.getD i 0 ≠ eb := fun e => hn (e ▸ List.mem_of_getElem? (some_of hi))
  rw [show (S.add m v' eb g k).ky _ = S.ky _ from upd_other _ _ hne, show (S.add m v' eb g k).hd _ = S.hd _ from upd_other _ _ hne]
theorem add_vv (h : Vv S.l.length S.v) (hn : eb ∉ S.l) : ∃ x, Vv (S.add m v' eb g k).l.length (uo (S.add m v' eb g k).v S.l.length x) := by
  obtain ⟨x, hx⟩ := vv_on h
  refine ⟨x, ?_⟩
  rw [show (S.add m v' eb g k).l.length = S.l.length + 1 by show (S.l ++ [eb]).length = _; rw [List.length_append]; rfl]
  refine vv_same hx fun i hi => ?_
  unfold uo
  split
  · rfl
  · exact add_v hn (by omega)
/-- a new entry's cells -/
def e0 (g : Nat) (k : K) : Nat → Value := fun j => if j = 0 then .int .i64 g else if j = 1 then .int .i64 k.a else if j = 2 then .int .i64 k.b else if j = 3 then .int .i64 k.c else .int .i64 0
theorem add_mem {M' : DataW Nat} (h : Mem w hb S) (hn : eb ∉ S.l) (hk : k.ok) (hg : g < 1048576) (hl : S.l.length < 1048576) (hmb : ∀ m, S.mb = some m → ∃ n M, w.ownsMap Try.prog 3 pE m n M) (A : AddD w W hb eb S.hpC (e0 g k) S.mb S.lv v' S.l m n M') : Mem W hb (S.add m v' eb g k) := by
  refine ⟨A.hp.same fun i hi => ?_, fun i b hb' => ?_, A.fm, ?_, fun b hb' => ?_, ?_⟩
  · rcases (by omega : i = 0 ∨ i = 1 ∨ i = 2) with rfl | rfl | rfl <;> rfl
  · have hb2 : (S.l ++ [eb])[i]? = some b := hb'
    by_cases hi : i < S.l.length
    · rw [List.getElem?_append_left hi] at hb2
      have hB := h.nd i b hb2
      have hbe : b ≠ eb := fun e => hn (e ▸ List.mem_of_getElem? hb2)
      have := hB.at (A.kp.block b hB.lt (by
        rintro (q | q | q | q)
        · exact blk_ne h.hp hB (by decide) q.symm
        · exact hbe q
        · exact h.fm.ne hB (by decide) q
        · obtain ⟨n', M, hM⟩ := hmb b q
          exact map_ne hM hB rfl))
      refine this.same fun j hj => ?_
      unfold HS.ndC
      rw [show (S.add m v' eb g k).ky b = S.ky b from upd_other _ _ hbe, show (S.add m v' eb g k).hd b = S.hd b from upd_other _ _ hbe]
    · rw [List.getElem?_append_right (by omega)] at hb2
      have hi2 : i - S.l.length = 0 := by
        have := (List.getElem?_eq_some_iff.1 hb2).1
        simp at this
        omega
      rw [hi2] at hb2
      have e : b = eb := by simpa using hb2.symm
      subst e
      have hii : i = S.l.length := by omega
      subst hii
      refine A.en.same fun j hj => ?_
      unfold HS.ndC
      rw [show (S.add m v' b g k).ky b = k from upd_same _ _ _, show (S.add m v' b g k).hd b = g from upd_same _ _ _]
      rcases (by omega : j = 0 ∨ j = 1 ∨ j = 2 ∨ j = 3 ∨ j = 4) with rfl | rfl | rfl | rfl | rfl <;> rfl
  · show (S.l ++ [eb]).Nodup
    rw [List.nodup_append]
    refine ⟨h.no, by simp, fun a ha b hb' e => hn ?_⟩
    have q : b = eb := by simpa using hb'
    rw [← q, ← e]
    exact ha
  · have hb2 : b ∈ S.l ++ [eb] := hb'
    rcases List.mem_append.1 hb2 with q | q
    · have hbe : b ≠ eb := fun e => hn (e ▸ q)
      rw [show (S.add m v' eb g k).ky b = S.ky b from upd_other _ _ hbe, show (S.add m v' eb g k).hd b = S.hd b from upd_other _ _ hbe]
      exact h.ok b q
    · have e : b = eb := by simpa using q
      subst e
      rw [show (S.add m v' b g k).ky b = k from upd_same _ _ _, show (S.add m v' b g k).hd b = g from upd_same _ _ _]
      exact ⟨hk, hg⟩
  · show (S.l ++ [eb]).length ≤ _
    rw [List.length_append]
    simp
    omega
/-- behind add -/
structure More (w w' : World) (hb eb g : Nat) (k : K) (S S' : HS) : Prop where
  h : Hp w' hb S'
  l : S'.l.Perm (S.l ++ [eb])
  hd : S'.hd = upd S.hd eb g
  ky : S'.ky = upd S.ky eb k
  gv : S'.gv = S.gv
  kp : Kp (fun k => Fp hb S k ∨ k = eb) w w'
  fp : ∀ k, Fp hb S' k → Fp hb S k ∨ k = eb ∨ w.heap.size ≤ k
theorem add_S (h : Mem w hb S) (hp : Mp w S) (hv : Vv S.l.length S.v) (hu : S.uh) (hg : ∀ b ∈ S.l, S.hd b < g) (hgv : S.gv = g + 1) (hg2 : g < 1048576) (hln : S.l.length ≤ g) (he : Blk w eb 117 5 (e0 g k)) (hn : eb ∉ S.l) (hk : k.ok) :
    Calls Try.prog 61 #[ptr hb, ptr eb] w fun e w' => e = .returned (.tuple #[]) ∧ ∃ S', More w w' hb eb g k S S' := by
  have key : ∀ W v' m n M', AddD w W hb eb S.hpC (e0 g k) S.mb S.lv v' S.l m n M' → (∀ m, S.mb = some m → ∃ n M, w.ownsMap Try.prog 3 pE m n M) → MpA W (S.add m v' eb g k) m M' → Calls Try.prog 69 #[.pointer (some ⟨hb, 0, none⟩), .int .i64 S.l.length] W fun e w' => e = .returned (.tuple #[]) ∧ Hid (∃ S', More w w' hb eb g k S S') := fun W v' m n M' A hmb hM => by
    have hm := add_mem h hn hk hg2 (by omega) hmb A
    have hlen : (S.add m v' eb g k).l.length = S.l.length + 1 := by show (S.l ++ [eb]).length = _; rw [List.length_append]; rfl
    have huu := add_uh (m := m) (v' := v') (k := k) hu hg hn
    refine (mend_S hm (by rw [hlen]; omega) (add_vv hv hn)).mono ?_
    rintro e w' ⟨rfl, N⟩
    refine ⟨rfl, ?_⟩
    obtain ⟨l', hl', hH, hC⟩ := N.hp hm ⟨M', hM⟩ huu (fun b hb' => by
      rw [show (S.add m v' eb g k).gv = g + 1 from hgv]
      have hb2 : b ∈ S.l ++ [eb] := hb'
      show upd S.hd eb g b < _
      rcases List.mem_append.1 hb2 with q | q
      · rw [upd_other _ _ (ne_of_in q hn)]; have := hg b q; omega
      · have e : b = eb := by simpa using q
        rw [e, upd_same]; omega) (by rw [show (S.add m v' eb g k).gv = g + 1 from hgv]; omega) (by rw [hlen, show (S.add m v' eb g k).gv = g + 1 from hgv]; omega)
    have sub : ∀ k', Fp hb (S.add m v' eb g k) k' → (Fp hb S k' ∨ k' = eb) ∨ w.heap.size ≤ k' := fun k' q => by
      rcases q with q | q | q | q
      · exact .inl (.inl (.inl q))
      · have q2 : k' ∈ S.l ++ [eb] := q
        rcases List.mem_append.1 q2 with q3 | q3
        · exact .inl (.inl (.inr (.inl q3)))
        · exact .inl (.inr (by simpa using q3))
      · rcases A.lo k' q with q | q
        · exact .inl (.inl (.inr (.inr (.inl q))))
        · exact .inr q
      · have q2 : m = k' := Option.some.inj q
        rcases A.lm with q3 | q3
        · exact .inl (.inl (.inr (.inr (.inr (by rw [q3, q2])))))
        · exact .inr (by omega)
    refine ⟨(S.add m v' eb g k).wl l', hH, hl', rfl, rfl, rfl, ?_, fun k' q => ?_⟩
    · refine (A.kp.mono fun k' _ q => ?_).trans hC.kp fun k' hk' q => (sub k' q).resolve_right (by omega)
      rcases q with q | q | q | q
      · exact .inl (.inl q)
      · exact .inr q
      · exact .inl (.inr (.inr (.inl q)))
      · exact .inl (.inr (.inr (.inr q)))
    · rcases hC.fp k' q with q | q
      · rcases sub k' q with (q | q) | q
        · exact .inl q
        · exact .inr (.inl q)
        · exact .inr (.inr q)
      · exact .inr (.inr (Nat.le_trans A.kp.size q))
  have hp0 := hp
  unfold Mp at hp
  cases hmb : S.mb with
  | none =>
    rw [hmb] at hp
    have hX : S.l = [] := hp
    refine add_none w hb eb g S.hpC (e0 g k) S.l S.lv (fun w' => ∃ S', More w w' hb eb g k S S') (by omega) h.hp (by show Value.map S.mb = _; rw [hmb]) rfl he rfl h.fm (by omega) (fun W v' m A => ?_)
    rw [← hmb] at A
    refine key W v' m _ _ A (fun m q => by rw [hmb] at q; cases q) (mp_put tidy0 isMap0 (by rw [size0, hX]; rfl) (fun x z => ?_) hu hg hn A.mp)
    rw [m0_a]
    have : S.at x = none := by unfold HS.at; rw [hX]; rfl
    rw [this]
    rfl
  | some m =>
    rw [hmb] at hp
    obtain ⟨M, hM⟩ := hp
    refine add_some w hb eb m _ g M S.hpC (e0 g k) S.l S.lv (fun w' => ∃ S', More w w' hb eb g k S S') (by omega) (by rw [hM.n]; unfold maxLen; omega) h.hp (by show Value.map S.mb = _; rw [hmb]) rfl he rfl h.fm (by omega) hM.o (fun W v' A => ?_)
    rw [← hmb] at A
    exact key W v' m _ _ A (fun m' q => by rw [hmb] at q; cases q; exact ⟨_, _, hM.o⟩) (mp_put (hM.o.tidy law3) hM.o.isMap hM.n hM.a hu hg hn A.mp)
end
end Go.Proofs.Ytcfnonfghlgphaa.Hp

namespace Go.Proofs.Ytcfnonfghlgphaa.Hp
open Go.RowKit Go.Maps

set_option maxHeartbeats 400000 in
theorem insert_nil (k : K) (w : World) : Calls Try.prog 38 #[.pointer none, ktup k] w fun e w' => e = .returned (.tuple #[.int .i64 0, .int .i64 10]) ∧ Below w.heap.size w w' := by
  unfold ktup
  go_enter Try.func38, Try.ntmps38
  go_wp2_with fail
  go_ret2
  exact ⟨rfl, by go_grown⟩
set_option maxHeartbeats 400000 in
theorem insert_full (hb : Nat) (k : K) (w : World) (f : Nat → Value) (h : Hid (Blk w hb 114 3 f)) (hf : f 0 = .int .i64 1048576) : Calls Try.prog 38 #[ptr hb, ktup k] w fun e w' => e = .returned (.tuple #[.int .i64 0, .int .i64 6]) ∧ Below w.heap.size w w' := by
  unfold ktup ptr
  have c0 := h.out.cell 0 (by decide)
  rw [hf] at c0
  have hlt := h.out.lt
  go_enter Try.func38, Try.ntmps38
  go_wp2_with fail
  go_ret2
  exact ⟨rfl, by go_grown⟩
structure Put0 (w W : World) (hb eb gv : Nat) (k : K) (f : Nat → Value) : Prop where
  hp : Blk W hb 114 3 (fset f 0 (.int .i64 (gv + 1 : Nat)))
  en : Blk W eb 117 5 (e0 gv k)
  kp : Kp (· = hb) w W
  new : w.heap.size ≤ eb
structure Put1 (w W : World) (hb eb : Nat) (f : Nat → Value) (z : Value) (k : K) : Prop where
  hp : Blk W hb 114 3 f
  en : W.heap[eb]? = some (.cells #[z, .int .i64 k.a, .int .i64 k.b, .int .i64 k.c, .int .i64 0] 117 (0, 0))
  kp : Below w.heap.size w W
  new : w.heap.size ≤ eb
theorem e0_eq (gv : Nat) (k : K) : (#[.int .i64 gv, .int .i64 k.a, .int .i64 k.b, .int .i64 k.c, .int .i64 0] : Array Value) = Array.ofFn (n := 5) fun i => e0 gv k i.val := rfl
set_option maxHeartbeats 1000000 in
set_option maxRecDepth 100000 in
theorem insert_raw (w : World) (hb gv : Nat) (k : K) (f : Nat → Value) (R : Nat → World → Prop) (h : Hid (Blk w hb 114 3 f)) (hf : f 0 = .int .i64 gv) (hgv : gv < 1048576)
    (H : Hid (∀ W eb, Put0 w W hb eb gv k f → Calls Try.prog 61 #[.pointer (some ⟨hb, 0, none⟩), .pointer (some ⟨eb, 0, none⟩)] W fun e w3 => e = .returned (.tuple #[]) ∧ w3.cell? ⟨eb, 0, none⟩ = some (.int .i64 gv) ∧ Hid (R eb w3))) :
    Calls Try.prog 38 #[ptr hb, ktup k] w fun e w' => e = .returned (.tuple #[.int .i64 gv, .int .i64 0]) ∧ ∃ eb, w.heap.size ≤ eb ∧ R eb w' := by
  have hlt := h.out.lt
  have g1 : (gv : Int) < 1048576 := by omega
  have HG : Hid (gv < 1048576) := hgv
  clear hgv
  unfold ktup ptr
  go_enter Try.func38, Try.ntmps38
  go_upto_region 3 with fail
  have K1 : Hid ((w.alloc (.cells #[.int .i64 k.a, .int .i64 k.b, .int .i64 k.c] 91)).heap[w.heap.size]? = some (.cells #[.int .i64 k.a, .int .i64 k.b, .int .i64 k.c] 91 (0, 0))) := new0
  have B1 : Hid (Below w.heap.size w (w.alloc (.cells #[.int .i64 k.a, .int .i64 k.b, .int .i64 k.c] 91))) := by unfold Hid; go_grown
  have S1 : Hid (w.heap.size < (w.alloc (.cells #[.int .i64 k.a, .int .i64 k.b, .int .i64 k.c] 91)).heap.size) := by unfold Hid; simp
  generalize w.alloc (.cells #[.int .i64 k.a, .int .i64 k.b, .int .i64 k.c] 91) = w1 at *
  have P1 : Hid (Blk w1 hb 114 3 f) := h.out.at (B1.out.block _ hlt)
  have p0 := P1.out.cell 0 (by decide)
  rw [hf] at p0
  have z0 : 0 ≤ (gv : Int) := by omega
  have HZ : ∃ z : Int, z = (gv : Int) := ⟨_, rfl⟩
  obtain ⟨z, hz⟩ := HZ
  rw [← hz] at p0 g1 z0 hf
  have HZ : Hid (z = (gv : Int)) := hz
  clear hz
  obtain ⟨k0, k1, k2⟩ := c3 K1.out
  go_upto_region 5 with fail
  go_region
  have HW : Hid (Put1 w (w1.alloc (.cells #[.int .i64 z, .int .i64 k.a, .int .i64 k.b, .int .i64 k.c, .int .i64 0] 117)).drew hb w1.heap.size f (.int .i64 z) k) := ⟨at_alloc P1.out, new0, by
    have b2 := B1.out.alloc B1.out.size (.cells #[.int .i64 z, .int .i64 k.a, .int .i64 k.b, .int .i64 k.c, .int .i64 0] 117)
    exact ⟨b2.os, b2.tape, b2.output, b2.size, b2.block⟩, Nat.le_of_lt S1.out⟩
  generalize (w1.alloc (.cells #[.int .i64 z, .int .i64 k.a, .int .i64 k.b, .int .i64 k.c, .int .i64 0] 117)).drew = W2 at *
  generalize w1.heap.size = eb at *
  clear k0 k1 k2 K1 B1 S1 P1 p0
  have q0 := HW.out.hp.cell 0 (by decide)
  rw [hf] at q0
  have q1 := HW.out.hp.fz 0
  have HC : Hid (∀ W3, W3 = W2.setCell ⟨hb, 0, none⟩ (.int .i64 (z + 1)) → Put0 w W3 hb eb gv k f) := fun W3 e => by
    subst e
    have hne : hb ≠ eb := by have := HW.out.new; omega
    refine ⟨?_, ?_, ?_, HW.out.new⟩
    · have := HW.out.hp.set 0 (.int .i64 (z + 1))
      rw [HZ.out] at this ⊢
      exact this
    · have := HW.out.en
      rw [HZ.out] at this
      refine Blk.other ?_ _ _ hne
      unfold Blk
      rw [← e0_eq]
      exact this
    · exact (Kp.of_below (S := (· = hb)) HW.out.kp).trans (Kp.of_set (S := (· = hb)) _ ⟨hb, 0, none⟩ _ rfl) fun _ _ h => h
  have HN : Hid (w.heap.size ≤ eb) := HW.out.new
  go_upto_region 7 with fail
  have HD := H.out _ eb (HC.out _ rfl)
  generalize W2.setCell ⟨hb, 0, none⟩ (.int .i64 (z + 1)) = W3 at *
  clear q0 q1 HC HW H
  go_wp2_with (go_at_call 61; refine HD.mono ?_; rintro e w3 ⟨rfl, h5, H5⟩)
  go_ret2
  exact ⟨rfl, eb, HN.out, H5.out⟩

/-! ### over what a heap holds -/
abbrev Ct := Int → Option K
def HS.cont (S : HS) : Ct := fun x => (S.at x).map S.ky
def Ct.nil : Ct := fun _ => none
def Ct.put (C : Ct) (g : Nat) (k : K) : Ct := fun x => if x = (g : Int) then some k else C x
def Ct.del (C : Ct) (g : Nat) : Ct := fun x => if x = (g : Int) then none else C x
structure Hc (w : World) (hb : Nat) (C : Ct) (g n : Nat) (S : HS) : Prop where
  h : Hp w hb S
  c : S.cont = C
  g : S.gv = g
  n : S.l.length = n
section
variable {w w' : World} {hb g n : Nat} {C : Ct} {S S' : HS} {k : K}
theorem cont_mem (hu : S.uh) {b : Nat} (hb : b ∈ S.l) : S.cont (S.hd b) = some (S.ky b) := by unfold HS.cont; rw [at_of hu hb]; rfl
theorem cont_some {x : Int} {k : K} (h : S.cont x = some k) : ∃ b ∈ S.l, (S.hd b : Int) = x ∧ S.ky b = k := by
  unfold HS.cont at h
  obtain ⟨b, h1, h2⟩ := Option.map_eq_some_iff.1 h
  obtain ⟨k1, k2⟩ := at_some h1
  exact ⟨b, k1, k2, h2⟩
theorem cont_none {x : Int} (h : S.cont x = none) : ∀ b ∈ S.l, (S.hd b : Int) ≠ x := by
  unfold HS.cont at h
  exact at_none (Option.map_eq_none_iff.1 h)
theorem cont_eq (hu : S.uh) {x : Int} {o : Option K} (h1 : ∀ k, o = some k → ∃ b ∈ S.l, (S.hd b : Int) = x ∧ S.ky b = k) (h2 : o = none → ∀ b ∈ S.l, (S.hd b : Int) ≠ x) : S.cont x = o := by
  cases o with
  | none =>
    cases q : S.cont x with
    | none => rfl
    | some k => obtain ⟨b, k1, k2, _⟩ := cont_some q; exact absurd k2 (h2 rfl b k1)
  | some k =>
    obtain ⟨b, k1, k2, k3⟩ := h1 k rfl
    rw [← k2, cont_mem hu k1, k3]
theorem Hc.below (h : Hc w hb C g n S) (b : Below w.heap.size w w') : Hc w' hb C g n S := ⟨h.h.below b, h.c, h.g, h.n⟩
theorem Hc.keep (h : Hc w hb C g n S) (b : ∀ k, Fp hb S k → w'.heap[k]? = w.heap[k]?) : Hc w' hb C g n S := ⟨h.h.keep b, h.c, h.g, h.n⟩
def zS : HS := ⟨0, none, .slice none 0 0, [], fun _ => 0, fun _ => kz⟩
theorem hc_zero (hB : Blk w hb 114 3 zH) : Hc w hb Ct.nil 0 0 zS :=
  ⟨⟨⟨hB.same fun i hi => by rcases (by omega : i = 0 ∨ i = 1 ∨ i = 2) with rfl | rfl | rfl <;> rfl, fun i b q => by simp [zS] at q, Fam.nil _, List.nodup_nil, fun b q => by simp [zS] at q, by simp [zS]⟩, rfl, vv_zero, fun a q => by simp [zS] at q, fun a q => by simp [zS] at q, by simp [zS], by simp [zS]⟩, rfl, rfl, rfl⟩
theorem Mp.gv (h : Mp w S) (x : Nat) : Mp w { S with gv := x } := by
  unfold Mp at *
  show match S.mb with | none => S.l = [] | some m => _
  cases hm : S.mb with
  | none => rw [hm] at h; exact h
  | some m =>
    rw [hm] at h
    obtain ⟨M, h⟩ := h
    exact ⟨M, h.o, h.n, h.a⟩
theorem insert_C (h : Hc w hb C g n S) (k : K) (hk : k.ok) (hg : g < 1048576) :
    Calls Try.prog 38 #[ptr hb, ktup k] w fun e w' => e = .returned (.tuple #[.int .i64 g, .int .i64 0]) ∧ ∃ S', Hc w' hb (C.put g k) (g + 1) (n + 1) S' ∧ Chg hb S S' w w' := by
  have hgv := h.g
  refine (insert_raw w hb g k S.hpC (fun _ w' => ∃ S', Hc w' hb (C.put g k) (g + 1) (n + 1) S' ∧ Chg hb S S' w w') h.h.m.hp (by show Value.int .i64 S.gv = _; rw [hgv]) hg fun W eb P0 => ?_).mono ?_
  · have hnl : eb ∉ S.l := fun q => by have := h.h.m.lt eb (.inr (.inl q)); have := P0.new; omega
    have hold : ∀ k', Fp hb S k' → k' ≠ hb → W.heap[k']? = w.heap[k']? := fun k' q hne => P0.kp.block k' (h.h.lt k' q) hne
    have hm : Mem W hb { S with gv := g + 1 } := by
      refine ⟨P0.hp.same fun i hi => ?_, fun i b q => (h.h.m.nd i b q).at (hold b (.inr (.inl (List.mem_of_getElem? q))) fun e => blk_ne h.h.m.hp (h.h.m.nd i b q) (by decide) e.symm), h.h.m.fm.keep fun x hx => hold x (.inr (.inr (.inl hx))) fun e => h.h.m.fm.ne h.h.m.hp (by decide) (by rw [← e]; exact hx), h.h.m.no, h.h.m.ok, h.h.m.sm⟩
      rcases (by omega : i = 0 ∨ i = 1 ∨ i = 2) with rfl | rfl | rfl <;> rfl
    have hp : Mp W { S with gv := g + 1 } := Mp.gv (w := W) (S := S) (x := g + 1) <| h.h.p.keep fun m e _ => hold m (.inr (.inr (.inr e))) fun q => by
      have hp0 := h.h.p
      unfold Mp at hp0
      rw [e] at hp0
      obtain ⟨M, hM⟩ := hp0
      exact map_ne hM.o h.h.m.hp q.symm
    refine (add_S (g := g) (k := k) hm hp h.h.v h.h.hu (fun b q => by have := h.h.hg b q; rw [hgv] at this; exact this) rfl hg (by have := h.h.ln; rw [hgv] at this; exact this) P0.en hnl hk).mono ?_
    rintro e w' ⟨rfl, S', M⟩
    have mX : ∀ {c}, c ∈ S'.l ↔ c ∈ S.l ∨ c = eb := fun {c} => by rw [M.l.mem_iff, List.mem_append]; simp
    have hbb : S'.hd eb = g ∧ S'.ky eb = k := ⟨by rw [M.hd, upd_same], by rw [M.ky, upd_same]⟩
    have hhd : ∀ c ∈ S.l, S'.hd c = S.hd c ∧ S'.ky c = S.ky c := fun c hc => ⟨by rw [M.hd]; exact upd_other _ _ (ne_of_in hc hnl), by rw [M.ky]; exact upd_other _ _ (ne_of_in hc hnl)⟩
    have hc0 : w'.cell? ⟨eb, 0, none⟩ = some (.int .i64 g) := by
      obtain ⟨i, hi⟩ := List.getElem?_of_mem (mX.2 (.inr rfl))
      have := (M.h.m.en hi).h
      rw [hbb.1] at this
      exact this
    refine ⟨rfl, hc0, S', ⟨M.h, ?_, by rw [M.gv], ?_⟩, ?_⟩
    · funext x
      refine cont_eq M.h.hu (fun k' q => ?_) (fun q c hc => ?_)
      · unfold Ct.put at q
        split at q
        · rename_i ex
          exact ⟨eb, mX.2 (.inr rfl), by rw [hbb.1, ex], by rw [hbb.2]; exact Option.some.inj q⟩
        · rw [← h.c] at q
          obtain ⟨c, k1, k2, k3⟩ := cont_some q
          exact ⟨c, mX.2 (.inl k1), by rw [(hhd c k1).1]; exact k2, by rw [(hhd c k1).2]; exact k3⟩
      · unfold Ct.put at q
        split at q
        · cases q
        · rename_i ex
          rw [← h.c] at q
          rcases mX.1 hc with hc | rfl
          · rw [(hhd c hc).1]; exact cont_none q c hc
          · rw [hbb.1]; exact fun q' => ex q'.symm
    · rw [M.l.length_eq, List.length_append, ← h.n]; rfl
    · refine ⟨(P0.kp.mono (S' := Fp hb S) fun k' _ q => .inl q).trans M.kp fun k' hk' q => ?_, fun k' q => ?_⟩
      · rcases q with q | q
        · exact q
        · have := P0.new; omega
      · rcases M.fp k' q with q | q | q
        · exact .inl q
        · exact .inr (by have := P0.new; omega)
        · exact .inr (Nat.le_trans P0.kp.size q)
  · rintro e w' ⟨rfl, eb, _, S', h1, h2⟩
    exact ⟨rfl, S', h1, h2⟩
theorem len_C (h : Hc w hb C g n S) : Calls Try.prog 80 #[ptr hb] w fun e w' => e = .returned (.int .i64 n) ∧ w' = w := by
  obtain ⟨a, c, e⟩ := h.h.m.fm.shape
  rw [h.n] at e
  exact len_at w hb n c a (by rw [h.h.m.c2, e])
end
end Go.Proofs.Ytcfnonfghlgphaa.Hp

namespace Go.Proofs.Ytcfnonfghlgphaa.Hp
open Go.RowKit Go.Maps

/-- ahead of drop's mending: the last of the line in the entry's stead -/
structure DrD (w W : World) (hb g last c m n : Nat) (f : Nat → Value) (l1 : List Nat) (nd : Nat → Nat → Nat → Value) (M' : DataW Nat) (F : Nat → Prop) : Prop where
  hp : Blk W hb 114 3 (fset f 2 (.slice (some ⟨g, 0, none⟩) last c))
  fm : Fam W (.slice (some ⟨g, 0, none⟩) last c) l1.dropLast
  mp : W.ownsMap Try.prog 3 pE m n M'
  nd : ∀ j b, l1[j]? = some b → Blk W b 117 5 (nd b j)
  kp : Kp F w W
set_option maxHeartbeats 2000000 in
theorem drop_raw (w : World) (hb eb g last c i m x : Nat) (M : DataW Nat) (f : Nat → Value) (nd : Nat → Nat → Nat → Value) (l1 : List Nat) (F : Nat → Prop) (R : World → Prop) (h : Hid (Blk w hb 114 3 f)) (hf1 : f 1 = .map (some m)) (hf2 : f 2 = .slice (some ⟨g, 0, none⟩) (last + 1) c) (e4 : w.cell? ⟨eb, 4, none⟩ = some (.int .i64 i)) (hl1 : Hid (l1.length = last + 1)) (hll : Hid (l1[last]? = some eb)) (hlast : last < 1048576) (hil : i ≤ last) (hx : x < 9223372036854775808)
    (H41 : Hid (Calls Try.prog 82 #[.pointer (some ⟨hb, 0, none⟩), .int .i64 i, .int .i64 last] w fun e w1 => e = .returned (.tuple #[]) ∧ Hid (Blk w1 hb 114 3 f ∧ Fam w1 (.slice (some ⟨g, 0, none⟩) (last + 1) c) l1 ∧ w1.ownsMap Try.prog 3 pE m (Maps.size M) M ∧ (∀ j b, l1[j]? = some b → Blk w1 b 117 5 (nd b j)) ∧ Kp F w w1)))
    (hge : nd eb last 0 = .int .i64 x) (F1 : Hid (F hb)) (F2 : Hid (F g)) (F3 : Hid (F m))
    (H33 : Hid (i < last → ∀ W, DrD w W hb g last c m (Maps.size M) f l1 nd (M.del (.int .i64 x)) F → Calls Try.prog 69 #[.pointer (some ⟨hb, 0, none⟩), .int .i64 i] W fun e w' => e = .returned (.tuple #[]) ∧ Hid (R w')))
    (HR : Hid (i = last → ∀ W, DrD w W hb g last c m (Maps.size M) f l1 nd (M.del (.int .i64 x)) F → R W)) :
    Calls Try.prog 73 #[.pointer (some ⟨hb, 0, none⟩), .pointer (some ⟨eb, 0, none⟩)] w fun e w' => e = .returned (.tuple #[]) ∧ R w' := by
  have c2 := h.out.cell 2 (by decide)
  rw [hf2] at c2
  have n1 : ((last : Int) + 1) - 1 = (last : Int) := by omega
  have n2 : (last : Int) < (last : Int) + 1 := by omega
  go_enter Try.func73, Try.ntmps73
  go_upto_region 3 with (go_at_call 82; refine H41.out.mono ?_; first | rintro e w1 rfl h1 | rintro e w1 ⟨rfl, h1⟩)
  clear c2 e4 H41 h
  have A1 : Hid (Blk w1 hb 114 3 f) := h1.out.1
  have A2 : Hid (Fam w1 (.slice (some ⟨g, 0, none⟩) (last + 1) c) l1) := h1.out.2.1
  have A3 : Hid (w1.ownsMap Try.prog 3 pE m (Maps.size M) M) := h1.out.2.2.1
  have A4n : Hid (∀ j b, l1[j]? = some b → Blk w1 b 117 5 (nd b j)) := h1.out.2.2.2.1
  have A4 : Hid (Blk w1 eb 117 5 (nd eb last)) := A4n.out last eb hll.out
  have A5 : Hid (Kp F w w1) := h1.out.2.2.2.2
  clear h1
  have c2 := A1.out.cell 2 (by decide)
  rw [hf2] at c2
  obtain ⟨c3, f3⟩ := A2.out.cell hll.out
  have hcap : Hid (last + 1 ≤ c) := by have := A2.out.cap.1; rw [hl1.out] at this; exact this
  have hgh : Hid (g ≠ hb) := fun e => A2.out.ne A1.out (by decide) (by rw [← e]; rfl)
  have hge' : Hid (g ≠ eb) := fun e => A2.out.ne A4.out (by decide) (by rw [← e]; rfl)
  have hgm : Hid (m ≠ g) := fun e => map_fam A3.out A2.out (by rw [e]; rfl)
  have hhe : Hid (hb ≠ eb) := blk_ne A1.out A4.out (by decide)
  have hhm : Hid (hb ≠ m) := map_ne A3.out A1.out
  unfold ptr at c3
  go_upto_region 4 with fail
  have B1 : Hid (Blk (w1.setCell ⟨g, last, none⟩ (.pointer none)) hb 114 3 f) := A1.out.other _ _ hgh.out
  have B2 : Hid (Fam (w1.setCell ⟨g, last, none⟩ (.pointer none)) (.slice (some ⟨g, 0, none⟩) last c) l1.dropLast) := A2.out.drop last hl1.out
  have B3 : Hid ((w1.setCell ⟨g, last, none⟩ (.pointer none)).ownsMap Try.prog 3 pE m (Maps.size M) M) := keepMap A3.out (Below.heap_setCell _ _ _ _ hgm.out)
  have B4 : Hid (∀ j b, l1[j]? = some b → Blk (w1.setCell ⟨g, last, none⟩ (.pointer none)) b 117 5 (nd b j)) := fun j b q => (A4n.out j b q).other _ _ fun e => A2.out.ne (A4n.out j b q) (by decide) (by rw [← show g = b from e]; rfl)
  have B5 : Hid (Kp F w (w1.setCell ⟨g, last, none⟩ (.pointer none))) := A5.out.trans (Kp.of_set (S := F) _ ⟨g, last, none⟩ _ F2.out) fun _ _ h => h
  generalize w1.setCell ⟨g, last, none⟩ (.pointer none) = w2 at *
  clear c2 c3 f3 A1 A2 A3 A4 A4n A5
  have c2 := B1.out.cell 2 (by decide)
  have f2 := B1.out.fz 2
  rw [hf2] at c2
  have hsl := slice_h g (last + 1) c last (by have := hcap.out; omega) (by have := hcap.out; omega)
  go_upto_region 5 with fail
  have D1 : Hid (Blk (w2.setCell ⟨hb, 2, none⟩ (.slice (some ⟨g, 0, none⟩) last c)) hb 114 3 (fset f 2 (.slice (some ⟨g, 0, none⟩) last c))) := B1.out.set 2 _
  have D2 : Hid (Fam (w2.setCell ⟨hb, 2, none⟩ (.slice (some ⟨g, 0, none⟩) last c)) (.slice (some ⟨g, 0, none⟩) last c) l1.dropLast) := fam_other B2.out _ _ (B2.out.ne B1.out (by decide))
  have D3 : Hid ((w2.setCell ⟨hb, 2, none⟩ (.slice (some ⟨g, 0, none⟩) last c)).ownsMap Try.prog 3 pE m (Maps.size M) M) := keepMap B3.out (Below.heap_setCell _ _ _ _ (fun e => hhm.out e.symm))
  have D4n : Hid (∀ j b, l1[j]? = some b → Blk (w2.setCell ⟨hb, 2, none⟩ (.slice (some ⟨g, 0, none⟩) last c)) b 117 5 (nd b j)) := fun j b q => (B4.out j b q).other _ _ (blk_ne B1.out (B4.out j b q) (by decide))
  have D4 : Hid (Blk (w2.setCell ⟨hb, 2, none⟩ (.slice (some ⟨g, 0, none⟩) last c)) eb 117 5 (nd eb last)) := D4n.out last eb hll.out
  have D5 : Hid (Kp F w (w2.setCell ⟨hb, 2, none⟩ (.slice (some ⟨g, 0, none⟩) last c))) := B5.out.trans (Kp.of_set (S := F) _ ⟨hb, 2, none⟩ _ F1.out) fun _ _ h => h
  generalize w2.setCell ⟨hb, 2, none⟩ (.slice (some ⟨g, 0, none⟩) last c) = w3 at *
  clear c2 f2 hsl B1 B2 B3 B4 B5
  have c1 := D1.out.cell 1 (by decide)
  rw [show fset f 2 (.slice (some ⟨g, 0, none⟩) last c) 1 = f 1 from rfl, hf1] at c1
  have e0 := D4.out.cell 0 (by decide)
  rw [hge] at e0
  obtain ⟨w4, hr4, H4⟩ : ∃ w4, (Builtin.delete_ #[111, 3] 0 #[.map (some m), .int .i64 x]).run Try.prog w3.drew = .ok (.tuple #[]) w4 ∧ Hid (w4.ownsMap Try.prog 3 pE m (Maps.size M) (M.del (.int .i64 x)) ∧ Kp (· = m) w3 w4) := by
    obtain ⟨w4, hr4, ho4, ht4⟩ := (keepMap (w1 := w3.drew) D3.out rfl).drop law3 Try.underlying111 (key3 x hx) 0
    have hk : Kp (· = m) w3.drew w4 := Kp.of_grown ht4.grown fun k q => (Option.some.inj q).symm
    exact ⟨w4, hr4, ho4, ⟨hk.os, hk.tape, hk.output, hk.size, hk.block⟩⟩
  have HD : Hid (DrD w w4 hb g last c m (Maps.size M) f l1 nd (M.del (.int .i64 x)) F) := ⟨blk_keep D1.out H4.out.2 (map_ne D3.out D1.out), D2.out.keep fun k hk => H4.out.2.block k (D2.out.lt hk) fun e => map_fam D3.out D2.out (by rw [← e]; exact hk), H4.out.1, fun j b q => blk_keep (D4n.out j b q) H4.out.2 (map_ne D3.out (D4n.out j b q)), D5.out.trans H4.out.2 fun k _ e => by rw [e]; exact F3.out⟩
  clear D1 D2 D3 D4 D4n D5 H4
  by_cases hi : i < last
  · have hi' : (i : Int) < (last : Int) := by omega
    have H9 := H33.out hi _ HD.out
    go_region
    all_goals go_wp2_with (go_at_call 69; refine H9.mono ?_; first | rintro e w5 rfl h5 | rintro e w5 ⟨rfl, h5⟩)
    all_goals go_end0
    all_goals exact ⟨rfl, h5.out⟩
  · have hi' : ¬ (i : Int) < (last : Int) := by omega
    have H9 : Hid (R w4) := HR.out (by omega) _ HD.out
    go_region
    all_goals go_wp2_with fail
    all_goals go_end0
    all_goals exact ⟨rfl, H9.out⟩
/-! ### over the heap as plain data -/
def HS.cut (S : HS) (i last : Nat) (v : Value) : HS := { S with lv := v, l := (lsw S.l i last).dropLast }
section
variable {w w' W : World} {hb eb i last : Nat} {S S' : HS} {v : Value}
theorem cut_l (hi : S.l[i]? = some eb) (hl : S.l.length = last + 1) : lsw S.l i last = (lsw S.l i last).dropLast ++ [eb] := by
  have hil : i < S.l.length := (List.getElem?_eq_some_iff.1 hi).1
  have hne : lsw S.l i last ≠ [] := by intro q; have := lsw_length (l := S.l) (i := i) (j := last); rw [q] at this; simp at this; omega
  have h1 := List.dropLast_concat_getLast hne
  have h2 : (lsw S.l i last).getLast hne = eb := by
    rw [List.getLast_eq_getElem]
    have e1 := lsw_getD hil (show last < S.l.length by omega) last
    have e2 : (lsw S.l i last).getD last 0 = (lsw S.l i last)[last]'(by rw [lsw_length]; omega) := getD_get _
    have e3 : (lsw S.l i last).getD last 0 = eb := by
      rw [e1]
      split
      · rename_i q; rw [← q] at hi; exact getD_of hi
      · rw [if_pos rfl]; exact getD_of hi
    have e4 : (lsw S.l i last).length - 1 = last := by rw [lsw_length, hl]; rfl
    rw [e2] at e3
    simp only [e4]
    exact e3
  rw [h2] at h1
  exact h1.symm
theorem cut_mem (h : S.l.Nodup) (hi : S.l[i]? = some eb) (hl : S.l.length = last + 1) {c : Nat} : c ∈ (S.cut i last v).l ↔ c ∈ S.l ∧ c ≠ eb := by
  have hil : i < S.l.length := (List.getElem?_eq_some_iff.1 hi).1
  have hp := lsw_perm hil (show last < S.l.length by omega)
  have e := cut_l hi hl
  have hnd : (lsw S.l i last).Nodup := hp.nodup_iff.2 h
  show c ∈ (lsw S.l i last).dropLast ↔ _
  rw [← hp.mem_iff]
  generalize (lsw S.l i last).dropLast = d at *
  rw [e] at hnd ⊢
  rw [List.nodup_append] at hnd
  constructor
  · intro q
    exact ⟨List.mem_append_left _ q, fun q' => hnd.2.2 c q eb (by simp) q'⟩
  · rintro ⟨q, q'⟩
    rcases List.mem_append.1 q with q | q
    · exact q
    · exact absurd (by simpa using q) q'
theorem cut_len (hl : S.l.length = last + 1) : (S.cut i last v).l.length = last := by
  show (lsw S.l i last).dropLast.length = _
  rw [List.length_dropLast, lsw_length, hl]
  rfl
theorem cut_getD (hi : i < S.l.length) (hl : S.l.length = last + 1) {j : Nat} (hj : j < last) : (S.cut i last v).l.getD j 0 = if j = i then S.l.getD last 0 else S.l.getD j 0 := by
  show (lsw S.l i last).dropLast.getD j 0 = _
  rw [List.getD_eq_getElem?_getD, List.getElem?_dropLast, if_pos (by rw [lsw_length]; omega), ← List.getD_eq_getElem?_getD, lsw_getD hi (by omega)]
  split
  · rfl
  · rw [if_neg (by omega)]
theorem cut_vv (h : Vv S.l.length S.v) (hi : i < S.l.length) (hl : S.l.length = last + 1) : Vv (S.cut i last v).l.length (uo (S.cut i last v).v i (S.v i)) := by
  rw [cut_len hl]
  rw [hl] at h
  refine vv_same (vv_off h) fun j hj => ?_
  unfold uo
  split
  · rename_i q; rw [q]
  · rename_i q
    unfold HS.v
    rw [cut_getD hi hl hj, if_neg q]
    rfl
/-- a heap without one of its entries -/
structure Less (w w' : World) (hb eb : Nat) (S S' : HS) : Prop where
  h : Hp w' hb S'
  m : ∀ c, c ∈ S'.l ↔ c ∈ S.l ∧ c ≠ eb
  n : S'.l.length + 1 = S.l.length
  hd : S'.hd = S.hd
  ky : S'.ky = S.ky
  gv : S'.gv = S.gv
  c : Chg hb S S' w w'
  en : En w' eb (S.ky eb) (S.hd eb)
theorem En.of_blk {i : Nat} (h : Blk w eb 117 5 (S.ndC eb i)) : En w eb (S.ky eb) (S.hd eb) := ⟨h.cell 0 (by decide), h.cell 1 (by decide), h.cell 2 (by decide), h.cell 3 (by decide)⟩
theorem Mp.mk {m : Nat} {M : DataW Nat} (e : S.mb = some m) (h : MpA w S m M) : Mp w S := by
  unfold Mp
  rw [e]
  exact ⟨M, h⟩
theorem lsw_last (hi : S.l[i]? = some eb) (hl : S.l.length = last + 1) : (lsw S.l i last)[last]? = some eb := by
  have h1 : (lsw S.l i last).length = last + 1 := by rw [lsw_length, hl]
  have h2 := cut_l hi hl
  have h3 : (lsw S.l i last).dropLast.length = last := by rw [List.length_dropLast, h1]; rfl
  rw [h2, List.getElem?_append_right (by omega), h3, Nat.sub_self]
  rfl
theorem drop_S (h : Hp w hb S) (hi : S.l[i]? = some eb) :
    Calls Try.prog 73 #[.pointer (some ⟨hb, 0, none⟩), .pointer (some ⟨eb, 0, none⟩)] w fun e w' => e = .returned (.tuple #[]) ∧ ∃ S', Less w w' hb eb S S' := by
  have hil : i < S.l.length := (List.getElem?_eq_some_iff.1 hi).1
  obtain ⟨last, hl⟩ : ∃ last, S.l.length = last + 1 := ⟨S.l.length - 1, by omega⟩
  have hm := h.m
  have hlast : last < S.l.length := by omega
  obtain ⟨g, c, e⟩ := hm.fm.row (by rintro q; rw [q] at hil; simp at hil)
  rw [hl] at e
  have hp0 := h.p
  unfold Mp at hp0
  cases hmb : S.mb with
  | none => rw [hmb] at hp0; rw [show S.l = [] from hp0] at hil; simp at hil
  | some m =>
    rw [hmb] at hp0
    obtain ⟨M, hM⟩ := hp0
    have hsm := hm.sm
    have heb : eb ∈ S.l := List.mem_of_getElem? hi
    have hx := (hm.ok eb heb).2
    have hperm := lsw_perm hil hlast
    -- what stands behind
    have key : ∀ W, DrD w W hb g last c m (Maps.size M) S.hpC (lsw S.l i last) (fun b j => S.ndC b j) (M.del (.int .i64 (S.hd eb))) (Fp hb S) →
        Mem W hb (S.cut i last (.slice (some ⟨g, 0, none⟩) last c)) ∧ Mp W (S.cut i last (.slice (some ⟨g, 0, none⟩) last c)) ∧ (S.cut i last (.slice (some ⟨g, 0, none⟩) last c)).uh ∧ Chg hb S (S.cut i last (.slice (some ⟨g, 0, none⟩) last c)) w W := fun W D => by
      have hmm : ∀ {x}, x ∈ (S.cut i last (.slice (some ⟨g, 0, none⟩) last c)).l ↔ x ∈ S.l ∧ x ≠ eb := cut_mem hm.no hi hl
      have huu : (S.cut i last (.slice (some ⟨g, 0, none⟩) last c)).uh := fun a ha b hb' q => h.hu a (hmm.1 ha).1 b (hmm.1 hb').1 q
      refine ⟨⟨D.hp.same fun j hj => ?_, fun j b q => ?_, D.fm, ?_, fun b q => hm.ok b (hmm.1 q).1, by rw [cut_len hl]; omega⟩, Mp.mk (S := S.cut i last (.slice (some ⟨g, 0, none⟩) last c)) hmb ⟨tight D.mp, ?_, fun x z => ?_⟩, huu, D.kp, fun k q => .inl ?_⟩
      · rcases (by omega : j = 0 ∨ j = 1 ∨ j = 2) with rfl | rfl | rfl
        · rfl
        · show Value.map S.mb = Value.map S.mb; rfl
        · rfl
      · have q' : (lsw S.l i last).dropLast[j]? = some b := q
        have hj : j < last := by
          have := (List.getElem?_eq_some_iff.1 q').1
          rw [List.length_dropLast, lsw_length, hl] at this
          omega
        rw [List.getElem?_dropLast, if_pos (by rw [lsw_length]; omega)] at q'
        exact D.nd j b q'
      · have : (lsw S.l i last).Nodup := hperm.nodup_iff.2 hm.no
        exact List.Nodup.sublist (List.dropLast_sublist _) this
      · have hhas : Maps.has M (.int .i64 (S.hd eb)) = true := has_true_of_atKey (y := .held eb) fun z => by rw [hM.a, at_of h.hu heb]; rfl
        have hsz := size_del (k := .int .i64 (S.hd eb)) (hM.o.tidy law3)
        rw [if_pos hhas] at hsz
        rw [cut_len hl]
        have := hM.n
        omega
      · by_cases ex : x = (S.hd eb : Int)
        · subst ex
          rw [atKey_del_same]
          have : (S.cut i last (.slice (some ⟨g, 0, none⟩) last c)).at (S.hd eb) = none := at_eq huu (fun b q => by cases q) (fun _ b q q' => (hmm.1 q).2 (h.hu b (hmm.1 q).1 eb heb (by have : ((S.hd b : Nat) : Int) = S.hd eb := q'; omega)))
          rw [this]
          rfl
        · rw [atKey_del_other (lit_ne ex), hM.a]
          congr 1
          refine (at_eq huu (fun b q => ?_) (fun q b hb' => at_none (S := S) q b (hmm.1 hb').1)).symm
          obtain ⟨h1, h2⟩ := at_some q
          exact ⟨hmm.2 ⟨h1, by rintro rfl; exact ex h2.symm⟩, h2⟩
      · rcases q with q | q | q | q
        · exact .inl q
        · exact .inr (.inl (hmm.1 q).1)
        · exact .inr (.inr (.inl (by rw [e]; exact q)))
        · exact .inr (.inr (.inr q))
    refine drop_raw w hb eb g last c i m (S.hd eb) M S.hpC (fun b j => S.ndC b j) (lsw S.l i last) (Fp hb S) (fun w' => ∃ S', Less w w' hb eb S S') hm.hp (by show Value.map S.mb = _; rw [hmb]) e ((hm.nd i eb hi).cell 4 (by decide)) (by unfold Hid; rw [lsw_length, hl]) (lsw_last hi hl) (by omega) (by omega) (by omega) ?_ rfl (.inl rfl) (.inr (.inr (.inl (by rw [e]; rfl)))) (.inr (.inr (.inr hmb))) (fun hlt W D => ?_) (fun hie W D => ?_)
    · refine (swap_S hm hil hlast).mono ?_
      rintro q w1 ⟨rfl, V⟩
      refine ⟨rfl, V.m.hp, ?_, keepMap hM.o (V.k.block m hM.o.lt (hm.map_fl hM.o)), V.m.nd, V.k.mono fun k _ q => q.elim (fun q => .inr (.inl q)) fun q => .inr (.inr (.inl q))⟩
      have := V.m.fm
      rw [show (S.wl (lsw S.l i last)).lv = S.lv from rfl, e] at this
      exact this
    · obtain ⟨k1, k2, k3, k4⟩ := key W D
      have hcl : (S.cut i last (.slice (some ⟨g, 0, none⟩) last c)).l.length = last := cut_len hl
      have hmm : ∀ {x}, x ∈ (S.cut i last (.slice (some ⟨g, 0, none⟩) last c)).l ↔ x ∈ S.l ∧ x ≠ eb := cut_mem hm.no hi hl
      have hE : Blk W eb 117 5 (S.ndC eb last) := D.nd last eb (lsw_last hi hl)
      have hno : ¬ Fp hb (S.cut i last (.slice (some ⟨g, 0, none⟩) last c)) eb := by
        rintro (q | q | q | q)
        · exact blk_ne k1.hp hE (by decide) q.symm
        · exact (hmm.1 q).2 rfl
        · exact k1.fm.ne hE (by decide) q
        · have q2 : m = eb := Option.some.inj (hmb.symm.trans q)
          exact map_ne D.mp hE q2.symm
      refine (mend_S k1 (by rw [hcl]; exact hlt) ⟨_, cut_vv h.v hil hl⟩).mono ?_
      rintro q w' ⟨rfl, N⟩
      obtain ⟨l', p1, p2, p3⟩ := N.hp k1 k2 k3 (fun b q => h.hg b (hmm.1 q).1) h.gv (by rw [hcl]; have := h.ln; show last ≤ S.gv; omega)
      exact ⟨rfl, _, p2, fun x => (p1.mem_iff).trans hmm, by rw [show ((S.cut i last (.slice (some ⟨g, 0, none⟩) last c)).wl l').l = l' from rfl, p1.length_eq, hcl, hl], rfl, rfl, rfl, k4.trans p3, En.of_blk (hE.at (p3.kp.block eb hE.lt hno))⟩
    · obtain ⟨k1, k2, k3, k4⟩ := key W D
      have hcl : (S.cut i last (.slice (some ⟨g, 0, none⟩) last c)).l.length = last := cut_len hl
      have hmm : ∀ {x}, x ∈ (S.cut i last (.slice (some ⟨g, 0, none⟩) last c)).l ↔ x ∈ S.l ∧ x ≠ eb := cut_mem hm.no hi hl
      have hv : Vv (S.cut i last (.slice (some ⟨g, 0, none⟩) last c)).l.length (S.cut i last (.slice (some ⟨g, 0, none⟩) last c)).v := by
        refine vv_same (cut_vv h.v hil hl) fun j hj => ?_
        rw [hcl] at hj
        rw [uo_other _ (by omega)]
      exact ⟨_, ⟨k1, k2, hv, k3, fun b q => h.hg b (hmm.1 q).1, h.gv, by rw [hcl]; have := h.ln; show last ≤ S.gv; omega⟩, fun x => hmm, by rw [hcl, hl], rfl, rfl, rfl, k4, En.of_blk (D.nd last eb (lsw_last hi hl))⟩
end
end Go.Proofs.Ytcfnonfghlgphaa.Hp

namespace Go.Proofs.Ytcfnonfghlgphaa.Hp
open Go.RowKit Go.Maps

theorem keep1c' {w w1 : World} {g o : Nat} {v : Value} (b : Below w.heap.size w w1) (h : w.cell? ⟨g, o, none⟩ = some v) : w1.cell? ⟨g, o, none⟩ = some v := by
  have hg : g < w.heap.size := by
    unfold World.cell? at h
    by_cases q : g < w.heap.size
    · exact q
    · rw [Array.getElem?_eq_none (show w.heap.size ≤ g by omega)] at h; cases h
  rw [← h]
  exact b.cell (p := ⟨g, o, none⟩) hg
theorem En.below {w w1 : World} {x h : Nat} {k : K} (e : En w x k h) (b : Below w.heap.size w w1) : En w1 x k h := ⟨keep1c' b e.h, keep1c' b e.a, keep1c' b e.b, keep1c' b e.c⟩
set_option maxHeartbeats 400000 in
theorem tell_nil (w : World) : Calls Try.prog 70 #[.pointer none] w fun e w' => e = .returned (.tuple #[.int .i64 0, .agg #[.int .i64 0, .int .i64 0, .int .i64 0], .int .i64 3]) ∧ Below w.heap.size w w' := by
  go_enter Try.func70, Try.ntmps70
  go_wp2_with fail
  refine bodyPost_ret (v := .tuple #[.int .i64 0, .agg #[.int .i64 0, .int .i64 0, .int .i64 0], .int .i64 3]) (by rw [results_tct rfl]; go_simp) rfl ?_
  exact ⟨rfl, by go_grown⟩
set_option maxHeartbeats 1000000 in
theorem tell_at (w : World) (b x : Nat) (k : K) (E : Hid (En w b k x)) : Calls Try.prog 70 #[.pointer (some ⟨b, 0, none⟩)] w fun e w' => e = .returned (.tuple #[.int .i64 x, .agg #[.int .i64 k.a, .int .i64 k.b, .int .i64 k.c], .int .i64 0]) ∧ Below w.heap.size w w' := by
  go_enter Try.func70, Try.ntmps70
  go_upto_region 3 with fail
  have G0 : Hid ((w.alloc (.cells #[.int .i64 0, .int .i64 0, .int .i64 0] 91)).heap[w.heap.size]? = some (.cells #[.int .i64 0, .int .i64 0, .int .i64 0] 91 (0, 0))) := new0
  have B0 : Hid (Below w.heap.size w (w.alloc (.cells #[.int .i64 0, .int .i64 0, .int .i64 0] 91))) := by unfold Hid; go_grown
  obtain ⟨h0, h1, h2, h3⟩ := E.out.below B0.out
  obtain ⟨c0, c1, c2⟩ := c3 G0.out
  obtain ⟨f0, f1, f2⟩ := f3 G0.out
  generalize w.alloc (.cells #[.int .i64 0, .int .i64 0, .int .i64 0] 91) = W at *
  go_region
  all_goals go_wp2_with fail
  all_goals refine bodyPost_ret (v := .tuple #[.int .i64 x, .agg #[.int .i64 k.a, .int .i64 k.b, .int .i64 k.c], .int .i64 0]) (by rw [results_tct rfl]; go_simp) rfl ?_
  all_goals exact ⟨rfl, by go_grown; exact B0.out⟩
set_option maxHeartbeats 400000 in
theorem outer_zero (w : World) (v : Value) (s : Int) (H16 : Hid (Calls Try.prog 80 #[v] w fun e w' => e = .returned (.int .i64 0) ∧ w' = w)) : Calls Try.prog 71 #[v, .int .i64 s] w fun e w' => e = .returned (.pointer none) ∧ w' = w := by
  go_enter Try.func71, Try.ntmps71
  go_wp2_with (go_at_call 80; refine H16.out.mono ?_; rintro e w1 ⟨rfl, rfl⟩)
  go_ret
  exact ⟨rfl, rfl⟩
set_option maxHeartbeats 400000 in
theorem outer_raw (w : World) (hb g n c i b s : Nat) (H16 : Hid (Calls Try.prog 80 #[.pointer (some ⟨hb, 0, none⟩)] w fun e w' => e = .returned (.int .i64 n) ∧ w' = w)) (c2 : w.cell? ⟨hb, 2, none⟩ = some (.slice (some ⟨g, 0, none⟩) n c)) (hi : i < n) (ci : w.cell? ⟨g, i, none⟩ = some (.pointer (some ⟨b, 0, none⟩)))
    (H39 : Hid (∀ m, Calls Try.prog 78 #[.pointer (some ⟨hb, 0, none⟩), .int .i64 0, .int .i64 s] (w.drewN m) fun e w' => e = .returned (.int .i64 i) ∧ w' = w.drewN m)) :
    Calls Try.prog 71 #[.pointer (some ⟨hb, 0, none⟩), .int .i64 s] w fun e w' => e = .returned (.pointer (some ⟨b, 0, none⟩)) ∧ ∃ m, w' = w.drewN m := by
  have hi' : (i : Int) < (n : Int) := by omega
  have hn' : ¬ (n : Int) = 0 := by omega
  go_enter Try.func71, Try.ntmps71
  go_upto_region 3 with (go_at_call 80; refine H16.out.mono ?_; rintro e w1 ⟨rfl, rfl⟩)
  go_quiet ((go_at_call 78; exact Calls.quiet_of_same (H39.out _)))
  go_wp2_with fail
  go_ret
  exact ⟨rfl, _, rfl⟩
/-- the entry at one end -/
def Ct.ext (C : Ct) (s x : Nat) (k : K) : Prop := C x = some k ∧ ∀ (y : Nat) (k' : K), C y = some k' → sg s (enc k x) ≤ sg s (enc k' y)
section
variable {w w' : World} {hb g n s : Nat} {C : Ct} {S S' : HS} {k : K}
theorem outer_C (h : Hc w hb C g n S) (hs : s ≤ 1) (hn : n ≠ 0) : ∃ i b : Nat, S.l[i]? = some b ∧ C.ext s (S.hd b) (S.ky b) ∧ Calls Try.prog 71 #[.pointer (some ⟨hb, 0, none⟩), .int .i64 s] w fun e w' => e = .returned (.pointer (some ⟨b, 0, none⟩)) ∧ ∃ m, w' = w.drewN m := by
  have hl := h.n
  have hi : P S.l.length s 0 < S.l.length := P_lt (by omega)
  have si := some_of hi
  obtain ⟨gb, c, e⟩ := h.h.m.fm.row (by rintro q; rw [q] at hl; exact hn hl.symm)
  have hF := h.h.m.fm
  rw [e] at hF
  refine ⟨_, _, si, ⟨?_, fun y k' q => ?_⟩, outer_raw w hb gb S.l.length c _ _ s ?_ (by rw [h.h.m.c2, e]) hi (hF.cell si).1 (fun m => ?_)⟩
  · rw [← h.c]; exact cont_mem h.h.hu (List.mem_of_getElem? si)
  · rw [← h.c] at q
    obtain ⟨b, k1, k2, k3⟩ := cont_some q
    obtain ⟨j, hj⟩ := List.getElem?_of_mem k1
    have hjl := (List.getElem?_eq_some_iff.1 hj).1
    have hv := vv_least h.h.v hjl
    have e2 : S.v j = enc k' y := by
      unfold HS.v HS.en
      rw [getD_of hj, k3]
      congr 1
      omega
    rw [e2] at hv
    rcases (by omega : s = 0 ∨ s = 1) with rfl | rfl
    · rw [show P S.l.length 0 0 = 0 by unfold P; omega]
      exact hv.1
    · unfold sg
      rw [if_neg (by decide), if_neg (by decide)]
      have := hv.2
      unfold HS.v HS.en at this
      omega
  · have := len_C h
    rw [← hl] at this
    exact this
  · have := end_S (p := 0) (h.h.m.drew m) (by omega) hs
    exact this
end
set_option maxHeartbeats 400000 in
theorem min_raw (w : World) (v r : Value) (x e : Int) (k : K) (H35 : Hid (∀ w1, Below w.heap.size w w1 → Calls Try.prog 71 #[v, .int .i64 0] w1 fun q w' => q = .returned r ∧ ∃ m, w' = w1.drewN m)) (H34 : Hid (∀ w1, Below w.heap.size w w1 → Calls Try.prog 70 #[r] w1 fun q w' => q = .returned (.tuple #[.int .i64 x, .agg #[.int .i64 k.a, .int .i64 k.b, .int .i64 k.c], .int .i64 e]) ∧ Below w1.heap.size w1 w')) :
    Calls Try.prog 62 #[v] w fun q w' => q = .returned (.tuple #[.int .i64 x, .agg #[.int .i64 k.a, .int .i64 k.b, .int .i64 k.c], .int .i64 e]) ∧ Below w.heap.size w w' := by
  go_enter Try.func62, Try.ntmps62
  go_upto_region 1 with fail
  have G0 : Hid ((w.alloc (.cells #[.int .i64 0, .int .i64 0, .int .i64 0] 91)).heap[w.heap.size]? = some (.cells #[.int .i64 0, .int .i64 0, .int .i64 0] 91 (0, 0))) := new0
  have B0 : Hid (Below w.heap.size w (w.alloc (.cells #[.int .i64 0, .int .i64 0, .int .i64 0] 91))) := by unfold Hid; go_grown
  generalize w.alloc (.cells #[.int .i64 0, .int .i64 0, .int .i64 0] 91) = W at *
  have H5 := H35.out W B0.out
  have H4 : Hid (∀ m, Calls Try.prog 70 #[r] (W.drewN m) fun q w' => q = .returned (.tuple #[.int .i64 x, .agg #[.int .i64 k.a, .int .i64 k.b, .int .i64 k.c], .int .i64 e]) ∧ Hid (Below w.heap.size w w' ∧ w'.heap[w.heap.size]? = some (.cells #[.int .i64 0, .int .i64 0, .int .i64 0] 91 (0, 0)))) := fun m => by
    refine (H34.out (W.drewN m) (below_drewN B0.out m)).mono ?_
    rintro q w' ⟨rfl, b⟩
    have b' : Below W.heap.size W w' := ⟨b.os, b.tape, b.output, b.size, b.block⟩
    exact ⟨rfl, B0.out.trans (b'.mono B0.out.size), at_below b' (Nat.le_refl _) G0.out⟩
  clear H35 H34
  go_wp2_with (first | (go_at_call 71; refine H5.mono ?_; first | rintro q w1 rfl m rfl | rintro q w1 ⟨rfl, m, rfl⟩) | (go_at_call 70; refine (H4.out _).mono ?_; (first | rintro q w2 rfl h2 | rintro q w2 ⟨rfl, h2⟩); obtain ⟨c0, c1, c2⟩ := c3 h2.out.2; obtain ⟨f0, f1, f2⟩ := f3 h2.out.2))
  refine bodyPost_ret (v := .tuple #[.int .i64 x, .agg #[.int .i64 k.a, .int .i64 k.b, .int .i64 k.c], .int .i64 e]) (by rw [results_tct rfl]; go_simp) rfl ?_
  exact ⟨rfl, by go_grown; exact h2.out.1⟩
section
variable {w w' w1 w3 : World} {hb g n s g' n' : Nat} {C C' : Ct} {S S' : HS} {k : K}
theorem box_at (h : Hc w hb C g n S) (hC : Chg hb S S' w1 w') : ∀ k o, w.heap.size ≤ k → w1.heap[k]? = some o → w'.heap[k]? = some o := fun k o h1 h2 =>
  (hC.kp.block k (Array.getElem?_eq_some_iff.1 h2).1 fun q => by have := h.h.lt k q; omega).trans h2
theorem box_keep (h : Hc w hb C g n S) (b : Below w.heap.size w w1) (hC : Chg hb S S' w1 w') (hH : Hc w' hb C' g' n' S') (k3 : Kp (fun k => w.heap.size ≤ k ∧ k < w1.heap.size) w' w3) : Hc w3 hb C' g' n' S' ∧ Chg hb S S' w w3 := by
  have hb1 := b.size
  refine ⟨hH.keep fun k q => k3.block k (hH.h.lt k q) fun q' => ?_, ((Kp.of_below (S := Fp hb S) b).trans hC.kp fun _ _ h => h).trans k3 fun k hk q => by omega, fun k q => ?_⟩
  · rcases hC.fp k q with q | q
    · have := h.h.lt k q; omega
    · omega
  · rcases hC.fp k q with q | q
    · exact .inl q
    · exact .inr (by omega)
end
set_option maxHeartbeats 1000000 in
theorem pop_raw (w : World) (hb b x s : Nat) (k : K) (R : World → Prop) (H35 : Hid (∀ w1, Below w.heap.size w w1 → Calls Try.prog 71 #[.pointer (some ⟨hb, 0, none⟩), .int .i64 s] w1 fun q w' => q = .returned (.pointer (some ⟨b, 0, none⟩)) ∧ ∃ m, w' = w1.drewN m))
    (H36 : Hid (∀ w2, Below w.heap.size w w2 → Calls Try.prog 73 #[.pointer (some ⟨hb, 0, none⟩), .pointer (some ⟨b, 0, none⟩)] w2 fun q w' => q = .returned (.tuple #[]) ∧ Hid ((∀ g o, w.heap.size ≤ g → w2.heap[g]? = some o → w'.heap[g]? = some o) ∧ En w' b k x ∧ (∀ w3, Kp (fun k => w.heap.size ≤ k ∧ k < w2.heap.size) w' w3 → R w3)))) :
    Calls Try.prog 64 #[.pointer (some ⟨hb, 0, none⟩), .int .i64 s] w fun e w' => e = .returned (.tuple #[.int .i64 x, .agg #[.int .i64 k.a, .int .i64 k.b, .int .i64 k.c], .int .i64 0]) ∧ R w' := by
  go_enter Try.func64, Try.ntmps64
  go_upto_region 1 with fail
  have G0 : Hid ((w.alloc (.cells #[.int .i64 0, .int .i64 0, .int .i64 0] 91)).heap[w.heap.size]? = some (.cells #[.int .i64 0, .int .i64 0, .int .i64 0] 91 (0, 0))) := new0
  have B0 : Hid (Below w.heap.size w (w.alloc (.cells #[.int .i64 0, .int .i64 0, .int .i64 0] 91))) := by unfold Hid; go_grown
  generalize w.alloc (.cells #[.int .i64 0, .int .i64 0, .int .i64 0] 91) = W at *
  have H5 := H35.out W B0.out
  go_upto_region 3 with (go_at_call 71; refine H5.mono ?_; first | rintro q w1 rfl m rfl | rintro q w1 ⟨rfl, m, rfl⟩)
  have B1 : Hid (Below w.heap.size w (W.drewN m)) := below_drewN B0.out m
  have G1 : Hid ((W.drewN m).heap[w.heap.size]? = some (.cells #[.int .i64 0, .int .i64 0, .int .i64 0] 91 (0, 0))) := G0.out
  have H6 := H36.out _ B1.out
  generalize W.drewN m = W2 at *
  clear H5 H35 H36 B0 G0
  go_upto_region 4 with (go_at_call 73; refine H6.mono ?_; first | rintro q w2 rfl h2 | rintro q w2 ⟨rfl, h2⟩)
  have G2 : Hid (w2.heap[w.heap.size]? = some (.cells #[.int .i64 0, .int .i64 0, .int .i64 0] 91 (0, 0))) := h2.out.1 _ _ (Nat.le_refl _) G1.out
  have L2 : Hid (w.heap.size < W2.heap.size) := (Array.getElem?_eq_some_iff.1 G1.out).1
  have H4 : Hid (Calls Try.prog 70 #[.pointer (some ⟨b, 0, none⟩)] w2 fun q w' => q = .returned (.tuple #[.int .i64 x, .agg #[.int .i64 k.a, .int .i64 k.b, .int .i64 k.c], .int .i64 0]) ∧ Hid (Below w2.heap.size w2 w' ∧ w'.heap[w.heap.size]? = some (.cells #[.int .i64 0, .int .i64 0, .int .i64 0] 91 (0, 0)))) := by
    refine (tell_at w2 b x k h2.out.2.1).mono ?_
    rintro q w' ⟨rfl, b'⟩
    exact ⟨rfl, b', at_below b' (Nat.le_refl _) G2.out⟩
  go_wp2_with (go_at_call 70; refine H4.out.mono ?_; (first | rintro q w3 rfl h3 | rintro q w3 ⟨rfl, h3⟩); obtain ⟨c0, c1, c2⟩ := c3 h3.out.2; obtain ⟨f0, f1, f2⟩ := f3 h3.out.2)
  refine bodyPost_ret (v := .tuple #[.int .i64 x, .agg #[.int .i64 k.a, .int .i64 k.b, .int .i64 k.c], .int .i64 0]) (by rw [results_tct rfl]; go_simp) rfl ⟨rfl, h2.out.2.2 _ ?_⟩
  have hS : (fun k => w.heap.size ≤ k ∧ k < W2.heap.size) w.heap.size := ⟨Nat.le_refl _, L2.out⟩
  exact (((Kp.of_below h3.out.1).trans (Kp.of_set (S := fun k => w.heap.size ≤ k ∧ k < W2.heap.size) w3 ⟨w.heap.size, 0, none⟩ _ hS) fun _ _ h => h).trans (Kp.of_set (S := fun k => w.heap.size ≤ k ∧ k < W2.heap.size) _ ⟨w.heap.size, 1, none⟩ _ hS) fun _ _ h => h).trans (Kp.of_set (S := fun k => w.heap.size ≤ k ∧ k < W2.heap.size) _ ⟨w.heap.size, 2, none⟩ _ hS) fun _ _ h => h
set_option maxHeartbeats 1000000 in
theorem popz_raw (w : World) (v : Value) (s : Nat) (H35 : Hid (∀ w1, Below w.heap.size w w1 → Calls Try.prog 71 #[v, .int .i64 s] w1 fun q w' => q = .returned (.pointer none) ∧ ∃ m, w' = w1.drewN m)) :
    Calls Try.prog 64 #[v, .int .i64 s] w fun e w' => e = .returned (.tuple #[.int .i64 0, .agg #[.int .i64 0, .int .i64 0, .int .i64 0], .int .i64 3]) ∧ Below w.heap.size w w' := by
  go_enter Try.func64, Try.ntmps64
  go_upto_region 1 with fail
  have G0 : Hid ((w.alloc (.cells #[.int .i64 0, .int .i64 0, .int .i64 0] 91)).heap[w.heap.size]? = some (.cells #[.int .i64 0, .int .i64 0, .int .i64 0] 91 (0, 0))) := new0
  have B0 : Hid (Below w.heap.size w (w.alloc (.cells #[.int .i64 0, .int .i64 0, .int .i64 0] 91))) := by unfold Hid; go_grown
  generalize w.alloc (.cells #[.int .i64 0, .int .i64 0, .int .i64 0] 91) = W at *
  have H5 := H35.out W B0.out
  have H4 : Hid (∀ m, Calls Try.prog 70 #[.pointer none] (W.drewN m) fun q w' => q = .returned (.tuple #[.int .i64 0, .agg #[.int .i64 0, .int .i64 0, .int .i64 0], .int .i64 3]) ∧ Hid (Below w.heap.size w w' ∧ w'.heap[w.heap.size]? = some (.cells #[.int .i64 0, .int .i64 0, .int .i64 0] 91 (0, 0)))) := fun m => by
    refine (tell_nil (W.drewN m)).mono ?_
    rintro q w' ⟨rfl, b⟩
    have b' : Below W.heap.size W w' := ⟨b.os, b.tape, b.output, b.size, b.block⟩
    exact ⟨rfl, B0.out.trans (b'.mono B0.out.size), at_below b' (Nat.le_refl _) G0.out⟩
  clear H35
  go_wp2_with (first | (go_at_call 71; refine H5.mono ?_; first | rintro q w1 rfl m rfl | rintro q w1 ⟨rfl, m, rfl⟩) | (go_at_call 70; refine (H4.out _).mono ?_; (first | rintro q w2 rfl h2 | rintro q w2 ⟨rfl, h2⟩); obtain ⟨c0, c1, c2⟩ := c3 h2.out.2; obtain ⟨f0, f1, f2⟩ := f3 h2.out.2))
  refine bodyPost_ret (v := .tuple #[.int .i64 0, .agg #[.int .i64 0, .int .i64 0, .int .i64 0], .int .i64 3]) (by rw [results_tct rfl]; go_simp) rfl ?_
  exact ⟨rfl, by go_grown; exact h2.out.1⟩
set_option maxHeartbeats 1000000 in
theorem pmin_raw (w : World) (v : Value) (x e : Int) (k : K) (R : World → Prop)
    (H31 : Hid (∀ w1, Below w.heap.size w w1 → Calls Try.prog 64 #[v, .int .i64 0] w1 fun q w' => q = .returned (.tuple #[.int .i64 x, .agg #[.int .i64 k.a, .int .i64 k.b, .int .i64 k.c], .int .i64 e]) ∧ Hid ((∀ g o, w.heap.size ≤ g → w1.heap[g]? = some o → w'.heap[g]? = some o) ∧ (∀ w3, Kp (fun k => w.heap.size ≤ k ∧ k < w1.heap.size) w' w3 → R w3)))) :
    Calls Try.prog 42 #[v] w fun q w' => q = .returned (.tuple #[.int .i64 x, .agg #[.int .i64 k.a, .int .i64 k.b, .int .i64 k.c], .int .i64 e]) ∧ R w' := by
  go_enter Try.func42, Try.ntmps42
  go_upto_region 1 with fail
  have G0 : Hid ((w.alloc (.cells #[.int .i64 0, .int .i64 0, .int .i64 0] 91)).heap[w.heap.size]? = some (.cells #[.int .i64 0, .int .i64 0, .int .i64 0] 91 (0, 0))) := new0
  have B0 : Hid (Below w.heap.size w (w.alloc (.cells #[.int .i64 0, .int .i64 0, .int .i64 0] 91))) := by unfold Hid; go_grown
  generalize w.alloc (.cells #[.int .i64 0, .int .i64 0, .int .i64 0] 91) = W at *
  have L2 : Hid (w.heap.size < W.heap.size) := (Array.getElem?_eq_some_iff.1 G0.out).1
  have H5 : Hid (Calls Try.prog 64 #[v, .int .i64 0] W fun q w' => q = .returned (.tuple #[.int .i64 x, .agg #[.int .i64 k.a, .int .i64 k.b, .int .i64 k.c], .int .i64 e]) ∧ Hid (w'.heap[w.heap.size]? = some (.cells #[.int .i64 0, .int .i64 0, .int .i64 0] 91 (0, 0)) ∧ (∀ w3, Kp (fun k => w.heap.size ≤ k ∧ k < W.heap.size) w' w3 → R w3))) := by
    refine (H31.out W B0.out).mono ?_
    rintro q w' ⟨rfl, h⟩
    exact ⟨rfl, h.out.1 _ _ (Nat.le_refl _) G0.out, h.out.2⟩
  clear H31 G0 B0
  go_wp2_with (go_at_call 64; refine H5.out.mono ?_; (first | rintro q w3 rfl h3 | rintro q w3 ⟨rfl, h3⟩); obtain ⟨c0, c1, c2⟩ := c3 h3.out.1; obtain ⟨f0, f1, f2⟩ := f3 h3.out.1)
  refine bodyPost_ret (v := .tuple #[.int .i64 x, .agg #[.int .i64 k.a, .int .i64 k.b, .int .i64 k.c], .int .i64 e]) (by rw [results_tct rfl]; go_simp) rfl ⟨rfl, h3.out.2 _ ?_⟩
  have hS : (fun k => w.heap.size ≤ k ∧ k < W.heap.size) w.heap.size := ⟨Nat.le_refl _, L2.out⟩
  exact ((Kp.of_set (S := fun k => w.heap.size ≤ k ∧ k < W.heap.size) w3 ⟨w.heap.size, 0, none⟩ _ hS).trans (Kp.of_set (S := fun k => w.heap.size ≤ k ∧ k < W.heap.size) _ ⟨w.heap.size, 1, none⟩ _ hS) fun _ _ h => h).trans (Kp.of_set (S := fun k => w.heap.size ≤ k ∧ k < W.heap.size) _ ⟨w.heap.size, 2, none⟩ _ hS) fun _ _ h => h
/-! ### over what a heap holds -/
section
variable {w w' w1 w3 : World} {hb g n s g' n' : Nat} {C C' : Ct} {S S' : HS} {k : K}
theorem Hc.ok (h : Hc w hb C g n S) {x : Int} (q : C x = some k) : k.ok ∧ ∃ y : Nat, x = (y : Int) ∧ y < 1048576 ∧ y < g := by
  rw [← h.c] at q
  obtain ⟨b, k1, k2, k3⟩ := cont_some q
  have := h.h.m.ok b k1
  have h2 := h.h.hg b k1
  rw [h.g] at h2
  exact ⟨by rw [← k3]; exact this.1, S.hd b, k2.symm, this.2, h2⟩
theorem outer0 (h : Hc w hb C g 0 S) : Calls Try.prog 71 #[.pointer (some ⟨hb, 0, none⟩), .int .i64 s] w fun e w' => e = .returned (.pointer none) ∧ ∃ m, w' = w.drewN m :=
  (outer_zero w _ _ (len_C h)).mono fun _ _ ⟨q, e⟩ => ⟨q, 0, e⟩
theorem same_at {S : HS} {i j a b : Nat} (hi : S.l[i]? = some a) (h : a = b) (hj : S.l[j]? = some b) (hn : S.l.Nodup) : i = j := by
  subst h
  exact (List.getElem?_inj (List.getElem?_eq_some_iff.1 hi).1 hn).1 (hi.trans hj.symm)
/-- Min or Max, by the side -/
abbrev fnM (_ : Nat) : Nat := 62
abbrev fnP (_ : Nat) : Nat := 42
theorem ends_C (h : Hc w hb C g n S) (hn : n ≠ 0) (hs : s = 0) : ∃ (x : Nat) (k : K), C.ext s x k ∧ Calls Try.prog (fnM s) #[ptr hb] w fun e w' => e = .returned (.tuple #[.int .i64 x, ktup k, .int .i64 0]) ∧ Below w.heap.size w w' := by
  obtain ⟨i, b, hi, he, _⟩ := outer_C h (by omega : s ≤ 1) hn
  refine ⟨S.hd b, S.ky b, he, ?_⟩
  have h35 : ∀ w1, Below w.heap.size w w1 → Calls Try.prog 71 #[.pointer (some ⟨hb, 0, none⟩), .int .i64 s] w1 fun q w' => q = .returned (.pointer (some ⟨b, 0, none⟩)) ∧ ∃ m, w' = w1.drewN m := fun w1 b1 => by
    obtain ⟨i', b', hi', he', hc'⟩ := outer_C (h.below b1) (by omega : s ≤ 1) hn
    have e1 := he.2 (S.hd b') (S.ky b') he'.1
    have e2 := he'.2 (S.hd b) (S.ky b) he.1
    have o1 := h.h.m.ok b (List.mem_of_getElem? hi)
    have o2 := h.h.m.ok b' (List.mem_of_getElem? hi')
    have hh : S.hd b' = S.hd b := by
      have a1 := o1.1.b
      have a2 := o1.1.c
      have a3 := o2.1.b
      have a4 := o2.1.c
      rcases (by omega : s = 0 ∨ s = 1) with rfl | rfl
      · unfold sg enc at e1 e2
        rw [if_pos rfl, if_pos rfl] at e1 e2
        omega
      · unfold sg enc at e1 e2
        rw [if_neg (by decide), if_neg (by decide)] at e1 e2
        omega
    have : b' = b := h.h.hu b' (List.mem_of_getElem? hi') b (List.mem_of_getElem? hi) hh
    rw [this] at hc'
    exact hc'
  have h34 : ∀ w1, Below w.heap.size w w1 → Calls Try.prog 70 #[.pointer (some ⟨b, 0, none⟩)] w1 fun q w' => q = .returned (.tuple #[.int .i64 (S.hd b), .agg #[.int .i64 (S.ky b).a, .int .i64 (S.ky b).b, .int .i64 (S.ky b).c], .int .i64 0]) ∧ Below w1.heap.size w1 w' := fun w1 b1 => tell_at w1 b _ _ ((h.h.m.en hi).below b1)
  subst hs
  exact min_raw w _ _ _ _ _ h35 h34
theorem ends_0 (h : Hc w hb C g 0 S) (hs : s = 0) : Calls Try.prog (fnM s) #[ptr hb] w fun e w' => e = .returned (.tuple #[.int .i64 0, ktup kz, .int .i64 3]) ∧ Below w.heap.size w w' := by
  subst hs
  exact min_raw w _ _ 0 3 kz (fun w1 b1 => outer0 (s := 0) (h.below b1)) (fun w1 _ => tell_nil w1)
theorem Less.hc {b : Nat} (h : Hc w hb C g n S) (L : Less w w' hb b S S') (hb' : b ∈ S.l) : Hc w' hb (C.del (S.hd b)) g (n - 1) S' := by
  refine ⟨L.h, ?_, by rw [L.gv, h.g], by have := L.n; have := h.n; omega⟩
  funext x
  refine cont_eq L.h.hu (fun k' q => ?_) (fun q c hc => ?_)
  · unfold Ct.del at q
    split at q
    · cases q
    · rename_i ex
      rw [← h.c] at q
      obtain ⟨c, k1, k2, k3⟩ := cont_some q
      exact ⟨c, (L.m c).2 ⟨k1, by rintro rfl; exact ex k2.symm⟩, by rw [L.hd]; exact k2, by rw [L.ky]; exact k3⟩
  · obtain ⟨c1, c2⟩ := (L.m c).1 hc
    rw [L.hd]
    unfold Ct.del at q
    split at q
    · rename_i ex
      rw [ex]
      exact fun q' => c2 (h.h.hu c c1 b hb' (by omega))
    · rw [← h.c] at q
      exact cont_none q c c1
theorem pop_C (h : Hc w hb C g n S) (hn : n ≠ 0) (hs : s = 0) : ∃ (x : Nat) (k : K), C.ext s x k ∧ Calls Try.prog (fnP s) #[ptr hb] w fun e w' => e = .returned (.tuple #[.int .i64 x, ktup k, .int .i64 0]) ∧ ∃ S', Hc w' hb (C.del x) g (n - 1) S' ∧ Chg hb S S' w w' := by
  obtain ⟨i, b, hi, he, _⟩ := outer_C h (by omega : s ≤ 1) hn
  have hbm := List.mem_of_getElem? hi
  refine ⟨S.hd b, S.ky b, he, ?_⟩
  have h35 : ∀ w1, Below w.heap.size w w1 → Calls Try.prog 71 #[.pointer (some ⟨hb, 0, none⟩), .int .i64 s] w1 fun q w' => q = .returned (.pointer (some ⟨b, 0, none⟩)) ∧ ∃ m, w' = w1.drewN m := fun w1 b1 => by
    obtain ⟨i', b', hi', he', hc'⟩ := outer_C (h.below b1) (by omega : s ≤ 1) hn
    have e1 := he.2 (S.hd b') (S.ky b') he'.1
    have e2 := he'.2 (S.hd b) (S.ky b) he.1
    have o1 := h.h.m.ok b (List.mem_of_getElem? hi)
    have o2 := h.h.m.ok b' (List.mem_of_getElem? hi')
    have hh : S.hd b' = S.hd b := by
      have a1 := o1.1.b
      have a2 := o1.1.c
      have a3 := o2.1.b
      have a4 := o2.1.c
      rcases (by omega : s = 0 ∨ s = 1) with rfl | rfl
      · unfold sg enc at e1 e2
        rw [if_pos rfl, if_pos rfl] at e1 e2
        omega
      · unfold sg enc at e1 e2
        rw [if_neg (by decide), if_neg (by decide)] at e1 e2
        omega
    have : b' = b := h.h.hu b' (List.mem_of_getElem? hi') b (List.mem_of_getElem? hi) hh
    rw [this] at hc'
    exact hc'
  have h31 : ∀ w1, Below w.heap.size w w1 → Calls Try.prog 64 #[.pointer (some ⟨hb, 0, none⟩), .int .i64 s] w1 fun q w' => q = .returned (.tuple #[.int .i64 (S.hd b), .agg #[.int .i64 (S.ky b).a, .int .i64 (S.ky b).b, .int .i64 (S.ky b).c], .int .i64 0]) ∧ Hid ((∀ g o, w.heap.size ≤ g → w1.heap[g]? = some o → w'.heap[g]? = some o) ∧ (∀ w3, Kp (fun k => w.heap.size ≤ k ∧ k < w1.heap.size) w' w3 → ∃ S', Hc w3 hb (C.del (S.hd b)) g (n - 1) S' ∧ Chg hb S S' w w3)) := fun w1 b1 => by
    have h1 := h.below b1
    refine (pop_raw w1 hb b (S.hd b) s (S.ky b) (fun w' => ∃ S', Hc w' hb (C.del (S.hd b)) g (n - 1) S' ∧ Chg hb S S' w1 w') (fun w2 b2 => h35 w2 (b1.trans (b2.mono b1.size))) (fun w2 b2 => ?_)).mono ?_
    · have h2 := h1.below b2
      refine (drop_S h2.h hi).mono ?_
      rintro q w' ⟨rfl, S', L⟩
      exact ⟨rfl, box_at h1 L.c, L.en, fun w3 k3 => ⟨S', box_keep h1 b2 L.c (L.hc h2 hbm) k3⟩⟩
    · rintro q w' ⟨rfl, S', hH, hC⟩
      exact ⟨rfl, box_at h hC, fun w3 k3 => ⟨S', box_keep h b1 hC hH k3⟩⟩
  subst hs
  exact pmin_raw w _ _ _ _ _ h31
theorem pop_0 (h : Hc w hb C g 0 S) (hs : s = 0) : Calls Try.prog (fnP s) #[ptr hb] w fun e w' => e = .returned (.tuple #[.int .i64 0, ktup kz, .int .i64 3]) ∧ Below w.heap.size w w' := by
  have h31 : ∀ w1, Below w.heap.size w w1 → Calls Try.prog 64 #[.pointer (some ⟨hb, 0, none⟩), .int .i64 s] w1 fun q w' => q = .returned (.tuple #[.int .i64 0, .agg #[.int .i64 kz.a, .int .i64 kz.b, .int .i64 kz.c], .int .i64 3]) ∧ Hid ((∀ g o, w.heap.size ≤ g → w1.heap[g]? = some o → w'.heap[g]? = some o) ∧ (∀ w3, Kp (fun k => w.heap.size ≤ k ∧ k < w1.heap.size) w' w3 → Below w.heap.size w w3)) := fun w1 b1 => by
    refine (popz_raw w1 _ s (fun w2 b2 => outer0 ((h.below b1).below b2))).mono ?_
    rintro q w' ⟨rfl, b⟩
    exact ⟨rfl, fun g o _ ho => at_below b (Nat.le_refl _) ho, fun w3 k3 => (b1.trans (b.mono b1.size)).trans (k3.below (Nat.le_trans b1.size b.size) fun k hk q => by omega)⟩
  subst hs
  exact pmin_raw w _ 0 3 kz _ h31
end
end Go.Proofs.Ytcfnonfghlgphaa.Hp

namespace Go.Proofs.Ytcfnonfghlgphaa.Hp
open Go.RowKit Go.Maps

/-! ### the calls on no heap -/
theorem outer_nil (s : Int) (w : World) : Calls Try.prog 71 #[.pointer none, .int .i64 s] w fun e w' => e = .returned (.pointer none) ∧ ∃ m, w' = w.drewN m :=
  (outer_zero w _ _ (len_nil w)).mono fun _ _ ⟨q, e⟩ => ⟨q, 0, e⟩
theorem min_nil (w : World) : Calls Try.prog 62 #[.pointer none] w fun e w' => e = .returned (.tuple #[.int .i64 0, ktup kz, .int .i64 3]) ∧ Below w.heap.size w w' := min_raw w _ _ 0 3 kz (fun w1 _ => outer_nil 0 w1) (fun w1 _ => tell_nil w1)
theorem popn (s : Nat) (w : World) (w1 : World) (b1 : Below w.heap.size w w1) : Calls Try.prog 64 #[.pointer none, .int .i64 s] w1 fun q w' => q = .returned (.tuple #[.int .i64 0, .agg #[.int .i64 kz.a, .int .i64 kz.b, .int .i64 kz.c], .int .i64 3]) ∧ Hid ((∀ g o, w.heap.size ≤ g → w1.heap[g]? = some o → w'.heap[g]? = some o) ∧ (∀ w3, Kp (fun k => w.heap.size ≤ k ∧ k < w1.heap.size) w' w3 → Below w.heap.size w w3)) := by
  refine (popz_raw w1 _ s (fun w2 _ => outer_nil s w2)).mono ?_
  rintro q w' ⟨rfl, b⟩
  exact ⟨rfl, fun g o _ ho => at_below b (Nat.le_refl _) ho, fun w3 k3 => (b1.trans (b.mono b1.size)).trans (k3.below (Nat.le_trans b1.size b.size) fun k hk q => by omega)⟩
theorem pmin_nil (w : World) : Calls Try.prog 42 #[.pointer none] w fun e w' => e = .returned (.tuple #[.int .i64 0, ktup kz, .int .i64 3]) ∧ Below w.heap.size w w' := pmin_raw w _ 0 3 kz _ (popn 0 w)
/-! ### one heap, and blocks of somebody else's -/
structure Lw (w0 w : World) (hb : Nat) (C : Ct) (g n : Nat) (T : Nat → Prop) : Prop where
  ex : ∃ S, Hc w hb C g n S ∧ ∀ k, Fp hb S k → w0.heap.size ≤ k ∧ ¬ T k
  b : Below w0.heap.size w0 w
  t : ∀ k, T k → k < w.heap.size
section
variable {w0 w w' : World} {hb ha g n : Nat} {C : Ct} {T T' : Nat → Prop} {k : K} {x : Int}
theorem Lw.below (h : Lw w0 w hb C g n T) (b : Below w.heap.size w w') : Lw w0 w' hb C g n T := by
  obtain ⟨S, h1, h2⟩ := h.ex
  exact ⟨⟨S, h1.below b, h2⟩, h.b.trans (b.mono h.b.size), fun k hk => Nat.lt_of_lt_of_le (h.t k hk) b.size⟩
theorem Lw.less (h : Lw w0 w hb C g n T) (hT : ∀ k, T' k → T k) : Lw w0 w hb C g n T' := by
  obtain ⟨S, h1, h2⟩ := h.ex
  exact ⟨⟨S, h1, fun k q => ⟨(h2 k q).1, fun t => (h2 k q).2 (hT k t)⟩⟩, h.b, fun k t => h.t k (hT k t)⟩
/-- a new block -/
theorem Lw.box (h : Lw w0 w hb C g n T) (o : Obj) : Lw w0 (w.alloc o) hb C g n (fun k => T k ∨ k = w.heap.size) := by
  have b : Below w.heap.size w (w.alloc o) := (Below.refl _ w).alloc (Nat.le_refl _) _
  obtain ⟨S, h1, h2⟩ := h.ex
  refine ⟨⟨S, h1.below b, fun k q => ⟨(h2 k q).1, ?_⟩⟩, h.b.trans (b.mono h.b.size), fun k hk => ?_⟩
  · rintro (t | t)
    · exact (h2 k q).2 t
    · have := h1.h.lt k q; omega
  · rcases hk with t | t
    · exact Nat.lt_of_lt_of_le (h.t k t) b.size
    · rw [t]; simp
/-- somebody else's block written -/
theorem Lw.set (h : Lw w0 w hb C g n T) (p : Addr) (v : Value) (hp : T p.block) (hl : w0.heap.size ≤ p.block) : Lw w0 (w.setCell p v) hb C g n T := by
  obtain ⟨S, h1, h2⟩ := h.ex
  have hs : (w.setCell p v).heap.size = w.heap.size := by simp [World.setCell]
  refine ⟨⟨S, h1.keep fun k q => Below.heap_setCell _ _ _ _ fun e => (h2 k q).2 (by rw [e]; exact hp), h2⟩, ?_, fun k t => by rw [hs]; exact h.t k t⟩
  exact h.b.trans ((Kp.of_set (S := (· = p.block)) w p v rfl).below h.b.size fun k hk e => by omega)
theorem Lw.go {C' : Ct} {g' n' : Nat} {S S' : HS} (h2 : ∀ k, Fp hb S k → w0.heap.size ≤ k ∧ ¬ T k) (h : Lw w0 w hb C g n T) (h3 : Hc w' hb C' g' n' S') (hC : Chg hb S S' w w') : Lw w0 w' hb C' g' n' T ∧ ∀ k, T k → w'.heap[k]? = w.heap[k]? := by
  refine ⟨⟨⟨S', h3, fun k q => ?_⟩, h.b.trans (hC.kp.below h.b.size fun k hk q => by have := (h2 k q).1; omega), fun k t => Nat.lt_of_lt_of_le (h.t k t) hC.kp.size⟩, fun k t => hC.kp.block k (h.t k t) fun q => (h2 k q).2 t⟩
  rcases hC.fp k q with q | q
  · exact h2 k q
  · exact ⟨Nat.le_trans h.b.size q, fun t => by have := h.t k t; omega⟩
theorem lw_new (w0 w : World) (T : Nat → Prop) (b : Below w0.heap.size w0 w) (ht : ∀ k, T k → k < w.heap.size) : Lw w0 (w.alloc (.cells zeroH 114)) w.heap.size Ct.nil 0 0 T := by
  have b1 : Below w.heap.size w (w.alloc (.cells zeroH 114)) := (Below.refl _ w).alloc (Nat.le_refl _) _
  refine ⟨⟨zS, hc_zero (new_blk w), fun k q => ?_⟩, b.trans (b1.mono b.size), fun k t => Nat.lt_of_lt_of_le (ht k t) b1.size⟩
  rcases q with q | q | q | q
  · rw [q]; exact ⟨b.size, fun t => by have := ht _ t; omega⟩
  · simp [zS] at q
  · cases q
  · cases q
theorem lw_insert (h : Lw w0 w hb C g n T) (k : K) (hk : k.ok) (hg : g < 1048576) : Calls Try.prog 38 #[ptr hb, ktup k] w fun e w' => e = .returned (.tuple #[.int .i64 g, .int .i64 0]) ∧ Lw w0 w' hb (C.put g k) (g + 1) (n + 1) T ∧ ∀ k, T k → w'.heap[k]? = w.heap[k]? := by
  obtain ⟨S, h1, h2⟩ := h.ex
  refine (insert_C h1 k hk hg).mono ?_
  rintro e w' ⟨rfl, S', h3, h4⟩
  exact ⟨rfl, h.go h2 h3 h4⟩
theorem lw_len (h : Lw w0 w hb C g n T) : Calls Try.prog 80 #[ptr hb] w fun e w' => e = .returned (.int .i64 n) ∧ w' = w := by
  obtain ⟨S, h1, h2⟩ := h.ex
  exact len_C h1
theorem lw_ends (h : Lw w0 w hb C g n T) (hn : n ≠ 0) {s : Nat} (hs : s = 0) : ∃ (x : Nat) (k : K), C.ext s x k ∧ k.ok ∧ x < g ∧ Calls Try.prog (fnM s) #[ptr hb] w fun e w' => e = .returned (.tuple #[.int .i64 x, ktup k, .int .i64 0]) ∧ Below w.heap.size w w' := by
  obtain ⟨S, h1, h2⟩ := h.ex
  obtain ⟨x, k, h3, h4⟩ := ends_C h1 hn hs
  obtain ⟨o1, y, o2, _, o3⟩ := h1.ok h3.1
  exact ⟨x, k, h3, o1, by omega, h4⟩
theorem lw_ends0 (h : Lw w0 w hb C g 0 T) {s : Nat} (hs : s = 0) : Calls Try.prog (fnM s) #[ptr hb] w fun e w' => e = .returned (.tuple #[.int .i64 0, ktup kz, .int .i64 3]) ∧ Below w.heap.size w w' := by
  obtain ⟨S, h1, h2⟩ := h.ex
  exact ends_0 h1 hs
theorem lw_pop (h : Lw w0 w hb C g n T) (hn : n ≠ 0) {s : Nat} (hs : s = 0) : ∃ (x : Nat) (k : K), C.ext s x k ∧ k.ok ∧ x < g ∧ Calls Try.prog (fnP s) #[ptr hb] w fun e w' => e = .returned (.tuple #[.int .i64 x, ktup k, .int .i64 0]) ∧ Lw w0 w' hb (C.del x) g (n - 1) T ∧ ∀ k, T k → w'.heap[k]? = w.heap[k]? := by
  obtain ⟨S, h1, h2⟩ := h.ex
  obtain ⟨x, k, h3, h4⟩ := pop_C h1 hn hs
  obtain ⟨o1, y, o2, _, o3⟩ := h1.ok h3.1
  refine ⟨x, k, h3, o1, by omega, h4.mono ?_⟩
  rintro e w' ⟨rfl, S', h5, h6⟩
  exact ⟨rfl, h.go h2 h5 h6⟩
theorem lw_pop0 (h : Lw w0 w hb C g 0 T) {s : Nat} (hs : s = 0) : Calls Try.prog (fnP s) #[ptr hb] w fun e w' => e = .returned (.tuple #[.int .i64 0, ktup kz, .int .i64 3]) ∧ Below w.heap.size w w' := by
  obtain ⟨S, h1, h2⟩ := h.ex
  exact pop_0 h1 hs
end
end Go.Proofs.Ytcfnonfghlgphaa.Hp
