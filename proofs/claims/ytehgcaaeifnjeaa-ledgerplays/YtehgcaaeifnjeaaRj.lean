/-
  The document's ledger: Take, where there is room.
-/
import Derived.Test.YtehgcaaeifnjeaaRi
namespace Go.Proofs.Ytehgcaaeifnjeaa
open Go.RowKit Go.Maps Go.WideMaps

theorem room_ge {D : List A} {es : List E} {v : E} {a : A} {k : Nat} (hr : Room D (u0 D) es) (hv : es[k]? = some v) (hs : fnd A.nm v.n D = some a) (hn : a.nm = v.n) : ∀ i, i < 4 → a.us.i i + pt es a.nm i ≤ a.lim.i i := fun i hi => by
  obtain ⟨b, hb, hl⟩ := hr v (List.mem_of_getElem? hv)
  obtain rfl := Option.some.inj (hs.symm.trans hb)
  have e0 : u0 D v.n = a.us := by unfold u0; rw [hs]
  rw [e0] at hl
  have := V.le_iff.1 hl
  unfold V.add at this
  rw [hn]
  unfold pt V.i
  rcases (by omega : i = 0 ∨ i = 1 ∨ i = 2 ∨ i = 3) with rfl | rfl | rfl | rfl <;> simp only at this ⊢ <;> omega
theorem V.ok_i {v : V} (h : ∀ i, i < 4 → 0 ≤ v.i i ∧ v.i i ≤ 1099511627776) : v.ok = true := V.ok_iff.2 ⟨h 0 (by omega), h 1 (by omega), h 2 (by omega), h 3 (by omega)⟩
/-- the first j of four -/
def fj (j : Nat) (m : V) : V := ⟨if 0 < j then m.a else 0, if 1 < j then m.b else 0, if 2 < j then m.c else 0, if 3 < j then m.d else 0⟩
theorem fj0 (m : V) : fj 0 m = V.nil := by simp [fj, V.nil]
theorem fj4 (m : V) : fj 4 m = m := by simp [fj]
theorem fj_i (j : Nat) (m : V) (i : Nat) (hi : i < 4) : (fj j m).i i = if i < j then m.i i else 0 := by
  unfold fj V.i
  rcases (by omega : i = 0 ∨ i = 1 ∨ i = 2 ∨ i = 3) with rfl | rfl | rfl | rfl <;> rfl
/-- what is used behind k entries and j of the next one's four -/
def uk (D : List A) (es : List E) (k j : Nat) (n : List UInt8) : V := ((u0 D n).add (tot (es.take k) n)).add (match es[k]? with
  | some v => if v.n = n then fj j v.am else V.nil
  | none => V.nil)
theorem uk_zero (D : List A) (es : List E) (k : Nat) : uk D es k 0 = fun n => (u0 D n).add (tot (es.take k) n) := funext fun n => by
  unfold uk
  cases es[k]? with
  | none => exact V.add_nil _
  | some v =>
    simp only [fj0]
    split <;> exact V.add_nil _
theorem uk_next (D : List A) {es : List E} {k : Nat} {v : E} (h : es[k]? = some v) : uk D es k 4 = uk D es (k + 1) 0 := by
  rw [uk_zero]
  funext n
  unfold uk
  rw [h, List.take_add_one, h]
  simp only [fj4, Option.toList_some]
  rw [tot_append, V.add_assoc, tot_cons]
  split
  · rw [show tot [] n = V.nil from rfl, V.add_nil]
  · rfl
def Tkn (w w' : World) (rb : Nat) (q : Option Addr) (m c : Nat) (D : List A) (es : List E) (k j : Nat) : Prop := RAt w' rb q m c (setU (uk D es k j) D) ∧ Kp (fun x => (Value.slice q m c).ownBlock = some x) w w'
theorem tkn0 {w w' : World} {rb : Nat} {q : Option Addr} {m c : Nat} {D : List A} {es : List E} (h : RAt w rb q m c D) (b : Below w.heap.size w w') : Tkn w w' rb q m c D es 0 0 := by
  refine ⟨?_, Kp.of_below b⟩
  have : setU (uk D es 0 0) D = D := by
    rw [uk_zero]
    have e : (fun n => (u0 D n).add (tot (es.take 0) n)) = u0 D := funext fun n => V.add_nil _
    rw [e, setU_u0 h.srt]
  rw [this]
  exact h.below b
theorem Tkn.next {w w' : World} {rb : Nat} {q : Option Addr} {m c : Nat} {D : List A} {es : List E} {k : Nat} {v : E} (h : Tkn w w' rb q m c D es k 4) (hv : es[k]? = some v) : Tkn w w' rb q m c D es (k + 1) 0 := by
  unfold Tkn at *
  rwa [uk_next D hv] at h
theorem setU_at {u : List UInt8 → V} {D : List A} {k : Nat} {a : A} (h : D[k]? = some a) : (setU u D)[k]? = some ⟨a.nm, a.lim, u a.nm⟩ := by
  unfold setU
  rw [List.getElem?_map, h]
  rfl
theorem set_setU {u u' : List UInt8 → V} {D : List A} {k : Nat} {a : A} (hs : Srt A.nm D) (h : D[k]? = some a) (hu : ∀ n, n ≠ a.nm → u' n = u n) : (setU u D).set k ⟨a.nm, a.lim, u' a.nm⟩ = setU u' D := by
  refine List.ext_getElem? fun i => ?_
  have hk := (List.getElem?_eq_some_iff.1 h).1
  rw [List.getElem?_set]
  split
  · rename_i e
    subst e
    rw [if_pos (by unfold setU; rw [List.length_map]; exact hk), setU_at h]
  · rename_i e
    unfold setU
    rw [List.getElem?_map, List.getElem?_map]
    cases hi : D[i]? with
    | none => rfl
    | some b =>
      have hne : b.nm ≠ a.nm := by
        rcases Nat.lt_or_ge i k with q | q
        · exact srt_lt hs hi h q
        · exact fun e' => srt_lt hs h hi (by omega) e'.symm
      simp only [Option.map_some, hu _ hne]
theorem bnd {D : List A} {es : List E} {a : A} (hs : Srt A.nm D) (hr : Room D (u0 D) es) (ha : a ∈ D) (hok : a.lim.ok = true ∧ a.us.ok = true) (i : Nat) (hi : i < 4) : a.us.i i + pt es a.nm i ≤ 1099511627776 := by
  by_cases h : ∃ e ∈ es, e.n = a.nm
  · obtain ⟨e, he, hn⟩ := h
    obtain ⟨k, hk⟩ := List.getElem?_of_mem he
    have := room_ge hr hk (by rw [hn]; exact fnd_self hs ha) hn.symm i hi
    have := V.i_ok hok.1 i
    omega
  · have : pt es a.nm i = 0 := by
      unfold pt
      rw [tot_none fun e he q => h ⟨e, he, q⟩, V.i_nil]
    have := V.i_ok hok.2 i
    omega
theorem uk_i {D : List A} {es : List E} {k j : Nat} {v : E} (hv : es[k]? = some v) (n : List UInt8) (i : Nat) (hi : i < 4) : (uk D es k j n).i i = (u0 D n).i i + pt (es.take k) n i + (if v.n = n then (if i < j then v.am.i i else 0) else 0) := by
  unfold uk
  rw [hv, V.i_add, V.i_add]
  simp only
  split
  · rw [fj_i _ _ _ hi]; rfl
  · rw [V.i_nil]; rfl
theorem uk_ok {D : List A} {es : List E} {k j : Nat} {v : E} (hv : es[k]? = some v) (hs : Srt A.nm D) (hr : Room D (u0 D) es) (hes : ∀ e ∈ es, e.am.ok = true) {a : A} (ha : a ∈ D) (hok : a.lim.ok = true ∧ a.us.ok = true) : (uk D es k j a.nm).ok = true := by
  refine V.ok_i fun i hi => ?_
  rw [uk_i hv _ _ hi]
  have e0 : u0 D a.nm = a.us := by unfold u0; rw [fnd_self hs ha]
  rw [e0]
  have h1 := bnd hs hr ha hok i hi
  have h2 := pt_append (es.take (k + 1)) (es.drop (k + 1)) a.nm i
  rw [List.take_append_drop, pt_take hv] at h2
  have h3 := pt_pos (l := es.drop (k + 1)) (fun e he => hes e (List.mem_of_mem_drop he)) a.nm i
  have h4 := pt_pos (l := es.take k) (fun e he => hes e (List.mem_of_mem_take he)) a.nm i
  have h5 := V.i_ok (hes v (List.mem_of_getElem? hv)) i
  have h6 := V.i_ok hok.2 i
  split at h2
  · rename_i e
    rw [if_pos e]
    split <;> omega
  · rename_i e
    rw [if_neg e]
    omega
theorem aC_step {nm : List UInt8} {l u u' : V} {j : Nat} {x : Int} (hj : j < 4) (h1 : ∀ i, i < 4 → u'.i i = if i = j then x else u.i i) : aC ⟨nm, l, u'⟩ = (aC ⟨nm, l, u⟩).set (5 + j) (.int .i64 x) := by
  have a0 := h1 0 (by omega)
  have a1 := h1 1 (by omega)
  have a2 := h1 2 (by omega)
  have a3 := h1 3 (by omega)
  simp only [V.i] at a0 a1 a2 a3
  unfold aC
  rcases (by omega : j = 0 ∨ j = 1 ∨ j = 2 ∨ j = 3) with rfl | rfl | rfl | rfl <;> simp_all
theorem Tkn.step {w wr : World} {rb g m c : Nat} {D : List A} {es : List E} {k j ka : Nat} {v : E} {a : A} (h : Tkn w wr rb (some ⟨g, 0, none⟩) m c D es k j) (hr : Room D (u0 D) es) (hes : ∀ e ∈ es, e.am.ok = true) (hv : es[k]? = some v) (ha : D[ka]? = some a) (hn : a.nm = v.n) (hj : j < 4) (hs : Srt A.nm D) (hok : ∀ a ∈ D, a.lim.ok = true ∧ a.us.ok = true) :
    ∃ U : Int, (wr.cell? ⟨g, ka * 9 + 5 + j, none⟩ = some (.int .i64 U) ∧ 0 ≤ U ∧ U ≤ 1099511627776) ∧ Tkn w (wr.drew.setCell ⟨g, ka * 9 + 5 + j, none⟩ (.int .i64 (U + v.am.i j))) rb (some ⟨g, 0, none⟩) m c D es k (j + 1) := by
  have hm := List.mem_of_getElem? ha
  obtain ⟨-, -, -, -, -, u0', u1, u2, u3⟩ := h.1.row.cells (setU_at ha)
  have hcell : wr.cell? ⟨g, ka * 9 + 5 + j, none⟩ = some (.int .i64 ((uk D es k j a.nm).i j)) := by
    rcases (by omega : j = 0 ∨ j = 1 ∨ j = 2 ∨ j = 3) with rfl | rfl | rfl | rfl
    · exact u0'
    · exact u1
    · exact u2
    · exact u3
  refine ⟨_, ⟨hcell, V.i_ok (uk_ok hv hs hr hes hm (hok a hm)) j⟩, ?_, kp_one (Kp.drew h.2 1) rfl⟩
  have hx : ∀ i, i < 4 → (uk D es k (j + 1) a.nm).i i = if i = j then (uk D es k j a.nm).i j + v.am.i j else (uk D es k j a.nm).i i := fun i hi => by
    rw [uk_i hv _ _ hi, uk_i hv _ _ hj, uk_i hv _ _ hi, if_pos hn.symm, if_pos hn.symm, if_pos hn.symm, if_neg (Nat.lt_irrefl j)]
    by_cases e : i = j
    · subst e
      rw [if_pos rfl, if_pos (Nat.lt_succ_self i)]
      omega
    · rw [if_neg e]
      by_cases e2 : i < j
      · rw [if_pos e2, if_pos (by omega)]
      · rw [if_neg e2, if_neg (by omega)]
  have hset := AR.set1 (w := wr.drew) (h.1.keep (w1 := wr.drew) fun _ _ => rfl).row (setU_at ha) (j := 5 + j) (u := .int .i64 ((uk D es k j a.nm).i j + v.am.i j)) (a' := ⟨a.nm, a.lim, uk D es k (j + 1) a.nm⟩) (by omega) (aC_step hj hx)
  rw [set_setU (u' := uk D es k (j + 1)) hs ha (fun n hne => by
    unfold uk
    rw [hv]
    simp only
    rw [if_neg (fun e => hne (by rw [hn]; exact e.symm)), if_neg (fun e => hne (by rw [hn]; exact e.symm))]), ← Nat.add_assoc] at hset
  refine ⟨?_, hset, srt_setU hs, ?_, fun b hb => ?_⟩
  · exact (Below.heap_setCell _ _ _ _ (fun e => h.1.ne e.symm)).trans h.1.cell
  · have := h.1.len
    unfold setU at *
    rwa [List.length_map] at *
  · unfold setU at hb
    obtain ⟨b', hb', rfl⟩ := List.mem_map.1 hb
    exact ⟨(hok b' hb').1, uk_ok hv hs hr hes hb' (hok b' hb')⟩
set_option maxHeartbeats 4000000 in
set_option maxRecDepth 100000 in
theorem rtake_ok (w : World) (rb : Nat) (q : Option Addr) (m c : Nat) (D : List A) (s : Option Addr) (es : List E) (n cc : Nat) (hR : Hid (RAt w rb q m c D)) (hl : Hid (es.length = n)) (hn : n < 1152921504606846976) (hr : Hid (ERow w s es)) (hok : Hid (∀ e ∈ es, e.am.ok = true)) (hth : Hid (∀ e ∈ es, ∃ a, fnd A.nm e.n D = some a)) (hroom : Hid (Room D (u0 D) es)) (hsep : Hid (∀ p o, s = some ⟨p, o, none⟩ → (Value.slice q m c).ownBlock ≠ some p))
    (H40 : Hid (Calls Try.prog 40 #[.pointer (some ⟨rb, 0, none⟩), .slice s n cc] w fun e w' => e = .returned (.int .i64 0) ∧ Hid (Below w.heap.size w w'))) :
    Calls Try.prog 24 #[.pointer (some ⟨rb, 0, none⟩), .slice s n cc] w fun e w' => e = .returned (.int .i64 0) ∧ Hid (Tkn w w' rb q m c D es n 0) := by
  have H41 : Hid (∀ (w1 : World) (nm : List UInt8) (i : Nat), Below w.heap.size w w1 → i < 4 → Calls Try.prog 41 #[.slice s n cc, .string ⟨⟨nm⟩⟩, .int .i64 i] w1 fun e w' => (∃ z, e = .returned (.int .i64 z) ∧ Hid (Smd es nm i z)) ∧ w' = w1) := fun w1 nm i b hi => rsum_raw s es n cc nm i w1 hi hl hn (hr.out.keep b) hok
  have H32 : Hid (∀ (w1 : World) (k : Nat) (a : A), Below w.heap.size w w1 → D[k]? = some a → Calls Try.prog 32 #[.pointer (some ⟨rb, 0, none⟩), .string ⟨⟨a.nm⟩⟩] w1 fun e w' => e = .returned (.int .i64 k) ∧ w' = w1) := fun w1 k a b hk => rfind_yes (hR.out.below b) hk rfl
  go_enter Try.func24, Try.ntmps24
  go_upto_region 5 with (go_at_call 40; refine H40.out.mono ?_; first | rintro e w1 rfl b1 | rintro e w1 ⟨rfl, b1⟩)
  have B1 : Hid (Below w.heap.size w w1) := b1
  clear b1 H40
  go_loopw [6] (fun x wr => ∃ k : Nat, x = .int .i64 k ∧ k ≤ n ∧ Hid (True ∧ Below w.heap.size w wr)) (fun x _ => (n : Int).toNat - (intOf x).toNat)
  case atStart => exact ⟨0, rfl, by omega, trivial, B1.out⟩
  case round =>
    obtain ⟨k, rfl, hk, HI⟩ := hrel
    clear B1
    by_cases h0 : k = n
    · subst h0
      generalize hkk : k = n at *
      have HT0 : Hid (Tkn w wr rb q m c D es 0 0) := tkn0 hR.out HI.out.2
      clear H41 H32
      go_wp2_with fail
      go_loopw [9] (fun x wr => ∃ k : Nat, x = .int .i64 k ∧ k ≤ n ∧ Hid (Tkn w wr rb q m c D es k 0)) (fun x _ => (n : Int).toNat - (intOf x).toNat)
      case atStart => exact ⟨0, rfl, by omega, HT0⟩
      case round =>
        obtain ⟨k, rfl, hk, HT⟩ := hrel
        clear HT0
        by_cases h0 : k = n
        · have HT2 : Hid (Tkn w wr rb q m c D es n 0) := h0 ▸ HT
          clear HT
          subst h0
          go_wp2_with fail
          go_ret
          first | exact ⟨rfl, HT2⟩ | exact ⟨rfl, hkk ▸ HT2⟩
        · have hlt : k < es.length := by have := hl.out; omega
          have hlt' : (k : Int) < (n : Int) := by omega
          obtain ⟨v, hv⟩ : ∃ v, es[k]? = some v := ⟨es[k], List.getElem?_eq_getElem hlt⟩
          have HV : Hid (es[k]? = some v) := hv
          obtain ⟨a, ha⟩ := hth.out v (List.mem_of_getElem? hv)
          obtain ⟨ka, hka⟩ := fnd_place ha
          have HA : Hid (D[ka]? = some a ∧ a.nm = v.n) := ⟨hka, (fnd_some ha).2⟩
          obtain ⟨g, rfl⟩ := hR.out.row.some hka
          have hkm : ka < m := by have := (List.getElem?_eq_some_iff.1 hka).1; have := hR.out.n; omega
          have hkm' : (ka : Int) < (m : Int) := by omega
          obtain ⟨p, o, rfl, p0, p1, p2, p3, p4⟩ := hr.out k _ hv
          have hpg : p ≠ g := fun e => hsep.out p o rfl (by rw [e]; rfl)
          have HP : Hid (w.cell? ⟨p, o + k * 5, none⟩ = some (.string ⟨⟨a.nm⟩⟩) ∧ ∀ j, j < 4 → w.cell? ⟨p, o + k * 5 + 1 + j, none⟩ = some (.int .i64 (v.am.i j))) := by
            refine ⟨by rw [HA.out.2]; exact p0, fun j hj => ?_⟩
            rcases (by omega : j = 0 ∨ j = 1 ∨ j = 2 ∨ j = 3) with rfl | rfl | rfl | rfl
            · exact p1
            · exact p2
            · exact p3
            · exact p4
          have hpl : p < w.heap.size := cell_lt p0
          have HM : Hid (v.am.ok = true) := hok.out v (List.mem_of_getElem? hv)
          clear hv ha hka p0 p1 p2 p3 p4 hth
          go_wp2_with fail
          go_loopw [10] (fun x wr => ∃ j : Nat, x = .int .i64 j ∧ j ≤ 4 ∧ Hid (Tkn w wr rb (some ⟨g, 0, none⟩) m c D es k j)) (fun x _ => 4 - (intOf x).toNat)
          case atStart => exact ⟨0, rfl, by omega, HT⟩
          case round =>
            obtain ⟨j, rfl, hj, HJ⟩ := hrel
            clear HT
            by_cases hj4 : j = 4
            · subst hj4
              have HN : Hid (Tkn w wr rb (some ⟨g, 0, none⟩) m c D es (k + 1) 0) := HJ.out.next HV.out
              clear HJ
              go_wp2_with fail
              refine ⟨⟨k + 1, by simp, by omega, HN⟩, ?_⟩
              simp only [intOf]
              omega
            · have hj3 : j < 4 := by omega
              have hj3' : (j : Int) < 4 := by omega
              have e0 := c1 HJ.out.1.cell
              have d1 : wr.cell? ⟨p, o + k * 5, none⟩ = some (.string ⟨⟨a.nm⟩⟩) := (cell_eq (HJ.out.2.block p hpl fun e => hpg (Option.some.inj e).symm)).trans HP.out.1
              have d2 : wr.cell? ⟨p, o + k * 5 + 1 + j, none⟩ = some (.int .i64 (v.am.i j)) := (cell_eq (HJ.out.2.block p hpl fun e => hpg (Option.some.inj e).symm)).trans (HP.out.2 j hj3)
              have om := V.i_ok HM.out j
              have hne1 : rb ≠ g := fun e => HJ.out.1.ne e.symm
              obtain ⟨U, HU, HW⟩ := HJ.out.step hroom.out hok.out HV.out HA.out.1 HA.out.2 hj3 hR.out.srt hR.out.ok
              have t2d : wr.drew.cell? ⟨g, ka * 9 + 5 + j, none⟩ = some (.int .i64 U) := HU.1
              have tfd : wr.drew.frozen? ⟨g, ka * 9 + 5 + j, none⟩ = false := HJ.out.1.row.fz _
              have hw9 : IntKind.i64.wrap (U + v.am.i j) = U + v.am.i j := by have := HU.2; rw [IntKind.wrap_i64]; omega
              have HN : Hid (Tkn w (wr.drew.setCell ⟨g, ka * 9 + 5 + j, none⟩ (.int .i64 (U + v.am.i j))) rb (some ⟨g, 0, none⟩) m c D es k (j + 1)) := HW
              have D32 : Hid (Calls Try.prog 32 #[.pointer (some ⟨rb, 0, none⟩), .string ⟨⟨a.nm⟩⟩] wr.drew fun e w' => e = .returned (.int .i64 ka) ∧ w' = wr.drew) := rfind_yes (HJ.out.1.keep (w1 := wr.drew) fun _ _ => rfl) (setU_at HA.out.1) rfl
              generalize v.am.i j = M at *
              have zz : wr.cell? ⟨rb, 0, none⟩ = some (.slice (some ⟨g, 0, none⟩) m c) ∧ wr.cell? ⟨p, o + k * 5, none⟩ = some (.string ⟨⟨a.nm⟩⟩) ∧ wr.cell? ⟨p, o + k * 5 + 1 + j, none⟩ = some (.int .i64 M) := ⟨e0, d1, d2⟩
              have zd : wr.drew.cell? ⟨rb, 0, none⟩ = some (.slice (some ⟨g, 0, none⟩) m c) ∧ wr.drew.cell? ⟨p, o + k * 5, none⟩ = some (.string ⟨⟨a.nm⟩⟩) ∧ wr.drew.cell? ⟨p, o + k * 5 + 1 + j, none⟩ = some (.int .i64 M) := ⟨e0, d1, d2⟩
              have zs : (wr.drew.setCell ⟨g, ka * 9 + 5 + j, none⟩ (.int .i64 (U + M))).cell? ⟨rb, 0, none⟩ = some (.slice (some ⟨g, 0, none⟩) m c) ∧ (wr.drew.setCell ⟨g, ka * 9 + 5 + j, none⟩ (.int .i64 (U + M))).cell? ⟨p, o + k * 5, none⟩ = some (.string ⟨⟨a.nm⟩⟩) ∧ (wr.drew.setCell ⟨g, ka * 9 + 5 + j, none⟩ (.int .i64 (U + M))).cell? ⟨p, o + k * 5 + 1 + j, none⟩ = some (.int .i64 M) := ⟨(cell_eq (Below.heap_setCell wr.drew _ _ _ hne1)).trans e0, (cell_eq (Below.heap_setCell wr.drew _ _ _ hpg)).trans d1, (cell_eq (Below.heap_setCell wr.drew _ _ _ hpg)).trans d2⟩
              clear e0 d1 d2 HJ HP HW HU hR hr hsep hroom hok
              go_wp2_with fail
              refine wp_region_held_drew (S := fun W => W.cell? ⟨rb, 0, none⟩ = some (.slice (some ⟨g, 0, none⟩) m c) ∧ W.cell? ⟨p, o + k * 5, none⟩ = some (.string ⟨⟨a.nm⟩⟩) ∧ W.cell? ⟨p, o + k * 5 + 1 + j, none⟩ = some (.int .i64 M)) (by kernel_rfl) zz (fun h0 => ?_)
              refine wpAnyH_take (i := 0) (v := (.pointer (some ⟨rb, 0, none⟩))) rfl (by kernel_rfl) (by kernel_rfl) (by kernel_rfl) (fun _ _ _ h => h) (Or.inl ⟨by rfl, fun w hSw => ?_⟩) h0 ?_
              next => (clear hSw; first | rfl | go_simp)
              simp only [Act.put, List.setIfInBounds_toArray, List.set_cons_zero, List.set_cons_succ, List.getElem_toArray, List.getElem_cons_zero]
              refine wpAnyH_take (i := 1) (v := (.pointer (some ⟨rb, 0, none⟩))) rfl (by kernel_rfl) (by kernel_rfl) (by kernel_rfl) (fun _ _ _ h => h) (Or.inl ⟨by rfl, fun w hSw => ?_⟩) h0 ?_
              next => (clear hSw; first | rfl | go_simp)
              simp only [Act.put, List.setIfInBounds_toArray, List.set_cons_zero, List.set_cons_succ, List.getElem_toArray, List.getElem_cons_succ, List.getElem_cons_zero]
              refine wpAnyH_take (i := 2) (v := (.pointer (some ⟨rb, 0, none⟩))) rfl (by kernel_rfl) (by kernel_rfl) (by kernel_rfl) (fun _ _ _ h => h) (Or.inl ⟨by rfl, fun w hSw => ?_⟩) h0 ?_
              next => (clear hSw; first | rfl | go_simp)
              simp only [Act.put, List.setIfInBounds_toArray, List.set_cons_zero, List.set_cons_succ, List.getElem_toArray, List.getElem_cons_succ, List.getElem_cons_zero]
              refine wpAnyH_take (i := 3) (v := (.slice (some ⟨g, 0, none⟩) m c)) rfl (by kernel_rfl) (by kernel_rfl) (by kernel_rfl) (fun _ _ _ h => h) (Or.inl ⟨by rfl, fun w hSw => ?_⟩) h0 ?_
              next => (have hc := hSw.1; clear hSw; go_simp)
              simp only [Act.put, List.setIfInBounds_toArray, List.set_cons_zero, List.set_cons_succ, List.getElem_toArray, List.getElem_cons_succ, List.getElem_cons_zero]
              refine wpAnyH_take (i := 4) (v := (.pointer (some ⟨rb, 0, none⟩))) rfl (by kernel_rfl) (by kernel_rfl) (by kernel_rfl) (fun _ _ _ h => h) (Or.inl ⟨by rfl, fun w hSw => ?_⟩) h0 ?_
              next => (clear hSw; first | rfl | go_simp)
              simp only [Act.put, List.setIfInBounds_toArray, List.set_cons_zero, List.set_cons_succ, List.getElem_toArray, List.getElem_cons_succ, List.getElem_cons_zero]
              refine wpAnyH_take (i := 5) (v := (.slice (some ⟨p, o, none⟩) n cc)) rfl (by kernel_rfl) (by kernel_rfl) (by kernel_rfl) (fun _ _ _ h => h) (Or.inl ⟨by rfl, fun w hSw => ?_⟩) h0 ?_
              next => (clear hSw; first | rfl | go_simp)
              simp only [Act.put, List.setIfInBounds_toArray, List.set_cons_zero, List.set_cons_succ, List.getElem_toArray, List.getElem_cons_succ, List.getElem_cons_zero]
              refine wpAnyH_take (i := 6) (v := (.int .i64 (k : Nat))) rfl (by kernel_rfl) (by kernel_rfl) (by kernel_rfl) (fun _ _ _ h => h) (Or.inl ⟨by rfl, fun w hSw => ?_⟩) h0 ?_
              next => (clear hSw; first | rfl | go_simp)
              simp only [Act.put, List.setIfInBounds_toArray, List.set_cons_zero, List.set_cons_succ, List.getElem_toArray, List.getElem_cons_succ, List.getElem_cons_zero]
              refine wpAnyH_take (i := 7) (v := (.pointer (some ⟨p, o + k * 5, none⟩))) rfl (by kernel_rfl) (by kernel_rfl) (by kernel_rfl) (fun _ _ _ h => h) (Or.inl ⟨by rfl, fun w hSw => ?_⟩) h0 ?_
              next => (clear hSw; first | rfl | go_simp)
              simp only [Act.put, List.setIfInBounds_toArray, List.set_cons_zero, List.set_cons_succ, List.getElem_toArray, List.getElem_cons_succ, List.getElem_cons_zero]
              refine wpAnyH_take (i := 8) (v := (.pointer (some ⟨p, o + k * 5, none⟩))) rfl (by kernel_rfl) (by kernel_rfl) (by kernel_rfl) (fun _ _ _ h => h) (Or.inl ⟨by rfl, fun w hSw => ?_⟩) h0 ?_
              next => (clear hSw; first | rfl | go_simp)
              simp only [Act.put, List.setIfInBounds_toArray, List.set_cons_zero, List.set_cons_succ, List.getElem_toArray, List.getElem_cons_succ, List.getElem_cons_zero]
              refine wpAnyH_take (i := 9) (v := (.string ⟨⟨a.nm⟩⟩)) rfl (by kernel_rfl) (by kernel_rfl) (by kernel_rfl) (fun _ _ _ h => h) (Or.inl ⟨by rfl, fun w hSw => ?_⟩) h0 ?_
              next => (have hc := hSw.2.1; clear hSw; go_simp)
              simp only [Act.put, List.setIfInBounds_toArray, List.set_cons_zero, List.set_cons_succ, List.getElem_toArray, List.getElem_cons_succ, List.getElem_cons_zero]
              refine wpAnyH_take (i := 11) (v := (.int .i64 (j : Nat))) rfl (by kernel_rfl) (by kernel_rfl) (by kernel_rfl) (fun _ _ _ h => h) (Or.inl ⟨by rfl, fun w hSw => ?_⟩) h0 ?_
              next => (clear hSw; first | rfl | go_simp)
              simp only [Act.put, List.setIfInBounds_toArray, List.set_cons_zero, List.set_cons_succ, List.getElem_toArray, List.getElem_cons_succ, List.getElem_cons_zero]
              refine wpAnyH_take (i := 16) (v := (.slice (some ⟨p, o, none⟩) n cc)) rfl (by kernel_rfl) (by kernel_rfl) (by kernel_rfl) (fun _ _ _ h => h) (Or.inl ⟨by rfl, fun w hSw => ?_⟩) h0 ?_
              next => (clear hSw; first | rfl | go_simp)
              simp only [Act.put, List.setIfInBounds_toArray, List.set_cons_zero, List.set_cons_succ, List.getElem_toArray, List.getElem_cons_succ, List.getElem_cons_zero]
              refine wpAnyH_take (i := 17) (v := (.int .i64 (k : Nat))) rfl (by kernel_rfl) (by kernel_rfl) (by kernel_rfl) (fun _ _ _ h => h) (Or.inl ⟨by rfl, fun w hSw => ?_⟩) h0 ?_
              next => (clear hSw; first | rfl | go_simp)
              simp only [Act.put, List.setIfInBounds_toArray, List.set_cons_zero, List.set_cons_succ, List.getElem_toArray, List.getElem_cons_succ, List.getElem_cons_zero]
              refine wpAnyH_take (i := 18) (v := (.int .i64 (j : Nat))) rfl (by kernel_rfl) (by kernel_rfl) (by kernel_rfl) (fun _ _ _ h => h) (Or.inl ⟨by rfl, fun w hSw => ?_⟩) h0 ?_
              next => (clear hSw; first | rfl | go_simp)
              simp only [Act.put, List.setIfInBounds_toArray, List.set_cons_zero, List.set_cons_succ, List.getElem_toArray, List.getElem_cons_succ, List.getElem_cons_zero]
              refine wpAnyH_take (i := 19) (v := (.pointer (some ⟨p, o + k * 5, none⟩))) rfl (by kernel_rfl) (by kernel_rfl) (by kernel_rfl) (fun _ _ _ h => h) (Or.inl ⟨by rfl, fun w hSw => ?_⟩) h0 ?_
              next => (clear hSw; first | rfl | go_simp)
              simp only [Act.put, List.setIfInBounds_toArray, List.set_cons_zero, List.set_cons_succ, List.getElem_toArray, List.getElem_cons_succ, List.getElem_cons_zero]
              refine wpAnyH_take (i := 20) (v := (.pointer (some ⟨p, o + k * 5 + 1, none⟩))) rfl (by kernel_rfl) (by kernel_rfl) (by kernel_rfl) (fun _ _ _ h => h) (Or.inl ⟨by rfl, fun w hSw => ?_⟩) h0 ?_
              next => (clear hSw; first | rfl | go_simp)
              simp only [Act.put, List.setIfInBounds_toArray, List.set_cons_zero, List.set_cons_succ, List.getElem_toArray, List.getElem_cons_succ, List.getElem_cons_zero]
              refine wpAnyH_take (i := 21) (v := (.pointer (some ⟨p, o + k * 5 + 1 + j, none⟩))) rfl (by kernel_rfl) (by kernel_rfl) (by kernel_rfl) (fun _ _ _ h => h) (Or.inl ⟨by rfl, fun w hSw => ?_⟩) h0 ?_
              next => (clear hSw; first | rfl | go_simp)
              simp only [Act.put, List.setIfInBounds_toArray, List.set_cons_zero, List.set_cons_succ, List.getElem_toArray, List.getElem_cons_succ, List.getElem_cons_zero]
              refine wpAnyH_take (i := 22) (v := (.int .i64 M)) rfl (by kernel_rfl) (by kernel_rfl) (by kernel_rfl) (fun _ _ _ h => h) (Or.inl ⟨by rfl, fun w hSw => ?_⟩) h0 ?_
              next => (have hc := hSw.2.2; clear hSw; go_simp)
              simp only [Act.put, List.setIfInBounds_toArray, List.set_cons_zero, List.set_cons_succ, List.getElem_toArray, List.getElem_cons_succ, List.getElem_cons_zero]
              refine wpAnyH_ready (rs := [10]) (by kernel_rfl) (by simp) (AllReadyH.cons rfl (fun K hK => ?_) AllReadyH.nil)
              go_simp
              go_wp2_with (go_at_call 32; refine D32.out.mono ?_; rintro e w4 ⟨rfl, hw4⟩; rw [hw4]; clear hw4 w4)
              refine hK.out _ _ zd (fun h1 => ?_)
              refine wpAnyH_take (i := 12) (v := (.pointer (some ⟨g, ka * 9, none⟩))) rfl (by kernel_rfl) (by kernel_rfl) (by kernel_rfl) (fun _ _ _ h => h) (Or.inl ⟨by rfl, fun w hSw => ?_⟩) h1 ?_
              next => (clear hSw; first | rfl | go_simp)
              simp only [Act.put, List.setIfInBounds_toArray, List.set_cons_zero, List.set_cons_succ, List.getElem_toArray, List.getElem_cons_succ, List.getElem_cons_zero]
              refine wpAnyH_take (i := 13) (v := (.pointer (some ⟨g, ka * 9 + 5, none⟩))) rfl (by kernel_rfl) (by kernel_rfl) (by kernel_rfl) (fun _ _ _ h => h) (Or.inl ⟨by rfl, fun w hSw => ?_⟩) h1 ?_
              next => (clear hSw; first | rfl | go_simp)
              simp only [Act.put, List.setIfInBounds_toArray, List.set_cons_zero, List.set_cons_succ, List.getElem_toArray, List.getElem_cons_succ, List.getElem_cons_zero]
              refine wpAnyH_take (i := 14) (v := (.pointer (some ⟨g, ka * 9 + 5 + j, none⟩))) rfl (by kernel_rfl) (by kernel_rfl) (by kernel_rfl) (fun _ _ _ h => h) (Or.inl ⟨by rfl, fun w hSw => ?_⟩) h1 ?_
              next => (clear hSw; first | rfl | go_simp)
              simp only [Act.put, List.setIfInBounds_toArray, List.set_cons_zero, List.set_cons_succ, List.getElem_toArray, List.getElem_cons_succ, List.getElem_cons_zero]
              refine wpAnyH_take (i := 24) (v := (.pointer (some ⟨g, ka * 9, none⟩))) rfl (by kernel_rfl) (by kernel_rfl) (by kernel_rfl) (fun _ _ _ h => h) (Or.inl ⟨by rfl, fun w hSw => ?_⟩) h1 ?_
              next => (clear hSw; first | rfl | go_simp)
              simp only [Act.put, List.setIfInBounds_toArray, List.set_cons_zero, List.set_cons_succ, List.getElem_toArray, List.getElem_cons_succ, List.getElem_cons_zero]
              refine wpAnyH_take (i := 25) (v := (.pointer (some ⟨g, ka * 9 + 5, none⟩))) rfl (by kernel_rfl) (by kernel_rfl) (by kernel_rfl) (fun _ _ _ h => h) (Or.inl ⟨by rfl, fun w hSw => ?_⟩) h1 ?_
              next => (clear hSw; first | rfl | go_simp)
              simp only [Act.put, List.setIfInBounds_toArray, List.set_cons_zero, List.set_cons_succ, List.getElem_toArray, List.getElem_cons_succ, List.getElem_cons_zero]
              refine wpAnyH_ready (rs := [15]) (by kernel_rfl) (by simp) (AllReadyH.cons rfl (fun K hK => ?_) AllReadyH.nil)
              go_simp
              refine hK.out _ _ zd (fun h2 => ?_)
              refine wpAnyH_take (i := 23) (v := (.int .i64 (U + M))) rfl (by kernel_rfl) (by kernel_rfl) (by kernel_rfl) (fun _ _ _ h => h) (Or.inl ⟨by rfl, fun w hSw => ?_⟩) h2 ?_
              next => (clear hSw; first | rfl | go_simp)
              simp only [Act.put, List.setIfInBounds_toArray, List.set_cons_zero, List.set_cons_succ, List.getElem_toArray, List.getElem_cons_succ, List.getElem_cons_zero]
              refine wpAnyH_take (i := 26) (v := (.pointer (some ⟨g, ka * 9 + 5 + j, none⟩))) rfl (by kernel_rfl) (by kernel_rfl) (by kernel_rfl) (fun _ _ _ h => h) (Or.inl ⟨by rfl, fun w hSw => ?_⟩) h2 ?_
              next => (clear hSw; first | rfl | go_simp)
              simp only [Act.put, List.setIfInBounds_toArray, List.set_cons_zero, List.set_cons_succ, List.getElem_toArray, List.getElem_cons_succ, List.getElem_cons_zero]
              refine wpAnyH_ready (rs := [27]) (by kernel_rfl) (by simp) (AllReadyH.cons rfl (fun K hK => ?_) AllReadyH.nil)
              go_simp
              refine hK.out _ _ zs (fun h3 => ?_)
              clear h0 h1 h2 h3 hK zs zd zz t2d tfd D32
              have HN : Hid (Tkn w (wr.setCell ⟨g, ka * 9 + 5 + j, none⟩ (.int .i64 (U + M))).drew rb (some ⟨g, 0, none⟩) m c D es k (j + 1)) := HN
              generalize (wr.setCell ⟨g, ka * 9 + 5 + j, none⟩ (.int .i64 (U + M))).drew = W9 at *
              refine wpAnyH_done (by kernel_rfl) ?_ _
              go_wp2_with fail
              refine ⟨⟨j + 1, by simp, by omega, HN⟩, ?_⟩
              simp only [intOf]
              omega
    · have hlt : k < es.length := by have := hl.out; omega
      have hlt' : (k : Int) < (n : Int) := by omega
      obtain ⟨v, hv⟩ : ∃ v, es[k]? = some v := ⟨es[k], List.getElem?_eq_getElem hlt⟩
      obtain ⟨a, ha⟩ := hth.out v (List.mem_of_getElem? hv)
      obtain ⟨ka, hka⟩ := fnd_place ha
      have hnm : a.nm = v.n := (fnd_some ha).2
      obtain ⟨g, rfl⟩ := hR.out.row.some hka
      have hkm : ka < m := by have := (List.getElem?_eq_some_iff.1 hka).1; have := hR.out.n; omega
      have hkm' : (ka : Int) < (m : Int) := by omega
      obtain ⟨p, o, rfl, d0, -⟩ := (hr.out.keep HI.out.2) k _ hv
      have d1 : wr.cell? ⟨p, o + k * 5, none⟩ = some (.string ⟨⟨a.nm⟩⟩) := by rw [hnm]; exact d0
      have R1 : RAt wr rb (some ⟨g, 0, none⟩) m c D := hR.out.below (below_from HI.out.2 (Below.refl _ _) HI.out.2.size)
      have e0 := c1 R1.cell
      obtain ⟨a0, a1, a2, a3, a4, a5, a6, a7, a8⟩ := R1.row.cells hka
      have G32 : Hid (∀ (w1 : World), Below w.heap.size w w1 → Calls Try.prog 32 #[.pointer (some ⟨rb, 0, none⟩), .string ⟨⟨a.nm⟩⟩] w1 fun e w' => e = .returned (.int .i64 ka) ∧ w' = w1) := fun w1 b => H32.out w1 ka a b hka
      have hrbl : rb < wr.heap.size := R1.lt
      have hgl : g < wr.heap.size := R1.row.lt rfl
      have hpl : p < wr.heap.size := cell_lt d1
      have HX : Hid (es[k]? = some v ∧ fnd A.nm v.n D = some a ∧ a.nm = v.n ∧ a ∈ D) := ⟨hv, ha, hnm, (fnd_some ha).1⟩
      clear d0 hv ha hka hnm R1 H32 hth
      go_wp2_with fail
      have SS : Hid (∀ W, Below wr.heap.size wr W → W.cell? ⟨rb, 0, none⟩ = some (.slice (some ⟨g, 0, none⟩) m c) ∧ W.cell? ⟨p, o + k * 5, none⟩ = some (.string ⟨⟨a.nm⟩⟩) ∧ W.cell? ⟨g, ka * 9, none⟩ = some (.string ⟨⟨a.nm⟩⟩) ∧ W.cell? ⟨g, ka * 9 + 1, none⟩ = some (.int .i64 a.lim.a) ∧ W.cell? ⟨g, ka * 9 + 2, none⟩ = some (.int .i64 a.lim.b) ∧ W.cell? ⟨g, ka * 9 + 3, none⟩ = some (.int .i64 a.lim.c) ∧ W.cell? ⟨g, ka * 9 + 4, none⟩ = some (.int .i64 a.lim.d) ∧ W.cell? ⟨g, ka * 9 + 5, none⟩ = some (.int .i64 a.us.a) ∧ W.cell? ⟨g, ka * 9 + 6, none⟩ = some (.int .i64 a.us.b) ∧ W.cell? ⟨g, ka * 9 + 7, none⟩ = some (.int .i64 a.us.c) ∧ W.cell? ⟨g, ka * 9 + 8, none⟩ = some (.int .i64 a.us.d)) := fun W b => ⟨cell_below e0 b, cell_below d1 b, cell_below a0 b, cell_below a1 b, cell_below a2 b, cell_below a3 b, cell_below a4 b, cell_below a5 b, cell_below a6 b, cell_below a7 b, cell_below a8 b⟩
      have zz := SS.out _ (Below.refl _ wr)
      have zd := SS.out _ (Below.refl _ wr).drew
      have za := SS.out _ ((Below.refl _ wr).drew.alloc (Nat.le_refl _) (.cells #[.string ⟨#[]⟩, .int .i64 0, .int .i64 0, .int .i64 0, .int .i64 0, .int .i64 0, .int .i64 0, .int .i64 0, .int .i64 0] 65))
      have D32 : Hid (Calls Try.prog 32 #[.pointer (some ⟨rb, 0, none⟩), .string ⟨⟨a.nm⟩⟩] wr.drew fun e w' => e = .returned (.int .i64 ka) ∧ w' = wr.drew) := G32.out _ HI.out.2.drew
      have A32 : Hid (Calls Try.prog 32 #[.pointer (some ⟨rb, 0, none⟩), .string ⟨⟨a.nm⟩⟩] (wr.drew.alloc (.cells #[.string ⟨#[]⟩, .int .i64 0, .int .i64 0, .int .i64 0, .int .i64 0, .int .i64 0, .int .i64 0, .int .i64 0, .int .i64 0] 65)) fun e w' => e = .returned (.int .i64 ka) ∧ w' = (wr.drew.alloc (.cells #[.string ⟨#[]⟩, .int .i64 0, .int .i64 0, .int .i64 0, .int .i64 0, .int .i64 0, .int .i64 0, .int .i64 0, .int .i64 0] 65))) := G32.out _ (HI.out.2.drew.alloc (by have := HI.out.2.size; simpa using this) _)
      have hn1 : rb ≠ wr.heap.size := by omega
      have hn2 : g ≠ wr.heap.size := by omega
      have hn3 : p ≠ wr.heap.size := by omega
      clear e0 d1 a0 a1 a2 a3 a4 a5 a6 a7 a8
      have HZ : Hid (Below wr.heap.size wr (wr.alloc (.cells #[.string ⟨⟨a.nm⟩⟩, .int .i64 a.lim.a, .int .i64 a.lim.b, .int .i64 a.lim.c, .int .i64 a.lim.d, .int .i64 a.us.a, .int .i64 a.us.b, .int .i64 a.us.c, .int .i64 a.us.d] 65)).drew ∧ (wr.alloc (.cells #[.string ⟨⟨a.nm⟩⟩, .int .i64 a.lim.a, .int .i64 a.lim.b, .int .i64 a.lim.c, .int .i64 a.lim.d, .int .i64 a.us.a, .int .i64 a.us.b, .int .i64 a.us.c, .int .i64 a.us.d] 65)).drew.heap[wr.heap.size]? = some (cpy a)) := ⟨((Below.refl _ wr).alloc (Nat.le_refl _) _).drew, new0⟩
      go_cut [7] from 17 to 35 (fun s7 wx => s7 = .pointer (some ⟨wr.heap.size, 0, none⟩) ∧ Hid (Below wr.heap.size wr wx ∧ wx.heap[wr.heap.size]? = some (cpy a)))
      case first =>
        go_region_held3 (fun W : World => W.cell? ⟨rb, 0, none⟩ = some (.slice (some ⟨g, 0, none⟩) m c) ∧ W.cell? ⟨p, o + k * 5, none⟩ = some (.string ⟨⟨a.nm⟩⟩) ∧ W.cell? ⟨g, ka * 9, none⟩ = some (.string ⟨⟨a.nm⟩⟩) ∧ W.cell? ⟨g, ka * 9 + 1, none⟩ = some (.int .i64 a.lim.a) ∧ W.cell? ⟨g, ka * 9 + 2, none⟩ = some (.int .i64 a.lim.b) ∧ W.cell? ⟨g, ka * 9 + 3, none⟩ = some (.int .i64 a.lim.c) ∧ W.cell? ⟨g, ka * 9 + 4, none⟩ = some (.int .i64 a.lim.d) ∧ W.cell? ⟨g, ka * 9 + 5, none⟩ = some (.int .i64 a.us.a) ∧ W.cell? ⟨g, ka * 9 + 6, none⟩ = some (.int .i64 a.us.b) ∧ W.cell? ⟨g, ka * 9 + 7, none⟩ = some (.int .i64 a.us.c) ∧ W.cell? ⟨g, ka * 9 + 8, none⟩ = some (.int .i64 a.us.d)) (first | (with_reducible assumption) | (with_reducible exact zd) | (with_reducible exact zz) | (with_reducible exact za) | (exact za) | go_keep) (first | (go_at_call 32; refine D32.out.mono ?_; rintro e w4 ⟨rfl, hw4⟩; rw [hw4]; clear hw4 w4) | (go_at_call 32; refine A32.out.mono ?_; rintro e w4 ⟨rfl, hw4⟩; rw [hw4]; clear hw4 w4))
        all_goals (go_wp2_with fail; go_meet)
        all_goals exact ⟨rfl, HZ⟩
      case rest =>
        obtain ⟨rfl, HC⟩ := hcut
        clear HZ D32 A32 G32 zz zd za SS hn1 hn2 hn3 hrbl hgl hpl
        have hbl : w.heap.size ≤ wr.heap.size := HI.out.2.size
        generalize wr.heap.size = b7 at *
        have HB7 : Hid (Below w.heap.size w wc ∧ wc.heap[b7]? = some (cpy a)) := ⟨HI.out.2.trans (HC.out.1.mono hbl), HC.out.2⟩
        have HO : Hid (a.lim.ok = true ∧ a.us.ok = true) := hR.out.ok a HX.out.2.2.2
        have HQ : Hid (∀ i, i < 4 → a.us.i i + pt es a.nm i ≤ a.lim.i i) := room_ge hroom.out HX.out.1 HX.out.2.1 HX.out.2.2.1
        clear HC HI
        go_wp2_with fail
        go_loopw [8] (fun x wr => ∃ j : Nat, x = .int .i64 j ∧ j ≤ 4 ∧ Hid ((∀ i, i < j → a.us.i i + pt es a.nm i ≤ a.lim.i i) ∧ Below w.heap.size w wr ∧ wr.heap[b7]? = some (cpy a))) (fun x _ => 4 - (intOf x).toNat)
        case atStart => exact ⟨0, rfl, by omega, fun _ h => absurd h (by omega), HB7.out⟩
        case round =>
          obtain ⟨j, rfl, hj, HJ⟩ := hrel
          clear HB7
          by_cases hj4 : j = 4
          · subst hj4
            clear HQ
            go_wp2_with fail
            refine ⟨⟨k + 1, by simp, by omega, trivial, HJ.out.2.1⟩, ?_⟩
            simp only [intOf]
            omega
          · have hj3 : j < 4 := by omega
            have hj3' : (j : Int) < 4 := by omega
            obtain ⟨c0, c1, c2, c3, c4, c5, c6, c7, c8⟩ := cells9 HJ.out.2.2
            have cu : wr.cell? ⟨b7, 5 + j, none⟩ = some (.int .i64 (a.us.i j)) := by
              rcases (by omega : j = 0 ∨ j = 1 ∨ j = 2 ∨ j = 3) with rfl | rfl | rfl | rfl
              · exact c5
              · exact c6
              · exact c7
              · exact c8
            have cl : wr.cell? ⟨b7, 1 + j, none⟩ = some (.int .i64 (a.lim.i j)) := by
              rcases (by omega : j = 0 ∨ j = 1 ∨ j = 2 ∨ j = 3) with rfl | rfl | rfl | rfl
              · exact c1
              · exact c2
              · exact c3
              · exact c4
            have zz : wr.cell? ⟨b7, 0, none⟩ = some (.string ⟨⟨a.nm⟩⟩) ∧ wr.cell? ⟨b7, 5 + j, none⟩ = some (.int .i64 (a.us.i j)) ∧ wr.cell? ⟨b7, 1 + j, none⟩ = some (.int .i64 (a.lim.i j)) := ⟨c0, cu, cl⟩
            have zd : wr.drew.cell? ⟨b7, 0, none⟩ = some (.string ⟨⟨a.nm⟩⟩) ∧ wr.drew.cell? ⟨b7, 5 + j, none⟩ = some (.int .i64 (a.us.i j)) ∧ wr.drew.cell? ⟨b7, 1 + j, none⟩ = some (.int .i64 (a.lim.i j)) := ⟨c0, cu, cl⟩
            have D41 : Hid (Calls Try.prog 41 #[.slice (some ⟨p, o, none⟩) n cc, .string ⟨⟨a.nm⟩⟩, .int .i64 j] wr.drew fun e w' => (∃ z, e = .returned (.int .i64 z) ∧ Hid (Smd es a.nm j z)) ∧ w' = wr.drew) := H41.out _ _ _ HJ.out.2.1.drew hj3
            have ou := V.i_ok HO.out.2 j
            have ol := V.i_ok HO.out.1 j
            generalize hU : a.us.i j = U at *
            generalize hL : a.lim.i j = L at *
            have HJ2 : Hid ((∀ i, i < j → a.us.i i + pt es a.nm i ≤ a.lim.i i) ∧ a.us.i j = U ∧ a.lim.i j = L ∧ Below w.heap.size w wr.drew ∧ wr.drew.heap[b7]? = some (cpy a)) := ⟨HJ.out.1, hU, hL, HJ.out.2.1.drew, HJ.out.2.2⟩
            clear c0 c1 c2 c3 c4 c5 c6 c7 c8 cu cl HJ hU hL H41
            go_wp2_with fail
            go_cut [54] from 40 to 53 (fun x wx => wx = wr.drew ∧ ∃ z, x = .bool (decide (L < U + z)) ∧ Hid (Smd es a.nm j z))
            case first =>
              go_region_held3 (fun W : World => W.cell? ⟨b7, 0, none⟩ = some (.string ⟨⟨a.nm⟩⟩) ∧ W.cell? ⟨b7, 5 + j, none⟩ = some (.int .i64 U) ∧ W.cell? ⟨b7, 1 + j, none⟩ = some (.int .i64 L)) (first | (with_reducible assumption) | (with_reducible exact zd) | (with_reducible exact zz) | (exact zz) | go_keep) (first | (go_at_call 41; refine D41.out.mono ?_; rintro e w4 ⟨⟨z, rfl, hz⟩, hw4⟩; rw [hw4]; clear hw4 w4; have hw9 : IntKind.i64.wrap (U + z) = U + z := by have h1 := hz.out.1; have h2 := hz.out.2.1; rw [IntKind.wrap_i64]; omega))
              all_goals (go_wp2_with fail; go_meet)
              all_goals exact ⟨rfl, z, rfl, hz⟩
            case rest =>
              obtain ⟨rfl, z, rfl, hz⟩ := hcut
              generalize wr.drew = wd at *
              by_cases hb : L < U + z
              · have h9 := hz.out.gt (x := L - U) (by omega)
                have h8 := HQ.out j hj3
                rw [HJ2.out.2.1, HJ2.out.2.2.1] at h8
                omega
              · have HE : Hid ((∀ i, i < j + 1 → a.us.i i + pt es a.nm i ≤ a.lim.i i) ∧ Below w.heap.size w wd ∧ wd.heap[b7]? = some (cpy a)) := by
                  refine ⟨fun i hi => ?_, HJ2.out.2.2.2⟩
                  by_cases e : i = j
                  · subst e
                    rw [HJ2.out.2.1, HJ2.out.2.2.1]
                    have := hz.out.gt (x := L - U) (by omega)
                    omega
                  · exact HJ2.out.1 i (by omega)
                clear HJ2
                go_wp2_with fail
                refine ⟨⟨j + 1, by simp, by omega, HE⟩, ?_⟩
                simp only [intOf]
                omega
end Go.Proofs.Ytehgcaaeifnjeaa
