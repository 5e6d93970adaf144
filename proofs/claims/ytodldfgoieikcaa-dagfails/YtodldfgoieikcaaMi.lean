/-
  Add: a job is laid into the graph, or refused.
-/
import Derived.Test.YtodldfgoieikcaaMh
namespace Go.Proofs.Ytodldfgoieikcaa
open Go.RowKit Go.Maps

theorem setCells_at {t : TypeId} {g : Nat} : ∀ (vs : List Value) (o : Nat) (w : World) (cur : Array Value), w.heap[g]? = some (.cells cur t (0, 0)) → o + vs.length ≤ cur.size →
    ∃ cur' : Array Value, (w.setCells g o vs).heap[g]? = some (.cells cur' t (0, 0)) ∧ cur'.size = cur.size ∧ ∀ j, cur'[j]? = if o ≤ j ∧ j < o + vs.length then vs[j - o]? else cur[j]?
  | [], o, w, cur, h, _ => ⟨cur, h, rfl, fun j => by rw [if_neg (by simp)]⟩
  | v :: r, o, w, cur, h, hl => by
    simp only [List.length_cons] at hl
    have h1 := setB (i := o) h v
    obtain ⟨cur', e1, e2, e3⟩ := setCells_at r (o + 1) _ _ h1 (by simp; omega)
    refine ⟨cur', e1, by rw [e2]; simp, fun j => ?_⟩
    rw [e3 j]
    by_cases h2 : o + 1 ≤ j ∧ j < o + 1 + r.length
    · rw [if_pos h2, if_pos (by simp; omega), show j - o = (j - (o + 1)) + 1 by omega, List.getElem?_cons_succ]
    · rw [if_neg h2]
      by_cases h3 : j = o
      · subst h3
        rw [if_pos (by simp), Nat.sub_self]
        simp only [List.getElem?_cons_zero]
        rw [Array.getElem?_setIfInBounds_self_of_lt (by omega)]
      · rw [if_neg (by simp; omega)]
        rw [Array.getElem?_setIfInBounds_ne (Ne.symm h3)]
theorem setCells_ne (g : Nat) {k : Nat} (hk : k ≠ g) : ∀ (vs : List Value) (o : Nat) (w : World), (w.setCells g o vs).heap[k]? = w.heap[k]?
  | [], _, _ => rfl
  | _ :: r, o, _ => (setCells_ne g hk r (o + 1) _).trans (Below.heap_setCell _ _ _ _ hk)
theorem setCells_more (g : Nat) : ∀ (vs : List Value) (o : Nat) (w : World), (w.setCells g o vs).os = w.os ∧ (w.setCells g o vs).tape = w.tape ∧ (w.setCells g o vs).output = w.output ∧ (w.setCells g o vs).heap.size = w.heap.size
  | [], _, _ => ⟨rfl, rfl, rfl, rfl⟩
  | v :: r, o, w => by
    obtain ⟨h1, h2, h3, h4⟩ := setCells_more g r (o + 1) (w.setCell ⟨g, o, none⟩ v)
    exact ⟨h1, h2, h3, by rw [World.setCells, h4]; simp [World.setCell]⟩
theorem kp_setCells {S : Nat → Prop} (w : World) (g o : Nat) (vs : List Value) (h : S g) : Kp S w (w.setCells g o vs) := by
  obtain ⟨h1, h2, h3, h4⟩ := setCells_more g vs o w
  exact ⟨h1, h2, h3, by omega, fun k _ hn => setCells_ne g (fun e => hn (by rw [e]; exact h)) vs o w⟩
def GS.add (g : GS) (i : Nat) (s : Nat → Bool) : GS := ⟨fun j => if j = i then 1 else g.st j, fun k => if k = i then s else g.ps k⟩
theorem Gr.added {w : World} {gb : Nat} {g : GS} (h : Gr w gb g) (i : Nat) (hi : i < 101) (s : Nat → Bool) : Gr (w.setCells gb (i * 102) (jA s).toList) gb (g.add i s) := by
  obtain ⟨cs, h1, h2⟩ := h.cs
  have hl : (jA s).toList.length = 102 := by rw [Array.length_toList, jA_size]
  obtain ⟨cs', e1, e2, e3⟩ := setCells_at (jA s).toList (i * 102) w cs h1 (by rw [hl]; omega)
  refine ⟨⟨cs', e1, by omega⟩, fun j hj => ?_, fun k j hk hj => ?_⟩
  · rw [cell_of e1, e3, hl]
    by_cases e : j = i
    · subst e
      rw [if_pos (by omega), Nat.sub_self, jA_list]
      simp [GS.add]
    · rw [if_neg (by omega), ← cell_of h1, h.s j hj]
      simp [GS.add, e]
  · rw [cell_of e1, e3, hl]
    by_cases e : k = i
    · subst e
      rw [if_pos (by omega), show k * 102 + 1 + j - k * 102 = j + 1 by omega, jA_list, List.getElem?_cons_succ, sL_get s j hj]
      simp [GS.add]
    · rw [if_neg (by omega), ← cell_of h1, h.p k j hk hj]
      simp [GS.add, e]
theorem Gr.there {w : World} {gb : Nat} {g : GS} (h : Gr w gb g) (i : Nat) (hi : i < 101) : w.there gb (i * 102) 102 := fun j hj => by
  obtain ⟨cs, h1, h2⟩ := h.cs
  refine ⟨?_, h.fz _⟩
  rw [cell_of h1, Array.getElem?_eq_getElem (by omega)]
  rfl
set_option maxRecDepth 100000 in
theorem fold51 (s : Nat → Bool) : List.foldl (fun (cs : Array Value) (x : Value × Nat) => cs.setIfInBounds (1 + x.snd) x.fst) ((Value.int .u8 0 :: List.replicate 101 (Value.bool false)).toArray.setIfInBounds 0 (Value.int .u8 1)) ((List.range 101).map fun i => Value.bool (s i)).zipIdx = (Value.int .u8 1 :: ((List.range 101).map fun i => Value.bool (s i))).toArray := by kernel_rfl
theorem zero51 : (Try.prog.info? 51).map (fun i => (i.zero, i.size)) = some (some (.agg (Value.int .u8 0 :: List.replicate 101 (Value.bool false)).toArray), 102) := by kernel_rfl
/-- a job is built out of its state and its parents -/
theorem build_facts (s : Nat → Bool) : ∃ (cs js : List Value) (zJ : Array Value), Try.prog.underlying 49 = some (.array 101 4) ∧ (Try.prog.info? 49).map (·.size) = some cs.length ∧ (∀ w, (zeroValue 51).run Try.prog w = .ok (.agg zJ) w) ∧ zJ.size = 102 ∧ (¬ zJ = #[]) ∧ cs.length = 101 ∧
    List.foldl (fun (cs : Array Value) (x : Value × Nat) => cs.setIfInBounds (1 + x.snd) x.fst) (zJ.setIfInBounds 0 (Value.int .u8 1)) cs.zipIdx = js.toArray ∧ (Try.prog.info? 51).map (·.size) = some js.length ∧ js.length = 102 ∧ (∀ v ∈ js, v.oneCell' = true) ∧ Hid (cs = sL s ∧ js = (jA s).toList) := by
  refine ⟨sL s, (jA s).toList, (Value.int .u8 0 :: List.replicate 101 (Value.bool false)).toArray, Try.underlying49, size49L _, (zero_of_info zero51).1, ?_, ?_, sL_len s, ?_, ?_, ?_, fun v hv => ?_, rfl, rfl⟩
  · rw [List.size_toArray, row102]
  · intro h
    have := congrArg Array.size h
    rw [List.size_toArray, row102] at this
    cases this
  · rw [jA_list]; exact fold51 s
  · rw [Array.length_toList, jA_size]; exact (zero_of_info zero51).2
  · rw [Array.length_toList, jA_size]
  · exact (Array.all_eq_true_iff_forall_mem.1 (jA_one s)) v (by simpa using hv)
theorem info51 : (Try.prog.info? 51).map (·.size) = some 102 := by kernel_rfl

/-- what Add answers, and what is there behind it -/
inductive AddR (g : GS) (x : Int) (E : List Int) : Bool → Int → GS → Prop
  | range : (allN E && isN x) = false → AddR g x E false 2 g
  | twice (i : Nat) : allN E = true → x = i → 1 ≤ i → i < 101 → g.st i ≠ 0 → AddR g x E false 5 g
  | cycle (i : Nat) : allN E = true → x = i → 1 ≤ i → i < 101 → g.st i = 0 → Rch g.ps (stI E) i → AddR g x E false 8 g
  | state (i : Nat) : allN E = true → x = i → 1 ≤ i → i < 101 → g.st i = 0 → ¬ Rch g.ps (stI E) i → afB g (stI E) = true → AddR g x E false 10 g
  | ok (i : Nat) : allN E = true → x = i → 1 ≤ i → i < 101 → g.st i = 0 → ¬ Rch g.ps (stI E) i → afB g (stI E) = false → AddR g x E (frB (g.add i (stI E)) i) 0 (g.add i (stI E))
/-- the box of the set of parents, and the graph -/
structure Ab (w W : World) (gb b : Nat) (g : GS) (s : Nat → Bool) : Prop where
  x : Sx W b s
  g : Gr W gb g
  bl : Below w.heap.size w W
  n : w.heap.size ≤ b
theorem Ab.grow {w W W1 : World} {gb b : Nat} {g : GS} {s : Nat → Bool} (h : Ab w W gb b g s) (k : Below W.heap.size W W1) : Ab w W1 gb b g s := ⟨h.x.below k h.x.lt, h.g.grow k, h.bl.trans (k.mono h.bl.size), h.n⟩
def AddP (w w' : World) (gb : Nat) (g : GS) (x : Int) (E : List Int) (a : Bool) (er : Int) : Prop := ∃ g', AddR g x E a er g' ∧ Gr w' gb g' ∧ Kp (fun k => k = gb) w w'
theorem Ab.no {w W : World} {gb b : Nat} {g : GS} {s : Nat → Bool} {x : Int} {E : List Int} {er : Int} (h : Ab w W gb b g s) (k : AddR g x E false er g) : AddP w W gb g x E false er := ⟨g, k, h.g, Kp.of_below h.bl⟩
set_option maxHeartbeats 4000000 in
set_option maxRecDepth 100000 in
theorem add_any {w : World} {gb : Nat} {g : GS} (h : Gr w gb g) (x : Int) (q : Option Addr) (n c : Nat) (E : List Int) (hn : n = E.length) (hE : AI w q E) (h9 : n ≤ 1152921504606846976) :
    Calls Try.prog 15 #[.pointer (some ⟨gb, 0, none⟩), .int .i64 x, .slice q n c] w fun e w' => ∃ a er, e = .returned (.tuple #[.bool a, .int .i64 er]) ∧ Hid (AddP w w' gb g x E a er) := by
  obtain ⟨sx, okb, hR⟩ : ∃ sx okb, setR E = .tuple #[.agg (sA sx), .bool okb] ∧ okb = allN E ∧ (okb = true → sx = stI E) := by
    unfold setR
    cases e : allN E
    · exact ⟨s0, false, rfl, rfl, fun q => by cases q⟩
    · exact ⟨stI E, true, rfl, rfl, fun _ => rfl⟩
  have H28 : Hid (Calls Try.prog 28 #[.slice q n c] w fun e w' => e = .returned (.tuple #[.agg (sA sx), .bool okb]) ∧ Hid (Below w.heap.size w w')) := (setof_any w q n c E hn hE h9).mono fun e w' ⟨h1, h2⟩ => ⟨by rw [h1, hR.1], h2⟩
  have HI : Hid (∀ w, Calls Try.prog 29 #[.int .i64 x] w fun e w' => e = .returned (.bool (isN x)) ∧ w' = w) := isn_any x
  have HG : Hid (Gr w gb g) := h
  have HGL : Hid (gb < w.heap.size) := h.lt
  have HO : Hid (okb = allN E ∧ (okb = true → sx = stI E)) := hR.2
  have hz := zero49
  clear h hR hn hE h9
  go_enter Try.func15, Try.ntmps15
  go_upto_region 4 with (first
    | (go_at_call 28; refine H28.out.mono ?_; rintro e w1 ⟨rfl, b1⟩; have HS : Sx (w1.alloc (.cells (sA s0) 49)) w1.heap.size s0 := sx_new w1 _ _ rfl; have hsz : (sA s0).size = (sA sx).size := by rw [sA_size, sA_size])
    | refine wpList_store_row rfl 49 _ _ rfl w1.heap.size (sA sx) rfl rfl 49 (sA s0) HS (size49 _) hsz (sA_one _) ?_)
  have HA : Hid (Ab w ((w1.alloc (.cells (sA s0) 49)).setRow w1.heap.size (sA sx)) gb w1.heap.size g sx) := by
    have hb : Below w.heap.size w ((w1.alloc (.cells (sA s0) 49)).setRow w1.heap.size (sA sx)) := below_setRow (b1.out.alloc b1.out.size _) b1.out.size
    exact ⟨HS.setRow, HG.out.grow hb, hb, b1.out.size⟩
  generalize (w1.alloc (.cells (sA s0) 49)).setRow w1.heap.size (sA sx) = W at *
  clear HS hsz
  generalize w1.heap.size = b at *
  clear b1 hz H28 HG
  cases okb
  · have HX : Hid (allN E = false) := HO.out.1.symm
    go_wp2_with fail
    go_ret2
    exact ⟨false, 2, rfl, HA.out.no (.range (by rw [HX.out]; rfl))⟩
  · have hsx := HO.out.2 rfl
    have HX : Hid (allN E = true) := HO.out.1.symm
    subst hsx
    clear HO
    cases hx : isN x
    · have HXX : Hid (isN x = false) := hx
      go_wp2_with (go_at_call 29; refine (HI.out _).mono ?_; rintro e w1 ⟨rfl, rfl⟩; rw [hx])
      go_ret2
      exact ⟨false, 2, rfl, HA.out.no (.range (by rw [HX.out, HXX.out]; rfl))⟩
    · obtain ⟨i, rfl, hi1, hi2⟩ := isN_nat hx
      have ci := HA.out.g.s i hi2
      have hi' : (i : Int) < 101 := by omega
      by_cases hst : g.st i = 0
      · have hst' : (((g.st i : Nat) : Int) != 0) = false := by simp [hst]
        have HST : Hid (g.st i = 0) := hst
        clear hst
        go_upto_region 8 with (go_at_call 29; refine (HI.out _).mono ?_; rintro e w1 ⟨rfl, rfl⟩; rw [hx])
        clear ci hst' HI hx
        have H30 : Hid (Calls Try.prog 30 #[.pointer (some ⟨gb, 0, none⟩), .agg (sA (stI E))] w1 fun e w' => ∃ r : Nat → Bool, e = .returned (.agg (sA r)) ∧ Hid ((∀ i, i < 101 → (r i = true ↔ Rch g.ps (stI E) i)) ∧ Ab w w' gb b g (stI E))) := (lin_any HA.out.g (stI E)).mono fun e w' ⟨r, h1, h2⟩ => ⟨r, h1, h2.out.1, HA.out.grow h2.out.2⟩
        have HX1 := HA.out.x
        clear HA
        by_cases hrc : Rch g.ps (stI E) i
        · have HRR : Hid (Rch g.ps (stI E) i) := hrc
          go_upto_region 9 with (first
            | refine wpList_load_row rfl 49 _ rfl b rfl 49 (sA (stI E)) (0, 0) _ HX1 Try.underlying49 rfl (size49 _) ?_
            | (go_at_call 30; refine H30.out.mono ?_; rintro e w2 ⟨r, rfl, h2⟩; have hix := ix_at r hi2; rw [(h2.out.1 i hi2).2 hrc] at hix))
          clear HX1 H30
          go_wp2_with fail
          go_ret2
          exact ⟨false, 8, rfl, h2.out.2.no (.cycle i HX.out rfl hi1 hi2 HST.out HRR.out)⟩
        · have HNR : Hid (¬ Rch g.ps (stI E) i) := hrc
          go_upto_region 10 with (first
            | refine wpList_load_row rfl 49 _ rfl b rfl 49 (sA (stI E)) (0, 0) _ HX1 Try.underlying49 rfl (size49 _) ?_
            | (go_at_call 30; refine H30.out.mono ?_; rintro e w2 ⟨r, rfl, h2⟩; have hix := ix_at r hi2; rw [show r i = false by cases hq : r i; rfl; exact absurd ((h2.out.1 i hi2).1 hq) hrc] at hix))
          clear HX1 H30
          have HX2 := h2.out.2.x
          have H31 : Hid (Calls Try.prog 31 #[.pointer (some ⟨gb, 0, none⟩), .agg (sA (stI E))] w2 fun e w' => e = .returned (.bool (afB g (stI E))) ∧ Hid (Ab w w' gb b g (stI E))) := (af_any h2.out.2.g (stI E)).mono fun e w' ⟨h1, h3⟩ => ⟨h1, h2.out.2.grow h3⟩
          clear h2 hrc
          cases hf : afB g (stI E)
          · go_upto_region 12 with (first
              | refine wpList_load_row rfl 49 _ rfl b rfl 49 (sA (stI E)) (0, 0) _ HX2 Try.underlying49 rfl (size49 _) ?_
              | (go_at_call 31; refine H31.out.mono ?_; rintro e w3 ⟨rfl, h3⟩; rw [hf]))
            clear HX2 H31
            have HF : Hid (afB g (stI E) = false) := hf
            clear hf
            obtain ⟨cs, js, zJ, hu49, hi49, hz51, hzs, hzn, hcl, hfold, hi51, hlj, h1j, HC⟩ := build_facts (stI E)
            have zz : w3.rangeAt b 0 cs ∧ w3.there gb (i * 102) 102 := ⟨fun j v hv => by
                rw [HC.out.1] at hv
                obtain ⟨hj, rfl⟩ := sL_of hv
                rw [Nat.zero_add]
                exact h3.out.x.cell j hj, h3.out.g.there i hi2⟩
            have zd : w3.drew.rangeAt b 0 cs ∧ w3.drew.there gb (i * 102) 102 := zz
            have hne : b ≠ gb := fun e => by have := h3.out.n; have := HGL.out; omega
            have HG4 : Hid (Gr (w3.drew.setCells gb (i * 102) js) gb (g.add i (stI E)) ∧ Kp (fun k => k = gb) w (w3.drew.setCells gb (i * 102) js)) := by
              rw [HC.out.2]
              have hg3 : Gr w3.drew gb g := h3.out.g.at rfl
              refine ⟨hg3.added i hi2 (stI E), ((Kp.of_below h3.out.bl).drew 1).trans (kp_setCells (S := fun k => k = gb) _ gb _ _ rfl) fun k _ h => h⟩
            have zs : (w3.drew.setCells gb (i * 102) js).rangeAt b 0 cs ∧ (w3.drew.setCells gb (i * 102) js).there gb (i * 102) 102 := ⟨fun j v hv => by
                have := zd.1 j v hv
                rw [← this]
                exact cell_eq (setCells_ne gb hne _ _ _), HG4.out.1.there i hi2⟩
            have hsc : (storeCells ⟨gb, i * 102, none⟩ js).run Try.prog w3.drew = .ok () (w3.drew.setCells gb (i * 102) js) := by
              have := run_storeCells_cells (P := Try.prog) gb (i * 102) js 0 w3.drew (fun j hj => by simpa using (zd.2 j (by omega)).1) (fun j hj => by simpa using (zd.2 j (by omega)).2) h1j
              simpa using this
            go_region_held3 (fun w' : World => w'.rangeAt b 0 cs ∧ w'.there gb (i * 102) 102) (first | (with_reducible assumption) | (with_reducible exact zz) | (with_reducible exact zd) | (with_reducible exact zs) | (exact zz) | (exact zs) | go_keep) (fail)
            all_goals clear zz zd zs hsc hu49 hi49 hz51 hzs hzn hcl hfold hi51 h1j h3
            all_goals generalize w3.drew.setCells gb (i * 102) js = W4 at *
            all_goals have H26 : Hid (Calls Try.prog 26 #[.pointer (some ⟨gb, 0, none⟩), .int .i64 i] W4 fun e w' => e = .returned (.bool (frB (g.add i (stI E)) i)) ∧ w' = W4) := isfree_any HG4.out.1 i hi2
            all_goals go_wp2_with (go_at_call 26; refine H26.out.mono ?_; rintro e w5 ⟨rfl, rfl⟩)
            all_goals go_ret2
            all_goals exact ⟨_, 0, rfl, _, .ok i HX.out rfl hi1 hi2 HST.out HNR.out HF.out, HG4.out⟩
          · have HF : Hid (afB g (stI E) = true) := hf
            go_wp2_with (first
              | refine wpList_load_row rfl 49 _ rfl b rfl 49 (sA (stI E)) (0, 0) _ HX2 Try.underlying49 rfl (size49 _) ?_
              | (go_at_call 31; refine H31.out.mono ?_; rintro e w3 ⟨rfl, h3⟩; rw [hf]))
            go_ret2
            exact ⟨false, 10, rfl, h3.out.no (.state i HX.out rfl hi1 hi2 HST.out HNR.out HF.out)⟩
      · have hst' : (((g.st i : Nat) : Int) != 0) = true := by simp; omega
        have HST : Hid (g.st i ≠ 0) := hst
        clear hst
        go_wp2_with (go_at_call 29; refine (HI.out _).mono ?_; rintro e w1 ⟨rfl, rfl⟩; rw [hx])
        go_ret2
        exact ⟨false, 5, rfl, HA.out.no (.twice i HX.out rfl hi1 hi2 HST.out)⟩
end Go.Proofs.Ytodldfgoieikcaa
