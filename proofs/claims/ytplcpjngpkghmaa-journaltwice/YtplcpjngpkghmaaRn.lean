/-
  Rename.
-/
import Derived.Test.YtplcpjngpkghmaaNm
namespace Go.Proofs.Ytplcpjngpkghmaa
open Go.RowKit Go.Maps Go.WideMaps Go.Sort

def renameD (D : DK) (n t : List UInt8) : Int × DK := if D.down then (11, D) else match fnd Fil.nm n D.fs with
  | none => (3, D)
  | some f => if okN t = false then (4, D) else if (burn D).1 then (0, ⟨ins Fil.nm ⟨t, f.b, f.sy⟩ (drp Fil.nm t (drp Fil.nm n D.fs)), (burn D).2.down, (burn D).2.fuse⟩) else (11, (burn D).2)

def tagM (tg : Nat → Tg) (n t : List UInt8) : Nat → Tg := fun k => match tg k with
  | .fl x => if x = n then .fl t else if x = t then .no else .fl x
  | .rw x => if x = n then .rw t else if x = t then .no else .rw x
  | y => y
theorem tagM_no {tg : Nat → Tg} {n t : List UInt8} {k : Nat} (h : tagM tg n t k ≠ .no) : tg k ≠ .no := fun e => h (by unfold tagM; rw [e])
theorem drp_lt {α : Type} {nm : α → List UInt8} {n : List UInt8} {l : List α} {f : α} (h : fnd nm n l = some f) : (drp nm n l).length < l.length := by
  obtain ⟨h1, h2⟩ := fnd_some h
  unfold drp
  exact List.length_filter_lt_length_iff_exists.2 ⟨f, h1, by simp [h2]⟩
theorem drp_le {α : Type} {nm : α → List UInt8} {n : List UInt8} {l : List α} : (drp nm n l).length ≤ l.length := List.length_filter_le ..

/-- a file taken out of the map and put in again under another name -/
theorem DkAt.renamed {w w3 w4 : World} {tg : Nat → Tg} {pb m m' : Nat} {D : DK} {l : List Fl} {z : Int} {f : Fl} {n t : List UInt8} (h : DkAt w tg pb D (some m) l z) (hf : fnd Fl.nm n l = some f) (ht : w.mapTurned w3 m)
    (hm' : some m = some m' ∨ (some m = none ∧ m' = w3.heap.size)) (hc : w4.heap[pb]? = some (.cells #[.map (some m'), .bool D.down, .bool D.fuse.isSome, .int .i64 z] 63 (0, 0)))
    (ho : w4.ownsMap Try.prog 9 pE m' (ins Fl.nm ⟨t, f.b, f.sy, f.fb, f.v⟩ (drp Fl.nm t (drp Fl.nm n l))).length (mapOf (ins Fl.nm ⟨t, f.b, f.sy, f.fb, f.v⟩ (drp Fl.nm t (drp Fl.nm n l))))) (hk : Kp (fun k => k = pb ∨ some k = some m) w3 w4) :
    DkAt w4 (tagM tg n t) pb ⟨ins Fil.nm ⟨t, f.b, f.sy⟩ (drp Fil.nm t (drp Fil.nm n D.fs)), D.down, D.fuse⟩ (some m') (ins Fl.nm ⟨t, f.b, f.sy, f.fb, f.v⟩ (drp Fl.nm t (drp Fl.nm n l))) z ∧ Step tg (tagM tg n t) w w4 := by
  obtain ⟨hfl, hfn⟩ := fnd_some hf
  have hF := h.fl f hfl
  have hmp : tg m = .mp := h.mp.1
  obtain rfl : m = m' := by
    rcases hm' with e | ⟨e, _⟩
    · exact Option.some.inj e
    · cases e
  have hk' : Kp (fun k => k = pb ∨ k = m) w w4 := (Kp.of_grown (S := fun k => k = pb ∨ k = m) ht.grown (fun k e => .inr (Option.some.inj e).symm)).trans (hk.mono (S' := fun k => k = pb ∨ k = m) fun k _ e => e.imp id Option.some.inj) fun _ _ h => h
  have hS : ∀ k, k < w.heap.size → (k = pb ∨ k = m) → tg k = .dk ∨ tg k = .mp := fun k _ e => by
    rcases e with rfl | rfl
    · exact .inl h.tp
    · exact .inr hmp
  have hkeep : ∀ k, (tg k = .fl n ∨ tg k = .rw n) → w4.heap[k]? = w.heap[k]? := fun k hk1 => by
    have hlt := h.lt k (by rcases hk1 with hk1 | hk1 <;> rw [hk1] <;> exact nofun)
    refine hk'.block k hlt fun e => ?_
    rcases hS k hlt e with h2 | h2 <;> rcases hk1 with hk1 | hk1 <;> rw [hk1] at h2 <;> cases h2
  refine ⟨?_, hk'.mono fun k hlt e => by rcases hS k hlt e with e | e <;> rw [e] <;> exact nofun, fun k hk1 => .inl (tagM_no hk1)⟩
  have hlen : (ins Fl.nm (⟨t, f.b, f.sy, f.fb, f.v⟩ : Fl) (drp Fl.nm t (drp Fl.nm n l))).length ≤ 64 := by
    rw [ins_length]
    have h1 := drp_lt hf
    have h2 : (drp Fl.nm t (drp Fl.nm n l)).length ≤ (drp Fl.nm n l).length := drp_le
    have := h.len
    omega
  have := h.putted (tg' := tagM tg n t) (f := ⟨t, f.b, f.sy, f.fb, f.v⟩) (l1 := drp Fl.nm n l) hc hk' hS (by unfold tagM; rw [h.tp]) (by unfold tagM; rw [hmp]) ?_ ?_ ho hlen (fun k hk1 => Nat.lt_of_lt_of_le (h.lt k (tagM_no hk1)) hk'.size) (srt_drp h.srt) (fun g hg => (mem_drp.1 hg).1)
  · rw [map_ins Fl.s_nm, map_drp Fl.s_nm, map_drp Fl.s_nm, ← h.fs] at this
    exact this
  · intro g hg hg2 k hk1
    have hg1 := (mem_drp.1 hg).2
    unfold tagM
    rcases hk1 with hk1 | hk1 <;> rw [hk1] <;> simp only <;> rw [if_neg hg1, if_neg hg2]
  · have tb : tg f.fb = .fl n := by rw [hF.tb, hfn]
    have tr : ∀ g, f.v.ownBlock = some g → tg g = .rw n := fun g hg => by rw [hF.tr g hg, hfn]
    refine ⟨(hkeep _ (.inl tb)).trans hF.cell, hF.own.keepAt fun g hg => hkeep g (.inr (tr g hg)), ?_, fun g hg => ?_, hF.hs, hF.hl⟩
    · show tagM tg n t f.fb = .fl t
      unfold tagM; rw [tb]; simp
    · show tagM tg n t g = .rw t
      unfold tagM; rw [tr g hg]; simp

set_option maxHeartbeats 400000 in
theorem rename_no (w : World) (p : Value) (s t : ByteArray) (c : Int) (hc : (c != 0) = true) (H : Hid (Calls Try.prog 53 #[p, .string s] w fun e w' => e = .returned (.tuple #[.pointer none, .int .i64 c]) ∧ w' = w)) :
    Calls Try.prog 61 #[p, .string s, .string t] w fun e w' => e = .returned (.int .i64 c) ∧ w' = w := by
  go_enter Try.func61, Try.ntmps61
  go_wp2_with (go_at_call 53; refine H.out.mono ?_)
  rintro e w1 ⟨rfl, rfl⟩
  go_wp2_with fail
  go_ret
  exact ⟨rfl, rfl⟩

set_option maxHeartbeats 2000000 in
set_option maxRecDepth 100000 in
theorem rename_yes {w : World} {tg : Nat → Tg} {pb m : Nat} {D : DK} {l : List Fl} {z : Int} (h : Hid (DkAt w tg pb D (some m) l z)) (s t : ByteArray) (hs : Hid (s.size ≤ maxLen)) (ht : Hid (t.size ≤ 281474976710656)) (nm b : List UInt8) (sy fb : Nat) (fv : Value) (hf : Hid (fnd Fl.nm s.data.toList l = some ⟨nm, b, sy, fb, fv⟩)) (hd : Hid (D.down = false))
    (H : Hid (Calls Try.prog 53 #[.pointer (some ⟨pb, 0, none⟩), .string s] w fun e w' => e = .returned (.tuple #[.pointer (some ⟨fb, 0, none⟩), .int .i64 0]) ∧ w' = w)) :
    Calls Try.prog 61 #[.pointer (some ⟨pb, 0, none⟩), .string s, .string t] w fun e w' => e = .returned (.int .i64 (renameD D s.data.toList t.data.toList).1) ∧ ∃ tg', Dsk w' tg' pb (renameD D s.data.toList t.data.toList).2 ∧ Step tg tg' w w' := by
  have hff : fnd Fil.nm s.data.toList D.fs = some ⟨nm, b, sy⟩ := by rw [h.out.fs, ← map_fnd Fl.s_nm, hf.out]; rfl
  obtain ⟨x, hx⟩ : ∃ x, okN t.data.toList = x := ⟨_, rfl⟩
  obtain ⟨y, D1, hy⟩ : ∃ y D1, burn D = (y, D1) := ⟨_, _, rfl⟩
  obtain ⟨hy1, hy2⟩ := burn_eta _ hy
  have H35 : Hid (∀ w, Calls Try.prog 49 #[.string t] w fun e w' => e = .returned (.bool x) ∧ w' = w) := fun w => hx ▸ formed_any t w
  have H37 : Hid (Calls Try.prog 51 #[.pointer (some ⟨pb, 0, none⟩)] w fun e w' => e = .returned (.bool y) ∧ (∃ z', DkAt w' tg pb D1 (some m) l z') ∧ Step tg tg w w') := by
    have := goes_any h.out
    rw [hy1, hy2] at this
    exact this
  have HF : Hid (D1.fs = D.fs) := by have := burn_fs D; rw [hy2] at this; exact this
  have HA : Hid (renameD D s.data.toList t.data.toList = if x = false then (4, D) else if y then (0, ⟨ins Fil.nm ⟨t.data.toList, b, sy⟩ (drp Fil.nm t.data.toList (drp Fil.nm s.data.toList D.fs)), D1.down, D1.fuse⟩) else (11, D1)) := by
    unfold Hid renameD
    simp only [hd.out, hff, hx, hy1, hy2, Bool.false_eq_true, if_false]
  have hkey : Hid (keyOf Try.prog 9 (.string s) = some (.string s.data.toList)) := keyOf_string_mk (P := Try.prog) Try.underlying9 hs.out
  generalize renameD D s.data.toList t.data.toList = A at *
  clear hff hx hy hy1 hy2
  go_enter Try.func61, Try.ntmps61
  go_wp2_with (go_at_call 53; refine H.out.mono ?_)
  rintro e w1 ⟨rfl, rfl⟩
  go_wp2_with (go_at_call 49; refine (H35.out _).mono ?_)
  rintro e w1 ⟨rfl, rfl⟩
  cases x with
  | false =>
    go_wp2_with fail
    go_ret
    rw [HA.out, if_pos (by simp)]
    exact ⟨rfl, tg, ⟨_, l, z, h.out⟩, Step.refl _ _⟩
  | true =>
    go_wp2_with (go_at_call 51; refine H37.out.mono ?_)
    rintro e w2 ⟨rfl, ⟨z', h2⟩, st⟩
    have H2 : Hid (DkAt w2 tg pb D1 (some m) l z') := h2
    have ST : Hid (Step tg tg w1 w2) := st
    clear h2 st
    cases y with
    | false =>
      go_wp2_with fail
      go_ret
      rw [HA.out, if_neg (by simp), if_neg (by simp)]
      exact ⟨rfl, tg, ⟨_, l, z', H2.out⟩, ST.out⟩
    | true =>
      obtain ⟨e0, -, -, -⟩ := c4 H2.out.cell
      go_wp2_with (at_delete; refine wpList_delete_own _ rfl _ _ 61 9 rfl 66 law9 Try.underlying61 pE m l.length (mapOf l) rfl H2.out.mp.2 _ _ rfl hkey.out ?_)
      intro w3 ho3 ht3
      rw [mapOf_del] at ho3
      have hne : m ≠ pb := fun e => by have := H2.out.mp.1; rw [e, H2.out.tp] at this; cases this
      have hc3 : w3.heap[pb]? = some (.cells #[.map (some m), .bool D1.down, .bool D1.fuse.isSome, .int .i64 z'] 63 (0, 0)) := (ht3.grown.block pb (Array.getElem?_eq_some_iff.1 H2.out.cell).1 (fun e => hne (Option.some.inj e).symm)).trans H2.out.cell
      have ho3' := tight ho3
      rw [mapOf_size] at ho3'
      have H45 : Hid (Calls Try.prog 64 #[.pointer (some ⟨pb, 0, none⟩), .string t, .pointer (some ⟨fb, 0, none⟩)] w3 fun e w' => e = .returned (.tuple #[]) ∧ ∃ m', (some m = some m' ∨ (some m = none ∧ m' = w3.heap.size)) ∧
          w'.heap[pb]? = some (.cells #[.map (some m'), .bool D1.down, .bool D1.fuse.isSome, .int .i64 z'] 63 (0, 0)) ∧ w'.ownsMap Try.prog 9 pE m' (ins Fl.nm ⟨t.data.toList, b, sy, fb, fv⟩ (drp Fl.nm t.data.toList (drp Fl.nm s.data.toList l))).length (mapOf (ins Fl.nm ⟨t.data.toList, b, sy, fb, fv⟩ (drp Fl.nm t.data.toList (drp Fl.nm s.data.toList l)))) ∧ Kp (fun k => k = pb ∨ some k = some m) w3 w') :=
        put_any w3 pb (some m) (drp Fl.nm s.data.toList l) ⟨t.data.toList, b, sy, fb, fv⟩ _ _ _ t (by have := ht.out; unfold maxLen; omega) ht.out rfl hc3 ⟨hne, ho3'⟩ (by have := H2.out.len; have : (drp Fl.nm s.data.toList l).length ≤ l.length := drp_le; omega)
      have T3 : Hid (w2.mapTurned w3 m) := ht3
      clear e0 ho3 ho3' hc3 hne ht3
      go_wp2_with (go_at_call 64; refine H45.out.mono ?_)
      rintro e w4 ⟨rfl, m', hm', hc4, ho4, hk4⟩
      have h5 := H2.out.renamed hf.out T3.out hm' hc4 ho4 hk4
      rw [HF.out] at h5
      have H5 : Hid _ := h5
      clear h5 hm' hc4 ho4 hk4
      go_wp2_with fail
      go_ret
      rw [HA.out, if_neg (by simp), if_pos (by simp)]
      exact ⟨rfl, _, ⟨_, _, _, H5.out.1⟩, ST.out.trans H5.out.2⟩
theorem rename_any {w : World} {tg : Nat → Tg} {pb : Nat} {D : DK} (h : Dsk w tg pb D) (s t : ByteArray) (hs : s.size ≤ maxLen) (ht : t.size ≤ 281474976710656) :
    Calls Try.prog 61 #[.pointer (some ⟨pb, 0, none⟩), .string s, .string t] w fun e w' => e = .returned (.int .i64 (renameD D s.data.toList t.data.toList).1) ∧ ∃ tg', Dsk w' tg' pb (renameD D s.data.toList t.data.toList).2 ∧ Step tg tg' w w' := by
  obtain ⟨mb, l, z, h⟩ := h
  have hfd := find_any h s hs
  have hfs := h.fs
  unfold findP findC at hfd
  cases hd : D.down with
  | true =>
    simp only [hd, if_true] at hfd
    refine (rename_no w _ s t 11 rfl hfd).mono ?_
    rintro e w' ⟨rfl, rfl⟩
    have e : renameD D s.data.toList t.data.toList = (11, D) := by unfold renameD; simp [hd]
    rw [e]
    exact ⟨rfl, tg, ⟨mb, l, z, h⟩, Step.refl _ _⟩
  | false =>
    simp only [hd, Bool.false_eq_true, if_false] at hfd
    cases hf : fnd Fl.nm s.data.toList l with
    | none =>
      rw [hf] at hfd
      refine (rename_no w _ s t 3 rfl hfd).mono ?_
      rintro e w' ⟨rfl, rfl⟩
      have e : renameD D s.data.toList t.data.toList = (3, D) := by
        unfold renameD
        rw [hfs, ← map_fnd Fl.s_nm, hf]
        simp [hd]
      rw [e]
      exact ⟨rfl, tg, ⟨mb, l, z, h⟩, Step.refl _ _⟩
    | some f =>
      rw [hf] at hfd
      obtain ⟨nm, b, sy, fb, v⟩ := f
      cases mb with
      | none =>
        have : l = [] := h.mp
        rw [this] at hf
        cases hf
      | some m => exact rename_yes h s t hs ht nm b sy fb v hf hd hfd
end Go.Proofs.Ytplcpjngpkghmaa
