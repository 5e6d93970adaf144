/-
  The disk's names in their order; List; Sync.
-/
import Derived.Test.YtplcpjngpkghmaaIter
namespace Go.Proofs.Ytplcpjngpkghmaa
open Go.RowKit Go.Maps Go.WideMaps Go.Sort

theorem bb_lt : ∀ {a b : List UInt8}, bytesBefore a b = true → a < b
  | [], [], h => by simp [bytesBefore] at h
  | [], _ :: _, _ => List.nil_lt_cons _ _
  | _ :: _, [], h => by simp [bytesBefore] at h
  | x :: r, y :: s, h => by
    simp only [bytesBefore, Bool.or_eq_true, decide_eq_true_eq, Bool.and_eq_true, beq_iff_eq] at h
    rw [List.cons_lt_cons_iff]
    rcases h with h | ⟨h1, h2⟩
    · exact .inl h
    · exact .inr ⟨h1, bb_lt h2⟩
theorem names_sorted {l : List Fl} {ss : List (List UInt8)} (hs : Srt Fl.nm l) (hp : ss.Perm (l.map Fl.nm)) : ss.mergeSort (fun x y => decide (x ≤ y)) = l.map Fl.nm := by
  have tr : ∀ a b c : List UInt8, leB a b = true → leB b c = true → leB a c = true := fun a b c h1 h2 => by simp only [leB, decide_eq_true_eq] at *; exact List.le_trans h1 h2
  have tot : ∀ a b : List UInt8, (leB a b || leB b a) = true := fun a b => by simp only [leB, Bool.or_eq_true, decide_eq_true_eq]; exact List.le_total a b
  refine List.Perm.eq_of_pairwise (le := fun a b => leB a b = true) (fun a b _ _ h1 h2 => ?_) (List.pairwise_mergeSort tr tot ss) ?_ ((List.mergeSort_perm ss leB).trans hp)
  · simp only [leB, decide_eq_true_eq] at h1 h2
    exact List.le_antisymm h1 h2
  · refine List.pairwise_map.2 (List.Pairwise.imp (fun {a b} hab => ?_) hs)
    simp only [leB, decide_eq_true_eq]
    exact List.le_of_lt (bb_lt hab)

theorem names_any {w : World} {tg : Nat → Tg} {pb : Nat} {D : DK} {mb : Option Nat} {l : List Fl} {z : Int} (h : DkAt w tg pb D mb l z) :
    Calls Try.prog 32 #[.pointer (some ⟨pb, 0, none⟩)] w fun e w' => ∃ v, e = .returned v ∧ w'.ownsRow w.heap.size 9 1 v l.length ((l.map Fl.nm).map encStr) ∧ Below w.heap.size w w' := by
  have hm := h.mp
  unfold MpAt at hm
  cases mb with
  | none =>
    subst hm
    refine (names_none w pb _ _ _ h.cell).mono ?_
    rintro e w' ⟨rfl, hb⟩
    exact ⟨_, rfl, World.ownsRow_nil _ _ _ _, hb⟩
  | some m =>
    have hl := h.len
    refine (names_raw m l.length (mapOf l) w pb _ _ _ h.cell hm.2 (by rw [mapOf_size]; unfold maxLen; omega) (by rw [mapOf_size]; omega)).mono ?_
    rintro e w' ⟨v, ss, rfl, hS, hrow, hb⟩
    have hk : strKeys (mapOf l) = l.map Fl.nm := by
      unfold mapOf strKeys
      simp only [List.map_map]
      rfl
    rw [hk] at hS
    rw [names_sorted h.srt hS, show ss.length = l.length by rw [hS.length_eq, List.length_map]] at hrow
    exact ⟨v, rfl, hrow, hb⟩

/-- a slice of texts -/
def OwnS (w : World) (B : Nat) (v : Value) (ns : List (List UInt8)) : Prop := w.ownsRow B 9 1 v ns.length (ns.map encStr)
def listD (D : DK) : List (List UInt8) := if D.down then [] else D.fs.map Fil.nm
/-! ### Sync -/
def syncD (D : DK) (n : List UInt8) : Int × DK := if D.down then (11, D) else match fnd Fil.nm n D.fs with
  | none => (3, D)
  | some f => if (burn D).1 then (0, ⟨upd Fil.nm n ⟨n, f.b, f.b.length⟩ D.fs, (burn D).2.down, (burn D).2.fuse⟩) else (11, (burn D).2)

set_option maxHeartbeats 400000 in
theorem sync_no (w : World) (p : Value) (s : ByteArray) (c : Int) (hc : (c != 0) = true) (H : Hid (Calls Try.prog 53 #[p, .string s] w fun e w' => e = .returned (.tuple #[.pointer none, .int .i64 c]) ∧ w' = w)) :
    Calls Try.prog 29 #[p, .string s] w fun e w' => e = .returned (.int .i64 c) ∧ w' = w := by
  go_enter Try.func29, Try.ntmps29
  go_wp2_with (go_at_call 53; refine H.out.mono ?_)
  rintro e w1 ⟨rfl, rfl⟩
  go_wp2_with fail
  go_ret
  exact ⟨rfl, rfl⟩
theorem DkAt.synced {w : World} {tg : Nat → Tg} {pb : Nat} {D : DK} {mb : Option Nat} {l : List Fl} {z : Int} {f : Fl} {n : List UInt8} (h : DkAt w tg pb D mb l z) (hf : fnd Fl.nm n l = some f) :
    DkAt (w.setCell ⟨f.fb, 1, none⟩ (.int .i64 f.b.length)) tg pb ⟨upd Fil.nm n ⟨n, f.b, f.b.length⟩ D.fs, D.down, D.fuse⟩ mb (upd Fl.nm n ⟨n, f.b, f.b.length, f.fb, f.v⟩ l) z ∧ Step tg tg w (w.setCell ⟨f.fb, 1, none⟩ (.int .i64 f.b.length)) := by
  obtain ⟨hfl, hfn⟩ := fnd_some hf
  have hF := h.fl f hfl
  have hk : Kp (fun k => tg k = .fl n ∨ tg k = .rw n) w (w.setCell ⟨f.fb, 1, none⟩ (.int .i64 f.b.length)) := Kp.of_set _ ⟨f.fb, 1, none⟩ _ (.inl (by rw [hF.tb, hfn]))
  have hne : f.v.ownBlock ≠ some f.fb := fun e => by have := hF.tr _ e; rw [hF.tb] at this; cases this
  refine ⟨?_, hk.mono fun k _ e => by rcases e with e | e <;> rw [e] <;> exact nofun, fun _ h => .inl h⟩
  have := h.updated (f' := ⟨n, f.b, f.b.length, f.fb, f.v⟩) hf rfl rfl hk (fun k _ e => e) (fun _ _ => rfl) (fun k hk1 => by have := h.lt k hk1; simpa [World.setCell] using this)
    ⟨setB hF.cell _, hF.own.keepAt fun g hg => Below.heap_setCell _ _ _ _ (fun e => hne (by rw [hg, e])), by rw [hF.tb, hfn], fun g hg => by rw [hF.tr g hg, hfn], Nat.le_refl _, hF.hl⟩
  rw [map_upd Fl.s_nm, ← h.fs] at this
  exact this
set_option maxHeartbeats 1000000 in
theorem sync_yes {w : World} {tg : Nat → Tg} {pb : Nat} {D : DK} {mb : Option Nat} {l : List Fl} {z : Int} (h : Hid (DkAt w tg pb D mb l z)) (s : ByteArray) (nm b : List UInt8) (sy fb fk fc : Nat) (fa : Option Addr) (hfk : Hid (b.length = fk)) (hf : Hid (fnd Fl.nm s.data.toList l = some ⟨nm, b, sy, fb, .slice fa fk fc⟩)) (hd : Hid (D.down = false))
    (H : Hid (Calls Try.prog 53 #[.pointer (some ⟨pb, 0, none⟩), .string s] w fun e w' => e = .returned (.tuple #[.pointer (some ⟨fb, 0, none⟩), .int .i64 0]) ∧ w' = w)) :
    Calls Try.prog 29 #[.pointer (some ⟨pb, 0, none⟩), .string s] w fun e w' => e = .returned (.int .i64 (syncD D s.data.toList).1) ∧ Dsk w' tg pb (syncD D s.data.toList).2 ∧ Step tg tg w w' := by
  have hff : fnd Fil.nm s.data.toList D.fs = some ⟨nm, b, sy⟩ := by rw [h.out.fs, ← map_fnd Fl.s_nm, hf.out]; rfl
  obtain ⟨y, D1, hy⟩ : ∃ y D1, burn D = (y, D1) := ⟨_, _, rfl⟩
  obtain ⟨hy1, hy2⟩ := burn_eta _ hy
  have H37 : Hid (Calls Try.prog 51 #[.pointer (some ⟨pb, 0, none⟩)] w fun e w' => e = .returned (.bool y) ∧ (∃ z', DkAt w' tg pb D1 mb l z') ∧ Step tg tg w w') := by
    have := goes_any h.out
    rw [hy1, hy2] at this
    exact this
  have HF : Hid (D1.fs = D.fs) := by have := burn_fs D; rw [hy2] at this; exact this
  have HA : Hid (syncD D s.data.toList = if y then (0, ⟨upd Fil.nm s.data.toList ⟨s.data.toList, b, b.length⟩ D.fs, D1.down, D1.fuse⟩) else (11, D1)) := by
    unfold Hid syncD
    simp only [hd.out, hff, hy1, hy2, Bool.false_eq_true, if_false]
  generalize syncD D s.data.toList = A at *
  clear hff hy hy1 hy2
  go_enter Try.func29, Try.ntmps29
  go_wp2_with (go_at_call 53; refine H.out.mono ?_)
  rintro e w1 ⟨rfl, rfl⟩
  go_wp2_with (go_at_call 51; refine H37.out.mono ?_)
  rintro e w2 ⟨rfl, ⟨z', h2⟩, st⟩
  have H2 : Hid (DkAt w2 tg pb D1 mb l z') := h2
  have ST : Hid (Step tg tg w1 w2) := st
  clear h2 st
  cases y with
  | false =>
    go_wp2_with fail
    go_ret
    rw [HA.out, if_neg (by simp)]
    exact ⟨rfl, ⟨mb, l, z', H2.out⟩, ST.out⟩
  | true =>
    have hF := H2.out.fl _ (fnd_some hf.out).1
    obtain ⟨e0, e1⟩ := c2 hF.cell
    have f1 := fz hF.cell 1
    simp only at e0 e1 f1
    have h4 := H2.out.synced hf.out
    rw [hfk.out, HF.out] at h4
    have H4 : Hid _ := h4
    clear h4 hF
    go_wp2_with fail
    go_ret
    rw [HA.out, if_pos (by simp), hfk.out]
    exact ⟨rfl, ⟨_, _, _, H4.out.1⟩, ST.out.trans H4.out.2⟩
theorem sync_any {w : World} {tg : Nat → Tg} {pb : Nat} {D : DK} (h : Dsk w tg pb D) (s : ByteArray) (hs : s.size ≤ maxLen) :
    Calls Try.prog 29 #[.pointer (some ⟨pb, 0, none⟩), .string s] w fun e w' => e = .returned (.int .i64 (syncD D s.data.toList).1) ∧ Dsk w' tg pb (syncD D s.data.toList).2 ∧ Step tg tg w w' := by
  obtain ⟨mb, l, z, h⟩ := h
  have hfd := find_any h s hs
  have hfs := h.fs
  unfold findP findC at hfd
  cases hd : D.down with
  | true =>
    simp only [hd, if_true] at hfd
    refine (sync_no w _ s 11 rfl hfd).mono ?_
    rintro e w' ⟨rfl, rfl⟩
    have e : syncD D s.data.toList = (11, D) := by unfold syncD; simp [hd]
    rw [e]
    exact ⟨rfl, ⟨mb, l, z, h⟩, Step.refl _ _⟩
  | false =>
    simp only [hd, Bool.false_eq_true, if_false] at hfd
    cases hf : fnd Fl.nm s.data.toList l with
    | none =>
      rw [hf] at hfd
      refine (sync_no w _ s 3 rfl hfd).mono ?_
      rintro e w' ⟨rfl, rfl⟩
      have e : syncD D s.data.toList = (3, D) := by
        unfold syncD
        rw [hfs, ← map_fnd Fl.s_nm, hf]
        simp [hd]
      rw [e]
      exact ⟨rfl, ⟨mb, l, z, h⟩, Step.refl _ _⟩
    | some f =>
      rw [hf] at hfd
      obtain ⟨nm, b, sy, fb, v⟩ := f
      obtain ⟨a, cc, hv, -⟩ := (h.fl _ (fnd_some hf).1).own.shape
      simp only at hv
      subst hv
      exact sync_yes h s nm b sy fb _ cc a rfl hf hd hfd
end Go.Proofs.Ytplcpjngpkghmaa
