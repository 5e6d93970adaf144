/-
  The ledger's functions post, Take, Give.
-/
import Derived.Test.YtehgcaaeifnjeaaWg
namespace Go.Proofs.Ytehgcaaeifnjeaa
open Go.RowKit Go.Maps Go.WideMaps

theorem seqU_cons (f : V → V → V → Option V) (D : List A) (u : List UInt8 → V) (e : E) (r : List E) : seqU f D u (e :: r) = match fnd A.nm e.n D with
    | none => none
    | some a => match f a.lim (u e.n) e.am with
      | none => none
      | some x => seqU f D (fun n => if n = e.n then x else u n) r := rfl
theorem seq_app {f : V → V → V → Option V} {D : List A} : ∀ {a b : List E} {u : List UInt8 → V}, seqU f D u (a ++ b) = (seqU f D u a).bind fun u' => seqU f D u' b
  | [], b, u => rfl
  | e :: r, b, u => by
    simp only [List.cons_append]
    rw [seqU_cons, seqU_cons]
    cases fnd A.nm e.n D with
    | none => rfl
    | some a =>
      simp only
      cases f a.lim (u e.n) e.am with
      | none => rfl
      | some x =>
        exact seq_app (a := r) (b := b)
theorem seq_on {f : V → V → V → Option V} {D : List A} {es : List E} {u0' u : List UInt8 → V} {k : Nat} {e : E} {a : A} {x : V} (h : seqU f D u0' (es.take k) = some u) (he : es[k]? = some e) (ha : fnd A.nm e.n D = some a) (hx : f a.lim (u e.n) e.am = some x) : seqU f D u0' (es.take (k + 1)) = some fun n => if n = e.n then x else u n := by
  rw [List.take_add_one, he, seq_app, h]
  simp [seqU, ha, hx]
theorem seq_off {f : V → V → V → Option V} {D : List A} {es : List E} {u0' u : List UInt8 → V} {k : Nat} {e : E} {a : A} (h : seqU f D u0' (es.take k) = some u) (he : es[k]? = some e) (ha : fnd A.nm e.n D = some a) (hx : f a.lim (u e.n) e.am = none) : seqU f D u0' es = none := by
  have hk := (List.getElem?_eq_some_iff.1 he).1
  have e1 : es = es.take k ++ e :: es.drop (k + 1) := by
    have h1 := (List.take_append_drop k es).symm
    rw [List.drop_eq_getElem_cons hk] at h1
    rw [(List.getElem?_eq_some_iff.1 he).2] at h1
    exact h1
  rw [e1, seq_app, h]
  simp [seqU, ha, hx]
/-- what post leaves -/
def PostR (w w' : World) (pb : Nat) (mb : Option Nat) (l : List Ac) (o : Option (List UInt8 → V)) : Prop := match o with
  | none => Below w.heap.size w w'
  | some u => LgAt w' pb mb (setG u l) ∧ Kp (fun k => ∃ a ∈ l, a.fb = k) w w'
def code (o : Option (List UInt8 → V)) (c : Int) : Int := match o with
  | none => c
  | some _ => 0
theorem takeF_ok {v u m x : V} (hv : v.ok = true) (hu : u.ok = true) (hm : m.ok = true) (h : takeF v u m = some x) : x.ok = true := by
  unfold takeF at h
  split at h
  · rename_i hl
    obtain rfl := Option.some.inj h
    have h1 := V.ok_iff.1 hv
    have h2 := V.ok_iff.1 hu
    have h3 := V.ok_iff.1 hm
    have h4 := V.le_iff.1 hl
    refine V.ok_iff.2 ?_
    unfold V.add at *
    simp only at *
    omega
  · cases h
theorem giveF_ok {v u m x : V} (_ : v.ok = true) (hu : u.ok = true) (hm : m.ok = true) (h : giveF v u m = some x) : x.ok = true := by
  unfold giveF at h
  split at h
  · rename_i hl
    obtain rfl := Option.some.inj h
    have h2 := V.ok_iff.1 hu
    have h3 := V.ok_iff.1 hm
    have h4 := V.le_iff.1 hl
    refine V.ok_iff.2 ?_
    unfold V.sub at *
    simp only at *
    omega
  · cases h
theorem checkD_chk (l : List Ac) (es : List E) : checkD (l.map Ac.s) es = chk (fun n => (fnd Ac.nm n l).map Ac.fb) es := by
  unfold checkD chk
  have : ∀ e : E, (fnd A.nm e.n (l.map Ac.s)).isSome = ((fnd Ac.nm e.n l).map Ac.fb).isSome := fun e => by rw [fnd_s]; cases fnd Ac.nm e.n l <;> rfl
  simp only [this]
theorem check0 {D : List A} {es : List E} (h : checkD D es = 0) : (∀ e ∈ es, e.am.ok = true) ∧ ∀ e ∈ es, ∃ a, fnd A.nm e.n D = some a := by
  unfold checkD at h
  split at h
  · rename_i h1
    split at h
    · rename_i h2
      exact ⟨fun e he => List.all_eq_true.1 h1 e he, fun e he => Option.isSome_iff_exists.1 (List.all_eq_true.1 h2 e he)⟩
    · cases h
  · cases h
theorem set8_other {W : World} {g k : Nat} {v0 v1 v2 v3 v4 v5 v6 v7 : Value} (h : k ≠ g) : ((((((((W.setCell ⟨g, 0, none⟩ v0).setCell ⟨g, 1, none⟩ v1).setCell ⟨g, 2, none⟩ v2).setCell ⟨g, 3, none⟩ v3).setCell ⟨g, 4, none⟩ v4).setCell ⟨g, 5, none⟩ v5).setCell ⟨g, 6, none⟩ v6).setCell ⟨g, 7, none⟩ v7).heap[k]? = W.heap[k]? :=
  (Below.heap_setCell _ _ _ _ h).trans ((Below.heap_setCell _ _ _ _ h).trans ((Below.heap_setCell _ _ _ _ h).trans ((Below.heap_setCell _ _ _ _ h).trans ((Below.heap_setCell _ _ _ _ h).trans ((Below.heap_setCell _ _ _ _ h).trans ((Below.heap_setCell _ _ _ _ h).trans (Below.heap_setCell _ _ _ _ h)))))))
theorem kp_set8 {S : Nat → Prop} {w W : World} {g : Nat} {v0 v1 v2 v3 v4 v5 v6 v7 : Value} (h : Kp S w W) (hg : S g) : Kp S w ((((((((W.setCell ⟨g, 0, none⟩ v0).setCell ⟨g, 1, none⟩ v1).setCell ⟨g, 2, none⟩ v2).setCell ⟨g, 3, none⟩ v3).setCell ⟨g, 4, none⟩ v4).setCell ⟨g, 5, none⟩ v5).setCell ⟨g, 6, none⟩ v6).setCell ⟨g, 7, none⟩ v7) := by
  have k : ∀ {W : World} {i : Nat} {v : Value}, Kp S w W → Kp S w (W.setCell ⟨g, i, none⟩ v) := fun h => h.trans (Kp.of_set (S := S) _ _ _ hg) fun _ _ h => h
  exact k (k (k (k (k (k (k (k h)))))))
theorem cells5 {w : World} {g : Nat} {a b c d e : Value} {ty : TypeId} (q : w.heap[g]? = some (.cells #[a, b, c, d, e] ty (0, 0))) :
    w.cell? ⟨g, 0, none⟩ = some a ∧ w.cell? ⟨g, 1, none⟩ = some b ∧ w.cell? ⟨g, 2, none⟩ = some c ∧ w.cell? ⟨g, 3, none⟩ = some d ∧ w.cell? ⟨g, 4, none⟩ = some e ∧ (w.frozen? ⟨g, 0, none⟩ = false ∧ w.frozen? ⟨g, 1, none⟩ = false ∧ w.frozen? ⟨g, 2, none⟩ = false ∧ w.frozen? ⟨g, 3, none⟩ = false ∧ w.frozen? ⟨g, 4, none⟩ = false) ∧ g < w.heap.size :=
  ⟨Lib.cell_of_heap q 0, Lib.cell_of_heap q 1, Lib.cell_of_heap q 2, Lib.cell_of_heap q 3, Lib.cell_of_heap q 4, ⟨fz q 0, fz q 1, fz q 2, fz q 3, fz q 4⟩, (Array.getElem?_eq_some_iff.1 q).1⟩
theorem fnd_ac {l : List Ac} {n : List UInt8} {a : A} (h : fnd A.nm n (l.map Ac.s) = some a) : ∃ b, fnd Ac.nm n l = some b ∧ b.s = a := by
  rw [fnd_s] at h
  cases hf : fnd Ac.nm n l with
  | none => rw [hf] at h; cases h
  | some b => rw [hf] at h; exact ⟨b, rfl, Option.some.inj h⟩

set_option maxHeartbeats 8000000 in
set_option maxRecDepth 100000 in
theorem post38 {w : World} {pb : Nat} {mb : Option Nat} {l : List Ac} (h : LgAt w pb mb l) (s : Option Addr) (es : List E) (c : Nat) (hn : es.length < 1152921504606846976) (hr : ERow w s es) (hz : ∀ e ∈ es, e.nm.size ≤ 281474976710656) (hck : checkD (l.map Ac.s) es = 0) :
    Calls Try.prog 37 #[.pointer (some ⟨pb, 0, none⟩), .slice s es.length c, .func (.func 38) #[] #[]] w fun e w' => e = .returned (.int .i64 (code (seqU takeF (l.map Ac.s) (u0 (l.map Ac.s)) es) 9)) ∧ Hid (PostR w w' pb mb l (seqU takeF (l.map Ac.s) (u0 (l.map Ac.s)) es)) := by
  have H47 : Hid (Calls Try.prog 47 #[.pointer (some ⟨pb, 0, none⟩), .slice s es.length c] w fun e w' => e = .returned (.int .i64 0) ∧ Below w.heap.size w w') := by
    have := check_raw (.pointer (some ⟨pb, 0, none⟩)) _ s es c w hn hr hz (finds_at h)
    rw [← checkD_chk, hck] at this
    exact this
  have HCK : Hid ((∀ e ∈ es, e.am.ok = true) ∧ ∀ e ∈ es, ∃ a, fnd A.nm e.n (l.map Ac.s) = some a) := check0 hck
  have HH : Hid (LgAt w pb mb l) := h
  obtain ⟨D, hD⟩ : ∃ D, D = l.map Ac.s := ⟨_, rfl⟩
  have HDD : Hid (D = l.map Ac.s) := hD
  rw [← hD] at HCK ⊢
  have HR : Hid (ERow w s es) := hr
  have HZ : Hid (∀ e ∈ es, e.nm.size ≤ 281474976710656) := hz
  have HOKD : Hid (∀ a ∈ D, a.lim.ok = true ∧ a.us.ok = true) := by rw [hD]; exact h.led.ok
  generalize hL : es.length = n at *
  have HLE : Hid (es.length = n) := hL
  have hmm := @run_makeMap Try.prog
  clear hL hr hz hck h hD
  go_enter Try.func37, Try.ntmps37
  go_upto_region 4 with (go_at_call 47; refine H47.out.mono ?_; rintro _ w1 ⟨rfl, b1⟩)
  go_upto_region 5 with fail
  have O0 : Hid ((w1.alloc (.map #[] 0)).ownsMap Try.prog 9 aE w1.heap.size 0 (mapA [])) := World.ownsMap_made w1 Try.prog 9 aE
  have Y0 : Hid (Below w.heap.size w (w1.alloc (.map #[] 0))) := b1.alloc b1.size _
  have HM : Hid (w.heap.size ≤ w1.heap.size) := b1.size
  clear b1 H47 hmm
  generalize w1.alloc (.map #[] 0) = W1 at *
  generalize w1.heap.size = m at *
  have HL : Hid (n < 1152921504606846976) := hn
  go_wp2_with fail
  go_loopw [25] (fun x wr => ∃ k : Nat, x = .int .i64 k ∧ k ≤ n ∧ ∃ L u, seqU takeF D (u0 D) (es.take k) = some u ∧ Aft D L u ∧ wr.ownsMap Try.prog 9 aE m k (mapA L) ∧ Below w.heap.size w wr) (fun x _ => (n : Int).toNat - (intOf x).toNat)
  case atStart => exact ⟨0, rfl, Nat.zero_le _, [], u0 D, rfl, Aft.start HOKD.out, O0.out, Y0.out⟩
  case round =>
    obtain ⟨k, rfl, hk, L, u, hS, hAf, hO, hb⟩ := hrel
    clear O0 Y0
    have HS : Hid (seqU takeF D (u0 D) (es.take k) = some u) := hS
    have HAF : Hid (Aft D L u) := hAf
    have HO : Hid (wr.ownsMap Try.prog 9 aE m k (mapA L)) := hO
    have HB : Hid (Below w.heap.size w wr) := hb
    clear hS hAf hO
    by_cases h0 : k = n
    · subst h0
      have HS2 : Hid (seqU takeF D (u0 D) es = some u) := by
        have := HS.out
        rw [← HLE.out, List.take_length] at this
        exact this
      clear HS
      clear hb
      have O1 := tight HO.out
      go_wp2_with (first
        | (at_range; refine wpList_range_own _ rfl _ 83 rfl 9 69 law9 Try.underlying83 _ m _ (mapA L) rfl O1 ?_; intro w2 hrg0 hg0 hs0)
        | go_in)
      go_frame
      have R0 : Hid (Wrt w w2 pb mb l u L m wr.heap.size (Maps.size (mapA L)) (Maps.has (mapA L)) (Maps.size (mapA L))) := Wrt.start HH.out HB.out (by rw [← HDD.out]; exact HAF.out) HM.out hrg0 hg0
      clear hrg0 hg0 hs0 O1 HB HO
      generalize wr.heap.size = r at *
      go_loopw [62] (fun _ wr => ∃ left cnt, Wrt w wr pb mb l u L m r (Maps.size (mapA L)) left cnt) (fun _ wr => wr.rangeLeft m r)
      case atStart => exact ⟨_, _, R0.out⟩
      case round =>
        obtain ⟨left, cnt, hW⟩ := hrel
        have HW : Hid (Wrt w wr pb mb l u L m r (Maps.size (mapA L)) left cnt) := hW
        clear hW R0
        go_wp2_with (first
          | (at_next; refine wpList_next_ranges _ rfl _ rfl 9 law9 aE Value.string mkA invS aE_inv m r (Maps.size (mapA L)) (mapA L) left cnt rfl HW.out.rg ?_ ?_)
          | go_in)
        · intro hc0 hl0
          have HG : Hid (LgAt wr pb mb (setG u l)) := HW.out.done hl0
          have HK : Hid (Kp (fun k => ∃ a ∈ l, a.fb = k) w wr) := HW.out.k
          clear hc0 hl0 HW
          go_wp2_with fail
          go_ret
          rw [HS2.out]
          exact ⟨rfl, HG.out, HK.out⟩
        · intro nm' ca cb kl ya yb w3 cnt2 hkey hlk hy' hat hrg2 hlt hg2 hs2 hen
          obtain ⟨nm2, e1, rfl, hsz⟩ := string_of_keyOf Try.underlying9 hkey
          have e2 : nm' = nm2 := by injection e1
          subst e2
          obtain ⟨bb, hbb⟩ := HW.out.hl _ hlk
          obtain ⟨aa, haa, hbe⟩ := HAF.out.yes _ bb hbb
          rw [HDD.out] at haa
          obtain ⟨ac, hac, has⟩ := fnd_ac haa
          have hval : mkA (ca, cb) = .agg (c8 ac.lim (u nm'.data.toList)) := by
            have := hat .nil
            rw [mapA_at, hbb, hbe, ← has] at this
            have h3 : aE (mkA (ca, cb)) = some (.held (ac.lim, u nm'.data.toList), yb) := by rw [hy', ← show DataW.held (ac.lim, u nm'.data.toList) = ya from this]
            exact aE_held h3
          rw [hval] at hen
          obtain ⟨I1, I2⟩ := HW.out.iter HH.out hg2
          have HC : Hid (cnt2 < cnt ∧ wr.rangeLeft m r = cnt) := ⟨hlt, HW.out.rg.left_eq⟩
          obtain ⟨hac1, hac2⟩ := fnd_some hac
          have XA := I1.ac _ (List.mem_map.2 ⟨ac, hac1, rfl⟩)
          rw [show (ac.setg fun n => if left (.string n) then u0 (l.map Ac.s) n else u n).fb = ac.fb from rfl] at XA
          have HXA : Hid (w3.heap[ac.fb]? = some (.cells (c8 ac.lim (if left (.string ac.nm) then u0 (l.map Ac.s) ac.nm else u ac.nm)) 69 (0, 0))) := XA
          have H31 : Hid (∀ w1, Below w3.heap.size w3 w1 → Calls Try.prog 31 #[.pointer (some ⟨pb, 0, none⟩), .string nm'] w1 fun e w' => e = .returned (.pointer (some ⟨ac.fb, 0, none⟩)) ∧ w' = w1) := fun w1 b => by
            have I3 := I1.keep fun k hk => b.block k (I1.lt hk)
            have := find_raw w1 pb mb nm' _ I3.cell (look_at I3.mp nm' hsz)
            rw [fnd_setG, hac] at this
            exact this
          have HN : Hid (∀ w4, w4.heap[ac.fb]? = some (.cells (c8 ac.lim (u nm'.data.toList)) 69 (0, 0)) → Kp (· = ac.fb) w3 w4 → Wrt w w4 pb mb l u L m r (Maps.size (mapA L)) (fun z => left z && !z.sameKey (.string nm'.data.toList)) cnt2) := fun w4 hc hk => HW.out.next HH.out (by rw [← HDD.out]; exact HAF.out) hac I1 I2 hrg2 hc hk
          have HLT : Hid (ac.fb < w3.heap.size) := (Array.getElem?_eq_some_iff.1 XA).1
          clear hkey hlk hy' hat hrg2 hlt hg2 hs2 I1 I2 XA hac hac1 hac2 has hbb hbe haa hval HW hsz e1 HS2 HCK HH HDD HR HZ HOKD HLE HAF
          generalize ac.lim = LM at *
          generalize u nm'.data.toList = UX at *
          obtain ⟨x0, x1, x2, x3⟩ := LM
          obtain ⟨t0, t1, t2, t3⟩ := UX
          unfold c8 at hen HXA HN
          generalize ac.fb = fb at *
          generalize (if left (.string ac.nm) then u0 (l.map Ac.s) ac.nm else u ac.nm) = old at *
          go_upto_region 19 with fail
          have K0 := at_alloc (o := .cells #[.int .i64 x0, .int .i64 x1, .int .i64 x2, .int .i64 x3, .int .i64 t0, .int .i64 t1, .int .i64 t2, .int .i64 t3] 69 (0, 0)) HXA.out
          have K1 := new0 (w := w3) (o := .cells #[.int .i64 x0, .int .i64 x1, .int .i64 x2, .int .i64 x3, .int .i64 t0, .int .i64 t1, .int .i64 t2, .int .i64 t3] 69 (0, 0))
          have H31' : Hid (∀ j, Calls Try.prog 31 #[.pointer (some ⟨pb, 0, none⟩), .string nm'] ((w3.alloc (.cells #[.int .i64 x0, .int .i64 x1, .int .i64 x2, .int .i64 x3, .int .i64 t0, .int .i64 t1, .int .i64 t2, .int .i64 t3] 69 (0, 0))).drewN j) fun e w' => e = .returned (.pointer (some ⟨fb, 0, none⟩)) ∧ w' = ((w3.alloc (.cells #[.int .i64 x0, .int .i64 x1, .int .i64 x2, .int .i64 x3, .int .i64 t0, .int .i64 t1, .int .i64 t2, .int .i64 t3] 69 (0, 0))).drewN j)) := fun j => H31.out _ (below_drewN ((Below.refl _ w3).alloc (Nat.le_refl _) _) j)
          have BK : Hid (Kp (· = fb) w3 (w3.alloc (.cells #[.int .i64 x0, .int .i64 x1, .int .i64 x2, .int .i64 x3, .int .i64 t0, .int .i64 t1, .int .i64 t2, .int .i64 t3] 69 (0, 0)))) := Kp.alloc _ _
          have hne : fb ≠ w3.heap.size := by have := HLT.out; omega
          clear H31 HXA HLT
          generalize w3.alloc (.cells #[.int .i64 x0, .int .i64 x1, .int .i64 x2, .int .i64 x3, .int .i64 t0, .int .i64 t1, .int .i64 t2, .int .i64 t3] 69 (0, 0)) = W3 at *
          generalize w3.heap.size = bx at *
          obtain ⟨k0, k1, k2, k3, k4, k5, k6, k7, ⟨kf0, kf1, kf2, kf3, kf4, kf5, kf6, kf7⟩, ks⟩ := cells8 K0
          obtain ⟨m0, m1, m2, m3, m4, m5, m6, m7, -, ms⟩ := cells8 K1
          go_region_with (go_at_call 31; refine (H31'.out 1).mono ?_; rintro _ w9 ⟨rfl, rfl⟩)
          all_goals go_wp2_with fail
          all_goals have hN := HN.out _ (at_set8a (v0 := .int .i64 x0) (v1 := .int .i64 x1) (v2 := .int .i64 x2) (v3 := .int .i64 x3) (v4 := .int .i64 t0) (v5 := .int .i64 t1) (v6 := .int .i64 t2) (v7 := .int .i64 t3) (W := W3.drewN 1) K0) (kp_set8 (BK.out.drew 1) rfl)
          all_goals exact ⟨⟨_, _, hN⟩, by rw [hN.rg.left_eq, HC.out.2]; exact HC.out.1⟩
    · have hlt : k < es.length := by have := HLE.out; omega
      have hlt' : (k : Int) < (n : Int) := by omega
      have hd : decide ((k : Int) < (n : Int)) = true := decide_eq_true hlt'
      obtain ⟨v, hv⟩ : ∃ v, es[k]? = some v := ⟨es[k], List.getElem?_eq_getElem hlt⟩
      have hvm := List.mem_of_getElem? hv
      have hvz := HZ.out v hvm
      have hvo := HCK.out.1 v hvm
      obtain ⟨a, hfa⟩ := HCK.out.2 v hvm
      have hfa' := hfa
      rw [HDD.out] at hfa'
      obtain ⟨ac, hac, has⟩ := fnd_ac hfa'
      obtain ⟨q, o, rfl, c0, c1, c2, c3, c4⟩ := (HR.out.keep hb) k _ hv
      have HFA : Hid (fnd A.nm v.n D = some a) := hfa
      have HKEY : Hid (keyOf Try.prog 9 (.string v.nm) = some (.string v.nm.data.toList)) := keyOf_string_mk (P := Try.prog) Try.underlying9 (by unfold maxLen; omega)
      have HAO : Hid (a.lim.ok = true ∧ (u v.n).ok = true) := ⟨(HOKD.out a (fnd_some hfa).1).1, HAF.out.ok _ _ hfa⟩
      have HLK : Hid (∀ W, W.ownsMap Try.prog 9 aE m k (mapA L) → (Instr.lookup 83 (.map (some m)) (.string v.nm) true).run Try.prog W = .ok (.tuple #[.agg (if (fnd A.nm v.n L).isSome then c8 a.lim (u v.n) else c8 V.nil V.nil), .bool (fnd A.nm v.n L).isSome]) W) := fun W hW => aft_look hW HAF.out v.nm hvz hfa
      have HUN : Hid (fnd A.nm v.n L = none → u v.n = ac.us) := fun hq => by
        rw [HAF.out.no _ hq]
        unfold u0
        rw [hfa, ← has]
        rfl
      have HLM : Hid (a.lim = ac.lim) := by rw [← has]; rfl
      have H31 : Hid (∀ W, Below w.heap.size w W → Calls Try.prog 31 #[.pointer (some ⟨pb, 0, none⟩), .string v.nm] W fun e w' => e = .returned (.pointer (some ⟨ac.fb, 0, none⟩)) ∧ w' = W) := fun W hW => by
        have := finds_at HH.out W hW v.nm hvz
        simp only at this
        rw [show fnd Ac.nm v.nm.data.toList l = some ac from hac] at this
        exact this
      have HAC : Hid (∀ W, Below w.heap.size w W → W.heap[ac.fb]? = some (.cells (c8 ac.lim ac.us) 69 (0, 0))) := fun W hW => (hW.block _ (HH.out.lt (.inr (.inr ⟨ac, (fnd_some hac).1, rfl⟩)))).trans (HH.out.ac ac (fnd_some hac).1)
      have HDO : Hid (∀ w, Calls Try.prog 38 #[.agg (c8 a.lim (u v.n)), vec v.am] w fun r w' => r = ansF (takeF a.lim (u v.n) v.am) a.lim 9 ∧ Below w.heap.size w w') := fun w => taken_any _ _ _ HAO.out.1 HAO.out.2 hvo w
      have HOK : Hid (∀ x, takeF a.lim (u v.n) v.am = some x → x.ok = true) := fun x hx => takeF_ok HAO.out.1 HAO.out.2 hvo hx
      clear hb hvz hvo hfa hfa' hac has HAO hvm HR HZ HH HCK
      obtain ⟨nm, a0, a1, a2, a3⟩ := v
      have hv' : Hid (es[k]? = some ⟨nm, ⟨a0, a1, a2, a3⟩⟩) := hv
      rw [show (E.mk nm ⟨a0, a1, a2, a3⟩).n = nm.data.toList from rfl] at HFA HLK HUN HDO HOK
      simp only [] at c0 c1 c2 c3 c4 HDO HOK HKEY HLK H31
      clear hv
      obtain ⟨uu, huu⟩ : ∃ uu, u nm.data.toList = uu := ⟨_, rfl⟩
      have HU : Hid (u nm.data.toList = uu) := huu
      rw [huu] at HLK HUN HDO HOK
      clear huu
      obtain ⟨lm, hlm⟩ : ∃ lm, a.lim = lm := ⟨_, rfl⟩
      have HLI : Hid (a.lim = lm) := hlm
      rw [hlm] at HLK HDO HOK HLM
      clear hlm
      obtain ⟨x0, x1, x2, x3⟩ := lm
      obtain ⟨y0, y1, y2, y3⟩ := uu
      have HUE : Hid (takeF a.lim (u (E.mk nm ⟨a0, a1, a2, a3⟩).n) (E.mk nm ⟨a0, a1, a2, a3⟩).am = takeF ⟨x0, x1, x2, x3⟩ ⟨y0, y1, y2, y3⟩ ⟨a0, a1, a2, a3⟩) := by
        show takeF a.lim (u nm.data.toList) ⟨a0, a1, a2, a3⟩ = _
        rw [HU.out, HLI.out]
      go_upto_region 8 with fail
      have X10 : Hid ((wr.alloc (.cells #[.string nm, .int .i64 a0, .int .i64 a1, .int .i64 a2, .int .i64 a3] 50)).heap[wr.heap.size]? = some (.cells #[.string nm, .int .i64 a0, .int .i64 a1, .int .i64 a2, .int .i64 a3] 50)) := new0
      have O1 : Hid ((wr.alloc (.cells #[.string nm, .int .i64 a0, .int .i64 a1, .int .i64 a2, .int .i64 a3] 50)).ownsMap Try.prog 9 aE m k (mapA L)) := keepMap HO.out (Below.heap_alloc _ _ m HO.out.lt)
      have Y1 : Hid (Below w.heap.size w (wr.alloc (.cells #[.string nm, .int .i64 a0, .int .i64 a1, .int .i64 a2, .int .i64 a3] 50))) := HB.out.alloc HB.out.size _
      clear c0 c1 c2 c3 c4 HO HB
      generalize wr.alloc (.cells #[.string nm, .int .i64 a0, .int .i64 a1, .int .i64 a2, .int .i64 a3] 50) = W at *
      generalize wr.heap.size = b10 at *
      have LK := HLK.out _ O1.out
      obtain ⟨e0, e1, e2, e3, e4, -, es10⟩ := cells5 X10.out
      clear HLK
      cases hf : fnd A.nm nm.data.toList L with
      | some bb =>
        rw [hf] at LK
        replace LK : (Instr.lookup 83 (.map (some m)) (.string nm) true).run Try.prog W = .ok (.tuple #[.agg #[.int .i64 x0, .int .i64 x1, .int .i64 x2, .int .i64 x3, .int .i64 y0, .int .i64 y1, .int .i64 y2, .int .i64 y3], .bool true]) W := LK
        clear hf
        go_upto_region 11 with fail
        have X11 : Hid ((W.alloc (.cells #[.int .i64 x0, .int .i64 x1, .int .i64 x2, .int .i64 x3, .int .i64 y0, .int .i64 y1, .int .i64 y2, .int .i64 y3] 69)).heap[W.heap.size]? = some (.cells #[.int .i64 x0, .int .i64 x1, .int .i64 x2, .int .i64 x3, .int .i64 y0, .int .i64 y1, .int .i64 y2, .int .i64 y3] 69)) := new0
        have X10 : Hid ((W.alloc (.cells #[.int .i64 x0, .int .i64 x1, .int .i64 x2, .int .i64 x3, .int .i64 y0, .int .i64 y1, .int .i64 y2, .int .i64 y3] 69)).heap[b10]? = some (.cells #[.string nm, .int .i64 a0, .int .i64 a1, .int .i64 a2, .int .i64 a3] 50)) := at_alloc X10.out
        have O3 : Hid ((W.alloc (.cells #[.int .i64 x0, .int .i64 x1, .int .i64 x2, .int .i64 x3, .int .i64 y0, .int .i64 y1, .int .i64 y2, .int .i64 y3] 69)).ownsMap Try.prog 9 aE m k (mapA L)) := keepMap O1.out (Below.heap_alloc _ _ m O1.out.lt)
        have Y3 : Hid (Below w.heap.size w (W.alloc (.cells #[.int .i64 x0, .int .i64 x1, .int .i64 x2, .int .i64 x3, .int .i64 y0, .int .i64 y1, .int .i64 y2, .int .i64 y3] 69))) := Y1.out.alloc Y1.out.size _
        have HNE : Hid (b10 ≠ W.heap.size) := by show b10 ≠ W.heap.size; omega
        have HB11 : Hid (w.heap.size ≤ W.heap.size) := Y1.out.size
        clear e0 e1 e2 e3 e4 es10 LK O1 Y1 H31 HAC HUN HLM
        generalize W.alloc (.cells #[.int .i64 x0, .int .i64 x1, .int .i64 x2, .int .i64 x3, .int .i64 y0, .int .i64 y1, .int .i64 y2, .int .i64 y3] 69) = W3 at *
        generalize W.heap.size = b11 at *
        have hv := hv'.out
        obtain ⟨e0, e1, e2, e3, e4, -, es10⟩ := cells5 X10.out
        obtain ⟨m0, m1, m2, m3, m4, m5, m6, m7, ⟨mf0, mf1, mf2, mf3, mf4, mf5, mf6, mf7⟩, ms⟩ := cells8 X11.out
        have HD : Hid (∀ w, Calls Try.prog 38 #[.agg #[.int .i64 x0, .int .i64 x1, .int .i64 x2, .int .i64 x3, .int .i64 y0, .int .i64 y1, .int .i64 y2, .int .i64 y3], .agg #[.int .i64 a0, .int .i64 a1, .int .i64 a2, .int .i64 a3]] w fun r w' => r = ansF (takeF ⟨x0, x1, x2, x3⟩ ⟨y0, y1, y2, y3⟩ ⟨a0, a1, a2, a3⟩) ⟨x0, x1, x2, x3⟩ 9 ∧ Below w.heap.size w w') := HDO.out
        cases hx : takeF ⟨x0, x1, x2, x3⟩ ⟨y0, y1, y2, y3⟩ ⟨a0, a1, a2, a3⟩ with
        | none =>
          rw [hx] at HD
          replace HD : Hid (∀ w, Calls Try.prog 38 #[.agg #[.int .i64 x0, .int .i64 x1, .int .i64 x2, .int .i64 x3, .int .i64 y0, .int .i64 y1, .int .i64 y2, .int .i64 y3], .agg #[.int .i64 a0, .int .i64 a1, .int .i64 a2, .int .i64 a3]] w fun r w' => r = .returned (.tuple #[.agg #[.int .i64 0, .int .i64 0, .int .i64 0, .int .i64 0, .int .i64 0, .int .i64 0, .int .i64 0, .int .i64 0], .int .i64 9]) ∧ Below w.heap.size w w') := HD
          have HX : Hid (takeF ⟨x0, x1, x2, x3⟩ ⟨y0, y1, y2, y3⟩ ⟨a0, a1, a2, a3⟩ = none) := hx
          clear hx HDO
          go_wp2_with (go_at_call 38; refine (HD.out _).mono ?_)
          first | rintro _ W4 rfl b4 | rintro _ W4 ⟨rfl, b4⟩
          have X11' := at_below b4 (Nat.le_refl _) X11.out
          have Y4 : Hid (Below w.heap.size w W4) := below_from Y3.out b4 Y3.out.size
          clear b4 e0 e1 e2 e3 e4 es10 m0 m1 m2 m3 m4 m5 m6 m7 mf0 mf1 mf2 mf3 mf4 mf5 mf6 mf7 ms HD
          obtain ⟨m0, m1, m2, m3, m4, m5, m6, m7, ⟨mf0, mf1, mf2, mf3, mf4, mf5, mf6, mf7⟩, ms⟩ := cells8 X11'
          go_wp2_with fail
          go_ret
          have q := seq_off HS.out hv HFA.out (HUE.out.trans HX.out)
          rw [q]
          exact ⟨rfl, (((((((Y4.out.setCell HB11.out _).setCell HB11.out _).setCell HB11.out _).setCell HB11.out _).setCell HB11.out _).setCell HB11.out _).setCell HB11.out _).setCell HB11.out _⟩
        | some xv =>
          rw [hx] at HD
          have hxo : Hid (xv.ok = true) := HOK.out _ hx
          obtain ⟨t0, t1, t2, t3⟩ := xv
          replace HD : Hid (∀ w, Calls Try.prog 38 #[.agg #[.int .i64 x0, .int .i64 x1, .int .i64 x2, .int .i64 x3, .int .i64 y0, .int .i64 y1, .int .i64 y2, .int .i64 y3], .agg #[.int .i64 a0, .int .i64 a1, .int .i64 a2, .int .i64 a3]] w fun r w' => r = .returned (.tuple #[.agg #[.int .i64 x0, .int .i64 x1, .int .i64 x2, .int .i64 x3, .int .i64 t0, .int .i64 t1, .int .i64 t2, .int .i64 t3], .int .i64 0]) ∧ Below w.heap.size w w') := HD
          have HX : Hid (takeF ⟨x0, x1, x2, x3⟩ ⟨y0, y1, y2, y3⟩ ⟨a0, a1, a2, a3⟩ = some ⟨t0, t1, t2, t3⟩) := hx
          clear hx HDO
          go_wp2_with (go_at_call 38; refine (HD.out _).mono ?_)
          first | rintro _ W4 rfl b4 | rintro _ W4 ⟨rfl, b4⟩
          have X11' := at_below b4 (Nat.le_refl _) X11.out
          have X10' := at_below b4 (Nat.le_refl _) X10.out
          have O4 := keepMap O3.out (b4.block m O3.out.lt)
          have Y4 : Hid (Below w.heap.size w W4) := below_from Y3.out b4 Y3.out.size
          clear b4 e0 e1 e2 e3 e4 es10 m0 m1 m2 m3 m4 m5 m6 m7 mf0 mf1 mf2 mf3 mf4 mf5 mf6 mf7 ms HD
          obtain ⟨m0, m1, m2, m3, m4, m5, m6, m7, ⟨mf0, mf1, mf2, mf3, mf4, mf5, mf6, mf7⟩, ms⟩ := cells8 X11'
          go_upto_region 14 with fail
          have X5 := at_set8a (v0 := .int .i64 x0) (v1 := .int .i64 x1) (v2 := .int .i64 x2) (v3 := .int .i64 x3) (v4 := .int .i64 t0) (v5 := .int .i64 t1) (v6 := .int .i64 t2) (v7 := .int .i64 t3) X11'
          have X6 := (set8_other (W := W4) (g := b11) (k := b10) (v0 := .int .i64 x0) (v1 := .int .i64 x1) (v2 := .int .i64 x2) (v3 := .int .i64 x3) (v4 := .int .i64 t0) (v5 := .int .i64 t1) (v6 := .int .i64 t2) (v7 := .int .i64 t3) HNE.out).trans X10'
          have O5 := keepMap O4 (set8_other (W := W4) (g := b11) (k := m) (v0 := .int .i64 x0) (v1 := .int .i64 x1) (v2 := .int .i64 x2) (v3 := .int .i64 x3) (v4 := .int .i64 t0) (v5 := .int .i64 t1) (v6 := .int .i64 t2) (v7 := .int .i64 t3) (fun q => map_block O4 X11' q))
          have Y5 : Hid (Below w.heap.size w ((((((((W4.setCell ⟨b11, 0, none⟩ (.int .i64 x0)).setCell ⟨b11, 1, none⟩ (.int .i64 x1)).setCell ⟨b11, 2, none⟩ (.int .i64 x2)).setCell ⟨b11, 3, none⟩ (.int .i64 x3)).setCell ⟨b11, 4, none⟩ (.int .i64 t0)).setCell ⟨b11, 5, none⟩ (.int .i64 t1)).setCell ⟨b11, 6, none⟩ (.int .i64 t2)).setCell ⟨b11, 7, none⟩ (.int .i64 t3))) := (((((((Y4.out.setCell HB11.out _).setCell HB11.out _).setCell HB11.out _).setCell HB11.out _).setCell HB11.out _).setCell HB11.out _).setCell HB11.out _).setCell HB11.out _
          clear m0 m1 m2 m3 m4 m5 m6 m7 mf0 mf1 mf2 mf3 mf4 mf5 mf6 mf7 ms X11' X10' O4 Y4
          generalize (((((((W4.setCell ⟨b11, 0, none⟩ (.int .i64 x0)).setCell ⟨b11, 1, none⟩ (.int .i64 x1)).setCell ⟨b11, 2, none⟩ (.int .i64 x2)).setCell ⟨b11, 3, none⟩ (.int .i64 x3)).setCell ⟨b11, 4, none⟩ (.int .i64 t0)).setCell ⟨b11, 5, none⟩ (.int .i64 t1)).setCell ⟨b11, 6, none⟩ (.int .i64 t2)).setCell ⟨b11, 7, none⟩ (.int .i64 t3) = W5 at *
          obtain ⟨e0, e1, e2, e3, e4, -, es10⟩ := cells5 X6
          obtain ⟨m0, m1, m2, m3, m4, m5, m6, m7, -, ms⟩ := cells8 X5
          obtain ⟨w6, hr6, O6, G6⟩ := O5.update law9 Try.underlying83 (n := k) (by have := HL.out; unfold maxLen; omega) HKEY.out (val := .agg #[.int .i64 x0, .int .i64 x1, .int .i64 x2, .int .i64 x3, .int .i64 t0, .int .i64 t1, .int .i64 t2, .int .i64 t3]) (d := .held (⟨x0, x1, x2, x3⟩, ⟨t0, t1, t2, t3⟩)) (ps := []) (aE_mk ⟨x0, x1, x2, x3⟩ ⟨t0, t1, t2, t3⟩)
          have HO6 : Hid (w6.ownsMap Try.prog 9 aE m (k + 1) (mapA (ins A.nm ⟨nm.data.toList, ⟨x0, x1, x2, x3⟩, ⟨t0, t1, t2, t3⟩⟩ (drp A.nm nm.data.toList L)))) := by rw [mapA_put] at O6; exact O6
          have Y6 : Hid (Below w.heap.size w w6) := Y5.out.trans ((Kp.of_grown (S := (· = m)) G6 fun k e => (Option.some.inj e).symm).below Y5.out.size fun j hj q => by have := HM.out; omega)
          clear X5 X6 O5 Y5 O6 G6
          go_wp2_with fail
          refine ⟨⟨k + 1, by simp, by omega, _, _, seq_on HS.out hv HFA.out (HUE.out.trans HX.out), HAF.out.put HFA.out hxo.out, ?_, Y6.out⟩, by simp only [intOf]; omega⟩
          rw [HLI.out]
          exact HO6.out
      | none =>
        rw [hf] at LK
        replace LK : (Instr.lookup 83 (.map (some m)) (.string nm) true).run Try.prog W = .ok (.tuple #[.agg #[.int .i64 0, .int .i64 0, .int .i64 0, .int .i64 0, .int .i64 0, .int .i64 0, .int .i64 0, .int .i64 0], .bool false]) W := LK
        have hus := HUN.out hf
        clear hf
        go_upto_region 10 with fail
        have X11 : Hid ((W.alloc (.cells #[.int .i64 0, .int .i64 0, .int .i64 0, .int .i64 0, .int .i64 0, .int .i64 0, .int .i64 0, .int .i64 0] 69)).heap[W.heap.size]? = some (.cells #[.int .i64 0, .int .i64 0, .int .i64 0, .int .i64 0, .int .i64 0, .int .i64 0, .int .i64 0, .int .i64 0] 69)) := new0
        have X10 : Hid ((W.alloc (.cells #[.int .i64 0, .int .i64 0, .int .i64 0, .int .i64 0, .int .i64 0, .int .i64 0, .int .i64 0, .int .i64 0] 69)).heap[b10]? = some (.cells #[.string nm, .int .i64 a0, .int .i64 a1, .int .i64 a2, .int .i64 a3] 50)) := at_alloc X10.out
        have O3 : Hid ((W.alloc (.cells #[.int .i64 0, .int .i64 0, .int .i64 0, .int .i64 0, .int .i64 0, .int .i64 0, .int .i64 0, .int .i64 0] 69)).ownsMap Try.prog 9 aE m k (mapA L)) := keepMap O1.out (Below.heap_alloc _ _ m O1.out.lt)
        have Y3 : Hid (Below w.heap.size w (W.alloc (.cells #[.int .i64 0, .int .i64 0, .int .i64 0, .int .i64 0, .int .i64 0, .int .i64 0, .int .i64 0, .int .i64 0] 69))) := Y1.out.alloc Y1.out.size _
        have HNE : Hid (b10 ≠ W.heap.size) := by show b10 ≠ W.heap.size; omega
        have HB11 : Hid (w.heap.size ≤ W.heap.size) := Y1.out.size
        clear e0 e1 e2 e3 e4 es10 LK O1 Y1 HUN
        generalize W.alloc (.cells #[.int .i64 0, .int .i64 0, .int .i64 0, .int .i64 0, .int .i64 0, .int .i64 0, .int .i64 0, .int .i64 0] 69) = W2 at *
        generalize W.heap.size = b11 at *
        have XF := HAC.out _ Y3.out
        rw [← hus, ← HLM.out] at XF
        replace XF : W2.heap[ac.fb]? = some (.cells #[.int .i64 x0, .int .i64 x1, .int .i64 x2, .int .i64 x3, .int .i64 y0, .int .i64 y1, .int .i64 y2, .int .i64 y3] 69 (0, 0)) := XF
        obtain ⟨f0, f1, f2, f3, f4, f5, f6, f7, -, fs⟩ := cells8 XF
        obtain ⟨e0, e1, e2, e3, e4, -, es10⟩ := cells5 X10.out
        obtain ⟨m0, m1, m2, m3, m4, m5, m6, m7, ⟨mf0, mf1, mf2, mf3, mf4, mf5, mf6, mf7⟩, ms⟩ := cells8 X11.out
        clear hus HLM HAC
        go_upto_region 11 with (go_at_call 31; refine (H31.out _ Y3.out).mono ?_; rintro _ w9 ⟨rfl, h9⟩; obtain rfl := h9.symm)
        have X11' := X11.out
        have X10' := X10.out
        have O3' := O3.out
        have X11 : Hid (((((((((W2.setCell ⟨b11, 0, none⟩ (.int .i64 x0)).setCell ⟨b11, 1, none⟩ (.int .i64 x1)).setCell ⟨b11, 2, none⟩ (.int .i64 x2)).setCell ⟨b11, 3, none⟩ (.int .i64 x3)).setCell ⟨b11, 4, none⟩ (.int .i64 y0)).setCell ⟨b11, 5, none⟩ (.int .i64 y1)).setCell ⟨b11, 6, none⟩ (.int .i64 y2)).setCell ⟨b11, 7, none⟩ (.int .i64 y3)).heap[b11]? = some (.cells #[.int .i64 x0, .int .i64 x1, .int .i64 x2, .int .i64 x3, .int .i64 y0, .int .i64 y1, .int .i64 y2, .int .i64 y3] 69)) := at_set8a X11'
        have X10 : Hid (((((((((W2.setCell ⟨b11, 0, none⟩ (.int .i64 x0)).setCell ⟨b11, 1, none⟩ (.int .i64 x1)).setCell ⟨b11, 2, none⟩ (.int .i64 x2)).setCell ⟨b11, 3, none⟩ (.int .i64 x3)).setCell ⟨b11, 4, none⟩ (.int .i64 y0)).setCell ⟨b11, 5, none⟩ (.int .i64 y1)).setCell ⟨b11, 6, none⟩ (.int .i64 y2)).setCell ⟨b11, 7, none⟩ (.int .i64 y3)).heap[b10]? = some (.cells #[.string nm, .int .i64 a0, .int .i64 a1, .int .i64 a2, .int .i64 a3] 50)) := (set8_other HNE.out).trans X10'
        have O3 : Hid (((((((((W2.setCell ⟨b11, 0, none⟩ (.int .i64 x0)).setCell ⟨b11, 1, none⟩ (.int .i64 x1)).setCell ⟨b11, 2, none⟩ (.int .i64 x2)).setCell ⟨b11, 3, none⟩ (.int .i64 x3)).setCell ⟨b11, 4, none⟩ (.int .i64 y0)).setCell ⟨b11, 5, none⟩ (.int .i64 y1)).setCell ⟨b11, 6, none⟩ (.int .i64 y2)).setCell ⟨b11, 7, none⟩ (.int .i64 y3)).ownsMap Try.prog 9 aE m k (mapA L)) := keepMap O3' (set8_other fun q => map_block O3' X11' q)
        have Y3 : Hid (Below w.heap.size w ((((((((W2.setCell ⟨b11, 0, none⟩ (.int .i64 x0)).setCell ⟨b11, 1, none⟩ (.int .i64 x1)).setCell ⟨b11, 2, none⟩ (.int .i64 x2)).setCell ⟨b11, 3, none⟩ (.int .i64 x3)).setCell ⟨b11, 4, none⟩ (.int .i64 y0)).setCell ⟨b11, 5, none⟩ (.int .i64 y1)).setCell ⟨b11, 6, none⟩ (.int .i64 y2)).setCell ⟨b11, 7, none⟩ (.int .i64 y3))) := (((((((Y3.out.setCell HB11.out _).setCell HB11.out _).setCell HB11.out _).setCell HB11.out _).setCell HB11.out _).setCell HB11.out _).setCell HB11.out _).setCell HB11.out _
        clear m0 m1 m2 m3 m4 m5 m6 m7 mf0 mf1 mf2 mf3 mf4 mf5 mf6 mf7 ms e0 e1 e2 e3 e4 es10 f0 f1 f2 f3 f4 f5 f6 f7 fs X11' X10' O3' H31 XF
        generalize ((((((((W2.setCell ⟨b11, 0, none⟩ (.int .i64 x0)).setCell ⟨b11, 1, none⟩ (.int .i64 x1)).setCell ⟨b11, 2, none⟩ (.int .i64 x2)).setCell ⟨b11, 3, none⟩ (.int .i64 x3)).setCell ⟨b11, 4, none⟩ (.int .i64 y0)).setCell ⟨b11, 5, none⟩ (.int .i64 y1)).setCell ⟨b11, 6, none⟩ (.int .i64 y2)).setCell ⟨b11, 7, none⟩ (.int .i64 y3)) = W3 at *
        have hv := hv'.out
        obtain ⟨e0, e1, e2, e3, e4, -, es10⟩ := cells5 X10.out
        obtain ⟨m0, m1, m2, m3, m4, m5, m6, m7, ⟨mf0, mf1, mf2, mf3, mf4, mf5, mf6, mf7⟩, ms⟩ := cells8 X11.out
        have HD : Hid (∀ w, Calls Try.prog 38 #[.agg #[.int .i64 x0, .int .i64 x1, .int .i64 x2, .int .i64 x3, .int .i64 y0, .int .i64 y1, .int .i64 y2, .int .i64 y3], .agg #[.int .i64 a0, .int .i64 a1, .int .i64 a2, .int .i64 a3]] w fun r w' => r = ansF (takeF ⟨x0, x1, x2, x3⟩ ⟨y0, y1, y2, y3⟩ ⟨a0, a1, a2, a3⟩) ⟨x0, x1, x2, x3⟩ 9 ∧ Below w.heap.size w w') := HDO.out
        cases hx : takeF ⟨x0, x1, x2, x3⟩ ⟨y0, y1, y2, y3⟩ ⟨a0, a1, a2, a3⟩ with
        | none =>
          rw [hx] at HD
          replace HD : Hid (∀ w, Calls Try.prog 38 #[.agg #[.int .i64 x0, .int .i64 x1, .int .i64 x2, .int .i64 x3, .int .i64 y0, .int .i64 y1, .int .i64 y2, .int .i64 y3], .agg #[.int .i64 a0, .int .i64 a1, .int .i64 a2, .int .i64 a3]] w fun r w' => r = .returned (.tuple #[.agg #[.int .i64 0, .int .i64 0, .int .i64 0, .int .i64 0, .int .i64 0, .int .i64 0, .int .i64 0, .int .i64 0], .int .i64 9]) ∧ Below w.heap.size w w') := HD
          have HX : Hid (takeF ⟨x0, x1, x2, x3⟩ ⟨y0, y1, y2, y3⟩ ⟨a0, a1, a2, a3⟩ = none) := hx
          clear hx HDO
          go_wp2_with (go_at_call 38; refine (HD.out _).mono ?_)
          first | rintro _ W4 rfl b4 | rintro _ W4 ⟨rfl, b4⟩
          have X11' := at_below b4 (Nat.le_refl _) X11.out
          have Y4 : Hid (Below w.heap.size w W4) := below_from Y3.out b4 Y3.out.size
          clear b4 e0 e1 e2 e3 e4 es10 m0 m1 m2 m3 m4 m5 m6 m7 mf0 mf1 mf2 mf3 mf4 mf5 mf6 mf7 ms HD
          obtain ⟨m0, m1, m2, m3, m4, m5, m6, m7, ⟨mf0, mf1, mf2, mf3, mf4, mf5, mf6, mf7⟩, ms⟩ := cells8 X11'
          go_wp2_with fail
          go_ret
          have q := seq_off HS.out hv HFA.out (HUE.out.trans HX.out)
          rw [q]
          exact ⟨rfl, (((((((Y4.out.setCell HB11.out _).setCell HB11.out _).setCell HB11.out _).setCell HB11.out _).setCell HB11.out _).setCell HB11.out _).setCell HB11.out _).setCell HB11.out _⟩
        | some xv =>
          rw [hx] at HD
          have hxo : Hid (xv.ok = true) := HOK.out _ hx
          obtain ⟨t0, t1, t2, t3⟩ := xv
          replace HD : Hid (∀ w, Calls Try.prog 38 #[.agg #[.int .i64 x0, .int .i64 x1, .int .i64 x2, .int .i64 x3, .int .i64 y0, .int .i64 y1, .int .i64 y2, .int .i64 y3], .agg #[.int .i64 a0, .int .i64 a1, .int .i64 a2, .int .i64 a3]] w fun r w' => r = .returned (.tuple #[.agg #[.int .i64 x0, .int .i64 x1, .int .i64 x2, .int .i64 x3, .int .i64 t0, .int .i64 t1, .int .i64 t2, .int .i64 t3], .int .i64 0]) ∧ Below w.heap.size w w') := HD
          have HX : Hid (takeF ⟨x0, x1, x2, x3⟩ ⟨y0, y1, y2, y3⟩ ⟨a0, a1, a2, a3⟩ = some ⟨t0, t1, t2, t3⟩) := hx
          clear hx HDO
          go_wp2_with (go_at_call 38; refine (HD.out _).mono ?_)
          first | rintro _ W4 rfl b4 | rintro _ W4 ⟨rfl, b4⟩
          have X11' := at_below b4 (Nat.le_refl _) X11.out
          have X10' := at_below b4 (Nat.le_refl _) X10.out
          have O4 := keepMap O3.out (b4.block m O3.out.lt)
          have Y4 : Hid (Below w.heap.size w W4) := below_from Y3.out b4 Y3.out.size
          clear b4 e0 e1 e2 e3 e4 es10 m0 m1 m2 m3 m4 m5 m6 m7 mf0 mf1 mf2 mf3 mf4 mf5 mf6 mf7 ms HD
          obtain ⟨m0, m1, m2, m3, m4, m5, m6, m7, ⟨mf0, mf1, mf2, mf3, mf4, mf5, mf6, mf7⟩, ms⟩ := cells8 X11'
          go_upto_region 14 with fail
          have X5 := at_set8a (v0 := .int .i64 x0) (v1 := .int .i64 x1) (v2 := .int .i64 x2) (v3 := .int .i64 x3) (v4 := .int .i64 t0) (v5 := .int .i64 t1) (v6 := .int .i64 t2) (v7 := .int .i64 t3) X11'
          have X6 := (set8_other (W := W4) (g := b11) (k := b10) (v0 := .int .i64 x0) (v1 := .int .i64 x1) (v2 := .int .i64 x2) (v3 := .int .i64 x3) (v4 := .int .i64 t0) (v5 := .int .i64 t1) (v6 := .int .i64 t2) (v7 := .int .i64 t3) HNE.out).trans X10'
          have O5 := keepMap O4 (set8_other (W := W4) (g := b11) (k := m) (v0 := .int .i64 x0) (v1 := .int .i64 x1) (v2 := .int .i64 x2) (v3 := .int .i64 x3) (v4 := .int .i64 t0) (v5 := .int .i64 t1) (v6 := .int .i64 t2) (v7 := .int .i64 t3) (fun q => map_block O4 X11' q))
          have Y5 : Hid (Below w.heap.size w ((((((((W4.setCell ⟨b11, 0, none⟩ (.int .i64 x0)).setCell ⟨b11, 1, none⟩ (.int .i64 x1)).setCell ⟨b11, 2, none⟩ (.int .i64 x2)).setCell ⟨b11, 3, none⟩ (.int .i64 x3)).setCell ⟨b11, 4, none⟩ (.int .i64 t0)).setCell ⟨b11, 5, none⟩ (.int .i64 t1)).setCell ⟨b11, 6, none⟩ (.int .i64 t2)).setCell ⟨b11, 7, none⟩ (.int .i64 t3))) := (((((((Y4.out.setCell HB11.out _).setCell HB11.out _).setCell HB11.out _).setCell HB11.out _).setCell HB11.out _).setCell HB11.out _).setCell HB11.out _).setCell HB11.out _
          clear m0 m1 m2 m3 m4 m5 m6 m7 mf0 mf1 mf2 mf3 mf4 mf5 mf6 mf7 ms X11' X10' O4 Y4
          generalize (((((((W4.setCell ⟨b11, 0, none⟩ (.int .i64 x0)).setCell ⟨b11, 1, none⟩ (.int .i64 x1)).setCell ⟨b11, 2, none⟩ (.int .i64 x2)).setCell ⟨b11, 3, none⟩ (.int .i64 x3)).setCell ⟨b11, 4, none⟩ (.int .i64 t0)).setCell ⟨b11, 5, none⟩ (.int .i64 t1)).setCell ⟨b11, 6, none⟩ (.int .i64 t2)).setCell ⟨b11, 7, none⟩ (.int .i64 t3) = W5 at *
          obtain ⟨e0, e1, e2, e3, e4, -, es10⟩ := cells5 X6
          obtain ⟨m0, m1, m2, m3, m4, m5, m6, m7, -, ms⟩ := cells8 X5
          obtain ⟨w6, hr6, O6, G6⟩ := O5.update law9 Try.underlying83 (n := k) (by have := HL.out; unfold maxLen; omega) HKEY.out (val := .agg #[.int .i64 x0, .int .i64 x1, .int .i64 x2, .int .i64 x3, .int .i64 t0, .int .i64 t1, .int .i64 t2, .int .i64 t3]) (d := .held (⟨x0, x1, x2, x3⟩, ⟨t0, t1, t2, t3⟩)) (ps := []) (aE_mk ⟨x0, x1, x2, x3⟩ ⟨t0, t1, t2, t3⟩)
          have HO6 : Hid (w6.ownsMap Try.prog 9 aE m (k + 1) (mapA (ins A.nm ⟨nm.data.toList, ⟨x0, x1, x2, x3⟩, ⟨t0, t1, t2, t3⟩⟩ (drp A.nm nm.data.toList L)))) := by rw [mapA_put] at O6; exact O6
          have Y6 : Hid (Below w.heap.size w w6) := Y5.out.trans ((Kp.of_grown (S := (· = m)) G6 fun k e => (Option.some.inj e).symm).below Y5.out.size fun j hj q => by have := HM.out; omega)
          clear X5 X6 O5 Y5 O6 G6
          go_wp2_with fail
          refine ⟨⟨k + 1, by simp, by omega, _, _, seq_on HS.out hv HFA.out (HUE.out.trans HX.out), HAF.out.put HFA.out hxo.out, ?_, Y6.out⟩, by simp only [intOf]; omega⟩
          rw [HLI.out]
          exact HO6.out

set_option maxHeartbeats 8000000 in
set_option maxRecDepth 100000 in
theorem post39 {w : World} {pb : Nat} {mb : Option Nat} {l : List Ac} (h : LgAt w pb mb l) (s : Option Addr) (es : List E) (c : Nat) (hn : es.length < 1152921504606846976) (hr : ERow w s es) (hz : ∀ e ∈ es, e.nm.size ≤ 281474976710656) (hck : checkD (l.map Ac.s) es = 0) :
    Calls Try.prog 37 #[.pointer (some ⟨pb, 0, none⟩), .slice s es.length c, .func (.func 39) #[] #[]] w fun e w' => e = .returned (.int .i64 (code (seqU giveF (l.map Ac.s) (u0 (l.map Ac.s)) es) 2)) ∧ Hid (PostR w w' pb mb l (seqU giveF (l.map Ac.s) (u0 (l.map Ac.s)) es)) := by
  have H47 : Hid (Calls Try.prog 47 #[.pointer (some ⟨pb, 0, none⟩), .slice s es.length c] w fun e w' => e = .returned (.int .i64 0) ∧ Below w.heap.size w w') := by
    have := check_raw (.pointer (some ⟨pb, 0, none⟩)) _ s es c w hn hr hz (finds_at h)
    rw [← checkD_chk, hck] at this
    exact this
  have HCK : Hid ((∀ e ∈ es, e.am.ok = true) ∧ ∀ e ∈ es, ∃ a, fnd A.nm e.n (l.map Ac.s) = some a) := check0 hck
  have HH : Hid (LgAt w pb mb l) := h
  obtain ⟨D, hD⟩ : ∃ D, D = l.map Ac.s := ⟨_, rfl⟩
  have HDD : Hid (D = l.map Ac.s) := hD
  rw [← hD] at HCK ⊢
  have HR : Hid (ERow w s es) := hr
  have HZ : Hid (∀ e ∈ es, e.nm.size ≤ 281474976710656) := hz
  have HOKD : Hid (∀ a ∈ D, a.lim.ok = true ∧ a.us.ok = true) := by rw [hD]; exact h.led.ok
  generalize hL : es.length = n at *
  have HLE : Hid (es.length = n) := hL
  have hmm := @run_makeMap Try.prog
  clear hL hr hz hck h hD
  go_enter Try.func37, Try.ntmps37
  go_upto_region 4 with (go_at_call 47; refine H47.out.mono ?_; rintro _ w1 ⟨rfl, b1⟩)
  go_upto_region 5 with fail
  have O0 : Hid ((w1.alloc (.map #[] 0)).ownsMap Try.prog 9 aE w1.heap.size 0 (mapA [])) := World.ownsMap_made w1 Try.prog 9 aE
  have Y0 : Hid (Below w.heap.size w (w1.alloc (.map #[] 0))) := b1.alloc b1.size _
  have HM : Hid (w.heap.size ≤ w1.heap.size) := b1.size
  clear b1 H47 hmm
  generalize w1.alloc (.map #[] 0) = W1 at *
  generalize w1.heap.size = m at *
  have HL : Hid (n < 1152921504606846976) := hn
  go_wp2_with fail
  go_loopw [25] (fun x wr => ∃ k : Nat, x = .int .i64 k ∧ k ≤ n ∧ ∃ L u, seqU giveF D (u0 D) (es.take k) = some u ∧ Aft D L u ∧ wr.ownsMap Try.prog 9 aE m k (mapA L) ∧ Below w.heap.size w wr) (fun x _ => (n : Int).toNat - (intOf x).toNat)
  case atStart => exact ⟨0, rfl, Nat.zero_le _, [], u0 D, rfl, Aft.start HOKD.out, O0.out, Y0.out⟩
  case round =>
    obtain ⟨k, rfl, hk, L, u, hS, hAf, hO, hb⟩ := hrel
    clear O0 Y0
    have HS : Hid (seqU giveF D (u0 D) (es.take k) = some u) := hS
    have HAF : Hid (Aft D L u) := hAf
    have HO : Hid (wr.ownsMap Try.prog 9 aE m k (mapA L)) := hO
    have HB : Hid (Below w.heap.size w wr) := hb
    clear hS hAf hO
    by_cases h0 : k = n
    · subst h0
      have HS2 : Hid (seqU giveF D (u0 D) es = some u) := by
        have := HS.out
        rw [← HLE.out, List.take_length] at this
        exact this
      clear HS
      clear hb
      have O1 := tight HO.out
      go_wp2_with (first
        | (at_range; refine wpList_range_own _ rfl _ 83 rfl 9 69 law9 Try.underlying83 _ m _ (mapA L) rfl O1 ?_; intro w2 hrg0 hg0 hs0)
        | go_in)
      go_frame
      have R0 : Hid (Wrt w w2 pb mb l u L m wr.heap.size (Maps.size (mapA L)) (Maps.has (mapA L)) (Maps.size (mapA L))) := Wrt.start HH.out HB.out (by rw [← HDD.out]; exact HAF.out) HM.out hrg0 hg0
      clear hrg0 hg0 hs0 O1 HB HO
      generalize wr.heap.size = r at *
      go_loopw [62] (fun _ wr => ∃ left cnt, Wrt w wr pb mb l u L m r (Maps.size (mapA L)) left cnt) (fun _ wr => wr.rangeLeft m r)
      case atStart => exact ⟨_, _, R0.out⟩
      case round =>
        obtain ⟨left, cnt, hW⟩ := hrel
        have HW : Hid (Wrt w wr pb mb l u L m r (Maps.size (mapA L)) left cnt) := hW
        clear hW R0
        go_wp2_with (first
          | (at_next; refine wpList_next_ranges _ rfl _ rfl 9 law9 aE Value.string mkA invS aE_inv m r (Maps.size (mapA L)) (mapA L) left cnt rfl HW.out.rg ?_ ?_)
          | go_in)
        · intro hc0 hl0
          have HG : Hid (LgAt wr pb mb (setG u l)) := HW.out.done hl0
          have HK : Hid (Kp (fun k => ∃ a ∈ l, a.fb = k) w wr) := HW.out.k
          clear hc0 hl0 HW
          go_wp2_with fail
          go_ret
          rw [HS2.out]
          exact ⟨rfl, HG.out, HK.out⟩
        · intro nm' ca cb kl ya yb w3 cnt2 hkey hlk hy' hat hrg2 hlt hg2 hs2 hen
          obtain ⟨nm2, e1, rfl, hsz⟩ := string_of_keyOf Try.underlying9 hkey
          have e2 : nm' = nm2 := by injection e1
          subst e2
          obtain ⟨bb, hbb⟩ := HW.out.hl _ hlk
          obtain ⟨aa, haa, hbe⟩ := HAF.out.yes _ bb hbb
          rw [HDD.out] at haa
          obtain ⟨ac, hac, has⟩ := fnd_ac haa
          have hval : mkA (ca, cb) = .agg (c8 ac.lim (u nm'.data.toList)) := by
            have := hat .nil
            rw [mapA_at, hbb, hbe, ← has] at this
            have h3 : aE (mkA (ca, cb)) = some (.held (ac.lim, u nm'.data.toList), yb) := by rw [hy', ← show DataW.held (ac.lim, u nm'.data.toList) = ya from this]
            exact aE_held h3
          rw [hval] at hen
          obtain ⟨I1, I2⟩ := HW.out.iter HH.out hg2
          have HC : Hid (cnt2 < cnt ∧ wr.rangeLeft m r = cnt) := ⟨hlt, HW.out.rg.left_eq⟩
          obtain ⟨hac1, hac2⟩ := fnd_some hac
          have XA := I1.ac _ (List.mem_map.2 ⟨ac, hac1, rfl⟩)
          rw [show (ac.setg fun n => if left (.string n) then u0 (l.map Ac.s) n else u n).fb = ac.fb from rfl] at XA
          have HXA : Hid (w3.heap[ac.fb]? = some (.cells (c8 ac.lim (if left (.string ac.nm) then u0 (l.map Ac.s) ac.nm else u ac.nm)) 69 (0, 0))) := XA
          have H31 : Hid (∀ w1, Below w3.heap.size w3 w1 → Calls Try.prog 31 #[.pointer (some ⟨pb, 0, none⟩), .string nm'] w1 fun e w' => e = .returned (.pointer (some ⟨ac.fb, 0, none⟩)) ∧ w' = w1) := fun w1 b => by
            have I3 := I1.keep fun k hk => b.block k (I1.lt hk)
            have := find_raw w1 pb mb nm' _ I3.cell (look_at I3.mp nm' hsz)
            rw [fnd_setG, hac] at this
            exact this
          have HN : Hid (∀ w4, w4.heap[ac.fb]? = some (.cells (c8 ac.lim (u nm'.data.toList)) 69 (0, 0)) → Kp (· = ac.fb) w3 w4 → Wrt w w4 pb mb l u L m r (Maps.size (mapA L)) (fun z => left z && !z.sameKey (.string nm'.data.toList)) cnt2) := fun w4 hc hk => HW.out.next HH.out (by rw [← HDD.out]; exact HAF.out) hac I1 I2 hrg2 hc hk
          have HLT : Hid (ac.fb < w3.heap.size) := (Array.getElem?_eq_some_iff.1 XA).1
          clear hkey hlk hy' hat hrg2 hlt hg2 hs2 I1 I2 XA hac hac1 hac2 has hbb hbe haa hval HW hsz e1 HS2 HCK HH HDD HR HZ HOKD HLE HAF
          generalize ac.lim = LM at *
          generalize u nm'.data.toList = UX at *
          obtain ⟨x0, x1, x2, x3⟩ := LM
          obtain ⟨t0, t1, t2, t3⟩ := UX
          unfold c8 at hen HXA HN
          generalize ac.fb = fb at *
          generalize (if left (.string ac.nm) then u0 (l.map Ac.s) ac.nm else u ac.nm) = old at *
          go_upto_region 19 with fail
          have K0 := at_alloc (o := .cells #[.int .i64 x0, .int .i64 x1, .int .i64 x2, .int .i64 x3, .int .i64 t0, .int .i64 t1, .int .i64 t2, .int .i64 t3] 69 (0, 0)) HXA.out
          have K1 := new0 (w := w3) (o := .cells #[.int .i64 x0, .int .i64 x1, .int .i64 x2, .int .i64 x3, .int .i64 t0, .int .i64 t1, .int .i64 t2, .int .i64 t3] 69 (0, 0))
          have H31' : Hid (∀ j, Calls Try.prog 31 #[.pointer (some ⟨pb, 0, none⟩), .string nm'] ((w3.alloc (.cells #[.int .i64 x0, .int .i64 x1, .int .i64 x2, .int .i64 x3, .int .i64 t0, .int .i64 t1, .int .i64 t2, .int .i64 t3] 69 (0, 0))).drewN j) fun e w' => e = .returned (.pointer (some ⟨fb, 0, none⟩)) ∧ w' = ((w3.alloc (.cells #[.int .i64 x0, .int .i64 x1, .int .i64 x2, .int .i64 x3, .int .i64 t0, .int .i64 t1, .int .i64 t2, .int .i64 t3] 69 (0, 0))).drewN j)) := fun j => H31.out _ (below_drewN ((Below.refl _ w3).alloc (Nat.le_refl _) _) j)
          have BK : Hid (Kp (· = fb) w3 (w3.alloc (.cells #[.int .i64 x0, .int .i64 x1, .int .i64 x2, .int .i64 x3, .int .i64 t0, .int .i64 t1, .int .i64 t2, .int .i64 t3] 69 (0, 0)))) := Kp.alloc _ _
          have hne : fb ≠ w3.heap.size := by have := HLT.out; omega
          clear H31 HXA HLT
          generalize w3.alloc (.cells #[.int .i64 x0, .int .i64 x1, .int .i64 x2, .int .i64 x3, .int .i64 t0, .int .i64 t1, .int .i64 t2, .int .i64 t3] 69 (0, 0)) = W3 at *
          generalize w3.heap.size = bx at *
          obtain ⟨k0, k1, k2, k3, k4, k5, k6, k7, ⟨kf0, kf1, kf2, kf3, kf4, kf5, kf6, kf7⟩, ks⟩ := cells8 K0
          obtain ⟨m0, m1, m2, m3, m4, m5, m6, m7, -, ms⟩ := cells8 K1
          go_region_with (go_at_call 31; refine (H31'.out 1).mono ?_; rintro _ w9 ⟨rfl, rfl⟩)
          all_goals go_wp2_with fail
          all_goals have hN := HN.out _ (at_set8a (v0 := .int .i64 x0) (v1 := .int .i64 x1) (v2 := .int .i64 x2) (v3 := .int .i64 x3) (v4 := .int .i64 t0) (v5 := .int .i64 t1) (v6 := .int .i64 t2) (v7 := .int .i64 t3) (W := W3.drewN 1) K0) (kp_set8 (BK.out.drew 1) rfl)
          all_goals exact ⟨⟨_, _, hN⟩, by rw [hN.rg.left_eq, HC.out.2]; exact HC.out.1⟩
    · have hlt : k < es.length := by have := HLE.out; omega
      have hlt' : (k : Int) < (n : Int) := by omega
      have hd : decide ((k : Int) < (n : Int)) = true := decide_eq_true hlt'
      obtain ⟨v, hv⟩ : ∃ v, es[k]? = some v := ⟨es[k], List.getElem?_eq_getElem hlt⟩
      have hvm := List.mem_of_getElem? hv
      have hvz := HZ.out v hvm
      have hvo := HCK.out.1 v hvm
      obtain ⟨a, hfa⟩ := HCK.out.2 v hvm
      have hfa' := hfa
      rw [HDD.out] at hfa'
      obtain ⟨ac, hac, has⟩ := fnd_ac hfa'
      obtain ⟨q, o, rfl, c0, c1, c2, c3, c4⟩ := (HR.out.keep hb) k _ hv
      have HFA : Hid (fnd A.nm v.n D = some a) := hfa
      have HKEY : Hid (keyOf Try.prog 9 (.string v.nm) = some (.string v.nm.data.toList)) := keyOf_string_mk (P := Try.prog) Try.underlying9 (by unfold maxLen; omega)
      have HAO : Hid (a.lim.ok = true ∧ (u v.n).ok = true) := ⟨(HOKD.out a (fnd_some hfa).1).1, HAF.out.ok _ _ hfa⟩
      have HLK : Hid (∀ W, W.ownsMap Try.prog 9 aE m k (mapA L) → (Instr.lookup 83 (.map (some m)) (.string v.nm) true).run Try.prog W = .ok (.tuple #[.agg (if (fnd A.nm v.n L).isSome then c8 a.lim (u v.n) else c8 V.nil V.nil), .bool (fnd A.nm v.n L).isSome]) W) := fun W hW => aft_look hW HAF.out v.nm hvz hfa
      have HUN : Hid (fnd A.nm v.n L = none → u v.n = ac.us) := fun hq => by
        rw [HAF.out.no _ hq]
        unfold u0
        rw [hfa, ← has]
        rfl
      have HLM : Hid (a.lim = ac.lim) := by rw [← has]; rfl
      have H31 : Hid (∀ W, Below w.heap.size w W → Calls Try.prog 31 #[.pointer (some ⟨pb, 0, none⟩), .string v.nm] W fun e w' => e = .returned (.pointer (some ⟨ac.fb, 0, none⟩)) ∧ w' = W) := fun W hW => by
        have := finds_at HH.out W hW v.nm hvz
        simp only at this
        rw [show fnd Ac.nm v.nm.data.toList l = some ac from hac] at this
        exact this
      have HAC : Hid (∀ W, Below w.heap.size w W → W.heap[ac.fb]? = some (.cells (c8 ac.lim ac.us) 69 (0, 0))) := fun W hW => (hW.block _ (HH.out.lt (.inr (.inr ⟨ac, (fnd_some hac).1, rfl⟩)))).trans (HH.out.ac ac (fnd_some hac).1)
      have HDO : Hid (∀ w, Calls Try.prog 39 #[.agg (c8 a.lim (u v.n)), vec v.am] w fun r w' => r = ansF (giveF a.lim (u v.n) v.am) a.lim 2 ∧ Below w.heap.size w w') := fun w => given_any _ _ _ HAO.out.2 hvo w
      have HOK : Hid (∀ x, giveF a.lim (u v.n) v.am = some x → x.ok = true) := fun x hx => giveF_ok HAO.out.1 HAO.out.2 hvo hx
      clear hb hvz hvo hfa hfa' hac has HAO hvm HR HZ HH HCK
      obtain ⟨nm, a0, a1, a2, a3⟩ := v
      have hv' : Hid (es[k]? = some ⟨nm, ⟨a0, a1, a2, a3⟩⟩) := hv
      rw [show (E.mk nm ⟨a0, a1, a2, a3⟩).n = nm.data.toList from rfl] at HFA HLK HUN HDO HOK
      simp only [] at c0 c1 c2 c3 c4 HDO HOK HKEY HLK H31
      clear hv
      obtain ⟨uu, huu⟩ : ∃ uu, u nm.data.toList = uu := ⟨_, rfl⟩
      have HU : Hid (u nm.data.toList = uu) := huu
      rw [huu] at HLK HUN HDO HOK
      clear huu
      obtain ⟨lm, hlm⟩ : ∃ lm, a.lim = lm := ⟨_, rfl⟩
      have HLI : Hid (a.lim = lm) := hlm
      rw [hlm] at HLK HDO HOK HLM
      clear hlm
      obtain ⟨x0, x1, x2, x3⟩ := lm
      obtain ⟨y0, y1, y2, y3⟩ := uu
      have HUE : Hid (giveF a.lim (u (E.mk nm ⟨a0, a1, a2, a3⟩).n) (E.mk nm ⟨a0, a1, a2, a3⟩).am = giveF ⟨x0, x1, x2, x3⟩ ⟨y0, y1, y2, y3⟩ ⟨a0, a1, a2, a3⟩) := by
        show giveF a.lim (u nm.data.toList) ⟨a0, a1, a2, a3⟩ = _
        rw [HU.out, HLI.out]
      go_upto_region 8 with fail
      have X10 : Hid ((wr.alloc (.cells #[.string nm, .int .i64 a0, .int .i64 a1, .int .i64 a2, .int .i64 a3] 50)).heap[wr.heap.size]? = some (.cells #[.string nm, .int .i64 a0, .int .i64 a1, .int .i64 a2, .int .i64 a3] 50)) := new0
      have O1 : Hid ((wr.alloc (.cells #[.string nm, .int .i64 a0, .int .i64 a1, .int .i64 a2, .int .i64 a3] 50)).ownsMap Try.prog 9 aE m k (mapA L)) := keepMap HO.out (Below.heap_alloc _ _ m HO.out.lt)
      have Y1 : Hid (Below w.heap.size w (wr.alloc (.cells #[.string nm, .int .i64 a0, .int .i64 a1, .int .i64 a2, .int .i64 a3] 50))) := HB.out.alloc HB.out.size _
      clear c0 c1 c2 c3 c4 HO HB
      generalize wr.alloc (.cells #[.string nm, .int .i64 a0, .int .i64 a1, .int .i64 a2, .int .i64 a3] 50) = W at *
      generalize wr.heap.size = b10 at *
      have LK := HLK.out _ O1.out
      obtain ⟨e0, e1, e2, e3, e4, -, es10⟩ := cells5 X10.out
      clear HLK
      cases hf : fnd A.nm nm.data.toList L with
      | some bb =>
        rw [hf] at LK
        replace LK : (Instr.lookup 83 (.map (some m)) (.string nm) true).run Try.prog W = .ok (.tuple #[.agg #[.int .i64 x0, .int .i64 x1, .int .i64 x2, .int .i64 x3, .int .i64 y0, .int .i64 y1, .int .i64 y2, .int .i64 y3], .bool true]) W := LK
        clear hf
        go_upto_region 11 with fail
        have X11 : Hid ((W.alloc (.cells #[.int .i64 x0, .int .i64 x1, .int .i64 x2, .int .i64 x3, .int .i64 y0, .int .i64 y1, .int .i64 y2, .int .i64 y3] 69)).heap[W.heap.size]? = some (.cells #[.int .i64 x0, .int .i64 x1, .int .i64 x2, .int .i64 x3, .int .i64 y0, .int .i64 y1, .int .i64 y2, .int .i64 y3] 69)) := new0
        have X10 : Hid ((W.alloc (.cells #[.int .i64 x0, .int .i64 x1, .int .i64 x2, .int .i64 x3, .int .i64 y0, .int .i64 y1, .int .i64 y2, .int .i64 y3] 69)).heap[b10]? = some (.cells #[.string nm, .int .i64 a0, .int .i64 a1, .int .i64 a2, .int .i64 a3] 50)) := at_alloc X10.out
        have O3 : Hid ((W.alloc (.cells #[.int .i64 x0, .int .i64 x1, .int .i64 x2, .int .i64 x3, .int .i64 y0, .int .i64 y1, .int .i64 y2, .int .i64 y3] 69)).ownsMap Try.prog 9 aE m k (mapA L)) := keepMap O1.out (Below.heap_alloc _ _ m O1.out.lt)
        have Y3 : Hid (Below w.heap.size w (W.alloc (.cells #[.int .i64 x0, .int .i64 x1, .int .i64 x2, .int .i64 x3, .int .i64 y0, .int .i64 y1, .int .i64 y2, .int .i64 y3] 69))) := Y1.out.alloc Y1.out.size _
        have HNE : Hid (b10 ≠ W.heap.size) := by show b10 ≠ W.heap.size; omega
        have HB11 : Hid (w.heap.size ≤ W.heap.size) := Y1.out.size
        clear e0 e1 e2 e3 e4 es10 LK O1 Y1 H31 HAC HUN HLM
        generalize W.alloc (.cells #[.int .i64 x0, .int .i64 x1, .int .i64 x2, .int .i64 x3, .int .i64 y0, .int .i64 y1, .int .i64 y2, .int .i64 y3] 69) = W3 at *
        generalize W.heap.size = b11 at *
        have hv := hv'.out
        obtain ⟨e0, e1, e2, e3, e4, -, es10⟩ := cells5 X10.out
        obtain ⟨m0, m1, m2, m3, m4, m5, m6, m7, ⟨mf0, mf1, mf2, mf3, mf4, mf5, mf6, mf7⟩, ms⟩ := cells8 X11.out
        have HD : Hid (∀ w, Calls Try.prog 39 #[.agg #[.int .i64 x0, .int .i64 x1, .int .i64 x2, .int .i64 x3, .int .i64 y0, .int .i64 y1, .int .i64 y2, .int .i64 y3], .agg #[.int .i64 a0, .int .i64 a1, .int .i64 a2, .int .i64 a3]] w fun r w' => r = ansF (giveF ⟨x0, x1, x2, x3⟩ ⟨y0, y1, y2, y3⟩ ⟨a0, a1, a2, a3⟩) ⟨x0, x1, x2, x3⟩ 2 ∧ Below w.heap.size w w') := HDO.out
        cases hx : giveF ⟨x0, x1, x2, x3⟩ ⟨y0, y1, y2, y3⟩ ⟨a0, a1, a2, a3⟩ with
        | none =>
          rw [hx] at HD
          replace HD : Hid (∀ w, Calls Try.prog 39 #[.agg #[.int .i64 x0, .int .i64 x1, .int .i64 x2, .int .i64 x3, .int .i64 y0, .int .i64 y1, .int .i64 y2, .int .i64 y3], .agg #[.int .i64 a0, .int .i64 a1, .int .i64 a2, .int .i64 a3]] w fun r w' => r = .returned (.tuple #[.agg #[.int .i64 0, .int .i64 0, .int .i64 0, .int .i64 0, .int .i64 0, .int .i64 0, .int .i64 0, .int .i64 0], .int .i64 2]) ∧ Below w.heap.size w w') := HD
          have HX : Hid (giveF ⟨x0, x1, x2, x3⟩ ⟨y0, y1, y2, y3⟩ ⟨a0, a1, a2, a3⟩ = none) := hx
          clear hx HDO
          go_wp2_with (go_at_call 39; refine (HD.out _).mono ?_)
          first | rintro _ W4 rfl b4 | rintro _ W4 ⟨rfl, b4⟩
          have X11' := at_below b4 (Nat.le_refl _) X11.out
          have Y4 : Hid (Below w.heap.size w W4) := below_from Y3.out b4 Y3.out.size
          clear b4 e0 e1 e2 e3 e4 es10 m0 m1 m2 m3 m4 m5 m6 m7 mf0 mf1 mf2 mf3 mf4 mf5 mf6 mf7 ms HD
          obtain ⟨m0, m1, m2, m3, m4, m5, m6, m7, ⟨mf0, mf1, mf2, mf3, mf4, mf5, mf6, mf7⟩, ms⟩ := cells8 X11'
          go_wp2_with fail
          go_ret
          have q := seq_off HS.out hv HFA.out (HUE.out.trans HX.out)
          rw [q]
          exact ⟨rfl, (((((((Y4.out.setCell HB11.out _).setCell HB11.out _).setCell HB11.out _).setCell HB11.out _).setCell HB11.out _).setCell HB11.out _).setCell HB11.out _).setCell HB11.out _⟩
        | some xv =>
          rw [hx] at HD
          have hxo : Hid (xv.ok = true) := HOK.out _ hx
          obtain ⟨t0, t1, t2, t3⟩ := xv
          replace HD : Hid (∀ w, Calls Try.prog 39 #[.agg #[.int .i64 x0, .int .i64 x1, .int .i64 x2, .int .i64 x3, .int .i64 y0, .int .i64 y1, .int .i64 y2, .int .i64 y3], .agg #[.int .i64 a0, .int .i64 a1, .int .i64 a2, .int .i64 a3]] w fun r w' => r = .returned (.tuple #[.agg #[.int .i64 x0, .int .i64 x1, .int .i64 x2, .int .i64 x3, .int .i64 t0, .int .i64 t1, .int .i64 t2, .int .i64 t3], .int .i64 0]) ∧ Below w.heap.size w w') := HD
          have HX : Hid (giveF ⟨x0, x1, x2, x3⟩ ⟨y0, y1, y2, y3⟩ ⟨a0, a1, a2, a3⟩ = some ⟨t0, t1, t2, t3⟩) := hx
          clear hx HDO
          go_wp2_with (go_at_call 39; refine (HD.out _).mono ?_)
          first | rintro _ W4 rfl b4 | rintro _ W4 ⟨rfl, b4⟩
          have X11' := at_below b4 (Nat.le_refl _) X11.out
          have X10' := at_below b4 (Nat.le_refl _) X10.out
          have O4 := keepMap O3.out (b4.block m O3.out.lt)
          have Y4 : Hid (Below w.heap.size w W4) := below_from Y3.out b4 Y3.out.size
          clear b4 e0 e1 e2 e3 e4 es10 m0 m1 m2 m3 m4 m5 m6 m7 mf0 mf1 mf2 mf3 mf4 mf5 mf6 mf7 ms HD
          obtain ⟨m0, m1, m2, m3, m4, m5, m6, m7, ⟨mf0, mf1, mf2, mf3, mf4, mf5, mf6, mf7⟩, ms⟩ := cells8 X11'
          go_upto_region 14 with fail
          have X5 := at_set8a (v0 := .int .i64 x0) (v1 := .int .i64 x1) (v2 := .int .i64 x2) (v3 := .int .i64 x3) (v4 := .int .i64 t0) (v5 := .int .i64 t1) (v6 := .int .i64 t2) (v7 := .int .i64 t3) X11'
          have X6 := (set8_other (W := W4) (g := b11) (k := b10) (v0 := .int .i64 x0) (v1 := .int .i64 x1) (v2 := .int .i64 x2) (v3 := .int .i64 x3) (v4 := .int .i64 t0) (v5 := .int .i64 t1) (v6 := .int .i64 t2) (v7 := .int .i64 t3) HNE.out).trans X10'
          have O5 := keepMap O4 (set8_other (W := W4) (g := b11) (k := m) (v0 := .int .i64 x0) (v1 := .int .i64 x1) (v2 := .int .i64 x2) (v3 := .int .i64 x3) (v4 := .int .i64 t0) (v5 := .int .i64 t1) (v6 := .int .i64 t2) (v7 := .int .i64 t3) (fun q => map_block O4 X11' q))
          have Y5 : Hid (Below w.heap.size w ((((((((W4.setCell ⟨b11, 0, none⟩ (.int .i64 x0)).setCell ⟨b11, 1, none⟩ (.int .i64 x1)).setCell ⟨b11, 2, none⟩ (.int .i64 x2)).setCell ⟨b11, 3, none⟩ (.int .i64 x3)).setCell ⟨b11, 4, none⟩ (.int .i64 t0)).setCell ⟨b11, 5, none⟩ (.int .i64 t1)).setCell ⟨b11, 6, none⟩ (.int .i64 t2)).setCell ⟨b11, 7, none⟩ (.int .i64 t3))) := (((((((Y4.out.setCell HB11.out _).setCell HB11.out _).setCell HB11.out _).setCell HB11.out _).setCell HB11.out _).setCell HB11.out _).setCell HB11.out _).setCell HB11.out _
          clear m0 m1 m2 m3 m4 m5 m6 m7 mf0 mf1 mf2 mf3 mf4 mf5 mf6 mf7 ms X11' X10' O4 Y4
          generalize (((((((W4.setCell ⟨b11, 0, none⟩ (.int .i64 x0)).setCell ⟨b11, 1, none⟩ (.int .i64 x1)).setCell ⟨b11, 2, none⟩ (.int .i64 x2)).setCell ⟨b11, 3, none⟩ (.int .i64 x3)).setCell ⟨b11, 4, none⟩ (.int .i64 t0)).setCell ⟨b11, 5, none⟩ (.int .i64 t1)).setCell ⟨b11, 6, none⟩ (.int .i64 t2)).setCell ⟨b11, 7, none⟩ (.int .i64 t3) = W5 at *
          obtain ⟨e0, e1, e2, e3, e4, -, es10⟩ := cells5 X6
          obtain ⟨m0, m1, m2, m3, m4, m5, m6, m7, -, ms⟩ := cells8 X5
          obtain ⟨w6, hr6, O6, G6⟩ := O5.update law9 Try.underlying83 (n := k) (by have := HL.out; unfold maxLen; omega) HKEY.out (val := .agg #[.int .i64 x0, .int .i64 x1, .int .i64 x2, .int .i64 x3, .int .i64 t0, .int .i64 t1, .int .i64 t2, .int .i64 t3]) (d := .held (⟨x0, x1, x2, x3⟩, ⟨t0, t1, t2, t3⟩)) (ps := []) (aE_mk ⟨x0, x1, x2, x3⟩ ⟨t0, t1, t2, t3⟩)
          have HO6 : Hid (w6.ownsMap Try.prog 9 aE m (k + 1) (mapA (ins A.nm ⟨nm.data.toList, ⟨x0, x1, x2, x3⟩, ⟨t0, t1, t2, t3⟩⟩ (drp A.nm nm.data.toList L)))) := by rw [mapA_put] at O6; exact O6
          have Y6 : Hid (Below w.heap.size w w6) := Y5.out.trans ((Kp.of_grown (S := (· = m)) G6 fun k e => (Option.some.inj e).symm).below Y5.out.size fun j hj q => by have := HM.out; omega)
          clear X5 X6 O5 Y5 O6 G6
          go_wp2_with fail
          refine ⟨⟨k + 1, by simp, by omega, _, _, seq_on HS.out hv HFA.out (HUE.out.trans HX.out), HAF.out.put HFA.out hxo.out, ?_, Y6.out⟩, by simp only [intOf]; omega⟩
          rw [HLI.out]
          exact HO6.out
      | none =>
        rw [hf] at LK
        replace LK : (Instr.lookup 83 (.map (some m)) (.string nm) true).run Try.prog W = .ok (.tuple #[.agg #[.int .i64 0, .int .i64 0, .int .i64 0, .int .i64 0, .int .i64 0, .int .i64 0, .int .i64 0, .int .i64 0], .bool false]) W := LK
        have hus := HUN.out hf
        clear hf
        go_upto_region 10 with fail
        have X11 : Hid ((W.alloc (.cells #[.int .i64 0, .int .i64 0, .int .i64 0, .int .i64 0, .int .i64 0, .int .i64 0, .int .i64 0, .int .i64 0] 69)).heap[W.heap.size]? = some (.cells #[.int .i64 0, .int .i64 0, .int .i64 0, .int .i64 0, .int .i64 0, .int .i64 0, .int .i64 0, .int .i64 0] 69)) := new0
        have X10 : Hid ((W.alloc (.cells #[.int .i64 0, .int .i64 0, .int .i64 0, .int .i64 0, .int .i64 0, .int .i64 0, .int .i64 0, .int .i64 0] 69)).heap[b10]? = some (.cells #[.string nm, .int .i64 a0, .int .i64 a1, .int .i64 a2, .int .i64 a3] 50)) := at_alloc X10.out
        have O3 : Hid ((W.alloc (.cells #[.int .i64 0, .int .i64 0, .int .i64 0, .int .i64 0, .int .i64 0, .int .i64 0, .int .i64 0, .int .i64 0] 69)).ownsMap Try.prog 9 aE m k (mapA L)) := keepMap O1.out (Below.heap_alloc _ _ m O1.out.lt)
        have Y3 : Hid (Below w.heap.size w (W.alloc (.cells #[.int .i64 0, .int .i64 0, .int .i64 0, .int .i64 0, .int .i64 0, .int .i64 0, .int .i64 0, .int .i64 0] 69))) := Y1.out.alloc Y1.out.size _
        have HNE : Hid (b10 ≠ W.heap.size) := by show b10 ≠ W.heap.size; omega
        have HB11 : Hid (w.heap.size ≤ W.heap.size) := Y1.out.size
        clear e0 e1 e2 e3 e4 es10 LK O1 Y1 HUN
        generalize W.alloc (.cells #[.int .i64 0, .int .i64 0, .int .i64 0, .int .i64 0, .int .i64 0, .int .i64 0, .int .i64 0, .int .i64 0] 69) = W2 at *
        generalize W.heap.size = b11 at *
        have XF := HAC.out _ Y3.out
        rw [← hus, ← HLM.out] at XF
        replace XF : W2.heap[ac.fb]? = some (.cells #[.int .i64 x0, .int .i64 x1, .int .i64 x2, .int .i64 x3, .int .i64 y0, .int .i64 y1, .int .i64 y2, .int .i64 y3] 69 (0, 0)) := XF
        obtain ⟨f0, f1, f2, f3, f4, f5, f6, f7, -, fs⟩ := cells8 XF
        obtain ⟨e0, e1, e2, e3, e4, -, es10⟩ := cells5 X10.out
        obtain ⟨m0, m1, m2, m3, m4, m5, m6, m7, ⟨mf0, mf1, mf2, mf3, mf4, mf5, mf6, mf7⟩, ms⟩ := cells8 X11.out
        clear hus HLM HAC
        go_upto_region 11 with (go_at_call 31; refine (H31.out _ Y3.out).mono ?_; rintro _ w9 ⟨rfl, h9⟩; obtain rfl := h9.symm)
        have X11' := X11.out
        have X10' := X10.out
        have O3' := O3.out
        have X11 : Hid (((((((((W2.setCell ⟨b11, 0, none⟩ (.int .i64 x0)).setCell ⟨b11, 1, none⟩ (.int .i64 x1)).setCell ⟨b11, 2, none⟩ (.int .i64 x2)).setCell ⟨b11, 3, none⟩ (.int .i64 x3)).setCell ⟨b11, 4, none⟩ (.int .i64 y0)).setCell ⟨b11, 5, none⟩ (.int .i64 y1)).setCell ⟨b11, 6, none⟩ (.int .i64 y2)).setCell ⟨b11, 7, none⟩ (.int .i64 y3)).heap[b11]? = some (.cells #[.int .i64 x0, .int .i64 x1, .int .i64 x2, .int .i64 x3, .int .i64 y0, .int .i64 y1, .int .i64 y2, .int .i64 y3] 69)) := at_set8a X11'
        have X10 : Hid (((((((((W2.setCell ⟨b11, 0, none⟩ (.int .i64 x0)).setCell ⟨b11, 1, none⟩ (.int .i64 x1)).setCell ⟨b11, 2, none⟩ (.int .i64 x2)).setCell ⟨b11, 3, none⟩ (.int .i64 x3)).setCell ⟨b11, 4, none⟩ (.int .i64 y0)).setCell ⟨b11, 5, none⟩ (.int .i64 y1)).setCell ⟨b11, 6, none⟩ (.int .i64 y2)).setCell ⟨b11, 7, none⟩ (.int .i64 y3)).heap[b10]? = some (.cells #[.string nm, .int .i64 a0, .int .i64 a1, .int .i64 a2, .int .i64 a3] 50)) := (set8_other HNE.out).trans X10'
        have O3 : Hid (((((((((W2.setCell ⟨b11, 0, none⟩ (.int .i64 x0)).setCell ⟨b11, 1, none⟩ (.int .i64 x1)).setCell ⟨b11, 2, none⟩ (.int .i64 x2)).setCell ⟨b11, 3, none⟩ (.int .i64 x3)).setCell ⟨b11, 4, none⟩ (.int .i64 y0)).setCell ⟨b11, 5, none⟩ (.int .i64 y1)).setCell ⟨b11, 6, none⟩ (.int .i64 y2)).setCell ⟨b11, 7, none⟩ (.int .i64 y3)).ownsMap Try.prog 9 aE m k (mapA L)) := keepMap O3' (set8_other fun q => map_block O3' X11' q)
        have Y3 : Hid (Below w.heap.size w ((((((((W2.setCell ⟨b11, 0, none⟩ (.int .i64 x0)).setCell ⟨b11, 1, none⟩ (.int .i64 x1)).setCell ⟨b11, 2, none⟩ (.int .i64 x2)).setCell ⟨b11, 3, none⟩ (.int .i64 x3)).setCell ⟨b11, 4, none⟩ (.int .i64 y0)).setCell ⟨b11, 5, none⟩ (.int .i64 y1)).setCell ⟨b11, 6, none⟩ (.int .i64 y2)).setCell ⟨b11, 7, none⟩ (.int .i64 y3))) := (((((((Y3.out.setCell HB11.out _).setCell HB11.out _).setCell HB11.out _).setCell HB11.out _).setCell HB11.out _).setCell HB11.out _).setCell HB11.out _).setCell HB11.out _
        clear m0 m1 m2 m3 m4 m5 m6 m7 mf0 mf1 mf2 mf3 mf4 mf5 mf6 mf7 ms e0 e1 e2 e3 e4 es10 f0 f1 f2 f3 f4 f5 f6 f7 fs X11' X10' O3' H31 XF
        generalize ((((((((W2.setCell ⟨b11, 0, none⟩ (.int .i64 x0)).setCell ⟨b11, 1, none⟩ (.int .i64 x1)).setCell ⟨b11, 2, none⟩ (.int .i64 x2)).setCell ⟨b11, 3, none⟩ (.int .i64 x3)).setCell ⟨b11, 4, none⟩ (.int .i64 y0)).setCell ⟨b11, 5, none⟩ (.int .i64 y1)).setCell ⟨b11, 6, none⟩ (.int .i64 y2)).setCell ⟨b11, 7, none⟩ (.int .i64 y3)) = W3 at *
        have hv := hv'.out
        obtain ⟨e0, e1, e2, e3, e4, -, es10⟩ := cells5 X10.out
        obtain ⟨m0, m1, m2, m3, m4, m5, m6, m7, ⟨mf0, mf1, mf2, mf3, mf4, mf5, mf6, mf7⟩, ms⟩ := cells8 X11.out
        have HD : Hid (∀ w, Calls Try.prog 39 #[.agg #[.int .i64 x0, .int .i64 x1, .int .i64 x2, .int .i64 x3, .int .i64 y0, .int .i64 y1, .int .i64 y2, .int .i64 y3], .agg #[.int .i64 a0, .int .i64 a1, .int .i64 a2, .int .i64 a3]] w fun r w' => r = ansF (giveF ⟨x0, x1, x2, x3⟩ ⟨y0, y1, y2, y3⟩ ⟨a0, a1, a2, a3⟩) ⟨x0, x1, x2, x3⟩ 2 ∧ Below w.heap.size w w') := HDO.out
        cases hx : giveF ⟨x0, x1, x2, x3⟩ ⟨y0, y1, y2, y3⟩ ⟨a0, a1, a2, a3⟩ with
        | none =>
          rw [hx] at HD
          replace HD : Hid (∀ w, Calls Try.prog 39 #[.agg #[.int .i64 x0, .int .i64 x1, .int .i64 x2, .int .i64 x3, .int .i64 y0, .int .i64 y1, .int .i64 y2, .int .i64 y3], .agg #[.int .i64 a0, .int .i64 a1, .int .i64 a2, .int .i64 a3]] w fun r w' => r = .returned (.tuple #[.agg #[.int .i64 0, .int .i64 0, .int .i64 0, .int .i64 0, .int .i64 0, .int .i64 0, .int .i64 0, .int .i64 0], .int .i64 2]) ∧ Below w.heap.size w w') := HD
          have HX : Hid (giveF ⟨x0, x1, x2, x3⟩ ⟨y0, y1, y2, y3⟩ ⟨a0, a1, a2, a3⟩ = none) := hx
          clear hx HDO
          go_wp2_with (go_at_call 39; refine (HD.out _).mono ?_)
          first | rintro _ W4 rfl b4 | rintro _ W4 ⟨rfl, b4⟩
          have X11' := at_below b4 (Nat.le_refl _) X11.out
          have Y4 : Hid (Below w.heap.size w W4) := below_from Y3.out b4 Y3.out.size
          clear b4 e0 e1 e2 e3 e4 es10 m0 m1 m2 m3 m4 m5 m6 m7 mf0 mf1 mf2 mf3 mf4 mf5 mf6 mf7 ms HD
          obtain ⟨m0, m1, m2, m3, m4, m5, m6, m7, ⟨mf0, mf1, mf2, mf3, mf4, mf5, mf6, mf7⟩, ms⟩ := cells8 X11'
          go_wp2_with fail
          go_ret
          have q := seq_off HS.out hv HFA.out (HUE.out.trans HX.out)
          rw [q]
          exact ⟨rfl, (((((((Y4.out.setCell HB11.out _).setCell HB11.out _).setCell HB11.out _).setCell HB11.out _).setCell HB11.out _).setCell HB11.out _).setCell HB11.out _).setCell HB11.out _⟩
        | some xv =>
          rw [hx] at HD
          have hxo : Hid (xv.ok = true) := HOK.out _ hx
          obtain ⟨t0, t1, t2, t3⟩ := xv
          replace HD : Hid (∀ w, Calls Try.prog 39 #[.agg #[.int .i64 x0, .int .i64 x1, .int .i64 x2, .int .i64 x3, .int .i64 y0, .int .i64 y1, .int .i64 y2, .int .i64 y3], .agg #[.int .i64 a0, .int .i64 a1, .int .i64 a2, .int .i64 a3]] w fun r w' => r = .returned (.tuple #[.agg #[.int .i64 x0, .int .i64 x1, .int .i64 x2, .int .i64 x3, .int .i64 t0, .int .i64 t1, .int .i64 t2, .int .i64 t3], .int .i64 0]) ∧ Below w.heap.size w w') := HD
          have HX : Hid (giveF ⟨x0, x1, x2, x3⟩ ⟨y0, y1, y2, y3⟩ ⟨a0, a1, a2, a3⟩ = some ⟨t0, t1, t2, t3⟩) := hx
          clear hx HDO
          go_wp2_with (go_at_call 39; refine (HD.out _).mono ?_)
          first | rintro _ W4 rfl b4 | rintro _ W4 ⟨rfl, b4⟩
          have X11' := at_below b4 (Nat.le_refl _) X11.out
          have X10' := at_below b4 (Nat.le_refl _) X10.out
          have O4 := keepMap O3.out (b4.block m O3.out.lt)
          have Y4 : Hid (Below w.heap.size w W4) := below_from Y3.out b4 Y3.out.size
          clear b4 e0 e1 e2 e3 e4 es10 m0 m1 m2 m3 m4 m5 m6 m7 mf0 mf1 mf2 mf3 mf4 mf5 mf6 mf7 ms HD
          obtain ⟨m0, m1, m2, m3, m4, m5, m6, m7, ⟨mf0, mf1, mf2, mf3, mf4, mf5, mf6, mf7⟩, ms⟩ := cells8 X11'
          go_upto_region 14 with fail
          have X5 := at_set8a (v0 := .int .i64 x0) (v1 := .int .i64 x1) (v2 := .int .i64 x2) (v3 := .int .i64 x3) (v4 := .int .i64 t0) (v5 := .int .i64 t1) (v6 := .int .i64 t2) (v7 := .int .i64 t3) X11'
          have X6 := (set8_other (W := W4) (g := b11) (k := b10) (v0 := .int .i64 x0) (v1 := .int .i64 x1) (v2 := .int .i64 x2) (v3 := .int .i64 x3) (v4 := .int .i64 t0) (v5 := .int .i64 t1) (v6 := .int .i64 t2) (v7 := .int .i64 t3) HNE.out).trans X10'
          have O5 := keepMap O4 (set8_other (W := W4) (g := b11) (k := m) (v0 := .int .i64 x0) (v1 := .int .i64 x1) (v2 := .int .i64 x2) (v3 := .int .i64 x3) (v4 := .int .i64 t0) (v5 := .int .i64 t1) (v6 := .int .i64 t2) (v7 := .int .i64 t3) (fun q => map_block O4 X11' q))
          have Y5 : Hid (Below w.heap.size w ((((((((W4.setCell ⟨b11, 0, none⟩ (.int .i64 x0)).setCell ⟨b11, 1, none⟩ (.int .i64 x1)).setCell ⟨b11, 2, none⟩ (.int .i64 x2)).setCell ⟨b11, 3, none⟩ (.int .i64 x3)).setCell ⟨b11, 4, none⟩ (.int .i64 t0)).setCell ⟨b11, 5, none⟩ (.int .i64 t1)).setCell ⟨b11, 6, none⟩ (.int .i64 t2)).setCell ⟨b11, 7, none⟩ (.int .i64 t3))) := (((((((Y4.out.setCell HB11.out _).setCell HB11.out _).setCell HB11.out _).setCell HB11.out _).setCell HB11.out _).setCell HB11.out _).setCell HB11.out _).setCell HB11.out _
          clear m0 m1 m2 m3 m4 m5 m6 m7 mf0 mf1 mf2 mf3 mf4 mf5 mf6 mf7 ms X11' X10' O4 Y4
          generalize (((((((W4.setCell ⟨b11, 0, none⟩ (.int .i64 x0)).setCell ⟨b11, 1, none⟩ (.int .i64 x1)).setCell ⟨b11, 2, none⟩ (.int .i64 x2)).setCell ⟨b11, 3, none⟩ (.int .i64 x3)).setCell ⟨b11, 4, none⟩ (.int .i64 t0)).setCell ⟨b11, 5, none⟩ (.int .i64 t1)).setCell ⟨b11, 6, none⟩ (.int .i64 t2)).setCell ⟨b11, 7, none⟩ (.int .i64 t3) = W5 at *
          obtain ⟨e0, e1, e2, e3, e4, -, es10⟩ := cells5 X6
          obtain ⟨m0, m1, m2, m3, m4, m5, m6, m7, -, ms⟩ := cells8 X5
          obtain ⟨w6, hr6, O6, G6⟩ := O5.update law9 Try.underlying83 (n := k) (by have := HL.out; unfold maxLen; omega) HKEY.out (val := .agg #[.int .i64 x0, .int .i64 x1, .int .i64 x2, .int .i64 x3, .int .i64 t0, .int .i64 t1, .int .i64 t2, .int .i64 t3]) (d := .held (⟨x0, x1, x2, x3⟩, ⟨t0, t1, t2, t3⟩)) (ps := []) (aE_mk ⟨x0, x1, x2, x3⟩ ⟨t0, t1, t2, t3⟩)
          have HO6 : Hid (w6.ownsMap Try.prog 9 aE m (k + 1) (mapA (ins A.nm ⟨nm.data.toList, ⟨x0, x1, x2, x3⟩, ⟨t0, t1, t2, t3⟩⟩ (drp A.nm nm.data.toList L)))) := by rw [mapA_put] at O6; exact O6
          have Y6 : Hid (Below w.heap.size w w6) := Y5.out.trans ((Kp.of_grown (S := (· = m)) G6 fun k e => (Option.some.inj e).symm).below Y5.out.size fun j hj q => by have := HM.out; omega)
          clear X5 X6 O5 Y5 O6 G6
          go_wp2_with fail
          refine ⟨⟨k + 1, by simp, by omega, _, _, seq_on HS.out hv HFA.out (HUE.out.trans HX.out), HAF.out.put HFA.out hxo.out, ?_, Y6.out⟩, by simp only [intOf]; omega⟩
          rw [HLI.out]
          exact HO6.out

/-! ### what is refused ahead -/
theorem chk_vals (F : List UInt8 → Option Nat) (es : List E) : chk F es = 0 ∨ chk F es = 3 ∨ chk F es = 4 := by
  unfold chk
  split
  · split
    · exact .inl rfl
    · exact .inr (.inl rfl)
  · exact .inr (.inr rfl)
set_option maxHeartbeats 1000000 in
theorem post_stop (w : World) (p : Value) (s : Option Addr) (n c fn : Nat) (z : Int) (hz : z = 3 ∨ z = 4) (H : Hid (Calls Try.prog 47 #[p, .slice s n c] w fun e w' => e = .returned (.int .i64 z) ∧ Below w.heap.size w w')) :
    Calls Try.prog 37 #[p, .slice s n c, .func (.func fn) #[] #[]] w fun e w' => e = .returned (.int .i64 z) ∧ Below w.heap.size w w' := by
  rcases hz with rfl | rfl
  · go_enter Try.func37, Try.ntmps37
    go_wp2_with (go_at_call 47; refine H.out.mono ?_)
    rintro _ w1 ⟨rfl, b1⟩
    go_wp2_with fail
    go_ret
    exact ⟨rfl, b1⟩
  · go_enter Try.func37, Try.ntmps37
    go_wp2_with (go_at_call 47; refine H.out.mono ?_)
    rintro _ w1 ⟨rfl, b1⟩
    go_wp2_with fail
    go_ret
    exact ⟨rfl, b1⟩
set_option maxHeartbeats 2000000 in
set_option maxRecDepth 100000 in
theorem post_none (w : World) (p : Value) (s : Option Addr) (c fn : Nat) (H : Hid (Calls Try.prog 47 #[p, .slice s 0 c] w fun e w' => e = .returned (.int .i64 0) ∧ Below w.heap.size w w')) :
    Calls Try.prog 37 #[p, .slice s 0 c, .func (.func fn) #[] #[]] w fun e w' => e = .returned (.int .i64 0) ∧ Below w.heap.size w w' := by
  have hmm := @run_makeMap Try.prog
  go_enter Try.func37, Try.ntmps37
  go_upto_region 4 with (go_at_call 47; refine H.out.mono ?_; rintro _ w1 ⟨rfl, b1⟩)
  go_upto_region 5 with fail
  have O0 : Hid ((w1.alloc (.map #[] 0)).ownsMap Try.prog 9 aE w1.heap.size (Maps.size (mapA [])) (mapA [])) := World.ownsMap_made w1 Try.prog 9 aE
  have Y0 : Hid (Below w.heap.size w (w1.alloc (.map #[] 0))) := b1.alloc b1.size _
  clear b1 H hmm
  generalize w1.alloc (.map #[] 0) = W1 at *
  generalize w1.heap.size = m at *
  go_wp2_with fail
  go_loopw [25] (fun x wr => x = .int .i64 0 ∧ wr = W1) (fun _ _ => 0)
  case atStart => exact ⟨rfl, rfl⟩
  case round =>
    obtain ⟨rfl, rfl⟩ := hrel
    go_wp2_with (first
      | (at_range; refine wpList_range_own _ rfl _ 83 rfl 9 69 law9 Try.underlying83 _ m _ (mapA []) rfl O0.out ?_; intro w2 hrg0 hg0 hs0)
      | go_in)
    go_frame
    have Y2 : Hid (Below w.heap.size w w2) := Y0.out.trans ((Kp.of_grown (S := fun _ => False) hg0 fun k e => by cases e).below Y0.out.size fun _ _ h => h)
    have RG : Hid (w2.ranges Try.prog 9 aE m wr.heap.size (Maps.size (mapA [])) (mapA []) (Maps.has (mapA [])) (Maps.size (mapA []))) := hrg0
    clear hrg0 hg0 hs0 O0 Y0
    generalize wr.heap.size = r at *
    go_loopw [62] (fun _ wr => wr = w2) (fun _ _ => 0)
    case atStart => rfl
    case round =>
      subst hrel
      go_wp2_with (first
        | (at_next; refine wpList_next_ranges _ rfl _ rfl 9 law9 aE Value.string mkA invS aE_inv m r (Maps.size (mapA [])) (mapA []) (Maps.has (mapA [])) (Maps.size (mapA [])) rfl RG.out ?_ ?_)
        | go_in)
      · intro hc0 hl0
        clear hc0 hl0 RG
        go_wp2_with fail
        go_ret
        exact ⟨rfl, Y2.out⟩
      · intro nm' ca cb kl ya yb w3 cnt2 hkey hlk
        cases hlk
set_option maxHeartbeats 1000000 in
theorem take_of (w : World) (p : Value) (s : Option Addr) (n c : Nat) (z : Int) (X : World → Prop) (H : Hid (Calls Try.prog 37 #[p, .slice s n c, .func (.func 38) #[] #[]] w fun e w' => e = .returned (.int .i64 z) ∧ X w')) :
    Calls Try.prog 19 #[p, .slice s n c] w fun e w' => e = .returned (.int .i64 z) ∧ X w' := by
  go_enter Try.func19, Try.ntmps19
  go_wp2_with (go_at_call 37; refine H.out.mono ?_)
  rintro _ w1 ⟨rfl, b1⟩
  go_wp2_with fail
  go_ret
  exact ⟨rfl, b1⟩
set_option maxHeartbeats 1000000 in
theorem give_of (w : World) (p : Value) (s : Option Addr) (n c : Nat) (z : Int) (X : World → Prop) (H : Hid (Calls Try.prog 37 #[p, .slice s n c, .func (.func 39) #[] #[]] w fun e w' => e = .returned (.int .i64 z) ∧ X w')) :
    Calls Try.prog 20 #[p, .slice s n c] w fun e w' => e = .returned (.int .i64 z) ∧ X w' := by
  go_enter Try.func20, Try.ntmps20
  go_wp2_with (go_at_call 37; refine H.out.mono ?_)
  rintro _ w1 ⟨rfl, b1⟩
  go_wp2_with fail
  go_ret
  exact ⟨rfl, b1⟩
theorem post_led {f : V → V → V → Option V} {c : Int} {w w' : World} {S : Nat → Prop} {pb : Nat} {mb : Option Nat} {l : List Ac} {es : List E} (h0 : Led w S pb (l.map Ac.s)) (h3 : ∀ k, Fp pb mb l k → S k) (hck : checkD (l.map Ac.s) es = 0) (hp : PostR w w' pb mb l (seqU f (l.map Ac.s) (u0 (l.map Ac.s)) es)) :
    code (seqU f (l.map Ac.s) (u0 (l.map Ac.s)) es) c = (postD f c (l.map Ac.s) es).1 ∧ ∃ S', Led w' S' pb (postD f c (l.map Ac.s) es).2 ∧ Step S S' w w' := by
  unfold postD
  rw [if_pos hck]
  cases hq : seqU f (l.map Ac.s) (u0 (l.map Ac.s)) es with
  | none =>
    rw [hq] at hp
    exact ⟨rfl, S, h0.keepB hp, Step.of_below S hp⟩
  | some u =>
    rw [hq] at hp
    obtain ⟨p1, p2⟩ := hp
    refine ⟨rfl, Fp pb mb (setG u l), ?_, p2.mono fun k _ e => ?_, fun k hk => .inl (h3 k (fp_setG.1 hk))⟩
    · have := p1.led
      rw [setG_s] at this
      exact this
    · obtain ⟨a, ha, e⟩ := e
      exact h3 k (.inr (.inr ⟨a, ha, e⟩))
theorem postD_bad {f : V → V → V → Option V} {c : Int} {D : List A} {es : List E} (h : checkD D es ≠ 0) : postD f c D es = (checkD D es, D) := by
  unfold postD
  rw [if_neg h]
theorem take_any {w : World} {S : Nat → Prop} {pb : Nat} {D : List A} (h : Led w S pb D) (s : Option Addr) (es : List E) (c : Nat) (hn : es.length < 1152921504606846976) (hr : ERow w s es) (hz : ∀ e ∈ es, e.nm.size ≤ 281474976710656) :
    Calls Try.prog 19 #[.pointer (some ⟨pb, 0, none⟩), .slice s es.length c] w fun e w' => e = .returned (.int .i64 (takeD D es).1) ∧ Hid (∃ S', Led w' S' pb (takeD D es).2 ∧ Step S S' w w') := by
  have h0 := h
  obtain ⟨⟨mb, l, h1, rfl, h3⟩, h4⟩ := h
  refine take_of w _ s es.length c _ _ ?_
  by_cases hck : checkD (l.map Ac.s) es = 0
  · refine (post38 h1 s es c hn hr hz hck).mono ?_
    rintro e w' ⟨rfl, hp⟩
    obtain ⟨q1, q2⟩ := post_led (f := takeF) (c := 9) h0 h3 hck hp.out
    exact ⟨by rw [q1]; rfl, q2⟩
  · unfold takeD
    rw [postD_bad hck]
    have := check_raw (.pointer (some ⟨pb, 0, none⟩)) _ s es c w hn hr hz (finds_at h1)
    rw [← checkD_chk] at this
    refine (post_stop w _ s es.length c 38 _ ?_ this).mono ?_
    · rcases chk_vals (fun n => (fnd Ac.nm n l).map Ac.fb) es with q | q | q
      · exact absurd ((checkD_chk l es).trans q) hck
      · exact .inl ((checkD_chk l es).trans q)
      · exact .inr ((checkD_chk l es).trans q)
    · rintro e w' ⟨rfl, b⟩
      exact ⟨rfl, S, h0.keepB b, Step.of_below S b⟩
theorem give_any {w : World} {S : Nat → Prop} {pb : Nat} {D : List A} (h : Led w S pb D) (s : Option Addr) (es : List E) (c : Nat) (hn : es.length < 1152921504606846976) (hr : ERow w s es) (hz : ∀ e ∈ es, e.nm.size ≤ 281474976710656) :
    Calls Try.prog 20 #[.pointer (some ⟨pb, 0, none⟩), .slice s es.length c] w fun e w' => e = .returned (.int .i64 (giveD D es).1) ∧ Hid (∃ S', Led w' S' pb (giveD D es).2 ∧ Step S S' w w') := by
  have h0 := h
  obtain ⟨⟨mb, l, h1, rfl, h3⟩, h4⟩ := h
  refine give_of w _ s es.length c _ _ ?_
  by_cases hck : checkD (l.map Ac.s) es = 0
  · refine (post39 h1 s es c hn hr hz hck).mono ?_
    rintro e w' ⟨rfl, hp⟩
    obtain ⟨q1, q2⟩ := post_led (f := giveF) (c := 2) h0 h3 hck hp.out
    exact ⟨by rw [q1]; rfl, q2⟩
  · unfold giveD
    rw [postD_bad hck]
    have := check_raw (.pointer (some ⟨pb, 0, none⟩)) _ s es c w hn hr hz (finds_at h1)
    rw [← checkD_chk] at this
    refine (post_stop w _ s es.length c 39 _ ?_ this).mono ?_
    · rcases chk_vals (fun n => (fnd Ac.nm n l).map Ac.fb) es with q | q | q
      · exact absurd ((checkD_chk l es).trans q) hck
      · exact .inl ((checkD_chk l es).trans q)
      · exact .inr ((checkD_chk l es).trans q)
    · rintro e w' ⟨rfl, b⟩
      exact ⟨rfl, S, h0.keepB b, Step.of_below S b⟩
/-- of no ledger -/
def nilD (es : List E) : Int := if es.all (fun e => e.am.ok) then (if es.isEmpty then 0 else 3) else 4
theorem chk_nil (es : List E) : chk (fun _ => none) es = nilD es := by
  unfold chk nilD
  cases es <;> simp
theorem post_nil (w : World) (fn : Nat) (s : Option Addr) (es : List E) (c : Nat) (hn : es.length < 1152921504606846976) (hr : ERow w s es) (hz : ∀ e ∈ es, e.nm.size ≤ 281474976710656) :
    Calls Try.prog 37 #[.pointer none, .slice s es.length c, .func (.func fn) #[] #[]] w fun e w' => e = .returned (.int .i64 (nilD es)) ∧ Below w.heap.size w w' := by
  have := check_raw (.pointer none) _ s es c w hn hr hz (finds_nil w)
  rw [chk_nil] at this
  rcases chk_vals (fun _ => none) es with q | q
  · have he : es = [] := by
      unfold chk at q
      split at q
      · split at q
        · rename_i h2
          cases es with
          | nil => rfl
          | cons e r => simp at h2
        · cases q
      · cases q
    subst he
    exact post_none w _ s c fn this
  · rw [chk_nil] at q
    exact post_stop w _ s es.length c fn _ q this
theorem take_nil (w : World) (s : Option Addr) (es : List E) (c : Nat) (hn : es.length < 1152921504606846976) (hr : ERow w s es) (hz : ∀ e ∈ es, e.nm.size ≤ 281474976710656) :
    Calls Try.prog 19 #[.pointer none, .slice s es.length c] w fun e w' => e = .returned (.int .i64 (nilD es)) ∧ Below w.heap.size w w' := take_of w _ s es.length c _ _ (post_nil w 38 s es c hn hr hz)
theorem give_nil (w : World) (s : Option Addr) (es : List E) (c : Nat) (hn : es.length < 1152921504606846976) (hr : ERow w s es) (hz : ∀ e ∈ es, e.nm.size ≤ 281474976710656) :
    Calls Try.prog 20 #[.pointer none, .slice s es.length c] w fun e w' => e = .returned (.int .i64 (nilD es)) ∧ Below w.heap.size w w' := give_of w _ s es.length c _ _ (post_nil w 39 s es c hn hr hz)
end Go.Proofs.Ytehgcaaeifnjeaa
