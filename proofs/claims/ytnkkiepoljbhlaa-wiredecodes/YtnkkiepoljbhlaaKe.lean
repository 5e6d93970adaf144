/-
  WireDecodes: a job, a placed task. WireDecodes: the law's argument, opened: a list of bytes.
-/
import Derived.Test.YtnkkiepoljbhlaaKc
import Derived.Test.YtnkkiepoljbhlaaFmg
import Derived.Test.YtnkkiepoljbhlaaFmh
import Derived.Test.YtnkkiepoljbhlaaFmn
import Derived.Test.YtnkkiepoljbhlaaFmr
import Derived.Test.YtnkkiepoljbhlaaOpen
namespace Go.Proofs.Ytnkkiepoljbhlaa
open Go.RowKit

theorem nil_slh (w : World) : SLh w .nil 0 [] := ⟨.inl rfl, rfl, fun _ => ⟨rfl, rfl, rfl⟩⟩
theorem jd_has {w : World} {j : JD} {pa tk : SL} (h1 : SLh w pa j.pa.length (intsV j.pa)) (h2 : SLh w tk j.tk.length (flat j.tk)) : (j.jb pa tk).has w ⟨j.pa, j.tk, [], []⟩ := ⟨h1, h2, nil_slh w, nil_slh w⟩
theorem jobD_tn {l : List UInt8} {j : JD} {r : List UInt8} (h : jobD l = some (j, r)) : j.tn.length < 562949953421312 := by
  unfold jobD at h
  obtain ⟨⟨a, l1⟩, e1, h⟩ := Option.bind_eq_some_iff.1 h
  obtain ⟨⟨b, l2⟩, e2, h⟩ := Option.bind_eq_some_iff.1 h
  obtain ⟨⟨c, l3⟩, e3, h⟩ := Option.bind_eq_some_iff.1 h
  obtain ⟨⟨d, l4⟩, e4, h⟩ := Option.bind_eq_some_iff.1 h
  obtain ⟨⟨e, l5⟩, e5, h⟩ := Option.bind_eq_some_iff.1 h
  obtain ⟨⟨f, l6⟩, e6, h⟩ := Option.bind_eq_some_iff.1 h
  obtain ⟨⟨g, l7⟩, e7, h⟩ := Option.bind_eq_some_iff.1 h
  obtain ⟨⟨k, l8⟩, e8, h⟩ := Option.bind_eq_some_iff.1 h
  obtain ⟨rfl, rfl⟩ := Prod.mk.inj (Option.some.inj h)
  exact txtD_len e2
theorem par_in {id : Int} : ∀ {q : Int} {L : List Int}, 0 ≤ q → par id q L = true → ∀ x ∈ L, 0 ≤ x ∧ x ≤ 100
  | _, [], _, _, x, hx => by cases hx
  | q, y :: r, hq, h, x, hx => by
    unfold par at h
    simp only [Bool.and_eq_true, decide_eq_true_eq] at h
    rcases List.mem_cons.1 hx with rfl | hx
    · omega
    · exact par_in (by omega) h.2 x hx
/-- a job as it is read is formed -/
def jok (j : JD) : Bool := jfm (j.jb .nil .nil) ⟨j.pa, j.tk, [], []⟩
theorem jok_in {j : JD} (h : jok j = true) : (1 ≤ (j.id : Int) ∧ (j.id : Int) ≤ 100) ∧ j.tn.length ≤ 64 ∧ (0 ≤ (j.pr : Int) ∧ (j.pr : Int) ≤ 100) ∧ (1 ≤ (j.rt : Int) ∧ (j.rt : Int) ≤ 1000) ∧ j.pa.length ≤ 4 ∧ (∀ x ∈ j.pa, 0 ≤ x ∧ x ≤ 100) ∧ j.tk.length ≤ 6 ∧ ∀ x ∈ j.tk, x.lt49 := by
  unfold jok jfm at h
  simp only [Bool.and_eq_true, decide_eq_true_eq] at h
  obtain ⟨⟨⟨⟨⟨⟨q1, q2⟩, q3⟩, q4⟩, q5, q6⟩, q7, q8⟩, _⟩ := h
  exact ⟨wi_in q1, named_len q2, wi_in q3, wi_in q4, q5, par_in (Int.le_refl _) q6, q7.2, fun x hx => fm_lt (List.all_eq_true.1 q8 x hx)⟩
set_option maxRecDepth 100000 in
theorem dec5 (w : World) (a : Option Addr) (c : Nat) (r : List UInt8) (kd : UInt8) (hkd : kd.toNat = 5) (hB : Byt w w.heap.size a c (kd :: r)) : Calls Try.prog 4 #[.slice a (kd :: r).length c] w fun e w' => e = .returned (.bool true) ∧ Below w.heap.size w w' := by
  obtain ⟨j, s1, e1⟩ : ∃ j s, pJob (some r) = (j, s) := ⟨_, _, rfl⟩
  have l1 : j.tn.length ≤ 64 := by
    have : (pJob (some r)).1.tn.length ≤ 64 := pTxt_len (pNum (some r)).2
    rw [e1] at this
    exact this
  have JF : s1 = some [] → jok j = true → jobD r = some (j, []) := fun hs ho => by
    obtain ⟨z1, z2, z3, z4, z5, z6, z7, z8⟩ := jok_in ho
    rw [hs] at e1
    exact job_from e1 (by omega) (by omega) (by omega) (fun y hy => by have := z6 y hy; omega) z8
  refine kind_mem w a c (kd :: r) kd 5 jobD (fun y : SL × SL => { PL.zero with kind := 5, jb := j.jb y.1 y.2 }) (fun y W => SLh W y.1 j.pa.length (intsV j.pa) ∧ SLh W y.2 j.tk.length (flat j.tk)) (fun z : JD × SL × SL => { PL.zero with kind := 5, jb := z.1.jb z.2.1 z.2.2 }) (fun z => z.1) (fun g z W => (SLh W z.2.1 z.1.pa.length (intsV z.1.pa) ∧ z.2.1.far (g + 1)) ∧ SLh W z.2.2 z.1.tk.length (flat z.1.tk) ∧ z.2.2.far (g + 1)) jok s1 (jok j) hB rfl hkd (by omega) ?_ ?_ ?_ ?_ ?_ ?_ ?_ ?_ ?_ ?_ ?_
  · intro rb W h
    have R := record5 W rb (some (kd :: r)) h hkd
    rw [show (pKnd (some (kd :: r))).2 = some r from rfl, e1] at R
    refine R.mono ?_
    rintro e w' ⟨pa, tk, rfl, h2⟩
    exact ⟨(pa, tk), rfl, h2.out.1, h2.out.2.1, (own_slh h2.out.2.2.1).1, (own_slh h2.out.2.2.2).1⟩
  · intro y W h
    exact formed5 (j.jb y.1 y.2) (jok j) W fun W' b => formedJob (j.jb y.1 y.2) ⟨j.pa, j.tk, [], []⟩ W' (jd_has (h.1.keep b (Nat.le_refl _)) (h.2.keep b (Nat.le_refl _))) (show j.tn.length ≤ _ by omega)
  · intro y W W' h b
    exact ⟨h.1.keep b (Nat.le_refl _), h.2.keep b (Nat.le_refl _)⟩
  · intro g rb W h hl hg
    refine (plain5 W rb 1 (kd :: r) false h hl).mono ?_
    rintro e w' ⟨j', pa, tk, k, b', q1, q2, q3, q4, q5, q6, q7⟩
    have hr := h.lt
    obtain ⟨u1, u2⟩ := own_slh q5
    obtain ⟨u3, u4⟩ := own_slh q6
    exact ⟨(j', pa, tk), k, b', q1, q2, q3, q4, q7, ⟨u1, u2.low (by omega)⟩, u3, u4.low (by omega)⟩
  · intro g z W W' h ho
    exact ⟨⟨h.1.1.oth h.1.2 ho, h.1.2⟩, h.2.1.oth h.2.2 ho, h.2.2⟩
  · intro g z W hD h
    have := jobD_tn hD
    exact rformed5 _ rfl ⟨z.1.pa, z.1.tk, [], []⟩ W (jd_has h.1.1 h.2.1) (show z.1.tn.length ≤ _ by omega)
  · intro hs ho
    exact ⟨j, JF hs ho, ho⟩
  · intro x h hF
    obtain ⟨z1, z2, z3, z4, z5, z6, z7, z8⟩ := jok_in hF
    have t1 := job_to h z2 z5 z7
    rw [show List.drop 1 (kd :: r) = r from rfl, e1] at t1
    obtain ⟨rfl, rfl⟩ := Prod.mk.inj t1
    exact ⟨rfl, hF⟩
  · intro y W
    exact plainly5 _ W
  · intro y
    rfl
  · intro g y z W hM hN hD hs ho
    have hj := JF hs ho
    rw [show List.drop 1 (kd :: r) = r from rfl, hj] at hD
    have ej : z.1 = j := (Prod.mk.inj (Option.some.inj hD)).1.symm
    obtain ⟨zj, zp, zt⟩ := z
    simp only at ej
    subst ej
    obtain ⟨z1, z2, z3, z4, z5, z6, z7, z8⟩ := jok_in ho
    exact same17 _ _ (zj.jb zp zt) .nil ⟨zj.pa, zj.tk, [], []⟩ [] W rfl (jd_has hM.1 hM.2) (jd_has hN.1.1 hN.2.1) ⟨rfl, rfl, rfl, rfl, rfl, rfl, rfl⟩ ⟨show zj.tn.length ≤ _ by omega, show zj.pa.length ≤ _ by omega, show zj.tk.length ≤ _ by omega, Nat.zero_le _, Nat.zero_le _, (fun _ h => by cases h), (fun _ h => by cases h)⟩ (nil_slh W) (nil_slh W) (by decide)
theorem strs_eq (xs : List (List UInt8)) : strs xs = textsV (xs.map fun s => (⟨⟨s⟩⟩ : ByteArray)) := by
  unfold strs textsV
  rw [List.map_map]
  rfl
theorem pStr_small : ∀ (n : Nat) (st : Option (List UInt8)), ∀ t ∈ (pRep pStr n st).1, t.size ≤ 64
  | 0, st, t, h => by cases h
  | n + 1, st, t, h => by
    have h' : t ∈ (pStr st).1 :: (pRep pStr n (pStr st).2).1 := h
    rcases List.mem_cons.1 h' with rfl | h'
    · exact pTxt_len st
    · exact pStr_small n _ t h'
theorem repD_small : ∀ {n : Nat} {l : List UInt8} {xs : List (List UInt8)} {r : List UInt8}, repD txtD n l = some (xs, r) → ∀ x ∈ xs, x.length < 562949953421312
  | 0, l, xs, r, h, x, hx => by
    have h' : some (([] : List (List UInt8)), l) = some (xs, r) := h
    obtain ⟨rfl, -⟩ := Prod.mk.inj (Option.some.inj h')
    cases hx
  | n + 1, l, xs, r, h, x, hx => by
    have h' : ((txtD l).bind fun a => (repD txtD n a.2).bind fun b => some (a.1 :: b.1, b.2)) = some (xs, r) := h
    obtain ⟨⟨y, l1⟩, e1, h'⟩ := Option.bind_eq_some_iff.1 h'
    obtain ⟨⟨ys, l2⟩, e2, h'⟩ := Option.bind_eq_some_iff.1 h'
    obtain ⟨rfl, -⟩ := Prod.mk.inj (Option.some.inj h')
    rcases List.mem_cons.1 hx with rfl | hx
    · exact txtD_len e1
    · exact repD_small e2 x hx
theorem ndsD_some {l : List UInt8} {x : Nat} {xs : List (List UInt8)} {r : List UInt8} (h : ndsD l = some ((x, xs), r)) : ∃ l1 n l2, numD 7 l = some (x, l1) ∧ numD 7 l1 = some (n, l2) ∧ repD txtD (min n 10) l2 = some (xs, r) := by
  unfold ndsD at h
  obtain ⟨⟨a, l1⟩, e1, h⟩ := Option.bind_eq_some_iff.1 h
  obtain ⟨⟨b, l2⟩, e2, h⟩ := Option.bind_eq_some_iff.1 h
  obtain ⟨⟨c, l3⟩, e3, h⟩ := Option.bind_eq_some_iff.1 h
  have h5 := Option.some.inj h
  simp only [Prod.mk.injEq] at h5
  obtain ⟨⟨rfl, rfl⟩, rfl⟩ := h5
  exact ⟨l1, b, l2, e1, e2, e3⟩
theorem ndsD_of {l l1 l2 : List UInt8} {x n : Nat} {xs : List (List UInt8)} {r : List UInt8} (h1 : numD 7 l = some (x, l1)) (h2 : numD 7 l1 = some (n, l2)) (h3 : repD txtD n l2 = some (xs, r)) (hn : n ≤ 6) : ndsD l = some ((x, xs), r) := by
  unfold ndsD
  rw [h1]
  show (numD 7 l1).bind _ = _
  rw [h2]
  show (repD txtD (min n 10) l2).bind _ = _
  rw [Nat.min_eq_left (by omega), h3]
  rfl
/-- a number and names are formed -/
def nok (x : Nat × List (List UInt8)) : Bool := wi (x.1 : Nat) 1 100 && nms (x.2.map fun s => (⟨⟨s⟩⟩ : ByteArray))
theorem nok_in {x : Nat × List (List UInt8)} (h : nok x = true) : (1 ≤ (x.1 : Int) ∧ (x.1 : Int) ≤ 100) ∧ x.2.length ≤ 6 ∧ ∀ t ∈ x.2, t.length ≤ 64 := by
  unfold nok nms at h
  simp only [Bool.and_eq_true, decide_eq_true_eq, List.length_map] at h
  exact ⟨wi_in h.1, h.2.1.2, fun t ht => named_len (List.all_eq_true.1 h.2.2 _ (List.mem_map_of_mem ht))⟩
set_option maxRecDepth 100000 in
theorem dec7 (w : World) (a : Option Addr) (c : Nat) (r : List UInt8) (kd : UInt8) (hkd : kd.toNat = 7) (hB : Byt w w.heap.size a c (kd :: r)) : Calls Try.prog 4 #[.slice a (kd :: r).length c] w fun e w' => e = .returned (.bool true) ∧ Below w.heap.size w w' := by
  obtain ⟨v1, s1, e1⟩ : ∃ v s, pNum (some r) = (v, s) := ⟨_, _, rfl⟩
  obtain ⟨n2, s2, e2⟩ : ∃ v s, pUp 6 s1 = (v, s) := ⟨_, _, rfl⟩
  obtain ⟨ns, s3, e3⟩ : ∃ v s, pRep pStr n2 s2 = (v, s) := ⟨_, _, rfl⟩
  have eN : pNds s1 = (ns, s3) := by unfold pNds; rw [e2]; exact e3
  have hsm : ∀ t ∈ ns, t.size ≤ 64 := by have := pStr_small n2 s2; rw [e3] at this; exact this
  have JF : s3 = some [] → (wi (v1 : Nat) 1 100 && nms ns) = true → ∃ xs, ndsD r = some ((v1, xs), []) ∧ (xs.map fun s => (⟨⟨s⟩⟩ : ByteArray)) = ns := fun hs ho => by
    simp only [Bool.and_eq_true] at ho
    have h1 := wi_in ho.1
    subst hs
    cases s2 with
    | none =>
      have := pRep_none (g := pStr) rfl n2
      rw [e3] at this
      cases this
    | some q2 =>
      obtain ⟨h2, h3⟩ := pUp_st e2
      obtain ⟨q1, rfl⟩ := pNum_st h3
      obtain ⟨xs, h4, h5⟩ := strs_from e3
      exact ⟨xs, ndsD_of (num_from e1 (by omega)) (num_from h3 (by omega)) h4 h2, h5⟩
  refine kind_mem w a c (kd :: r) kd 7 ndsD (fun y : SL => { PL.zero with kind := 7, id := (v1 : Nat), ns := y }) (fun y W => SLh W y ns.length (textsV ns)) (fun z : (Nat × List (List UInt8)) × SL => { PL.zero with kind := 7, id := (z.1.1 : Nat), ns := z.2 }) (fun z => z.1) (fun g z W => SLh W z.2 z.1.2.length (strs z.1.2) ∧ z.2.far (g + 1)) nok s3 (wi (v1 : Nat) 1 100 && nms ns) hB rfl hkd (by omega) ?_ ?_ ?_ ?_ ?_ ?_ ?_ ?_ ?_ ?_ ?_
  · intro rb W h
    have R := record7 W rb (some (kd :: r)) h hkd
    rw [show (pKnd (some (kd :: r))).2 = some r from rfl, e1] at R
    dsimp only at R
    rw [eN] at R
    refine R.mono ?_
    rintro e w' ⟨y, rfl, h2⟩
    exact ⟨y, rfl, h2.out.1, h2.out.2.1, (own_slh h2.out.2.2).1⟩
  · intro y W h
    exact formed7 (v1 : Nat) y _ _ W rfl fun W' b => members_any ns y W' (h.keep b (Nat.le_refl _)) (fun t ht => by have := hsm t ht; omega)
  · intro y W W' h b
    exact h.keep b (Nat.le_refl _)
  · intro g rb W h hl hg
    refine (plain7 W rb 1 (kd :: r) false h hl).mono ?_
    rintro e w' ⟨x, xs, y, k, b', q1, q2, q3, q4, q5, q6⟩
    have hr := h.lt
    obtain ⟨u1, u2⟩ := own_slh q5
    exact ⟨((x, xs), y), k, b', q1, q2, q3, q4, q6, u1, u2.low (by omega)⟩
  · intro g z W W' h ho
    exact ⟨h.1.oth h.2 ho, h.2⟩
  · intro g z W hD h
    obtain ⟨⟨x, xs⟩, y⟩ := z
    obtain ⟨l1, n, l2, h1, h2, h3⟩ := ndsD_some hD
    have hxs := repD_small h3
    obtain ⟨N, hN⟩ : ∃ N, (xs.map fun s => (⟨⟨s⟩⟩ : ByteArray)) = N := ⟨_, rfl⟩
    have hl : xs.length = N.length := by rw [← hN, List.length_map]
    have hS : SLh W y N.length (textsV N) := by
      have := h.1
      simp only at this
      rw [strs_eq, hN, hl] at this
      exact this
    have hz : ∀ t ∈ N, t.size ≤ 9223372036854775000 := fun t ht => by
      rw [← hN] at ht
      obtain ⟨s, hs, rfl⟩ := List.mem_map.1 ht
      have : s.length ≤ 9223372036854775000 := by have := hxs s hs; omega
      exact this
    have hy : y.n = N.length := hS.2.1
    have := rformed7 { PL.zero with kind := 7, id := (x : Nat), ns := y } rfl N.length (wi (x : Nat) 1 100) (N.all Txt.name) W hy rfl (fun W' b' h1 h6 => by
      have h3 := rnames_any N y W' (hS.keep b' (Nat.le_refl _)) h1 h6 hz
      rw [hy] at h3
      exact h3)
    unfold nok
    simp only
    rw [hN]
    exact this
  · intro hs ho
    obtain ⟨xs, h1, h2⟩ := JF hs ho
    refine ⟨(v1, xs), h1, ?_⟩
    unfold nok
    simp only
    rw [h2]
    exact ho
  · rintro ⟨x, xs⟩ h hF
    obtain ⟨z1, z2, z3⟩ := nok_in hF
    obtain ⟨l1, n, l2, h1, h2, h3⟩ := ndsD_some h
    have hn := repD_len h3
    simp only at z2
    have hn6 : n ≤ 6 := by omega
    rw [Nat.min_eq_left (by omega)] at h3
    have t1 := num_to h1
    rw [show List.drop 1 (kd :: r) = r from rfl, e1] at t1
    obtain ⟨rfl, rfl⟩ := Prod.mk.inj t1
    have t2 := up_to h2 hn6
    rw [e2] at t2
    obtain ⟨rfl, rfl⟩ := Prod.mk.inj t2
    have t3 := strs_to h3 z3
    rw [e3] at t3
    obtain ⟨rfl, rfl⟩ := Prod.mk.inj t3
    exact ⟨rfl, hF⟩
  · intro y W
    exact plainly7 _ W
  · intro y
    rfl
  · intro g y z W hM hN hD hs ho
    obtain ⟨xs, hj, hx⟩ := JF hs ho
    rw [show List.drop 1 (kd :: r) = r from rfl, hj] at hD
    have ej : z.1 = (v1, xs) := (Prod.mk.inj (Option.some.inj hD)).1.symm
    obtain ⟨⟨x, xs'⟩, z2⟩ := z
    simp only [Prod.mk.injEq] at ej
    obtain ⟨rfl, rfl⟩ := ej
    have h1 := hN.1
    simp only at h1
    rw [strs_eq, hx, show xs'.length = ns.length by rw [← hx, List.length_map]] at h1
    simp only [Bool.and_eq_true] at ho
    have h6 : ns.length ≤ 6 := by
      have := ho.2
      unfold nms at this
      simp only [Bool.and_eq_true, decide_eq_true_eq] at this
      exact this.1.2
    exact same17 _ _ .zero z2 .nil ns W rfl (zero_has W) (zero_has W) ⟨rfl, rfl, rfl, rfl, rfl, rfl, rfl⟩ zero_fits hM h1 (by omega)
end Go.Proofs.Ytnkkiepoljbhlaa

namespace Go.Proofs.Ytnkkiepoljbhlaa
open Go.ChangeShapes Go.WideShapes Go.ChangeAt Go.RowKit

theorem cellsOf5 : Try.prog.cellsOf 5 = 1 := by kernel_rfl
theorem bytesOf5 : Try.prog.bytesOf 5 = 1 := by kernel_rfl
theorem one1 {l : List Value} (h : l.length = 1) : ∃ c0, l = [c0] := by
  match l, h with
  | [c0], _ => exact ⟨c0, rfl⟩

theorem byte_of {n : Int} (h : (Lit.int .u8 n).wf = true) : ∃ x : UInt8, n = (x.toNat : Int) := by
  have hb : 0 ≤ n ∧ n ≤ 255 := by
    simp [Lit.wf, IntKind.min, IntKind.max] at h
    revert h
    simp [IntKind.signed, IntKind.bits]
  refine ⟨UInt8.ofNat n.toNat, ?_⟩
  rw [UInt8.toNat_ofNat']
  omega

theorem opened_bytes {H : Type} {enc : TypeId × Value → H} {W : World} {base : Nat} {spare : Nat → Bool} {held : Bool} {a : Addr} {len n : Nat} {elems : List (DataW H × List MemPlace)} (hlen : elems.length = len)
    (hel : ∀ i, i < len → (W.cells? base (a.add (i * Try.prog.cellsOf 5)) (Try.prog.cellsOf 5)).bind (DataW.trod enc Try.prog W base spare held n 5) = elems[i]?) :
    ∃ l : List UInt8, l.length = len ∧ Lies W (some a) l := by
  have spot0 : 0 < len → a.spot = none := by
    intro hi
    have h := hel 0 hi
    rw [cellsOf5, List.getElem?_eq_getElem (by omega), Option.bind_eq_some_iff] at h
    obtain ⟨cs, hcs, hy⟩ := h
    obtain ⟨_, hl, hc⟩ := World.cells?_some hcs
    obtain ⟨c0, rfl⟩ := one1 hl
    have k0 := hc 0 (by omega)
    simp only [List.getElem?_cons_zero] at k0
    simpa [Addr.add] using World.cell?_spot k0
  have one : ∀ i, i < len → ∃ x : UInt8, ∃ b off : Nat, a = ⟨b, off, none⟩ ∧ W.cell? ⟨b, off + i, none⟩ = some (.int .u8 x.toNat) := by
    intro i hi
    have h := hel i hi
    rw [cellsOf5, List.getElem?_eq_getElem (by omega), Option.bind_eq_some_iff] at h
    obtain ⟨cs, hcs, hy⟩ := h
    obtain ⟨_, hl, hc⟩ := World.cells?_some hcs
    obtain ⟨c0, rfl⟩ := one1 hl
    have k0 := hc 0 (by omega)
    simp only [List.getElem?_cons_zero] at k0
    obtain ⟨m, e0, _, w0⟩ := DataW.trod_int Try.underlying5 hy
    simp only [List.cons.injEq, and_true] at e0
    subst e0
    obtain ⟨x, rfl⟩ := byte_of w0
    have hs : a.spot = none := spot0 (by omega)
    obtain ⟨b, off, spot⟩ := a
    simp only at hs
    subst hs
    rw [add_plain, add_plain, Nat.add_zero, Nat.mul_one] at k0
    exact ⟨x, b, off, rfl, k0⟩
  by_cases h0 : len = 0
  · exact ⟨[], h0.symm, .inl rfl⟩
  · obtain ⟨_, b, off, rfl, _⟩ := one 0 (by omega)
    have two : ∀ i, ∃ x : UInt8, i < len → W.cell? ⟨b, off + i, none⟩ = some (.int .u8 x.toNat) := by
      intro i
      by_cases hi : i < len
      · obtain ⟨v, b', off', e, h⟩ := one i hi
        simp only [Addr.mk.injEq, and_true] at e
        obtain ⟨rfl, rfl⟩ := e
        exact ⟨v, fun _ => h⟩
      · exact ⟨0, fun h => absurd h hi⟩
    obtain ⟨f, hf⟩ := Classical.axiomOfChoice two
    refine ⟨(List.range len).map f, by simp, .inr ⟨b, off, rfl, fun i v hv => ?_⟩⟩
    have hi : i < len := by have := (List.getElem?_eq_some_iff.1 hv).1; simpa using this
    obtain rfl : f i = v := by simpa [hi] using hv
    exact hf i hi

set_option maxRecDepth 100000 in
/-- a slice of bytes that came in -/
theorem open_byt {H : Type} {enc : TypeId × Value → H} {W : World} {base : Nat} {held : Bool} {v : Value} {x : DataW H} {p : List MemPlace} {r : Reach} {b0 : Nat} (hv : Value.okWide Try.prog W r b0 38 v) (h : DataW.Trod enc Try.prog W base (fun _ => true) held 38 v x p) (hz : ∀ es rs, x = .slice es rs → es.length + rs.length < 1152921504606846976) :
    ∃ (q : Option Addr) (c : Nat) (l : List UInt8), v = .slice q l.length c ∧ Byt W W.heap.size q c l := by
  obtain ⟨a0, len, cap, rfl⟩ := okWide_slice Try.underlying38 hv
  obtain ⟨fuel, hf⟩ := h
  rcases DataW.trod_slice Try.underlying38 hf with ⟨hcs, hx⟩ | ⟨a, len', cap', elems, rest, n, _, hcs, hx, _, hl, hm, hlen, hel, hsp, _⟩
  · simp [Value.cells] at hcs
    obtain ⟨rfl, rfl, rfl⟩ := hcs
    exact ⟨none, 0, [], rfl, .inl rfl, fun _ => rfl, fun a e => (by cases e), Nat.le_refl _, by show (0 : Nat) < 1152921504606846976; omega⟩
  · simp [Value.cells] at hcs
    obtain ⟨rfl, rfl, rfl⟩ := hcs
    simp only [Prod.mk.injEq] at hx
    have hrest := (hsp rfl).1
    have hzz := hz _ _ hx.1
    rw [List.length_map, List.length_map] at hzz
    have hok : Cell.ok Try.prog W r b0 38 (.slice (some a) len cap) := by
      simpa [Value.okWide, Cell.okWide, Try.underlying38] using hv
    simp only [Cell.ok, Try.underlying38] at hok
    obtain ⟨_, _, _, hspot, row, cells, hsh, _⟩ := hok
    have hblk : a.block < W.heap.size := by
      unfold World.shape? at hsh
      by_cases hb : a.block < W.heap.size
      · exact hb
      · rw [Array.getElem?_eq_none (by omega)] at hsh
        simp at hsh
    obtain ⟨l, hll, hlies⟩ := opened_bytes hlen hel
    subst hll
    exact ⟨some a, cap, l, rfl, hlies, (fun e => by cases e), (fun b e => by cases e; exact ⟨hblk, hspot⟩), hl, by omega⟩
/-- the law, of any bytes -/
theorem dec_law (W : World) (q : Option Addr) (c : Nat) (l : List UInt8) (h : Byt W W.heap.size q c l) : Calls Try.prog 4 #[.slice q l.length c] W fun e w' => e = .returned (.bool true) ∧ Below W.heap.size W w' := by
  by_cases hk : ∀ kd, l[0]? = some kd → ¬ (1 ≤ kd.toNat ∧ kd.toNat ≤ 11)
  · exact dec0 W q c l h hk
  · cases l with
    | nil => exact absurd (fun kd e => by cases e) hk
    | cons kd r =>
      have h2 : 1 ≤ kd.toNat ∧ kd.toNat ≤ 11 := by
        refine Classical.byContradiction fun q => hk fun kd' e => ?_
        cases e
        exact q
      have h3 : kd.toNat = 1 ∨ kd.toNat = 2 ∨ kd.toNat = 3 ∨ kd.toNat = 4 ∨ kd.toNat = 5 ∨ kd.toNat = 6 ∨ kd.toNat = 7 ∨ kd.toNat = 8 ∨ kd.toNat = 9 ∨ kd.toNat = 10 ∨ kd.toNat = 11 := by omega
      rcases h3 with e | e | e | e | e | e | e | e | e | e | e
      · exact dec1 W q c r kd e h
      · exact dec2 W q c r kd e h
      · exact dec3 W q c r kd e h
      · exact dec4 W q c r kd e h
      · exact dec5 W q c r kd e h
      · exact dec6 W q c r kd e h
      · exact dec7 W q c r kd e h
      · exact dec8 W q c r kd e h
      · exact dec9 W q c r kd e h
      · exact dec10 W q c r kd e h
      · exact dec11 W q c r kd e h
end Go.Proofs.Ytnkkiepoljbhlaa
