/-
  WireBack: no kind, the kinds with lists, and the law. WireBack: the law's second argument, opened: a list of bytes.
-/
import Derived.Test.YtnkkiepoljbhlaaBe
import Derived.Test.YtnkkiepoljbhlaaFmg
import Derived.Test.YtnkkiepoljbhlaaFmn
import Derived.Test.YtnkkiepoljbhlaaOpn
set_option linter.unusedSimpArgs false
namespace Go.Proofs.Ytnkkiepoljbhlaa
open Go.RowKit

/-! ### no kind -/
theorem backB0 (w : World) (a : Option Addr) (c : Nat) (l : List UInt8) (hB : Byt w w.heap.size a c l) (hk : ∀ kd, l[0]? = some kd → ¬ (1 ≤ kd.toNat ∧ kd.toNat ≤ 11)) : HalfB a l.length c w := by
  have hp : ¬ (1 ≤ (pKnd (some l)).1 ∧ (pKnd (some l)).1 ≤ 11) := by
    cases l with
    | nil => exact fun h => absurd h.1 (by decide)
    | cons kd r => exact hk kd rfl
  refine halfB_no w a c l fun W b => ?_
  refine (decode_gen W a c l (hB.fwd b) (fun _ : Unit => .nilIface) (pKnd (some l)).2 (fun _ _ => True) false (fun W' h1 _ => (record0 W' _ (some l) h1 hp).mono fun e w' ⟨q1, q2⟩ => ⟨(), q1, q2.out.1, q2.out.2, trivial⟩) (fun _ W' _ => formed0 W') (fun _ _ _ _ _ => trivial)).mono ?_
  rintro e w' ⟨q1, ⟨-, q2, -⟩ | ⟨-, q2⟩⟩
  · cases q2
  · exact ⟨q2, q1⟩
theorem backA0 (p : PL) (w : World) (hk : ¬ (1 ≤ p.kind ∧ p.kind ≤ 11)) : HalfA p w :=
  halfA_kind p w 0 false [] (fun _ : Unit => p.norm 0) (fun _ _ => True) (fun h => by cases h) (make0 p hk) (plainly0 p)
    (fun W => remade_at _ _ _ W (plainly0 p) (make0 (p.norm 0) (by show ¬ ((1 : Int) ≤ 0 ∧ (0 : Int) ≤ 11); decide))) (fun W _ => formed0 W) (fun h => by cases h) (fun h => by cases h) (fun h => by cases h) (fun _ _ _ _ _ => trivial) (fun _ W => plainly0 (p.norm 0) W) (fun h => by cases h)

/-! ### names -/
theorem bown_slh {w : World} {B e size n : Nat} {s : SL} {xs : List Value} (h : w.ownsRow B e size s.v n xs) : SLh w s n xs := by
  obtain ⟨t, h1, h2, h3⟩ := slh_own h
  obtain ⟨a, n', c⟩ := s
  obtain ⟨a2, n2, c2⟩ := t
  unfold SL.v at h1
  simp only [Value.slice.injEq] at h1
  obtain ⟨rfl, rfl, rfl⟩ := h1
  exact h2
theorem bnms {i : Int} {N : List ByteArray} (h : (wi i 1 100 && nms N) = true) : (1 ≤ i ∧ i ≤ 100) ∧ N.length ≤ 6 ∧ ∀ t ∈ N, t.size ≤ 64 := by
  unfold nms at h
  simp only [Bool.and_eq_true, decide_eq_true_eq] at h
  exact ⟨bwi h.1, h.2.1.2, fun t ht => by rw [Lib.size_eq]; exact bname_size (List.all_eq_true.1 h.2.2 t ht)⟩
theorem bflat_len {α : Type} (f : α → List UInt8) (m : Nat) : ∀ (L : List α), (∀ x ∈ L, (f x).length ≤ m) → (L.flatMap f).length ≤ L.length * m
  | [], _ => by simp
  | x :: r, h => by
    have h1 := h x (List.mem_cons_self ..)
    have h2 := bflat_len f m r fun y hy => h y (List.mem_cons_of_mem _ hy)
    rw [List.flatMap_cons, List.length_append, List.length_cons, Nat.succ_mul]
    omega
theorem btexts_len {N : List ByteArray} (h1 : N.length ≤ 6) (h2 : ∀ t ∈ N, t.size ≤ 64) : (N.flatMap txtB).length ≤ 444 := by
  have := bflat_len txtB 74 N fun x hx => btxt_len (by have := h2 x hx; rw [Lib.size_eq] at this; exact this)
  omega
theorem backB7 (w : World) (a : Option Addr) (c : Nat) (r : List UInt8) (kd : UInt8) (hkd : kd.toNat = 7) (hB : Byt w w.heap.size a c (kd :: r)) : HalfB a (kd :: r).length c w := by
  obtain ⟨v1, s1, e1⟩ : ∃ v s, pNum (some r) = (v, s) := ⟨_, _, rfl⟩
  obtain ⟨ns, s3, eN⟩ : ∃ v s, pNds s1 = (v, s) := ⟨_, _, rfl⟩
  have hsm : ∀ t ∈ ns, t.size ≤ 64 := by
    have bs : ∀ (n : Nat) (st : Option (List UInt8)), ∀ t ∈ (pRep pStr n st).1, t.size ≤ 64 := by
      intro n
      induction n with
      | zero => intro st t h; cases h
      | succ n ih =>
        intro st t h
        have h' : t ∈ (pStr st).1 :: (pRep pStr n (pStr st).2).1 := h
        rcases List.mem_cons.1 h' with rfl | h'
        · exact bTxt_len st
        · exact ih _ t h'
    have := bs (pUp 6 s1).1 (pUp 6 s1).2
    unfold pNds at eN
    rw [eN] at this
    exact this
  refine halfB_kind w a c (kd :: r) 7 (fun y : SL => { PL.zero with kind := 7, id := (v1 : Nat), ns := y }) (fun y W => SLh W y ns.length (textsV ns)) s3 (wi (v1 : Nat) 1 100 && nms ns) hB ?_ ?_ (fun y W W' h b => h.keep b (Nat.le_refl _)) (fun y W => plainly7 _ W) (fun y W => make7 _ rfl W) ?_
  · intro rb W h
    have R := record7 W rb (some (kd :: r)) h hkd
    rw [show (pKnd (some (kd :: r))).2 = some r from rfl, e1] at R
    dsimp only at R
    rw [eN] at R
    refine R.mono ?_
    rintro e w' ⟨y, rfl, h2⟩
    exact ⟨y, rfl, h2.out.1, h2.out.2.1, bown_slh h2.out.2.2⟩
  · intro y W h
    exact formed7 (v1 : Nat) y _ _ W rfl fun W' b => members_any ns y W' (h.keep b (Nat.le_refl _)) (fun t ht => by have := hsm t ht; omega)
  · intro hs ho y W hM
    subst hs
    obtain ⟨z1, z2, z3⟩ := bnms ho
    have h3 := eN
    unfold pNds at h3
    obtain ⟨q2, h4⟩ := pRep_on rfl h3
    obtain ⟨q1, rfl⟩ := pUp_on (show pUp 6 s1 = ((pUp 6 s1).1, some q2) from by rw [← h4])
    have t1 := (pNum_was e1).1
    have t2 := nds_was h3
    have hb : kd :: r = [7] ++ numI (v1 : Nat) ++ lstB txtB ns := by
      rw [kd_eq hkd (by decide), t1, t2]
      simp [numI, lstB, nB, txtB]
      rfl
    have h5 := btexts_len z2 z3
    rw [hb]
    exact recB7 (v1 : Nat) ns y.a y.n y.c W (by omega) hM.2.1.symm (by have := hM.2.1; omega) (fun W' b' => (hM.keep b'.b (Nat.le_refl _)).1) (fun x hx => by have := z3 x hx; omega) (by omega)
theorem backA7 (p : PL) (w : World) (hk : p.kind = 7) (N : List ByteArray) (hN : SLh w p.ns N.length (textsV N)) (hs : ∀ t ∈ N, t.size ≤ 9223372036854775000) : HalfA p w := by
  have hn : p.ns.n = N.length := hN.2.1
  have hb : [7] ++ numI p.id ++ lstB txtB N = (7 :: (num p.id.toNat ++ (nB N ++ [])) : List UInt8) := by
    simp [numI, lstB, nB, txtB]
    rfl
  refine halfA_kind p w 7 (wi p.id 1 100 && nms N) (7 :: (num p.id.toNat ++ (nB N ++ [])) : List UInt8) (fun y : SL => { PL.zero with kind := 7, id := p.id, ns := y }) (fun y W => SLh W y N.length (textsV N)) (fun ho => ?_) (make7 p hk) (plainly7 p) (remade_is p 7 (plainly7 p) (make7 (p.norm 7) rfl))
    (fun W b => formed7 p.id p.ns _ _ W rfl fun W' b' => members_any N p.ns W' ((hN.keep b (Nat.le_refl _)).keep b' (Nat.le_refl _)) hs) (fun ho W b => ?_) (fun ho rb W h => ?_) (fun ho y W h => ?_) (fun y W W' h b => h.keep b (Nat.le_refl _)) (fun y W => plainly7 _ W) (fun ho y W b h => ?_)
  · obtain ⟨z1, z2, z3⟩ := bnms ho
    have h1 : (numI p.id).length ≤ 10 := num_length _
    have h2 := btexts_len z2 z3
    have h3 := num_length N.length
    rw [← hb]
    simp only [lstB, List.length_append, List.length_cons, List.length_nil]
    omega
  · obtain ⟨z1, z2, z3⟩ := bnms ho
    have h2 := btexts_len z2 z3
    rw [← hb]
    exact recB7 p.id N p.ns.a p.ns.n p.ns.c W (by omega) hn.symm (by omega) (fun W' b' => ((hN.keep b (Nat.le_refl _)).keep b'.b (Nat.le_refl _)).1) (fun x hx => by have := z3 x hx; omega) (by omega)
  · obtain ⟨z1, z2, z3⟩ := bnms ho
    have R := record7 W rb (some (7 :: (num p.id.toNat ++ (nB N ++ [])) : List UInt8)) h rfl
    rw [show (pKnd (some (7 :: (num p.id.toNat ++ (nB N ++ [])) : List UInt8))).2 = some (num p.id.toNat ++ (nB N ++ [])) from rfl, pNum_laid (by omega)] at R
    dsimp only at R
    rw [show pNds (some (nB N ++ [])) = (N, some []) from nds_laid N [] z2 z3, Int.toNat_of_nonneg (show 0 ≤ p.id by omega)] at R
    refine R.mono ?_
    rintro e w' ⟨y, rfl, h2⟩
    exact ⟨y, rfl, h2.out.1, h2.out.2.1, bown_slh h2.out.2.2⟩
  · exact ho ▸ formed7 p.id y _ _ W rfl fun W' b => members_any N y W' (h.keep b (Nat.le_refl _)) hs
  · obtain ⟨z1, z2, z3⟩ := bnms ho
    exact bsame17 { PL.zero with kind := 7, id := p.id, ns := y } (p.norm 7) .zero p.ns .nil N W rfl (zero_has W) (zero_has W) ⟨rfl, rfl, rfl, rfl, rfl, rfl, rfl⟩ zero_fits h (hN.keep b (Nat.le_refl _)) (by omega)

/-! ### jobs -/
theorem bnil_slh (w : World) : SLh w .nil 0 [] := ⟨.inl rfl, rfl, fun _ => ⟨rfl, rfl, rfl⟩⟩
theorem bjd_has {w : World} {j : JD} {pa tk : SL} (h1 : SLh w pa j.pa.length (intsV j.pa)) (h2 : SLh w tk j.tk.length (flat j.tk)) : (j.jb pa tk).has w ⟨j.pa, j.tk, [], []⟩ := ⟨h1, h2, bnil_slh w, bnil_slh w⟩
theorem bpar {id : Int} : ∀ {q : Int} {L : List Int}, 0 ≤ q → par id q L = true → ∀ x ∈ L, 0 ≤ x ∧ x ≤ 100
  | _, [], _, _, x, hx => by cases hx
  | q, y :: r, hq, h, x, hx => by
    unfold par at h
    simp only [Bool.and_eq_true, decide_eq_true_eq] at h
    rcases List.mem_cons.1 hx with rfl | hx
    · omega
    · exact bpar (by omega) h.2 x hx
theorem bjfm {j : JB} {L : JL} (q : jfm j L = true) : (1 ≤ j.id ∧ j.id ≤ 100) ∧ j.tn.data.toList.length ≤ 64 ∧ (0 ≤ j.pr ∧ j.pr ≤ 100) ∧ (1 ≤ j.rt ∧ j.rt ≤ 1000) ∧ L.pa.length ≤ 4 ∧ (∀ x ∈ L.pa, 0 ≤ x ∧ x ≤ 100) ∧ L.tk.length ≤ 6 ∧ ∀ x ∈ L.tk, x.pos := by
  unfold jfm at q
  simp only [Bool.and_eq_true, decide_eq_true_eq] at q
  obtain ⟨⟨⟨⟨⟨⟨q1, q2⟩, q3⟩, q4⟩, q5, q6⟩, q7, q8⟩, _⟩ := q
  exact ⟨bwi q1, bname_size q2, bwi q3, bwi q4, q5, bpar (Int.le_refl _) q6, q7.2, fun x hx => bpos (List.all_eq_true.1 q8 x hx)⟩
theorem bjob_eq (j : JD) : jobB j.id ⟨⟨j.tn⟩⟩ j.pr j.rt j.pa j.tk = jB j := by
  have e : (vecB : V4 → List UInt8) = vB := by funext v; exact bvec_eq v
  unfold jobB jB lstB
  rw [e, btxt_eq]
  simp [numI]
  rfl
theorem bjob_len {j : JB} {L : JL} (q : jfm j L = true) : (jobB j.id j.tn j.pr j.rt L.pa L.tk).length ≤ 600 := by
  obtain ⟨_, z2, _, _, z5, _, z7, _⟩ := bjfm q
  have h1 : (numI j.id).length ≤ 10 := num_length _
  have h2 := btxt_len z2
  have h3 : (numI j.pr).length ≤ 10 := num_length _
  have h4 : (numI j.rt).length ≤ 10 := num_length _
  have h5 := bflat_len numI 10 L.pa fun x _ => num_length _
  have h6 := bflat_len vecB 40 L.tk fun x _ => bvec_len x
  have h7 := num_length L.pa.length
  have h8 := num_length L.tk.length
  unfold jobB lstB
  simp only [List.length_append]
  omega
theorem backB5 (w : World) (a : Option Addr) (c : Nat) (r : List UInt8) (kd : UInt8) (hkd : kd.toNat = 5) (hB : Byt w w.heap.size a c (kd :: r)) : HalfB a (kd :: r).length c w := by
  obtain ⟨j, s1, e1⟩ : ∃ j s, pJob (some r) = (j, s) := ⟨_, _, rfl⟩
  have l1 : j.tn.length ≤ 64 := by
    have : (pJob (some r)).1.tn.length ≤ 64 := bTxt_len (pNum (some r)).2
    rw [e1] at this
    exact this
  refine halfB_kind w a c (kd :: r) 5 (fun y : SL × SL => { PL.zero with kind := 5, jb := j.jb y.1 y.2 }) (fun y W => SLh W y.1 j.pa.length (intsV j.pa) ∧ SLh W y.2 j.tk.length (flat j.tk)) s1 (jfm (j.jb .nil .nil) ⟨j.pa, j.tk, [], []⟩) hB ?_ ?_ (fun y W W' h b => ⟨h.1.keep b (Nat.le_refl _), h.2.keep b (Nat.le_refl _)⟩) (fun y W => plainly5 _ W) (fun y W => make5 _ rfl W) ?_
  · intro rb W h
    have R := record5 W rb (some (kd :: r)) h hkd
    rw [show (pKnd (some (kd :: r))).2 = some r from rfl, e1] at R
    refine R.mono ?_
    rintro e w' ⟨pa, tk, rfl, h2⟩
    exact ⟨(pa, tk), rfl, h2.out.1, h2.out.2.1, bown_slh h2.out.2.2.1, bown_slh h2.out.2.2.2⟩
  · intro y W h
    exact formed5 (j.jb y.1 y.2) _ W fun W' b => formedJob (j.jb y.1 y.2) ⟨j.pa, j.tk, [], []⟩ W' (bjd_has (h.1.keep b (Nat.le_refl _)) (h.2.keep b (Nat.le_refl _))) (show j.tn.length ≤ _ by omega)
  · intro hs ho y W hM
    subst hs
    obtain ⟨z1, z2, z3, z4, z5, z6, z7, z8⟩ := bjfm ho
    have hl := bjob_len ho
    have t1 := pJob_was e1
    have hb : kd :: r = [5] ++ jobB j.id ⟨⟨j.tn⟩⟩ j.pr j.rt j.pa j.tk := by
      rw [kd_eq hkd (by decide), t1, bjob_eq]
      simp
    rw [hb]
    exact recB5 j.id j.pr j.rt 0 0 0 ⟨⟨j.tn⟩⟩ y.1.a y.2.a none none y.1.n y.1.c y.2.n y.2.c 0 0 0 0 j.pa j.tk W (by have := z1; simp only [JD.jb] at this; omega) (by have := z3; simp only [JD.jb] at this; omega) (by have := z4; simp only [JD.jb] at this; omega) hM.1.2.1.symm hM.2.2.1.symm (by have := hM.1.2.1; simp only at z5; omega) (by have := hM.2.2.1; simp only at z7; omega) (fun W' b' => (hM.1.keep b' (Nat.le_refl _)).1) (fun W' b' => (hM.2.keep b' (Nat.le_refl _)).1) (fun x hx => by have := z6 x hx; omega) z8 (by simp only [JD.jb] at hl; omega)
theorem unt_of {a b c : Int} {m n : Nat} (h : unt a b c m n = true) : a = 0 ∧ b = 0 ∧ c = 0 ∧ m = 0 ∧ n = 0 := by
  unfold unt at h
  simp only [Bool.and_eq_true, decide_eq_true_eq, beq_iff_eq] at h
  omega
theorem backA5 (p : PL) (w : World) (hk : p.kind = 5) (L : JL) (hh : p.jb.has w L) (hs : p.jb.tn.size ≤ 9223372036854775000) : HalfA p w := by
  obtain ⟨j, hj⟩ : ∃ j : JD, j = ⟨p.jb.id.toNat, p.jb.tn.data.toList, p.jb.pr.toNat, p.jb.rt.toNat, L.pa, L.tk⟩ := ⟨_, rfl⟩
  have hpa : p.jb.pa.n = L.pa.length := hh.1.2.1
  have htk : p.jb.tk.n = L.tk.length := hh.2.1.2.1
  have hb : [5] ++ jobB p.jb.id p.jb.tn p.jb.pr p.jb.rt L.pa L.tk = (5 :: (jB j ++ []) : List UInt8) := by
    have e : (vecB : V4 → List UInt8) = vB := by funext v; exact bvec_eq v
    rw [hj]
    unfold jobB jB lstB
    rw [e, btxt_eq]
    simp [numI]
    rfl
  have ej : jfm p.jb L = true → (j.id : Int) = p.jb.id ∧ (j.pr : Int) = p.jb.pr ∧ (j.rt : Int) = p.jb.rt ∧ p.jb.st = 0 ∧ p.jb.at' = 0 ∧ p.jb.sr = 0 ∧ L = ⟨L.pa, L.tk, [], []⟩ := fun ho => by
    obtain ⟨z1, z2, z3, z4, z5, z6, z7, z8⟩ := bjfm ho
    have h9 := ho
    unfold jfm at h9
    simp only [Bool.and_eq_true] at h9
    obtain ⟨u1, u2, u3, u4, u5⟩ := unt_of h9.2
    subst hj
    refine ⟨Int.toNat_of_nonneg (by omega), Int.toNat_of_nonneg (by omega), Int.toNat_of_nonneg (by omega), u1, u2, u3, ?_⟩
    obtain ⟨x1, x2, x3, x4⟩ := L
    simp only at u4 u5
    rw [List.eq_nil_of_length_eq_zero u4, List.eq_nil_of_length_eq_zero u5]
  have etn : (⟨⟨j.tn⟩⟩ : ByteArray) = p.jb.tn := by rw [hj]
  have epa : j.pa = L.pa := by rw [hj]
  have etk : j.tk = L.tk := by rw [hj]
  have ejf : jfm p.jb L = true → jfm (j.jb .nil .nil) ⟨j.pa, j.tk, [], []⟩ = true := fun ho => by
    obtain ⟨x1, x2, x3, x4, x5, x6, x7⟩ := ej ho
    have h9 := ho
    rw [x7] at h9
    unfold jfm at h9 ⊢
    simp only [JD.jb] at h9 ⊢
    rw [x1, x2, x3, etn, epa, etk]
    rw [x4, x5, x6] at h9
    exact h9
  refine halfA_kind p w 5 (jfm p.jb L) (5 :: (jB j ++ []) : List UInt8) (fun y : SL × SL => { PL.zero with kind := 5, jb := j.jb y.1 y.2 }) (fun y W => SLh W y.1 j.pa.length (intsV j.pa) ∧ SLh W y.2 j.tk.length (flat j.tk)) (fun ho => ?_) (make5 p hk) (plainly5 p) (remade_is p 5 (plainly5 p) (make5 (p.norm 5) rfl))
    (fun W b => formed5 p.jb _ W fun W' b' => formedJob p.jb L W' ((hh.keep b (Nat.le_refl _)).keep b' (Nat.le_refl _)) hs) (fun ho W b => ?_) (fun ho rb W h => ?_) (fun ho y W h => ?_) (fun y W W' h b => ⟨h.1.keep b (Nat.le_refl _), h.2.keep b (Nat.le_refl _)⟩) (fun y W => plainly5 _ W) (fun ho y W b h => ?_)
  · have h2 := bjob_len ho
    rw [← hb]
    simp only [List.length_append, List.length_cons, List.length_nil]
    omega
  · obtain ⟨z1, z2, z3, z4, z5, z6, z7, z8⟩ := bjfm ho
    have h2 := bjob_len ho
    rw [← hb]
    exact recB5 p.jb.id p.jb.pr p.jb.rt p.jb.st p.jb.at' p.jb.sr p.jb.tn p.jb.pa.a p.jb.tk.a p.jb.nd.a p.jb.dn.a p.jb.pa.n p.jb.pa.c p.jb.tk.n p.jb.tk.c p.jb.nd.n p.jb.nd.c p.jb.dn.n p.jb.dn.c L.pa L.tk W (by omega) (by omega) (by omega) hpa.symm htk.symm (by omega) (by omega) (fun W' b' => ((hh.keep b (Nat.le_refl _)).keep b' (Nat.le_refl _)).1.1) (fun W' b' => ((hh.keep b (Nat.le_refl _)).keep b' (Nat.le_refl _)).2.1.1) (fun x hx => by have := z6 x hx; omega) z8 (by omega)
  · obtain ⟨z1, z2, z3, z4, z5, z6, z7, z8⟩ := bjfm ho
    have R := record5 W rb (some (5 :: (jB j ++ []) : List UInt8)) h rfl
    have hJ : pJob (some (jB j ++ [])) = (j, some []) := by
      rw [hj]
      refine pJob_laid _ [] ?_ z2 ?_ ?_ z5 (fun x hx => by have := z6 x hx; omega) z7 (fun v hv => by have := z8 v hv; unfold V4.pos at this; unfold V4.in63; omega)
      · show p.jb.id.toNat < _; omega
      · show p.jb.pr.toNat < _; omega
      · show p.jb.rt.toNat < _; omega
    rw [show (pKnd (some (5 :: (jB j ++ []) : List UInt8))).2 = some (jB j ++ []) from rfl, hJ] at R
    refine R.mono ?_
    rintro e w' ⟨pa, tk, rfl, h2⟩
    exact ⟨(pa, tk), rfl, h2.out.1, h2.out.2.1, bown_slh h2.out.2.2.1, bown_slh h2.out.2.2.2⟩
  · have h9 := ejf ho
    have h8 := formed5 (j.jb y.1 y.2) (jfm (j.jb .nil .nil) ⟨j.pa, j.tk, [], []⟩) W fun W' b => formedJob (j.jb y.1 y.2) ⟨j.pa, j.tk, [], []⟩ W' (bjd_has (h.1.keep b (Nat.le_refl _)) (h.2.keep b (Nat.le_refl _))) (by show (⟨⟨j.tn⟩⟩ : ByteArray).size ≤ _; rw [etn]; exact hs)
    rw [h9] at h8
    exact h8
  · obtain ⟨z1, z2, z3, z4, z5, z6, z7, z8⟩ := bjfm ho
    obtain ⟨x1, x2, x3, x4, x5, x6, x7⟩ := ej ho
    have h1 : (j.jb y.1 y.2).has W ⟨j.pa, j.tk, [], []⟩ := bjd_has h.1 h.2
    have h2 : p.jb.has W ⟨j.pa, j.tk, [], []⟩ := by
      rw [epa, etk, ← x7]
      exact hh.keep b (Nat.le_refl _)
    have hsz : p.jb.tn.size ≤ 64 := by rw [Lib.size_eq]; exact z2
    exact bsame17 { PL.zero with kind := 5, jb := j.jb y.1 y.2 } (p.norm 5) p.jb .nil ⟨j.pa, j.tk, [], []⟩ [] W rfl h1 h2 ⟨x1, etn, x2, x3, x4.symm, x5.symm, x6.symm⟩ ⟨by omega, by show j.pa.length ≤ _; rw [epa]; omega, by show j.tk.length ≤ _; rw [etk]; omega, Nat.zero_le _, Nat.zero_le _, (fun _ h => by cases h), (fun _ h => by cases h)⟩ (bnil_slh W) (bnil_slh W) (by decide)

/-! ### the law -/
theorem backB_any (W : World) (q : Option Addr) (c : Nat) (l : List UInt8) (h : Byt W W.heap.size q c l) : HalfB q l.length c W := by
  by_cases hk : ∀ kd, l[0]? = some kd → ¬ (1 ≤ kd.toNat ∧ kd.toNat ≤ 11)
  · exact backB0 W q c l h hk
  · cases l with
    | nil => exact absurd (fun kd e => by cases e) hk
    | cons kd r =>
      have h2 : 1 ≤ kd.toNat ∧ kd.toNat ≤ 11 := by
        refine Classical.byContradiction fun q => hk fun kd' e => ?_
        cases e
        exact q
      have h3 : kd.toNat = 1 ∨ kd.toNat = 2 ∨ kd.toNat = 3 ∨ kd.toNat = 4 ∨ kd.toNat = 5 ∨ kd.toNat = 6 ∨ kd.toNat = 7 ∨ kd.toNat = 8 ∨ kd.toNat = 9 ∨ kd.toNat = 10 ∨ kd.toNat = 11 := by omega
      rcases h3 with e | e | e | e | e | e | e | e | e | e | e
      · exact backB1 W q c r kd e h
      · exact backB2 W q c r kd e h
      · exact backB3 W q c r kd e h
      · exact backB4 W q c r kd e h
      · exact backB5 W q c r kd e h
      · exact backB6 W q c r kd e h
      · exact backB7 W q c r kd e h
      · exact backB8 W q c r kd e h
      · exact backB9 W q c r kd e h
      · exact backB10 W q c r kd e h
      · exact backB11 W q c r kd e h
theorem backA_any (p : PL) (w : World) (L : JL) (N : List ByteArray) (h : p.jb.has w L) (hs : p.jb.tn.size ≤ 9223372036854775000) (hN : SLh w p.ns N.length (textsV N)) (hz : ∀ t ∈ N, t.size ≤ 9223372036854775000) (ht : p.tn.size ≤ 9223372036854775000) (hd : p.nd.size ≤ 9223372036854775000) : HalfA p w := by
  by_cases hr : 1 ≤ p.kind ∧ p.kind ≤ 11
  · have hk : p.kind = 1 ∨ p.kind = 2 ∨ p.kind = 3 ∨ p.kind = 4 ∨ p.kind = 5 ∨ p.kind = 6 ∨ p.kind = 7 ∨ p.kind = 8 ∨ p.kind = 9 ∨ p.kind = 10 ∨ p.kind = 11 := by omega
    rcases hk with hk | hk | hk | hk | hk | hk | hk | hk | hk | hk | hk
    · exact backA1 p w hk ht
    · exact backA2 p w hk hd
    · exact backA3 p w hk hd
    · exact backA4 p w hk hd
    · exact backA5 p w hk L h hs
    · exact backA6 p w hk
    · exact backA7 p w hk N hN hz
    · exact backA8 p w hk
    · exact backA9 p w hk hd
    · exact backA10 p w hk
    · exact backA11 p w hk
  · exact backA0 p w hr
/-- WireBack's law -/
theorem law_wireback (p : PL) (w : World) (L : JL) (N : List ByteArray) (h : p.jb.has w L) (hs : p.jb.tn.size ≤ 9223372036854775000) (hN : SLh w p.ns N.length (textsV N)) (hz : ∀ t ∈ N, t.size ≤ 9223372036854775000) (ht : p.tn.size ≤ 9223372036854775000) (hd : p.nd.size ≤ 9223372036854775000)
    (q : Option Addr) (c : Nat) (l : List UInt8) (hB : Byt w w.heap.size q c l) :
    Calls Try.prog 5 #[.agg p.cells, .slice q l.length c] w fun e w' => e = .returned (.bool true) ∧ Below w.heap.size w w' :=
  back_of p q l.length c w (backA_any p w L N h hs hN hz ht hd) (backB_any w q c l hB)
end Go.Proofs.Ytnkkiepoljbhlaa

namespace Go.Proofs.Ytnkkiepoljbhlaa
open Go.ChangeShapes Go.WideShapes Go.ChangeAt Go.RowKit

theorem bcellsOf5 : Try.prog.cellsOf 5 = 1 := by kernel_rfl
theorem bbytesOf5 : Try.prog.bytesOf 5 = 1 := by kernel_rfl
theorem bone1 {l : List Value} (h : l.length = 1) : ∃ c0, l = [c0] := by
  match l, h with
  | [c0], _ => exact ⟨c0, rfl⟩

theorem bbyte_of {n : Int} (h : (Lit.int .u8 n).wf = true) : ∃ x : UInt8, n = (x.toNat : Int) := by
  have hb : 0 ≤ n ∧ n ≤ 255 := by
    simp [Lit.wf, IntKind.min, IntKind.max] at h
    revert h
    simp [IntKind.signed, IntKind.bits]
  refine ⟨UInt8.ofNat n.toNat, ?_⟩
  rw [UInt8.toNat_ofNat']
  omega

theorem bopened_bytes {H : Type} {enc : TypeId × Value → H} {W : World} {base : Nat} {spare : Nat → Bool} {held : Bool} {a : Addr} {len n : Nat} {elems : List (DataW H × List MemPlace)} (hlen : elems.length = len)
    (hel : ∀ i, i < len → (W.cells? base (a.add (i * Try.prog.cellsOf 5)) (Try.prog.cellsOf 5)).bind (DataW.trod enc Try.prog W base spare held n 5) = elems[i]?) :
    ∃ l : List UInt8, l.length = len ∧ Lies W (some a) l := by
  have spot0 : 0 < len → a.spot = none := by
    intro hi
    have h := hel 0 hi
    rw [bcellsOf5, List.getElem?_eq_getElem (by omega), Option.bind_eq_some_iff] at h
    obtain ⟨cs, hcs, hy⟩ := h
    obtain ⟨_, hl, hc⟩ := World.cells?_some hcs
    obtain ⟨c0, rfl⟩ := bone1 hl
    have k0 := hc 0 (by omega)
    simp only [List.getElem?_cons_zero] at k0
    simpa [Addr.add] using World.cell?_spot k0
  have one : ∀ i, i < len → ∃ x : UInt8, ∃ b off : Nat, a = ⟨b, off, none⟩ ∧ W.cell? ⟨b, off + i, none⟩ = some (.int .u8 x.toNat) := by
    intro i hi
    have h := hel i hi
    rw [bcellsOf5, List.getElem?_eq_getElem (by omega), Option.bind_eq_some_iff] at h
    obtain ⟨cs, hcs, hy⟩ := h
    obtain ⟨_, hl, hc⟩ := World.cells?_some hcs
    obtain ⟨c0, rfl⟩ := bone1 hl
    have k0 := hc 0 (by omega)
    simp only [List.getElem?_cons_zero] at k0
    obtain ⟨m, e0, _, w0⟩ := DataW.trod_int Try.underlying5 hy
    simp only [List.cons.injEq, and_true] at e0
    subst e0
    obtain ⟨x, rfl⟩ := bbyte_of w0
    have hs : a.spot = none := spot0 (by omega)
    obtain ⟨b, off, spot⟩ := a
    simp only at hs
    subst hs
    rw [add_plain, add_plain, Nat.add_zero, Nat.mul_one] at k0
    exact ⟨x, b, off, rfl, k0⟩
  by_cases h0 : len = 0
  · exact ⟨[], h0.symm, .inl rfl⟩
  · obtain ⟨_, b, off, rfl, _⟩ := one 0 (by omega)
    have two : ∀ i, ∃ x : UInt8, i < len → W.cell? ⟨b, off + i, none⟩ = some (.int .u8 x.toNat) := by
      intro i
      by_cases hi : i < len
      · obtain ⟨v, b', off', e, h⟩ := one i hi
        simp only [Addr.mk.injEq, and_true] at e
        obtain ⟨rfl, rfl⟩ := e
        exact ⟨v, fun _ => h⟩
      · exact ⟨0, fun h => absurd h hi⟩
    obtain ⟨f, hf⟩ := Classical.axiomOfChoice two
    refine ⟨(List.range len).map f, by simp, .inr ⟨b, off, rfl, fun i v hv => ?_⟩⟩
    have hi : i < len := by have := (List.getElem?_eq_some_iff.1 hv).1; simpa using this
    obtain rfl : f i = v := by simpa [hi] using hv
    exact hf i hi

set_option maxRecDepth 100000 in
/-- a slice of bytes that came in -/
theorem bopen_byt {H : Type} {enc : TypeId × Value → H} {W : World} {base : Nat} {held : Bool} {v : Value} {x : DataW H} {p : List MemPlace} {r : Reach} {b0 : Nat} (hv : Value.okWide Try.prog W r b0 38 v) (h : DataW.Trod enc Try.prog W base (fun _ => true) held 38 v x p) (hz : ∀ es rs, x = .slice es rs → es.length + rs.length < 1152921504606846976) :
    ∃ (q : Option Addr) (c : Nat) (l : List UInt8), v = .slice q l.length c ∧ Byt W W.heap.size q c l := by
  obtain ⟨a0, len, cap, rfl⟩ := okWide_slice Try.underlying38 hv
  obtain ⟨fuel, hf⟩ := h
  rcases DataW.trod_slice Try.underlying38 hf with ⟨hcs, hx⟩ | ⟨a, len', cap', elems, rest, n, _, hcs, hx, _, hl, hm, hlen, hel, hsp, _⟩
  · simp [Value.cells] at hcs
    obtain ⟨rfl, rfl, rfl⟩ := hcs
    exact ⟨none, 0, [], rfl, .inl rfl, fun _ => rfl, fun a e => (by cases e), Nat.le_refl _, by show (0 : Nat) < 1152921504606846976; omega⟩
  · simp [Value.cells] at hcs
    obtain ⟨rfl, rfl, rfl⟩ := hcs
    simp only [Prod.mk.injEq] at hx
    have hrest := (hsp rfl).1
    have hzz := hz _ _ hx.1
    rw [List.length_map, List.length_map] at hzz
    have hok : Cell.ok Try.prog W r b0 38 (.slice (some a) len cap) := by
      simpa [Value.okWide, Cell.okWide, Try.underlying38] using hv
    simp only [Cell.ok, Try.underlying38] at hok
    obtain ⟨_, _, _, hspot, row, cells, hsh, _⟩ := hok
    have hblk : a.block < W.heap.size := by
      unfold World.shape? at hsh
      by_cases hb : a.block < W.heap.size
      · exact hb
      · rw [Array.getElem?_eq_none (by omega)] at hsh
        simp at hsh
    obtain ⟨l, hll, hlies⟩ := bopened_bytes hlen hel
    subst hll
    exact ⟨some a, cap, l, rfl, hlies, (fun e => by cases e), (fun b e => by cases e; exact ⟨hblk, hspot⟩), hl, by omega⟩
end Go.Proofs.Ytnkkiepoljbhlaa
