/-
  The reference's Add: the job is put in.
-/
import Derived.Test.YtodldfgoieikcaaRf
import Derived.Deep.RegionLaw
namespace Go.Proofs.Ytodldfgoieikcaa
open Go.RowKit Go.Maps

structure La1 (w wr : World) (v : Value) (m : Nat) (E : List Int) (i : Nat) (E1 : List Int) : Prop where
  n : m = E1.length
  r : IRow w.heap.size wr v E1
  b : Below w.heap.size w wr
  p : Pa E i E1
def RadR (w : World) (bs rb : Nat) (v : Value) (g : GS) (x : Int) (E : List Int) (e : Ending) (w' : World) : Prop := ∃ a er, e = .returned (.tuple #[.bool a, .int .i64 er]) ∧ RadP w w' bs rb v g x E a er
theorem radR {w w' : World} {bs rb : Nat} {v : Value} {g : GS} {x : Int} {E : List Int} (a : Bool) (er : Int) (h : RadP w w' bs rb v g x E a er) : RadR w bs rb v g x E (.returned (.tuple #[.bool a, .int .i64 er])) w' := ⟨a, er, rfl, h⟩
theorem at_of {R : List JB} {i k : Nat} (hj : Jok R) (hk : k ≤ R.length) (hno : ∀ a ∈ R, a.id ≠ i) (hb : ∀ (j : Nat) (a : JB), R[j]? = some a → k ≤ j → i < a.id) (ha : k = 0 ∨ ∃ a, R[k - 1]? = some a ∧ a.id ≤ i) : At R i k := by
  refine ⟨hk, fun j a hja hjk => ?_, hb⟩
  rcases ha with rfl | ⟨a', h1, h2⟩
  · omega
  · have hne := hno a' (List.mem_of_getElem? h1)
    by_cases e : j = k - 1
    · subst e; rw [h1] at hja; cases hja; omega
    · have := hj.lt (show j < k - 1 by omega) hja h1
      omega
theorem ip_fin {w W : World} {bs rb bx g n c k : Nat} {v : Value} {R : List JB} {b : JB} {gs : GS} {E : List Int} (h : Ip w W bs rb bx v g n c R b (shJ R b k)) (hn : n = R.length) (hj : Jok R) (hr : Rel gs R) (hat : At R b.id k) (hno : ∀ a ∈ R, a.id ≠ b.id) (hb : 1 ≤ b.id ∧ b.id ≤ 100) (hst : b.st = 1) (hps : b.ps = lsI (stI E)) (hq : b.n = b.ps.length ∧ b.n ≤ 101) (hE : allN E = true) (hrc : ¬ Rch gs.ps (stI E) b.id) (haf : afB gs (stI E) = false) :
    Calls Try.prog 14 #[.pointer (some ⟨rb, 0, none⟩), .int .i64 b.id] (((W.setCell ⟨g, k * 3, none⟩ (.int .i64 b.id)).setCell ⟨g, k * 3 + 1, none⟩ (.slice b.p b.n b.c)).setCell ⟨g, k * 3 + 2, none⟩ (.int .i64 b.st)).drew fun e w' => e = .returned (.bool (frB (gs.add b.id (stI E)) b.id)) ∧ Hid (RadP w w' bs rb v gs b.id E (frB (gs.add b.id (stI E)) b.id) 0) := by
  have hEN : ∀ x ∈ E, isN x = true := List.all_eq_true.1 hE
  have h1 := h.put k b (by rw [shJ_length _ _ _ hat.le]; have := hat.le; omega)
  rw [shJ_done hat.le] at h1
  have h2 := h1.drew
  have hpsN : ∀ x ∈ b.ps, isN x = true := fun y hy => by
    rw [hps] at hy
    obtain ⟨j, rfl, e1, e2⟩ := mem_lsI.1 hy
    unfold stI at e2
    rw [inB_iff] at e2
    exact hEN _ e2
  have hj2 := hj.ins hat ⟨hb.1, hb.2, by omega, by omega⟩ ⟨hq.1, hq.2, by rw [hps]; exact lsI_ris _, hpsN⟩
  have hm := h2.done hn hj2
  have hr2 := hr.ins (k := k) hno hst hps hEN
  refine (rfree_any hm hr2 b.id).mono ?_
  rintro e w' ⟨rfl, rfl⟩
  have hhas := hr2.has hj2 (b := b) ((mem_ins b).2 (.inl rfl))
  rw [freeB_yes hhas]
  exact ⟨rfl, _, _, _, .ok b.id hE rfl hb.1 (by omega) ((hr.z b.id (by omega) hno).1) hrc haf, hm, hr2, h2.kp⟩
set_option maxHeartbeats 4000000 in
set_option maxRecDepth 100000 in
theorem radd_any {w : World} {bs rb : Nat} {v : Value} {R : List JB} {g : GS} (h : Rm w bs rb v R) (hr : Rel g R) (hbs : bs ≤ w.heap.size) (x : Int) (q : Option Addr) (n c : Nat) (E : List Int) (hn : n = E.length) (hE : AI w q E) (h9 : n ≤ 1000) :
    Calls Try.prog 20 #[.pointer (some ⟨rb, 0, none⟩), .int .i64 x, .slice q n c] w fun e w' => RadR w bs rb v g x E e w' := by
  have HM : Hid (Rm w bs rb v R ∧ bs ≤ w.heap.size) := ⟨h, hbs⟩
  have HR : Hid (Rel g R) := hr
  have HE : Hid (n = E.length ∧ AI w q E) := ⟨hn, hE⟩
  have hlt := h.lt
  obtain ⟨f0, hf0⟩ : ∃ f0, f0 = isN x := ⟨_, rfl⟩
  have HF0 : Hid (f0 = isN x) := hf0
  clear h hr hn hE hbs
  have S1 : (decide (1 ≤ x) = false ∧ f0 = false) ∨ (decide (1 ≤ x) = true ∧ decide (x ≤ 100) = false ∧ f0 = false) ∨ (decide (1 ≤ x) = true ∧ decide (x ≤ 100) = true ∧ f0 = true) := by
    rw [hf0]
    unfold isN
    cases decide (1 ≤ x) <;> cases decide (x ≤ 100) <;> simp
  clear hf0
  have HPut : Hid (∀ (W : World) (p : Option Addr) (m cc : Nat) (E1 : List Int) (i : Nat) (y : Int), La1 w W (.slice p m cc) m E i E1 ∧ m ≤ 100 → Calls Try.prog 35 #[.slice p m cc, .int .i64 y] W fun e w' => ∃ (p' : Option Addr) (n' c' : Nat), e = .returned (.slice p' n' c') ∧ n' ≤ m + 1 ∧ Hid (∃ E', PutP w.heap.size W w' (.slice p' n' c') n' E1 y E')) := fun W p m cc E1 i y hL => put_any p m cc E1 y hL.1.r hL.1.p.s hL.1.b.size (by omega)
  go_enter Try.func20, Try.ntmps20
  have HL0 : Hid (La1 w w (.slice none 0 0) 0 E 0 []) := ⟨rfl, IRow.nil _ _, Below.refl _ _, Pa.start E⟩
  rcases S1 with ⟨d1, rfl⟩ | ⟨d1, d2, rfl⟩ | ⟨d1, d2, rfl⟩
  · go_wp2_with fail
    clear d1
    go_loopw [8, 9, 10] (fun t8 t9 t10 wr => ∃ (i : Nat) (p : Option Addr) (m cc : Nat) (E1 : List Int) (rt : Bool), t8 = .bool rt ∧ t9 = .slice p m cc ∧ t10 = .int .i64 i ∧ i ≤ n ∧ m ≤ 100 ∧ Hid (La1 w wr (.slice p m cc) m E i E1 ∧ rt = (isN x && (E.take i).all isN))) (fun _ _ t10 _ => n - (intOf t10).toNat)
    case atStart => exact ⟨0, none, 0, 0, [], _, rfl, rfl, rfl, Nat.zero_le _, Nat.zero_le _, HL0.out, by rw [HF0.out]; simp⟩
    case round =>
      clear HL0
      obtain ⟨i, p, m, cc, E1, rt, rfl, rfl, rfl, hin, hm1, HL⟩ := hrel
      by_cases hi : i < n
      · have hi' : (i : Int) < (n : Int) := by omega
        obtain ⟨y, hy⟩ : ∃ y, E[i]? = some y := ⟨_, List.getElem?_eq_getElem (by have := HE.out.1; omega)⟩
        obtain ⟨ga, go, rfl, cy⟩ := HE.out.2.below HL.out.1.b i y hy
        obtain ⟨nf, hnf⟩ : ∃ nf, nf = (rt && isN y) := ⟨_, rfl⟩
        have HNF : Hid (nf = (isN x && (E.take (i + 1)).all isN)) := by
          show nf = _
          rw [hnf, HL.out.2, take_all hy, Bool.and_assoc]
        have S2 : (rt = false ∧ nf = false) ∨ (rt = true ∧ decide (1 ≤ y) = false ∧ nf = false) ∨ (rt = true ∧ decide (1 ≤ y) = true ∧ decide (y ≤ 100) = false ∧ nf = false) ∨ (rt = true ∧ decide (1 ≤ y) = true ∧ decide (y ≤ 100) = true ∧ nf = true) := by
          rw [hnf]
          unfold isN
          cases rt <;> cases decide (1 ≤ y) <;> cases decide (y ≤ 100) <;> simp
        have HL1 : Hid (La1 w wr (.slice p m cc) m E i E1 ∧ m ≤ 100) := ⟨HL.out.1, hm1⟩
        clear hnf HL
        by_cases hm : m < 100
        · have hm' : (m : Int) < 100 := by omega
          have H35 : Hid (Calls Try.prog 35 #[.slice p m cc, .int .i64 y] wr fun e w' => ∃ (p' : Option Addr) (n' c' : Nat), e = .returned (.slice p' n' c') ∧ n' ≤ 100 ∧ Hid (∃ E2, La1 w w' (.slice p' n' c') n' E (i + 1) E2)) := by
            refine (HPut.out wr p m cc E1 i y HL1.out).mono ?_
            rintro e w' ⟨p', n', c', rfl, hn', ⟨E2, hP⟩⟩
            exact ⟨p', n', c', rfl, by omega, E2, hP.n, hP.r, HL1.out.1.b.trans hP.b, HL1.out.1.p.put hy hP.s (by have := hP.n; omega) hP.m⟩
          clear hy HL1 hm
          rcases S2 with ⟨rfl, rfl⟩ | ⟨rfl, d1, rfl⟩ | ⟨rfl, d1, d2, rfl⟩ | ⟨rfl, d1, d2, rfl⟩
          all_goals go_wp2_with (go_at_call 35; refine H35.out.mono ?_; rintro e w3 ⟨p3, n3, c3, rfl, hn3, h3⟩)
          all_goals
            obtain ⟨E2, h4⟩ := h3.out
            refine ⟨⟨i + 1, p3, n3, c3, E2, _, rfl, rfl, by simp, by omega, hn3, h4, HNF.out⟩, ?_⟩
            simp [intOf]
            omega
        · have hm' : ¬ (m : Int) < 100 := by omega
          have HN : Hid (La1 w wr (.slice p m cc) m E (i + 1) E1) := ⟨HL1.out.1.n, HL1.out.1.r, HL1.out.1.b, HL1.out.1.p.full hy (by have := HL1.out.1.n; omega)⟩
          clear hy HL1 hm
          rcases S2 with ⟨rfl, rfl⟩ | ⟨rfl, d1, rfl⟩ | ⟨rfl, d1, d2, rfl⟩ | ⟨rfl, d1, d2, rfl⟩
          all_goals go_wp2_with fail
          all_goals
            refine ⟨⟨i + 1, p, m, cc, E1, _, rfl, rfl, by simp, by omega, hm1, HN.out, HNF.out⟩, ?_⟩
            simp [intOf]
            omega
      · have hi' : ¬ (i : Int) < (n : Int) := by omega
        have hie : i = E.length := by have := HE.out.1; omega
        have HRT : Hid (rt = (isN x && allN E)) := by
          have := HL.out.2
          rw [hie, List.take_length] at this
          exact this
        cases rt
        · have HX : Hid (RadP w wr bs rb v g x E false 2) := ⟨g, R, v, .range (by rw [Bool.and_comm]; exact HRT.out.symm), HM.out.1.below HL.out.1.b, HR.out, Kp.of_below HL.out.1.b⟩
          clear hie
          go_wp2_with fail
          go_ret2
          exact radR false 2 HX.out
        · have := HRT.out
          rw [← HF0.out] at this
          cases this
  · go_wp2_with fail
    clear d1 d2
    go_loopw [8, 9, 10] (fun t8 t9 t10 wr => ∃ (i : Nat) (p : Option Addr) (m cc : Nat) (E1 : List Int) (rt : Bool), t8 = .bool rt ∧ t9 = .slice p m cc ∧ t10 = .int .i64 i ∧ i ≤ n ∧ m ≤ 100 ∧ Hid (La1 w wr (.slice p m cc) m E i E1 ∧ rt = (isN x && (E.take i).all isN))) (fun _ _ t10 _ => n - (intOf t10).toNat)
    case atStart => exact ⟨0, none, 0, 0, [], _, rfl, rfl, rfl, Nat.zero_le _, Nat.zero_le _, HL0.out, by rw [HF0.out]; simp⟩
    case round =>
      clear HL0
      obtain ⟨i, p, m, cc, E1, rt, rfl, rfl, rfl, hin, hm1, HL⟩ := hrel
      by_cases hi : i < n
      · have hi' : (i : Int) < (n : Int) := by omega
        obtain ⟨y, hy⟩ : ∃ y, E[i]? = some y := ⟨_, List.getElem?_eq_getElem (by have := HE.out.1; omega)⟩
        obtain ⟨ga, go, rfl, cy⟩ := HE.out.2.below HL.out.1.b i y hy
        obtain ⟨nf, hnf⟩ : ∃ nf, nf = (rt && isN y) := ⟨_, rfl⟩
        have HNF : Hid (nf = (isN x && (E.take (i + 1)).all isN)) := by
          show nf = _
          rw [hnf, HL.out.2, take_all hy, Bool.and_assoc]
        have S2 : (rt = false ∧ nf = false) ∨ (rt = true ∧ decide (1 ≤ y) = false ∧ nf = false) ∨ (rt = true ∧ decide (1 ≤ y) = true ∧ decide (y ≤ 100) = false ∧ nf = false) ∨ (rt = true ∧ decide (1 ≤ y) = true ∧ decide (y ≤ 100) = true ∧ nf = true) := by
          rw [hnf]
          unfold isN
          cases rt <;> cases decide (1 ≤ y) <;> cases decide (y ≤ 100) <;> simp
        have HL1 : Hid (La1 w wr (.slice p m cc) m E i E1 ∧ m ≤ 100) := ⟨HL.out.1, hm1⟩
        clear hnf HL
        by_cases hm : m < 100
        · have hm' : (m : Int) < 100 := by omega
          have H35 : Hid (Calls Try.prog 35 #[.slice p m cc, .int .i64 y] wr fun e w' => ∃ (p' : Option Addr) (n' c' : Nat), e = .returned (.slice p' n' c') ∧ n' ≤ 100 ∧ Hid (∃ E2, La1 w w' (.slice p' n' c') n' E (i + 1) E2)) := by
            refine (HPut.out wr p m cc E1 i y HL1.out).mono ?_
            rintro e w' ⟨p', n', c', rfl, hn', ⟨E2, hP⟩⟩
            exact ⟨p', n', c', rfl, by omega, E2, hP.n, hP.r, HL1.out.1.b.trans hP.b, HL1.out.1.p.put hy hP.s (by have := hP.n; omega) hP.m⟩
          clear hy HL1 hm
          rcases S2 with ⟨rfl, rfl⟩ | ⟨rfl, d1, rfl⟩ | ⟨rfl, d1, d2, rfl⟩ | ⟨rfl, d1, d2, rfl⟩
          all_goals go_wp2_with (go_at_call 35; refine H35.out.mono ?_; rintro e w3 ⟨p3, n3, c3, rfl, hn3, h3⟩)
          all_goals
            obtain ⟨E2, h4⟩ := h3.out
            refine ⟨⟨i + 1, p3, n3, c3, E2, _, rfl, rfl, by simp, by omega, hn3, h4, HNF.out⟩, ?_⟩
            simp [intOf]
            omega
        · have hm' : ¬ (m : Int) < 100 := by omega
          have HN : Hid (La1 w wr (.slice p m cc) m E (i + 1) E1) := ⟨HL1.out.1.n, HL1.out.1.r, HL1.out.1.b, HL1.out.1.p.full hy (by have := HL1.out.1.n; omega)⟩
          clear hy HL1 hm
          rcases S2 with ⟨rfl, rfl⟩ | ⟨rfl, d1, rfl⟩ | ⟨rfl, d1, d2, rfl⟩ | ⟨rfl, d1, d2, rfl⟩
          all_goals go_wp2_with fail
          all_goals
            refine ⟨⟨i + 1, p, m, cc, E1, _, rfl, rfl, by simp, by omega, hm1, HN.out, HNF.out⟩, ?_⟩
            simp [intOf]
            omega
      · have hi' : ¬ (i : Int) < (n : Int) := by omega
        have hie : i = E.length := by have := HE.out.1; omega
        have HRT : Hid (rt = (isN x && allN E)) := by
          have := HL.out.2
          rw [hie, List.take_length] at this
          exact this
        cases rt
        · have HX : Hid (RadP w wr bs rb v g x E false 2) := ⟨g, R, v, .range (by rw [Bool.and_comm]; exact HRT.out.symm), HM.out.1.below HL.out.1.b, HR.out, Kp.of_below HL.out.1.b⟩
          clear hie
          go_wp2_with fail
          go_ret2
          exact radR false 2 HX.out
        · have := HRT.out
          rw [← HF0.out] at this
          cases this
  · go_wp2_with fail
    clear d1 d2
    go_loopw [8, 9, 10] (fun t8 t9 t10 wr => ∃ (i : Nat) (p : Option Addr) (m cc : Nat) (E1 : List Int) (rt : Bool), t8 = .bool rt ∧ t9 = .slice p m cc ∧ t10 = .int .i64 i ∧ i ≤ n ∧ m ≤ 100 ∧ Hid (La1 w wr (.slice p m cc) m E i E1 ∧ rt = (isN x && (E.take i).all isN))) (fun _ _ t10 _ => n - (intOf t10).toNat)
    case atStart => exact ⟨0, none, 0, 0, [], _, rfl, rfl, rfl, Nat.zero_le _, Nat.zero_le _, HL0.out, by rw [HF0.out]; simp⟩
    case round =>
      clear HL0
      obtain ⟨i, p, m, cc, E1, rt, rfl, rfl, rfl, hin, hm1, HL⟩ := hrel
      by_cases hi : i < n
      · have hi' : (i : Int) < (n : Int) := by omega
        obtain ⟨y, hy⟩ : ∃ y, E[i]? = some y := ⟨_, List.getElem?_eq_getElem (by have := HE.out.1; omega)⟩
        obtain ⟨ga, go, rfl, cy⟩ := HE.out.2.below HL.out.1.b i y hy
        obtain ⟨nf, hnf⟩ : ∃ nf, nf = (rt && isN y) := ⟨_, rfl⟩
        have HNF : Hid (nf = (isN x && (E.take (i + 1)).all isN)) := by
          show nf = _
          rw [hnf, HL.out.2, take_all hy, Bool.and_assoc]
        have S2 : (rt = false ∧ nf = false) ∨ (rt = true ∧ decide (1 ≤ y) = false ∧ nf = false) ∨ (rt = true ∧ decide (1 ≤ y) = true ∧ decide (y ≤ 100) = false ∧ nf = false) ∨ (rt = true ∧ decide (1 ≤ y) = true ∧ decide (y ≤ 100) = true ∧ nf = true) := by
          rw [hnf]
          unfold isN
          cases rt <;> cases decide (1 ≤ y) <;> cases decide (y ≤ 100) <;> simp
        have HL1 : Hid (La1 w wr (.slice p m cc) m E i E1 ∧ m ≤ 100) := ⟨HL.out.1, hm1⟩
        clear hnf HL
        by_cases hm : m < 100
        · have hm' : (m : Int) < 100 := by omega
          have H35 : Hid (Calls Try.prog 35 #[.slice p m cc, .int .i64 y] wr fun e w' => ∃ (p' : Option Addr) (n' c' : Nat), e = .returned (.slice p' n' c') ∧ n' ≤ 100 ∧ Hid (∃ E2, La1 w w' (.slice p' n' c') n' E (i + 1) E2)) := by
            refine (HPut.out wr p m cc E1 i y HL1.out).mono ?_
            rintro e w' ⟨p', n', c', rfl, hn', ⟨E2, hP⟩⟩
            exact ⟨p', n', c', rfl, by omega, E2, hP.n, hP.r, HL1.out.1.b.trans hP.b, HL1.out.1.p.put hy hP.s (by have := hP.n; omega) hP.m⟩
          clear hy HL1 hm
          rcases S2 with ⟨rfl, rfl⟩ | ⟨rfl, d1, rfl⟩ | ⟨rfl, d1, d2, rfl⟩ | ⟨rfl, d1, d2, rfl⟩
          all_goals go_wp2_with (go_at_call 35; refine H35.out.mono ?_; rintro e w3 ⟨p3, n3, c3, rfl, hn3, h3⟩)
          all_goals
            obtain ⟨E2, h4⟩ := h3.out
            refine ⟨⟨i + 1, p3, n3, c3, E2, _, rfl, rfl, by simp, by omega, hn3, h4, HNF.out⟩, ?_⟩
            simp [intOf]
            omega
        · have hm' : ¬ (m : Int) < 100 := by omega
          have HN : Hid (La1 w wr (.slice p m cc) m E (i + 1) E1) := ⟨HL1.out.1.n, HL1.out.1.r, HL1.out.1.b, HL1.out.1.p.full hy (by have := HL1.out.1.n; omega)⟩
          clear hy HL1 hm
          rcases S2 with ⟨rfl, rfl⟩ | ⟨rfl, d1, rfl⟩ | ⟨rfl, d1, d2, rfl⟩ | ⟨rfl, d1, d2, rfl⟩
          all_goals go_wp2_with fail
          all_goals
            refine ⟨⟨i + 1, p, m, cc, E1, _, rfl, rfl, by simp, by omega, hm1, HN.out, HNF.out⟩, ?_⟩
            simp [intOf]
            omega
      · have hi' : ¬ (i : Int) < (n : Int) := by omega
        have hie : i = E.length := by have := HE.out.1; omega
        have HRT : Hid (rt = (isN x && allN E)) := by
          have := HL.out.2
          rw [hie, List.take_length] at this
          exact this
        cases rt
        · have HX : Hid (RadP w wr bs rb v g x E false 2) := ⟨g, R, v, .range (by rw [Bool.and_comm]; exact HRT.out.symm), HM.out.1.below HL.out.1.b, HR.out, Kp.of_below HL.out.1.b⟩
          clear hie
          go_wp2_with fail
          go_ret2
          exact radR false 2 HX.out
        · have hxN : isN x = true := HF0.out.symm
          have HA : Hid (allN E = true) := by
            have := HRT.out
            rw [← HF0.out] at this
            show allN E = true
            simpa using this.symm
          obtain ⟨ix, rfl, hx1, hx2⟩ := isN_nat hxN
          have HEQ : Hid (E1 = lsI (stI E)) := by
            have := HL.out.1.p
            rw [hie] at this
            exact this.all HA.out
          have HB : Hid (Below w.heap.size w wr ∧ IRow w.heap.size wr (.slice p m cc) E1 ∧ m = E1.length) := ⟨HL.out.1.b, HL.out.1.r, HL.out.1.n⟩
          clear hie HL hxN HRT HPut HF0
          obtain ⟨k, hk⟩ := fnd_all R (ix : Int)
          have H27 : Hid (Calls Try.prog 27 #[.pointer (some ⟨rb, 0, none⟩), .int .i64 ix] wr fun e w' => e = .returned (.int .i64 k) ∧ w' = wr) := find_any (HM.out.1.below HB.out.1) hk
          rcases hk with ⟨ik, b, rfl, hb, hbid⟩ | ⟨rfl, hno⟩
          · have hik0 : decide ((0 : Int) ≤ (ik : Int)) = true := decide_eq_true (by omega)
            have HX : Hid (RadP w wr bs rb v g ix E false 5) := by
              have hbm := List.mem_of_getElem? hb
              have h1 := (HR.out.a b hbm).1
              have h2 := (HM.out.1.ok.g b hbm).2.2.1
              have h3 : b.id = ix := by omega
              rw [h3] at h1
              exact ⟨g, R, v, .twice ix HA.out rfl hx1 hx2 (by omega), HM.out.1.below HB.out.1, HR.out, Kp.of_below HB.out.1⟩
            clear hb hbid
            go_wp2_with (go_at_call 27; refine H27.out.mono ?_; rintro e w1 ⟨rfl, rfl⟩)
            go_ret2
            exact radR false 5 HX.out
          · have HNO : Hid ((∀ b ∈ R, b.id ≠ ix) ∧ g.st ix = 0) := by
              have h1 : ∀ b ∈ R, b.id ≠ ix := fun b hb e => hno b hb (by omega)
              exact ⟨h1, (HR.out.z ix hx2 h1).1⟩
            clear hno
            have HIL : Hid (∀ x ∈ E1, isN x = true) := fun y hy => by
              rw [HEQ.out] at hy
              obtain ⟨j, rfl, h1, h2⟩ := mem_lsI.1 hy
              unfold stI at h2
              rw [inB_iff] at h2
              exact (List.all_eq_true.1 HA.out) _ h2
            have H36 : Hid (Calls Try.prog 36 #[.pointer (some ⟨rb, 0, none⟩), .slice p m cc] wr fun e w' => ∃ (p2 : Option Addr) (m2 c2 : Nat), e = .returned (.slice p2 m2 c2) ∧ Hid (Below wr.heap.size wr w' ∧ Calls Try.prog 17 #[.slice p2 m2 c2, .int .i64 ix] w' fun e w2 => ∃ bt : Bool, e = .returned (.bool bt) ∧ w2 = w' ∧ Hid (bt = true ↔ Rch g.ps (stI E) ix))) := by
              refine (above_any (HM.out.1.below HB.out.1) HR.out p m cc E1 HB.out.2.2 HB.out.2.1.ai HIL.out (by omega)).mono ?_
              rintro e w' ⟨p2, m2, c2, rfl, hm2, ⟨F, hF, hm⟩⟩
              refine ⟨p2, m2, c2, rfl, hF.b, (in_any w' p2 m2 c2 F ix hF.n hF.r.ai (by omega)).mono ?_⟩
              rintro e w2 ⟨rfl, rfl⟩
              refine ⟨_, rfl, rfl, ?_⟩
              rw [inB_iff, hm]
              have hcg : ∀ i, i < 101 → stI E1 i = stI E i := fun i hi => by rw [HEQ.out]; exact stI_lsI _ i hi
              constructor
              · rintro ⟨n, e, hr⟩
                have : ix = n := by omega
                rw [this]
                exact hr.congr hcg
              · intro hr
                exact ⟨ix, rfl, hr.congr fun i hi => (hcg i hi).symm⟩
            by_cases hrc : Rch g.ps (stI E) ix
            · have HRC : Hid (Rch g.ps (stI E) ix) := hrc
              go_wp2_with (first
                | (go_at_call 27; refine H27.out.mono ?_; rintro e w1 ⟨rfl, rfl⟩)
                | (go_at_call 36; refine H36.out.mono ?_; rintro e w2 ⟨p2, m2, c2, rfl, h2⟩)
                | (go_at_call 17; refine h2.out.2.mono ?_; rintro e w3 ⟨bt, rfl, rfl, h3⟩; rw [h3.out.2 hrc]))
              go_ret2
              have hb := HB.out.1.trans (h2.out.1.mono HB.out.1.size)
              exact radR false 8 ⟨g, R, v, .cycle ix HA.out rfl hx1 hx2 HNO.out.2 HRC.out, HM.out.1.below hb, HR.out, Kp.of_below hb⟩
            · have HRC : Hid (¬ Rch g.ps (stI E) ix) := hrc
              go_upto_region 15 with (first
                | (go_at_call 27; refine H27.out.mono ?_; rintro e w1 ⟨rfl, rfl⟩)
                | (go_at_call 36; refine H36.out.mono ?_; rintro e w2 ⟨p2, m2, c2, rfl, h2⟩)
                | (go_at_call 17; refine h2.out.2.mono ?_; rintro e w3 ⟨bt, rfl, rfl, h3⟩; rw [show bt = false by cases bt; rfl; exact absurd (h3.out.1 rfl) hrc]))
              have HB3 : Hid (Below w.heap.size w w3 ∧ IRow w.heap.size w3 (.slice p m cc) E1 ∧ m = E1.length) := ⟨HB.out.1.trans (h2.out.1.mono HB.out.1.size), HB.out.2.1.below h2.out.1, HB.out.2.2⟩
              clear h2 h3 H36 H27 HB hrc
              go_wp2_with fail
              go_loopw [11] (fun t11 wr => ∃ i : Nat, t11 = .int .i64 i ∧ i ≤ m ∧ wr = w3 ∧ Hid (∀ (j : Nat) (y : Int), j < i → E1[j]? = some y → ∀ b ∈ R, (b.id : Int) = y → b.st ≠ 3)) (fun t11 _ => m - (intOf t11).toNat)
              case atStart => exact ⟨0, rfl, Nat.zero_le _, rfl, fun j _ hj => absurd hj (by omega)⟩
              case round =>
                obtain ⟨i, rfl, him, rfl, HI⟩ := hrel
                by_cases hi : i < m
                · have hi' : (i : Int) < (m : Int) := by omega
                  obtain ⟨y, hy⟩ : ∃ y, E1[i]? = some y := ⟨_, List.getElem?_eq_getElem (by have := HB3.out.2.2; omega)⟩
                  obtain ⟨ga, go, rfl, cy⟩ := HB3.out.2.1.ai i y hy
                  obtain ⟨ky, hky⟩ := fnd_all R y
                  have H27 : Hid (Calls Try.prog 27 #[.pointer (some ⟨rb, 0, none⟩), .int .i64 y] wr fun e w' => e = .returned (.int .i64 ky) ∧ w' = wr) := find_any (HM.out.1.below HB3.out.1) hky
                  rcases hky with ⟨i2, b2, rfl, hb2, hid2⟩ | ⟨rfl, hno2⟩
                  · have hM := HM.out.1.below HB3.out.1
                    have c0 := hM.cell
                    have hi2l := (List.getElem?_eq_some_iff.1 hb2).1
                    obtain ⟨gg, c9, e0⟩ := hM.row (by omega)
                    obtain ⟨nR, hnR⟩ : ∃ nR, nR = R.length := ⟨_, rfl⟩
                    rw [e0] at hM c0
                    obtain ⟨-, -, t2⟩ := hM.cells hb2
                    rw [← hnR] at c0 hi2l
                    have hi2 : (i2 : Int) < (nR : Int) := by omega
                    have hi20 : decide ((0 : Int) ≤ (i2 : Int)) = true := decide_eq_true (by omega)
                    have hR9 := hM.ok.len
                    rw [← hnR] at hR9
                    clear hM e0 hnR
                    by_cases h3 : b2.st = 3
                    · have h3' : ((b2.st : Int) == 3) = true := by simp [h3]
                      have HX : Hid (RadP w wr bs rb v g ix E false 10) := by
                        have hbm := List.mem_of_getElem? hb2
                        have hmy := List.mem_of_getElem? hy
                        rw [HEQ.out] at hmy
                        obtain ⟨j, e1, e2, e3⟩ := mem_lsI.1 hmy
                        have h4 := (HR.out.a b2 hbm).1
                        have : b2.id = j := by omega
                        rw [this] at h4
                        exact ⟨g, R, v, .state ix HA.out rfl hx1 hx2 HNO.out.2 HRC.out (afB_iff.2 ⟨j, e2, e3, by omega⟩), HM.out.1.below HB3.out.1, HR.out, Kp.of_below HB3.out.1⟩
                      clear h3 hy hb2 hid2
                      go_wp2_with (go_at_call 27; refine H27.out.mono ?_; rintro e w1 ⟨rfl, rfl⟩)
                      go_ret2
                      exact radR false 10 HX.out
                    · have h3' : ((b2.st : Int) == 3) = false := by simp; omega
                      have HX : Hid (∀ (j : Nat) (y : Int), j < i + 1 → E1[j]? = some y → ∀ b ∈ R, (b.id : Int) = y → b.st ≠ 3) := fun j z hj hz b hb hbz => by
                        by_cases e : j = i
                        · subst e
                          rw [hy] at hz
                          cases hz
                          obtain ⟨i3, h5⟩ := List.getElem?_of_mem hb
                          have := HM.out.1.ok.inj h5 hb2 (by omega)
                          subst this
                          rw [hb2] at h5
                          cases h5
                          exact h3
                        · exact HI.out j z (by omega) hz b hb hbz
                      clear h3 hy hb2 hid2
                      go_wp2_with (go_at_call 27; refine H27.out.mono ?_; rintro e w1 ⟨rfl, rfl⟩)
                      refine ⟨⟨i + 1, by simp, by omega, by first | rfl | trivial, HX.out⟩, ?_⟩
                      simp [intOf]
                      omega
                  · have HX : Hid (∀ (j : Nat) (y : Int), j < i + 1 → E1[j]? = some y → ∀ b ∈ R, (b.id : Int) = y → b.st ≠ 3) := fun j z hj hz b hb hbz => by
                      by_cases e : j = i
                      · subst e
                        rw [hy] at hz
                        cases hz
                        exact absurd hbz (hno2 b hb)
                      · exact HI.out j z (by omega) hz b hb hbz
                    clear hy hno2
                    go_wp2_with (go_at_call 27; refine H27.out.mono ?_; rintro e w1 ⟨rfl, rfl⟩)
                    refine ⟨⟨i + 1, by simp, by omega, by first | rfl | trivial, HX.out⟩, ?_⟩
                    simp [intOf]
                    omega
                · have hi' : ¬ (i : Int) < (m : Int) := by omega
                  have HAF : Hid (afB g (stI E) = false) := by
                    show afB g (stI E) = false
                    cases e : afB g (stI E)
                    · rfl
                    · obtain ⟨j, h1, h2, h3⟩ := afB_iff.1 e
                      have hmj : (j : Int) ∈ E1 := by rw [HEQ.out]; exact mem_lsI.2 ⟨j, rfl, h1, h2⟩
                      obtain ⟨t, ht⟩ := List.getElem?_of_mem hmj
                      by_cases hx : ∃ b ∈ R, b.id = j
                      · obtain ⟨b, hb, hbj⟩ := hx
                        have h4 := (HR.out.a b hb).1
                        rw [hbj] at h4
                        exact absurd (by omega) (HI.out t j (by have := (List.getElem?_eq_some_iff.1 ht).1; have := HB3.out.2.2; omega) ht b hb (by omega))
                      · have := (HR.out.z j h1 fun b hb e => hx ⟨b, hb, e⟩).1
                        omega
                  clear HI
                  go_upto_region 22 with fail
                  obtain ⟨pv, cv, ev⟩ := HM.out.1.shape
                  subst ev
                  obtain ⟨nR, hnR⟩ : ∃ nR, nR = R.length := ⟨_, rfl⟩
                  rw [← hnR] at HM
                  have HNR : Hid (nR = R.length ∧ nR ≤ 100) := ⟨hnR, by rw [hnR]; exact HM.out.1.ok.len⟩
                  have hn9 : nR ≤ 100 := HNR.out.2
                  have H4 : Hid (Below w.heap.size w (wr.alloc (.cells #[.int .i64 ix, .slice p m cc, .int .i64 1] 60)) ∧ (wr.alloc (.cells #[.int .i64 ix, .slice p m cc, .int .i64 1] 60)).heap[wr.heap.size]? = some (.cells #[.int .i64 ix, .slice p m cc, .int .i64 1] 60 (0, 0)) ∧ IRow bs (wr.alloc (.cells #[.int .i64 ix, .slice p m cc, .int .i64 1] 60)) (.slice p m cc) E1 ∧ w.heap.size ≤ wr.heap.size) := ⟨HB3.out.1.alloc HB3.out.1.size _, new0, (HB3.out.2.1.mono HM.out.2).below ((Below.refl _ _).alloc (Nat.le_refl _) _), HB3.out.1.size⟩
                  have HEM : Hid (m = E1.length ∧ m ≤ 101) := ⟨HB3.out.2.2, by omega⟩
                  generalize wr.alloc (.cells #[.int .i64 ix, .slice p m cc, .int .i64 1] 60) = W4 at *
                  generalize wr.heap.size = bx at *
                  clear HB3 hnR
                  have hM4 := HM.out.1.below H4.out.1
                  have c4 := hM4.cell
                  have x0 : W4.cell? ⟨bx, 0, none⟩ = some (.int .i64 ix) := by rw [cell_of H4.out.2.1]; rfl
                  have x1 : W4.cell? ⟨bx, 1, none⟩ = some (.slice p m cc) := by rw [cell_of H4.out.2.1]; rfl
                  have x2 : W4.cell? ⟨bx, 2, none⟩ = some (.int .i64 1) := by rw [cell_of H4.out.2.1]; rfl
                  have hlt4 : rb < W4.heap.size := hM4.lt
                  have hbx4 : bx < W4.heap.size := cell_lt x0
                  clear hM4
                  have HB1 : Hid (Below w.heap.size w (W4.alloc (.cells #[.int .i64 ix, .slice p m cc, .int .i64 1] 60)).drew) := (H4.out.1.alloc H4.out.1.size _).drew
                  have HB2 : Hid (Below w.heap.size w (W4.drew.alloc (.cells #[.int .i64 ix, .slice p m cc, .int .i64 1] 60))) := H4.out.1.drew.alloc H4.out.1.size _
                  have HG1 : Hid ((W4.alloc (.cells #[.int .i64 ix, .slice p m cc, .int .i64 1] 60)).drew.heap[W4.heap.size]? = some (.cells (JB.cs ⟨ix, 1, p, m, cc, E1⟩).toArray 60 (0, 0))) := new0 (w := W4)
                  have HG2 : Hid ((W4.drew.alloc (.cells #[.int .i64 ix, .slice p m cc, .int .i64 1] 60)).heap[W4.heap.size]? = some (.cells (JB.cs ⟨ix, 1, p, m, cc, E1⟩).toArray 60 (0, 0))) := new0 (w := W4.drew)
                  have HX1 : Hid ((W4.alloc (.cells #[.int .i64 ix, .slice p m cc, .int .i64 1] 60)).drew.heap[bx]? = some (.cells #[.int .i64 ix, .slice p m cc, .int .i64 1] 60 (0, 0))) := (Below.heap_alloc W4 _ bx hbx4).trans H4.out.2.1
                  have HX2 : Hid ((W4.drew.alloc (.cells #[.int .i64 ix, .slice p m cc, .int .i64 1] 60)).heap[bx]? = some (.cells #[.int .i64 ix, .slice p m cc, .int .i64 1] 60 (0, 0))) := (Below.heap_alloc W4.drew _ bx hbx4).trans H4.out.2.1
                  have HI1 : Hid (IRow bs (W4.alloc (.cells #[.int .i64 ix, .slice p m cc, .int .i64 1] 60)).drew (.slice p m cc) E1) := H4.out.2.2.1.below ((Below.refl _ W4).alloc (Nat.le_refl _) _).drew
                  have HI2 : Hid (IRow bs (W4.drew.alloc (.cells #[.int .i64 ix, .slice p m cc, .int .i64 1] 60)) (.slice p m cc) E1) := H4.out.2.2.1.below ((Below.refl _ W4).drew.alloc (Nat.le_refl _) _)
                  go_region_law (refine step_job rfl (.tmp 94) (.tmp 96) rfl w bs rb bx pv nR cv R ⟨ix, 1, p, m, cc, E1⟩ (by simp [Act.eval]) HNR.out.1.symm HM.out.1 (by first | exact HB1.out | exact HB2.out) HM.out.2 (by first | exact HX1.out | exact HX2.out) H4.out.2.2.2 (by first | exact HI1.out | exact HI2.out) W4.heap.size 1 (by simp [Act.eval]) (by first | exact HG1.out | exact HG2.out) ?_; intro g3 c3 w5 hc5 h5; obtain ⟨d4, df4⟩ := hc5)
                  all_goals
                    clear HB1 HB2 HG1 HG2 HX1 HX2 HI1 HI2 d4 df4 x0 x1 x2 c4 hlt4 hbx4
                    generalize w5.setCell ⟨rb, 0, none⟩ (.slice (some ⟨g3, 0, none⟩) (nR + 1) c3) = W6 at *
                    have HP0 : Hid (Ip w W6 bs rb bx (.slice pv nR cv) g3 nR c3 R ⟨ix, 1, p, m, cc, E1⟩ (shJ R ⟨ix, 1, p, m, cc, E1⟩ nR)) := by
                      have := h5.out
                      rw [← shJ_end, ← HNR.out.1] at this
                      exact this
                    have c6 : W6.cell? ⟨rb, 0, none⟩ = some (.slice (some ⟨g3, 0, none⟩) (nR + 1) c3) := by rw [cell_of h5.out.hb]; rfl
                    clear h5 H4
                    have HFIN : Hid (∀ (W : World) (k : Nat), Ip w W bs rb bx (.slice pv nR cv) g3 nR c3 R ⟨ix, 1, p, m, cc, E1⟩ (shJ R ⟨ix, 1, p, m, cc, E1⟩ k) → k ≤ nR → (∀ (j : Nat) (a : JB), R[j]? = some a → k ≤ j → ix < a.id) → (k = 0 ∨ ∃ a, R[k - 1]? = some a ∧ a.id ≤ ix) → Calls Try.prog 14 #[.pointer (some ⟨rb, 0, none⟩), .int .i64 ix] (((W.setCell ⟨g3, k * 3, none⟩ (.int .i64 ix)).setCell ⟨g3, k * 3 + 1, none⟩ (.slice p m cc)).setCell ⟨g3, k * 3 + 2, none⟩ (.int .i64 1)).drew fun e w' => e = .returned (.bool (frB (g.add ix (stI E)) ix)) ∧ Hid (RadP w w' bs rb (.slice pv nR cv) g ix E (frB (g.add ix (stI E)) ix) 0)) := fun W k hI hk hb ha =>
                      ip_fin (b := ⟨ix, 1, p, m, cc, E1⟩) hI HNR.out.1 HM.out.1.ok HR.out (at_of HM.out.1.ok (by have := HNR.out.1; omega) HNO.out.1 hb ha) HNO.out.1 ⟨hx1, by show ix ≤ 100; omega⟩ rfl HEQ.out HEM.out HA.out HRC.out HAF.out
                    go_wp2_with fail
                    clear c6
                    go_loopw [14] (fun t14 wr => ∃ k : Nat, t14 = .int .i64 k ∧ k ≤ nR ∧ Hid (Ip w wr bs rb bx (.slice pv nR cv) g3 nR c3 R ⟨ix, 1, p, m, cc, E1⟩ (shJ R ⟨ix, 1, p, m, cc, E1⟩ k) ∧ ∀ (j : Nat) (a : JB), R[j]? = some a → k ≤ j → ix < a.id)) (fun t14 _ => (intOf t14).toNat)
                    case atStart => exact ⟨nR, by simp, Nat.le_refl _, HP0.out, fun j a ha hj => by have := (List.getElem?_eq_some_iff.1 ha).1; have := HNR.out.1; omega⟩
                    case round =>
                      clear HP0
                      obtain ⟨k, rfl, hkn, HI⟩ := hrel
                      have hI := HI.out.1
                      have dr : wr.cell? ⟨rb, 0, none⟩ = some (.slice (some ⟨g3, 0, none⟩) (nR + 1) c3) := by rw [cell_of hI.hb]; rfl
                      have b0 : wr.cell? ⟨bx, 0, none⟩ = some (.int .i64 ix) := by rw [cell_of hI.x]; rfl
                      have b1 : wr.cell? ⟨bx, 1, none⟩ = some (.slice p m cc) := by rw [cell_of hI.x]; rfl
                      have b2 : wr.cell? ⟨bx, 2, none⟩ = some (.int .i64 1) := by rw [cell_of hI.x]; rfl
                      obtain ⟨z, hz⟩ : ∃ z, (shJ R ⟨ix, 1, p, m, cc, E1⟩ k)[k]? = some z := ⟨_, List.getElem?_eq_getElem (by rw [shJ_length _ _ _ (by have := HNR.out.1; omega)]; have := HNR.out.1; omega)⟩
                      obtain ⟨k0, k1, k2⟩ := hI.cells hz
                      have f0 := hI.fz (k * 3)
                      have f1 := hI.fz (k * 3 + 1)
                      have f2 := hI.fz (k * 3 + 2)
                      have hk9 : (k : Int) < (nR : Int) + 1 := by omega
                      have hg3b : g3 ≠ bx := hI.ne.2
                      have hg3r : g3 ≠ rb := hI.ne.1
                      by_cases hk : k = 0
                      · have H14 := HFIN.out wr k hI hkn HI.out.2 (.inl hk)
                        have H14' : Hid (Calls Try.prog 14 #[.pointer (some ⟨rb, 0, none⟩), .int .i64 ix] (((wr.setCell ⟨g3, k * 3, none⟩ (.int .i64 ix)).setCell ⟨g3, k * 3 + 1, none⟩ (.slice p m cc)).setCell ⟨g3, k * 3 + 2, none⟩ (.int .i64 1)).drew fun e w' => e = .returned (.bool (frB (g.add ix (stI E)) ix)) ∧ Hid (RadP w w' bs rb (.slice pv nR cv) g ix E (frB (g.add ix (stI E)) ix) 0)) := H14
                        have hk' : ¬ (0 : Int) < (k : Int) := by omega
                        have hk2 : decide ((0 : Int) < (k : Int)) = false := decide_eq_false hk'
                        have hk3 : ¬ 0 < k := by omega
                        have hk4 : decide (0 < k) = false := decide_eq_false hk3
                        clear H14 HFIN hz hI HI hk
                        go_upto_region 27 with fail
                        go_region
                        all_goals go_wp2_with (go_at_call 14; refine H14'.out.mono ?_; rintro e w7 ⟨rfl, h7⟩)
                        all_goals go_ret2
                        all_goals (have q9 := h7.out; rw [HNR.out.1] at q9; exact radR _ 0 q9)
                      · obtain ⟨l, hl⟩ : ∃ l, k = l + 1 := ⟨k - 1, by omega⟩
                        obtain ⟨a, ha⟩ : ∃ a, R[l]? = some a := ⟨_, List.getElem?_eq_getElem (by have := HNR.out.1; omega)⟩
                        obtain ⟨l0, l1, l2⟩ := hI.cells (i := l) (a := a) (by rw [hl]; exact shJ_prev ha)
                        have hk' : (0 : Int) < (k : Int) := by omega
                        have hk2 : decide ((0 : Int) < (k : Int)) = true := decide_eq_true hk'
                        have hk3 : 0 < k := by omega
                        have hk4 : decide (0 < k) = true := decide_eq_true hk3
                        have hl4 : (k : Int) - 1 = (l : Int) := by omega
                        have hl5 : (l : Int) < (nR : Int) + 1 := by omega
                        have hwj : IntKind.i64.wrap ((k : Int) - 1) = (l : Int) := by rw [IntKind.wrap_i64]; omega
                        by_cases hxy : ix < a.id
                        · have hxy' : decide ((ix : Int) < (a.id : Int)) = true := decide_eq_true (by omega)
                          have hxy2 : decide (ix < a.id) = true := decide_eq_true hxy
                          have hxy3 : (ix : Int) < (a.id : Int) := by omega
                          have HN : Hid (Ip w (((wr.setCell ⟨g3, k * 3, none⟩ (.int .i64 a.id)).setCell ⟨g3, k * 3 + 1, none⟩ (.slice a.p a.n a.c)).setCell ⟨g3, k * 3 + 2, none⟩ (.int .i64 a.st)).drew bs rb bx (.slice pv nR cv) g3 nR c3 R ⟨ix, 1, p, m, cc, E1⟩ (shJ R ⟨ix, 1, p, m, cc, E1⟩ l) ∧ ∀ (j : Nat) (a : JB), R[j]? = some a → l ≤ j → ix < a.id) := by
                            have h9 := (hI.put k a (List.getElem?_eq_some_iff.1 hz).1).drew
                            rw [hl, shJ_step ha, ← hl] at h9
                            refine ⟨h9, fun j a2 ha2 hj => ?_⟩
                            by_cases e : j = l
                            · subst e; rw [ha] at ha2; cases ha2; exact hxy
                            · exact HI.out.2 j a2 ha2 (by omega)
                          have hlk : Hid (l ≤ nR ∧ l < k) := ⟨by omega, by omega⟩
                          clear HFIN hz hI HI hk ha hl b0 b1 b2
                          go_upto_region 25 with fail
                          go_region
                          all_goals go_wp2_with fail
                          all_goals
                            refine ⟨⟨l, by simp, hlk.out.1, HN.out⟩, ?_⟩
                            have := hlk.out
                            simp [intOf]
                            omega
                        · have hxy' : decide ((ix : Int) < (a.id : Int)) = false := decide_eq_false (by omega)
                          have hxy2 : decide (ix < a.id) = false := decide_eq_false hxy
                          have hxy3 : ¬ (ix : Int) < (a.id : Int) := by omega
                          have H14 := HFIN.out wr k hI hkn HI.out.2 (.inr ⟨a, by rw [hl]; exact ha, by omega⟩)
                          have H14' : Hid (Calls Try.prog 14 #[.pointer (some ⟨rb, 0, none⟩), .int .i64 ix] (((wr.setCell ⟨g3, k * 3, none⟩ (.int .i64 ix)).setCell ⟨g3, k * 3 + 1, none⟩ (.slice p m cc)).setCell ⟨g3, k * 3 + 2, none⟩ (.int .i64 1)).drew fun e w' => e = .returned (.bool (frB (g.add ix (stI E)) ix)) ∧ Hid (RadP w w' bs rb (.slice pv nR cv) g ix E (frB (g.add ix (stI E)) ix) 0)) := H14
                          clear H14 HFIN hz hI HI hk ha hl
                          go_upto_region 27 with fail
                          clear l0 l1 l2
                          go_region
                          all_goals go_wp2_with (go_at_call 14; refine H14'.out.mono ?_; rintro e w7 ⟨rfl, h7⟩)
                          all_goals go_ret2
                          all_goals (have q9 := h7.out; rw [HNR.out.1] at q9; exact radR _ 0 q9)
end Go.Proofs.Ytodldfgoieikcaa
