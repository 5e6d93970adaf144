/-
  WireEncodes: the kinds put together.
-/
import Derived.Test.YtnkkiepoljbhlaaWea
import Derived.Test.YtnkkiepoljbhlaaLwj
import Derived.Test.YtnkkiepoljbhlaaFmc
import Derived.Test.YtnkkiepoljbhlaaFmh
import Derived.Test.YtnkkiepoljbhlaaFmn
import Derived.Test.YtnkkiepoljbhlaaFmr
namespace Go.Proofs.Ytnkkiepoljbhlaa
open Go.RowKit

theorem nm_size : ∀ (f : Nat) (l : List UInt8) (c : Nat), l.length ≤ f → c ≤ 16 → Txt.nm f l c = true → l.length ≤ 4 * (16 - c)
  | 0, l, c, hf, _, _ => by omega
  | f + 1, l, c, hf, hc, h => by
    by_cases h0 : l.length = 0
    · omega
    · cases hs : Txt.seq l with
      | none => rw [Txt.nm_none f l c h0 hs] at h; cases h
      | some rn =>
        obtain ⟨r, n⟩ := rn
        rw [Txt.nm_some f l c r n h0 hs] at h
        split at h
        · cases h
        · rename_i hq
          have hw := Txt.seq_width (by intro e; rw [e] at h0; exact h0 rfl) hs
          have hd : (l.drop n).length = l.length - n := List.length_drop ..
          have := nm_size f (l.drop n) (c + 1) (by omega) (by omega) h
          omega
theorem name_size {s : ByteArray} (h : Txt.name s = true) : s.size ≤ 64 := by
  have := nm_size s.size s.data.toList 0 (by rw [← Lib.size_eq]; exact Nat.le_refl _) (by omega) h
  rw [← Lib.size_eq] at this
  omega
theorem wi_on {x lo hi : Int} (h : wi x lo hi = true) : lo ≤ x ∧ x ≤ hi := by
  unfold wi at h
  simpa using h
theorem fm_pos {a b c d : Int} (h : fm a b c d = true) : (⟨a, b, c, d⟩ : V4).pos := by
  unfold fm okI at h
  simp only [Bool.and_eq_true, decide_eq_true_eq] at h
  unfold V4.pos
  simp only
  omega
section
variable (p p' : PL) (R : Value) (w : World) (F : Bool) (l : List UInt8)
theorem enc_comb (hl : F = true → l.length < 1152921504606846976)
    (HM : ∀ W, Calls Try.prog 8 #[.agg p.cells] W fun e w' => e = .returned R ∧ Below W.heap.size W w')
    (HP : ∀ W, Calls Try.prog 9 #[R] W fun e w' => e = .returned (.agg p'.cells) ∧ Below W.heap.size W w')
    (H20 : ∀ W, Calls Try.prog 20 #[R] W fun e w' => e = .returned R ∧ Below W.heap.size W w')
    (H21 : ∀ W, Below w.heap.size w W → Calls Try.prog 21 #[R] W fun e w' => e = .returned (.bool F) ∧ Below W.heap.size W w')
    (H14 : ∀ W, Below w.heap.size w W → Calls Try.prog 14 #[.agg p'.cells] W fun e w' => e = .returned (.bool F) ∧ Below W.heap.size W w')
    (H22 : F = true → ∀ W, Below w.heap.size w W → Calls Try.prog 22 #[R] W fun e w' => ∃ q' k' c', e = .returned (.slice q' k' c') ∧ Own w' W.heap.size (.slice q' k' c') l ∧ Bw W.heap.size W w')
    (H11 : F = true → ∀ W, Below w.heap.size w W → Calls Try.prog 11 #[.agg p'.cells] W fun e w' => ∃ q' k' c', e = .returned (.tuple #[.slice q' k' c', .int .i64 0]) ∧ Own w' W.heap.size (.slice q' k' c') l ∧ Bw W.heap.size W w') :
    Calls Try.prog 3 #[.agg p.cells] w fun e w' => e = .returned (.bool true) ∧ Below w.heap.size w w' := by
  have K20 : ∀ W, Below w.heap.size w W → Calls Try.prog 20 #[R] W fun e w' => ∃ r, e = .returned r ∧ Below W.heap.size W w' ∧ (r = R ∧ Below w.heap.size w w') := fun W b => (H20 W).mono fun e w' ⟨h1, h2⟩ => ⟨R, h1, h2, rfl, below_from b h2 b.size⟩
  cases F
  · refine law_enc4 p p' R w [] (by decide) HM HP (fun W b => ?_) (fun W b => ?_) (fun W b => ?_) (fun W b => H14 W b)
    · refine (enc_no R W (fun r W' => r = R ∧ Below w.heap.size w W') (K20 W b) fun r W' ⟨h1, h2⟩ => by rw [h1]; exact H21 W' h2).mono fun e w' ⟨h1, h2⟩ => ⟨none, 0, 0, h1, Own.nil _ _, h2⟩
    · exact (renc_no p' W fun W' b' => H14 W' (below_from b b' b.size)).mono fun e w' ⟨h1, h2⟩ => ⟨none, 0, 0, h1, Own.nil _ _, h2⟩
    · exact form_is R W (fun r W' => r = R ∧ Below w.heap.size w W') (K20 W b) false fun r W' ⟨h1, h2⟩ => by rw [h1]; exact H21 W' h2
  · refine law_enc0 p p' R w l (hl rfl) HM HP (fun W b => ?_) (fun W b => ?_) (fun W b => ?_) (fun W b => H14 W b)
    · exact enc_yes R W (fun r W' => r = R ∧ Below w.heap.size w W') (K20 W b) l (fun r W' ⟨h1, h2⟩ => by rw [h1]; exact H21 W' h2) fun r W' W'' ⟨h1, h2⟩ h3 => by rw [h1]; exact H22 rfl W'' (below_from h2 h3 h2.size)
    · exact (H11 rfl W b).mono fun e w' ⟨q', k', c', h1, h2, h3⟩ => ⟨q', k', c', h1, h2, h3.b⟩
    · exact form_is R W (fun r W' => r = R ∧ Below w.heap.size w W') (K20 W b) true fun r W' ⟨h1, h2⟩ => by rw [h1]; exact H21 W' h2
end
theorem txt_len {s : ByteArray} (h : s.size ≤ 64) : (txtB s).length ≤ 74 := by
  have h1 := num_length s.size
  have h2 := Lib.size_eq s
  unfold txtB
  rw [List.length_append]
  omega
theorem numI_len (x : Int) : (numI x).length ≤ 10 := num_length _
theorem vec_len (v : V4) : (vecB v).length ≤ 40 := by
  have := nums_length [v.a.toNat, v.b.toNat, v.c.toNat, v.d.toNat]
  unfold vecB
  simpa using this
theorem flat_len {α : Type} (f : α → List UInt8) (m : Nat) : ∀ (L : List α), (∀ x ∈ L, (f x).length ≤ m) → (L.flatMap f).length ≤ L.length * m
  | [], _ => by simp
  | x :: r, h => by
    have h1 := h x (List.mem_cons_self ..)
    have h2 := flat_len f m r fun y hy => h y (List.mem_cons_of_mem _ hy)
    rw [List.flatMap_cons, List.length_append, List.length_cons, Nat.succ_mul]
    omega
theorem par_pos {id : Int} : ∀ {q : Int} {L : List Int}, 0 ≤ q → par id q L = true → ∀ x ∈ L, 0 ≤ x ∧ x ≤ 100
  | _, [], _, _, x, hx => by cases hx
  | q, y :: r, hq, h, x, hx => by
    unfold par at h
    simp only [Bool.and_eq_true, decide_eq_true_eq] at h
    rcases List.mem_cons.1 hx with rfl | hx
    · omega
    · exact par_pos (by omega) h.2 x hx
section
variable (p : PL) (w : World)
theorem enc1 (hk : p.kind = 1) (ht : p.tn.size ≤ 9223372036854775000) : Calls Try.prog 3 #[.agg p.cells] w fun e w' => e = .returned (.bool true) ∧ Below w.heap.size w w' := by
  have z : (Txt.name p.tn && wi p.tw 1 1000 && fm p.q0 p.q1 p.q2 p.q3) = true → p.tn.size ≤ 64 ∧ (1 ≤ p.tw ∧ p.tw ≤ 1000) ∧ (⟨p.q0, p.q1, p.q2, p.q3⟩ : V4).pos := fun h => by
    simp only [Bool.and_eq_true] at h
    exact ⟨name_size h.1.1, wi_on h.1.2, fm_pos h.2⟩
  refine enc_comb p (p.norm 1) (p.rcd 1) w _ ([1] ++ txtB p.tn ++ numI p.tw ++ vecB ⟨p.q0, p.q1, p.q2, p.q3⟩) (fun h => ?_) (make1 p hk) (plainly1 p) (remade_is p 1 (plainly1 p) (make1 (p.norm 1) rfl)) (fun W _ => formed1 p.tn p.tw p.q0 p.q1 p.q2 p.q3 W ht) (fun W _ => rformed1 (p.norm 1) rfl W ht) (fun h W _ => ?_) (fun h W b => ?_)
  · have h1 := txt_len (z h).1
    have h2 := numI_len p.tw
    have h3 := vec_len ⟨p.q0, p.q1, p.q2, p.q3⟩
    simp only [List.length_append, List.length_cons, List.length_nil]
    omega
  · obtain ⟨z1, z2, z3⟩ := z h
    exact recB1 p.tn p.tw ⟨p.q0, p.q1, p.q2, p.q3⟩ W (by omega) (by omega) z3 (by omega)
  · obtain ⟨z1, z2, z3⟩ := z h
    exact renc1 (p.norm 1) rfl W (fun W' _ => h ▸ rformed1 (p.norm 1) rfl W' ht) (show p.tn.size ≤ _ by omega) (show 0 ≤ p.tw ∧ p.tw < _ by omega) z3
theorem enc2 (hk : p.kind = 2) (ht : p.nd.size ≤ 9223372036854775000) : Calls Try.prog 3 #[.agg p.cells] w fun e w' => e = .returned (.bool true) ∧ Below w.heap.size w w' := by
  have z : (Txt.name p.nd && wi p.ep 1 2147483647 && fm p.v0 p.v1 p.v2 p.v3) = true → p.nd.size ≤ 64 ∧ (1 ≤ p.ep ∧ p.ep ≤ 2147483647) ∧ (⟨p.v0, p.v1, p.v2, p.v3⟩ : V4).pos := fun h => by
    simp only [Bool.and_eq_true] at h
    exact ⟨name_size h.1.1, wi_on h.1.2, fm_pos h.2⟩
  refine enc_comb p (p.norm 2) (p.rcd 2) w _ ([2] ++ txtB p.nd ++ numI p.ep ++ vecB ⟨p.v0, p.v1, p.v2, p.v3⟩) (fun h => ?_) (make2 p hk) (plainly2 p) (remade_is p 2 (plainly2 p) (make2 (p.norm 2) rfl)) (fun W _ => formed2 p.nd p.ep p.v0 p.v1 p.v2 p.v3 W _ _ _ ht rfl rfl rfl) (fun W _ => rformed2 (p.norm 2) rfl _ _ W ht rfl rfl) (fun h W _ => ?_) (fun h W b => ?_)
  · have h1 := txt_len (z h).1
    have h2 := numI_len p.ep
    have h3 := vec_len ⟨p.v0, p.v1, p.v2, p.v3⟩
    simp only [List.length_append, List.length_cons, List.length_nil]
    omega
  · obtain ⟨z1, z2, z3⟩ := z h
    exact recB2 p.nd p.ep ⟨p.v0, p.v1, p.v2, p.v3⟩ W (by omega) (by omega) z3 (by omega)
  · obtain ⟨z1, z2, z3⟩ := z h
    exact renc2 (p.norm 2) rfl W (fun W' _ => h ▸ rformed2 (p.norm 2) rfl _ _ W' ht rfl rfl) (show p.nd.size ≤ _ by omega) (show 0 ≤ p.ep ∧ p.ep < _ by omega) z3
theorem enc3 (hk : p.kind = 3) (ht : p.nd.size ≤ 9223372036854775000) : Calls Try.prog 3 #[.agg p.cells] w fun e w' => e = .returned (.bool true) ∧ Below w.heap.size w w' := by
  refine enc_comb p (p.norm 3) (p.rcd 3) w (Txt.name p.nd) ([3] ++ txtB p.nd) (fun h => ?_) (make3 p hk) (plainly3 p) (remade_is p 3 (plainly3 p) (make3 (p.norm 3) rfl)) (fun W _ => formed3 p.nd _ W ht rfl) (fun W _ => rformed3 (p.norm 3) rfl _ W ht rfl) (fun h W _ => ?_) (fun h W b => ?_)
  · have h1 := txt_len (name_size h)
    simp only [List.length_append, List.length_cons, List.length_nil]
    omega
  · have := name_size h
    exact recB3 p.nd W (by omega)
  · have := name_size h
    exact renc3 (p.norm 3) rfl W (fun W' _ => rformed3 (p.norm 3) rfl _ W' ht h) (show p.nd.size ≤ _ by omega)
theorem enc4 (hk : p.kind = 4) (ht : p.nd.size ≤ 9223372036854775000) : Calls Try.prog 3 #[.agg p.cells] w fun e w' => e = .returned (.bool true) ∧ Below w.heap.size w w' := by
  refine enc_comb p (p.norm 4) (p.rcd 4) w (Txt.name p.nd) ([4] ++ txtB p.nd) (fun h => ?_) (make4 p hk) (plainly4 p) (remade_is p 4 (plainly4 p) (make4 (p.norm 4) rfl)) (fun W _ => formed4 p.nd _ W ht rfl) (fun W _ => rformed4 (p.norm 4) rfl _ W ht rfl) (fun h W _ => ?_) (fun h W b => ?_)
  · have h1 := txt_len (name_size h)
    simp only [List.length_append, List.length_cons, List.length_nil]
    omega
  · have := name_size h
    exact recB4 p.nd W (by omega)
  · have := name_size h
    exact renc4 (p.norm 4) rfl W (fun W' _ => rformed4 (p.norm 4) rfl _ W' ht h) (show p.nd.size ≤ _ by omega)
theorem enc6 (hk : p.kind = 6) : Calls Try.prog 3 #[.agg p.cells] w fun e w' => e = .returned (.bool true) ∧ Below w.heap.size w w' := by
  refine enc_comb p (p.norm 6) (p.rcd 6) w (wi p.id 1 100) ([6] ++ numI p.id) (fun h => ?_) (make6 p hk) (plainly6 p) (remade_is p 6 (plainly6 p) (make6 (p.norm 6) rfl)) (fun W _ => formed6 p.id W) (fun W _ => rformed6 (p.norm 6) rfl W) (fun h W _ => ?_) (fun h W b => ?_)
  · have h1 := numI_len p.id
    simp only [List.length_append, List.length_cons, List.length_nil]
    omega
  · have := wi_on h
    exact recB6 p.id W (by omega)
  · have := wi_on h
    exact renc6 (p.norm 6) rfl W (fun W' _ => h ▸ rformed6 (p.norm 6) rfl W') (show 0 ≤ p.id ∧ p.id < _ by omega)
theorem enc8 (hk : p.kind = 8) : Calls Try.prog 3 #[.agg p.cells] w fun e w' => e = .returned (.bool true) ∧ Below w.heap.size w w' := by
  refine enc_comb p (p.norm 8) (p.rcd 8) w (wi p.id 1 100) ([8] ++ numI p.id) (fun h => ?_) (make8 p hk) (plainly8 p) (remade_is p 8 (plainly8 p) (make8 (p.norm 8) rfl)) (fun W _ => formed8 p.id W) (fun W _ => rformed8 (p.norm 8) rfl W) (fun h W _ => ?_) (fun h W b => ?_)
  · have h1 := numI_len p.id
    simp only [List.length_append, List.length_cons, List.length_nil]
    omega
  · have := wi_on h
    exact recB8 p.id W (by omega)
  · have := wi_on h
    exact renc8 (p.norm 8) rfl W (fun W' _ => h ▸ rformed8 (p.norm 8) rfl W') (show 0 ≤ p.id ∧ p.id < _ by omega)
theorem enc9 (hk : p.kind = 9) (ht : p.nd.size ≤ 9223372036854775000) : Calls Try.prog 3 #[.agg p.cells] w fun e w' => e = .returned (.bool true) ∧ Below w.heap.size w w' := by
  have z : (wi p.id 1 100 && Txt.name p.nd) = true → (1 ≤ p.id ∧ p.id ≤ 100) ∧ p.nd.size ≤ 64 := fun h => by
    simp only [Bool.and_eq_true] at h
    exact ⟨wi_on h.1, name_size h.2⟩
  refine enc_comb p (p.norm 9) (p.rcd 9) w (wi p.id 1 100 && Txt.name p.nd) ([9] ++ numI p.id ++ txtB p.nd) (fun h => ?_) (make9 p hk) (plainly9 p) (remade_is p 9 (plainly9 p) (make9 (p.norm 9) rfl)) (fun W _ => formed9 p.nd p.id _ _ W ht rfl rfl) (fun W _ => rformed9 (p.norm 9) rfl _ _ W ht rfl rfl) (fun h W _ => ?_) (fun h W b => ?_)
  · have h1 := numI_len p.id
    have h2 := txt_len (z h).2
    simp only [List.length_append, List.length_cons, List.length_nil]
    omega
  · obtain ⟨z1, z2⟩ := z h
    exact recB9 p.id p.nd W (by omega) (by omega)
  · obtain ⟨z1, z2⟩ := z h
    exact renc9 (p.norm 9) rfl W (fun W' _ => h ▸ rformed9 (p.norm 9) rfl _ _ W' ht rfl rfl) (show 0 ≤ p.id ∧ p.id < _ by omega) (show p.nd.size ≤ _ by omega)
theorem enc10 (hk : p.kind = 10) : Calls Try.prog 3 #[.agg p.cells] w fun e w' => e = .returned (.bool true) ∧ Below w.heap.size w w' := by
  have z : (wi p.id 1 100 && es p.st) = true → (1 ≤ p.id ∧ p.id ≤ 100) ∧ 0 ≤ p.st ∧ p.st < 9223372036854775808 := fun h => by
    simp only [Bool.and_eq_true] at h
    refine ⟨wi_on h.1, ?_⟩
    have h2 := h.2
    unfold es at h2
    simp only [Bool.or_eq_true, decide_eq_true_eq] at h2
    omega
  refine enc_comb p (p.norm 10) (p.rcd 10) w (wi p.id 1 100 && es p.st) ([10] ++ numI p.id ++ numI p.st) (fun h => ?_) (make10 p hk) (plainly10 p) (remade_is p 10 (plainly10 p) (make10 (p.norm 10) rfl)) (fun W _ => formed10 p.id p.st _ _ W rfl rfl) (fun W _ => rformed10 (p.norm 10) rfl _ W rfl) (fun h W _ => ?_) (fun h W b => ?_)
  · have h1 := numI_len p.id
    have h2 := numI_len p.st
    simp only [List.length_append, List.length_cons, List.length_nil]
    omega
  · obtain ⟨z1, z2⟩ := z h
    exact recB10 p.id p.st W (by omega) (by omega)
  · obtain ⟨z1, z2⟩ := z h
    exact renc10 (p.norm 10) rfl W (fun W' _ => h ▸ rformed10 (p.norm 10) rfl _ W' rfl) (show 0 ≤ p.id ∧ p.id < _ by omega) (show 0 ≤ p.st ∧ p.st < _ by omega)
theorem enc11 (hk : p.kind = 11) : Calls Try.prog 3 #[.agg p.cells] w fun e w' => e = .returned (.bool true) ∧ Below w.heap.size w w' :=
  enc_comb p (p.norm 11) (p.rcd 11) w true [11] (fun _ => by decide) (make11 p hk) (plainly11 p) (remade_is p 11 (plainly11 p) (make11 (p.norm 11) rfl)) (fun W _ => formed11 W) (fun W _ => rformed11 (p.norm 11) rfl W) (fun _ W _ => recB11 W) (fun _ W _ => renc11 (p.norm 11) rfl W fun W' _ => rformed11 (p.norm 11) rfl W')
theorem enc0 (hk : ¬ (1 ≤ p.kind ∧ p.kind ≤ 11)) : Calls Try.prog 3 #[.agg p.cells] w fun e w' => e = .returned (.bool true) ∧ Below w.heap.size w w' :=
  enc_comb p (p.norm 0) .nilIface w false [] (fun h => by cases h) (make0 p hk) (plainly0 p) (fun W => remade_at _ _ _ W (plainly0 p) (make0 (p.norm 0) (by show ¬ ((1 : Int) ≤ 0 ∧ (0 : Int) ≤ 11); decide))) (fun W _ => formed0 W) (fun W _ => rformed0 (p.norm 0) 0 rfl rfl rfl rfl rfl rfl rfl rfl rfl rfl rfl rfl W) (fun h => by cases h) (fun h => by cases h)
theorem enc7 (hk : p.kind = 7) (N : List ByteArray) (hN : SLh w p.ns N.length (textsV N)) (hs : ∀ t ∈ N, t.size ≤ 9223372036854775000) : Calls Try.prog 3 #[.agg p.cells] w fun e w' => e = .returned (.bool true) ∧ Below w.heap.size w w' := by
  have z : (wi p.id 1 100 && nms N) = true → (1 ≤ p.id ∧ p.id ≤ 100) ∧ N.length ≤ 6 ∧ ∀ t ∈ N, t.size ≤ 64 := fun h => by
    unfold nms at h
    simp only [Bool.and_eq_true, decide_eq_true_eq] at h
    exact ⟨wi_on h.1, h.2.1.2, fun t ht => name_size (List.all_eq_true.1 h.2.2 t ht)⟩
  have hn : p.ns.n = N.length := hN.2.1
  have H14 : ∀ W, Below w.heap.size w W → Calls Try.prog 14 #[.agg (p.norm 7).cells] W fun e w' => e = .returned (.bool (wi p.id 1 100 && nms N)) ∧ Below W.heap.size W w' := fun W b => by
    have := rformed7 (p.norm 7) rfl N.length (wi p.id 1 100) (N.all Txt.name) W hn rfl (fun W' b' h1 h6 => by
      have hN' : SLh W' (p.norm 7).ns N.length (textsV N) := (hN.keep b (Nat.le_refl _)).keep b' (Nat.le_refl _)
      have h3 := rnames_any N (p.norm 7).ns W' hN' h1 h6 hs
      rw [show ((p.norm 7).ns).n = N.length from hn] at h3
      exact h3)
    exact this
  have hfl : (wi p.id 1 100 && nms N) = true → (N.flatMap txtB).length ≤ 444 := fun h => by
    obtain ⟨_, h6, hz⟩ := z h
    have := flat_len txtB 74 N fun x hx => txt_len (hz x hx)
    omega
  refine enc_comb p (p.norm 7) (p.rcd 7) w (wi p.id 1 100 && nms N) ([7] ++ numI p.id ++ lstB txtB N) (fun h => ?_) (make7 p hk) (plainly7 p) (remade_is p 7 (plainly7 p) (make7 (p.norm 7) rfl)) (fun W b => ?_) H14 (fun h W b => ?_) (fun h W b => ?_)
  · have h1 := numI_len p.id
    have h2 := hfl h
    have h3 := num_length N.length
    simp only [lstB, List.length_append, List.length_cons, List.length_nil]
    omega
  · exact formed7 p.id p.ns _ _ W rfl fun W' b' => members_any N p.ns W' ((hN.keep b (Nat.le_refl _)).keep b' (Nat.le_refl _)) hs
  · obtain ⟨z1, z2, z3⟩ := z h
    have h2 := hfl h
    exact recB7 p.id N p.ns.a p.ns.n p.ns.c W (by omega) hn.symm (by omega) (fun W' b' => ((hN.keep b (Nat.le_refl _)).keep b'.b (Nat.le_refl _)).1) (fun x hx => by have := z3 x hx; omega) (by omega)
  · obtain ⟨z1, z2, z3⟩ := z h
    have h2 := hfl h
    exact renc7 (p.norm 7) rfl W (fun W' b' => h ▸ H14 W' (below_from b b' b.size)) N p.ns.a p.ns.n p.ns.c rfl (show 0 ≤ p.id ∧ p.id < _ by omega) hn.symm (by omega) (fun W' b' => ((hN.keep b (Nat.le_refl _)).keep b'.b (Nat.le_refl _)).1) (fun x hx => by have := z3 x hx; omega) (by omega)
theorem enc5 (hk : p.kind = 5) (L : JL) (h : p.jb.has w L) (hs : p.jb.tn.size ≤ 9223372036854775000) : Calls Try.prog 3 #[.agg p.cells] w fun e w' => e = .returned (.bool true) ∧ Below w.heap.size w w' := by
  have z : jfm p.jb L = true → (1 ≤ p.jb.id ∧ p.jb.id ≤ 100) ∧ p.jb.tn.size ≤ 64 ∧ (0 ≤ p.jb.pr ∧ p.jb.pr ≤ 100) ∧ (1 ≤ p.jb.rt ∧ p.jb.rt ≤ 1000) ∧ L.pa.length ≤ 4 ∧ (∀ x ∈ L.pa, 0 ≤ x ∧ x ≤ 100) ∧ L.tk.length ≤ 6 ∧ ∀ x ∈ L.tk, x.pos := fun q => by
    unfold jfm at q
    simp only [Bool.and_eq_true, decide_eq_true_eq] at q
    obtain ⟨⟨⟨⟨⟨⟨q1, q2⟩, q3⟩, q4⟩, q5, q6⟩, q7, q8⟩, _⟩ := q
    exact ⟨wi_on q1, name_size q2, wi_on q3, wi_on q4, q5, par_pos (Int.le_refl _) q6, q7.2, fun x hx => fm_pos (List.all_eq_true.1 q8 x hx)⟩
  have hpa : p.jb.pa.n = L.pa.length := h.1.2.1
  have htk : p.jb.tk.n = L.tk.length := h.2.1.2.1
  have hjl : jfm p.jb L = true → (jobB p.jb.id p.jb.tn p.jb.pr p.jb.rt L.pa L.tk).length ≤ 600 := fun q => by
    obtain ⟨_, z2, _, _, z5, _, z7, _⟩ := z q
    have h1 := numI_len p.jb.id
    have h2 := txt_len z2
    have h3 := numI_len p.jb.pr
    have h4 := numI_len p.jb.rt
    have h5 := flat_len numI 10 L.pa fun x _ => numI_len x
    have h6 := flat_len vecB 40 L.tk fun x _ => vec_len x
    have h7 := num_length L.pa.length
    have h8 := num_length L.tk.length
    unfold jobB lstB
    simp only [List.length_append]
    omega
  have H14 : ∀ W, Below w.heap.size w W → Calls Try.prog 14 #[.agg (p.norm 5).cells] W fun e w' => e = .returned (.bool (jfm p.jb L)) ∧ Below W.heap.size W w' := fun W b => rformed5 (p.norm 5) rfl L W (h.keep b (Nat.le_refl _)) hs
  refine enc_comb p (p.norm 5) (p.rcd 5) w (jfm p.jb L) ([5] ++ jobB p.jb.id p.jb.tn p.jb.pr p.jb.rt L.pa L.tk) (fun q => ?_) (make5 p hk) (plainly5 p) (remade_is p 5 (plainly5 p) (make5 (p.norm 5) rfl)) (fun W b => ?_) H14 (fun q W b => ?_) (fun q W b => ?_)
  · have h2 := hjl q
    simp only [List.length_append, List.length_cons, List.length_nil]
    omega
  · exact formed5 p.jb _ W fun W' b' => formedJob p.jb L W' ((h.keep b (Nat.le_refl _)).keep b' (Nat.le_refl _)) hs
  · obtain ⟨z1, z2, z3, z4, z5, z6, z7, z8⟩ := z q
    have h2 := hjl q
    exact recB5 p.jb.id p.jb.pr p.jb.rt p.jb.st p.jb.at' p.jb.sr p.jb.tn p.jb.pa.a p.jb.tk.a p.jb.nd.a p.jb.dn.a p.jb.pa.n p.jb.pa.c p.jb.tk.n p.jb.tk.c p.jb.nd.n p.jb.nd.c p.jb.dn.n p.jb.dn.c L.pa L.tk W (by omega) (by omega) (by omega) hpa.symm htk.symm (by omega) (by omega) (fun W' b' => ((h.keep b (Nat.le_refl _)).keep b' (Nat.le_refl _)).1.1) (fun W' b' => ((h.keep b (Nat.le_refl _)).keep b' (Nat.le_refl _)).2.1.1) (fun x hx => by have := z6 x hx; omega) z8 (by omega)
  · obtain ⟨z1, z2, z3, z4, z5, z6, z7, z8⟩ := z q
    have h2 := hjl q
    exact renc5 (p.norm 5) rfl W (fun W' b' => q ▸ H14 W' (below_from b b' b.size)) L.pa L.tk (show 0 ≤ p.jb.id ∧ p.jb.id < _ by omega) (show 0 ≤ p.jb.pr ∧ p.jb.pr < _ by omega) (show 0 ≤ p.jb.rt ∧ p.jb.rt < _ by omega) hpa.symm htk.symm (show p.jb.pa.n ≤ 1000 by omega) (show p.jb.tk.n ≤ 1000 by omega) (fun W' b' => ((h.keep b (Nat.le_refl _)).keep b' (Nat.le_refl _)).1.1) (fun W' b' => ((h.keep b (Nat.le_refl _)).keep b' (Nat.le_refl _)).2.1.1) (fun x hx => by have := z6 x hx; omega) z8 (show 200 + (jobB p.jb.id p.jb.tn p.jb.pr p.jb.rt L.pa L.tk).length ≤ 35184372088832 by omega)
theorem law_encodes (L : JL) (N : List ByteArray) (h : p.jb.has w L) (hs : p.jb.tn.size ≤ 9223372036854775000) (hN : SLh w p.ns N.length (textsV N)) (hz : ∀ t ∈ N, t.size ≤ 9223372036854775000) (ht : p.tn.size ≤ 9223372036854775000) (hd : p.nd.size ≤ 9223372036854775000) :
    Calls Try.prog 3 #[.agg p.cells] w fun e w' => e = .returned (.bool true) ∧ Below w.heap.size w w' := by
  by_cases hr : 1 ≤ p.kind ∧ p.kind ≤ 11
  · have hk : p.kind = 1 ∨ p.kind = 2 ∨ p.kind = 3 ∨ p.kind = 4 ∨ p.kind = 5 ∨ p.kind = 6 ∨ p.kind = 7 ∨ p.kind = 8 ∨ p.kind = 9 ∨ p.kind = 10 ∨ p.kind = 11 := by omega
    rcases hk with hk | hk | hk | hk | hk | hk | hk | hk | hk | hk | hk
    · exact enc1 p w hk ht
    · exact enc2 p w hk hd
    · exact enc3 p w hk hd
    · exact enc4 p w hk hd
    · exact enc5 p w hk L h hs
    · exact enc6 p w hk
    · exact enc7 p w hk N hN hz
    · exact enc8 p w hk
    · exact enc9 p w hk hd
    · exact enc10 p w hk
    · exact enc11 p w hk
  · exact enc0 p w hr
end
end Go.Proofs.Ytnkkiepoljbhlaa
