/-
  The contracts of slices.Clone, strings.Clone and copiedTexts.
-/
import Derived.Test.YtnkkiepoljbhlaaLst
import Derived.Test.YtnkkiepoljbhlaaShelf
namespace Go.Proofs.Ytnkkiepoljbhlaa
open Go.RowKit

theorem info2 : (Try.prog.info? 2).map (fun i => (i.zero, i.size, i.bytes)) = some (some (.int .i64 0), 1, 8) := by kernel_rfl
theorem info9 : (Try.prog.info? 9).map (fun i => (i.zero, i.size, i.bytes)) = some (some (.string ⟨#[]⟩), 1, 16) := by kernel_rfl
theorem info23 : (Try.prog.info? 23).map (fun i => (i.zero, i.size, i.bytes)) = some (some (.agg #[.int .i64 0, .int .i64 0, .int .i64 0, .int .i64 0]), 4, 32) := by kernel_rfl

/-- values put behind an owned row -/
theorem append_vals {ops : Array Oper} {rest : List Oper} {o : Oper} {a : Act} {Q : Exit → Act → World → Prop} {w : World} {t e : TypeId} {size bytes : Nat} {z : Value} (hu : Try.prog.underlying t = some (.slice e)) (hinfo : (Try.prog.info? e).map (fun i => (i.zero, i.size, i.bytes)) = some (some z, size, bytes)) (hzs : z.cells.size = size) (hsz : 0 < size)
    (hgd : o.guard = none) (s x : Operand) (ho : o.op = .call { callee := .builtin .append, args := #[s, x], argTypes := #[t, t] }) (B : Nat) (v : Value) (n : Nat) (xs : List Value) (hs : a.eval s = v) (hown : w.ownsRow B e size v n xs)
    (ad : Addr) (c m : Nat) (news : List Value) (hx : a.eval x = .slice (some ad) m c) (hl : news.length = m * size) (hm : LiesV w (some ad) news) (h1 : ∀ u ∈ news, u.oneCell' = true) (h63 : n + m ≤ maxLen) (hb : (n + m) * bytes ≤ 140737488355328) (hB : B ≤ w.heap.size)
    (h : ∀ v' w', w'.ownsRow B e size v' (n + m) (xs ++ news) → Below B w w' → wpList Try.prog ops Q rest (a.put o.dst v') w') :
    wpList Try.prog ops Q (o :: rest) a w := by
  obtain ⟨i0, hi, hz0, hz1, hz2⟩ := info_parts hinfo
  have hlt := World.ownsRow.lt hown
  refine wpList_append_own _ hgd s x t ho B e i0 z size bytes hu hi hz0 hz1 hz2 hzs hsz v n xs hs hown ad m c news hx hl (fun j u hj => ?_) h1 h63 hb hB (fun v' w' h1 h2 _ => h v' w' h1 ((Below.refl B w).grown h2 hB fun k hk => (hlt k hk).1))
  rcases hm with rfl | ⟨g, o, e, hr⟩
  · simp at hj
  · obtain rfl := Option.some.inj e
    rw [Addr.add_lit]
    exact hr j u hj

theorem eql_some26 (ad : Addr) (n c : Nat) : ∀ w, (binOp .eql 26 (.slice (some ad) n c) (.slice none 0 0)).run Try.prog w = .ok (.bool false) w := fun _ => by kernel_rfl
theorem eql_none26 : ∀ w, (binOp .eql 26 (.slice none 0 0) (.slice none 0 0)).run Try.prog w = .ok (.bool true) w := fun _ => by kernel_rfl
theorem eql_some27 (ad : Addr) (n c : Nat) : ∀ w, (binOp .eql 27 (.slice (some ad) n c) (.slice none 0 0)).run Try.prog w = .ok (.bool false) w := fun _ => by kernel_rfl
theorem eql_none27 : ∀ w, (binOp .eql 27 (.slice none 0 0) (.slice none 0 0)).run Try.prog w = .ok (.bool true) w := fun _ => by kernel_rfl

theorem owns_empty {w : World} {e size : Nat} : (w.alloc (.cells #[] e)).ownsRow w.heap.size e size (.slice (some ⟨w.heap.size, 0, none⟩) 0 0) 0 [] :=
  ⟨by simp, .inr ⟨w.heap.size, 0, #[], rfl, Nat.le_refl _, new0, Nat.le_refl _, by decide, by simp, by simp⟩⟩

set_option maxHeartbeats 400000 in
set_option maxRecDepth 100000 in
theorem cloneInts_at (L : List Int) (ad : Addr) (c n : Nat) (w : World) (hn : Hid (L.length = n)) (hle : n ≤ 17592186044416) (ha : Hid (LiesV w (some ad) (intsV L))) :
    Calls Try.prog 76 #[.slice (some ad) n c] w fun e w' => ∃ v, e = .returned v ∧ w'.ownsRow w.heap.size 2 1 v n (intsV L) ∧ Below w.heap.size w w' := by
  have he := eql_some26 ad n c
  have HL : Hid ((intsV L).length = n * 1) := by unfold Hid intsV; rw [List.length_map, hn.out, Nat.mul_one]
  have H1 : Hid (∀ u ∈ intsV L, u.oneCell' = true) := by
    intro u hu
    obtain ⟨x, _, rfl⟩ := List.mem_map.1 hu
    rfl
  go_enter Try.func76, Try.ntmps76
  go_wp2_with (at_builtin; refine append_vals (w := w.alloc (.cells #[] 2)) Try.underlying26 info2 rfl (by decide) rfl _ _ rfl w.heap.size (.slice (some ⟨w.heap.size, 0, none⟩) 0 0) 0 [] rfl owns_empty ad c n (intsV L) rfl HL.out (ha.out.keep ((Below.refl _ w).alloc (Nat.le_refl _) _) (Nat.le_refl _)) H1.out (by unfold maxLen; omega) (by omega) (by simp) ?_; intro v' w4 h1 h2)
  go_ret
  rw [Nat.zero_add, List.nil_append] at h1
  exact ⟨v', rfl, h1, ((Below.refl _ w).alloc (Nat.le_refl _) _).trans h2⟩
set_option maxHeartbeats 400000 in
set_option maxRecDepth 100000 in
theorem cloneInts_none (w : World) : Calls Try.prog 76 #[.slice none 0 0] w fun e w' => e = .returned (.slice none 0 0) ∧ w' = w := by
  have he := eql_none26
  go_enter Try.func76, Try.ntmps76
  go_wp2_with fail
  go_ret
  exact ⟨rfl, rfl⟩
set_option maxHeartbeats 400000 in
set_option maxRecDepth 100000 in
theorem cloneVecs_at (L : List V4) (ad : Addr) (c n : Nat) (w : World) (hn : Hid (L.length = n)) (hle : n ≤ 4398046511104) (ha : Hid (LiesV w (some ad) (flat L))) :
    Calls Try.prog 77 #[.slice (some ad) n c] w fun e w' => ∃ v, e = .returned v ∧ w'.ownsRow w.heap.size 23 4 v n (flat L) ∧ Below w.heap.size w w' := by
  have he := eql_some27 ad n c
  have HL : Hid ((flat L).length = n * 4) := by unfold Hid; rw [flat_length, hn.out]
  have H1 : Hid (∀ u ∈ flat L, u.oneCell' = true) := flat_one L
  go_enter Try.func77, Try.ntmps77
  go_wp2_with (at_builtin; refine append_vals (w := w.alloc (.cells #[] 23)) Try.underlying27 info23 rfl (by decide) rfl _ _ rfl w.heap.size (.slice (some ⟨w.heap.size, 0, none⟩) 0 0) 0 [] rfl owns_empty ad c n (flat L) rfl HL.out (ha.out.keep ((Below.refl _ w).alloc (Nat.le_refl _) _) (Nat.le_refl _)) H1.out (by unfold maxLen; omega) (by omega) (by simp) ?_; intro v' w4 h1 h2)
  go_ret
  rw [Nat.zero_add, List.nil_append] at h1
  exact ⟨v', rfl, h1, ((Below.refl _ w).alloc (Nat.le_refl _) _).trans h2⟩
set_option maxHeartbeats 400000 in
set_option maxRecDepth 100000 in
theorem cloneVecs_none (w : World) : Calls Try.prog 77 #[.slice none 0 0] w fun e w' => e = .returned (.slice none 0 0) ∧ w' = w := by
  have he := eql_none27
  go_enter Try.func77, Try.ntmps77
  go_wp2_with fail
  go_ret
  exact ⟨rfl, rfl⟩

/-- a slice that holds values, a list of so many -/
def SLh (w : World) (s : SL) (n : Nat) (xs : List Value) : Prop := LiesV w s.a xs ∧ s.n = n ∧ (s.a = none → s.c = 0 ∧ xs = [] ∧ n = 0)
theorem SLh.keep {w w1 : World} {s : SL} {n B : Nat} {xs : List Value} (h : SLh w s n xs) (b : Below B w w1) (hB : w.heap.size ≤ B) : SLh w1 s n xs := ⟨h.1.keep b hB, h.2⟩
/-- its row lies behind B -/
def SL.far (s : SL) (B : Nat) : Prop := ∀ ad, s.a = some ad → B ≤ ad.block
theorem slh_own {w : World} {B e size n : Nat} {v : Value} {xs : List Value} (h : w.ownsRow B e size v n xs) : ∃ s : SL, v = s.v ∧ SLh w s n xs ∧ s.far B := by
  have hl := h.1
  rcases h.2 with ⟨rfl, h0⟩ | ⟨g, cap, cur, rfl, hB, _⟩
  · subst h0
    rw [Nat.zero_mul] at hl
    have := List.eq_nil_of_length_eq_zero hl
    exact ⟨⟨none, 0, 0⟩, rfl, ⟨.inl this, rfl, fun _ => ⟨rfl, this, rfl⟩⟩, fun ad e => by cases e⟩
  · refine ⟨⟨some ⟨g, 0, none⟩, n, cap⟩, rfl, ⟨.inr ⟨g, 0, rfl, fun j u hu => ?_⟩, rfl, fun e => by cases e⟩, fun ad e => by cases e; exact hB⟩
    have hc := World.ownsRow.cells h (g := g) rfl j u hu
    rw [Addr.add_lit, Nat.zero_add] at hc
    rwa [Nat.zero_add]

theorem cloneInts (L : List Int) (s : SL) (w : World) (h : SLh w s L.length (intsV L)) (hle : L.length ≤ 17592186044416) :
    Calls Try.prog 76 #[s.v] w fun e w' => ∃ s' : SL, e = .returned s'.v ∧ (SLh w' s' L.length (intsV L) ∧ s'.far w.heap.size) ∧ Below w.heap.size w w' := by
  obtain ⟨a, n, c⟩ := s
  obtain ⟨h1, h2, h3⟩ := h
  simp only at h1 h2 h3
  subst h2
  cases a with
  | none =>
    obtain ⟨rfl, hx, h0⟩ := h3 rfl
    rw [hx, h0]
    exact (cloneInts_none w).mono fun e w' ⟨he, hw⟩ => ⟨⟨none, 0, 0⟩, he, ⟨⟨.inl rfl, rfl, fun _ => ⟨rfl, rfl, rfl⟩⟩, fun ad e => by cases e⟩, hw ▸ Below.refl _ _⟩
  | some ad =>
    refine (cloneInts_at L ad c L.length w rfl hle h1).mono ?_
    rintro e w' ⟨v, rfl, h1, h2⟩
    obtain ⟨s', rfl, hs⟩ := slh_own h1
    exact ⟨s', rfl, hs, h2⟩
theorem cloneVecs (L : List V4) (s : SL) (w : World) (h : SLh w s L.length (flat L)) (hle : L.length ≤ 4398046511104) :
    Calls Try.prog 77 #[s.v] w fun e w' => ∃ s' : SL, e = .returned s'.v ∧ (SLh w' s' L.length (flat L) ∧ s'.far w.heap.size) ∧ Below w.heap.size w w' := by
  obtain ⟨a, n, c⟩ := s
  obtain ⟨h1, h2, h3⟩ := h
  simp only at h1 h2 h3
  subst h2
  cases a with
  | none =>
    obtain ⟨rfl, hx, h0⟩ := h3 rfl
    rw [hx, h0]
    exact (cloneVecs_none w).mono fun e w' ⟨he, hw⟩ => ⟨⟨none, 0, 0⟩, he, ⟨⟨.inl rfl, rfl, fun _ => ⟨rfl, rfl, rfl⟩⟩, fun ad e => by cases e⟩, hw ▸ Below.refl _ _⟩
  | some ad =>
    refine (cloneVecs_at L ad c L.length w rfl hle h1).mono ?_
    rintro e w' ⟨v, rfl, h1, h2⟩
    obtain ⟨s', rfl, hs⟩ := slh_own h1
    exact ⟨s', rfl, hs, h2⟩

set_option maxHeartbeats 400000 in
theorem strClone (s : ByteArray) (w : World) (hs : s.size ≤ 281474976710656) :
    Calls Try.prog 75 #[.string s] w fun e w' => e = .returned (.string s) ∧ Below w.heap.size w w' := by
  go_enter Try.func75, Try.ntmps75
  go_wp2_with (go_at_call 79; refine (Try.stringslite_Clone s _ hs).mono ?_; rintro e w1 ⟨rfl, b1⟩)
  go_ret
  exact ⟨rfl, b1⟩

theorem liesv_one {w : World} {u : Value} {e : TypeId} : LiesV (w.alloc (.cells #[u] e)) (some ⟨w.heap.size, 0, none⟩) [u] := by
  refine .inr ⟨_, 0, rfl, fun k x hx => ?_⟩
  rw [Nat.zero_add, cell_of_row _ _ k _ e (0, 0) new0]
  match k, hx with
  | 0, hx => simp at hx; subst hx; rfl

theorem texts_snoc {L : List ByteArray} {k : Nat} {x : ByteArray} (h : L[k]? = some x) : textsV (L.take (k + 1)) = textsV (L.take k) ++ [.string x] := by
  obtain ⟨hk, rfl⟩ := List.getElem?_eq_some_iff.1 h
  unfold textsV
  rw [List.take_succ_eq_append_getElem hk, List.map_append]; rfl

set_option maxHeartbeats 1000000 in
set_option maxRecDepth 100000 in
theorem copiedTexts_at (L : List ByteArray) (g o c n : Nat) (w : World) (hn : Hid (L.length = n)) (hle : n ≤ 8796093022208) (hsz : Hid (∀ s ∈ L, s.size ≤ 281474976710656)) (ha : Hid (RowV w g o (textsV L))) :
    Calls Try.prog 78 #[.slice (some ⟨g, o, none⟩) n c] w fun e w' => ∃ v, e = .returned v ∧ w'.ownsRow w.heap.size 9 1 v n (textsV L) ∧ Below w.heap.size w w' := by
  go_enter Try.func78, Try.ntmps78
  go_wp2_with fail
  go_loopw [3, 8] (fun v i wr => ∃ (k : Nat) (q : Option Addr) (j c' : Nat), v = .slice q j c' ∧ i = .int .i64 k ∧ k ≤ n ∧ wr.ownsRow w.heap.size 9 1 (.slice q j c') k (textsV (L.take k)) ∧ Below w.heap.size w wr) (fun _ i _ => n - (intOf i).toNat)
  case atStart => exact ⟨0, none, 0, 0, rfl, rfl, Nat.zero_le _, World.ownsRow_nil _ _ _ _, Below.refl _ _⟩
  case round =>
    obtain ⟨k, q, j, c', rfl, rfl, hk, ho, hb⟩ := hrel
    have HO : Hid (wr.ownsRow w.heap.size 9 1 (.slice q j c') k (textsV (L.take k))) := ho
    have HB : Hid (Below w.heap.size w wr) := hb
    clear ho hb
    by_cases hlt : k < n
    · obtain ⟨x, hx⟩ : ∃ x, L[k]? = some x := ⟨L[k]'(by have := hn.out; omega), List.getElem?_eq_getElem _⟩
      have h0 := ha.out.keep HB.out (Nat.le_refl _) k _ (texts_get hx)
      have HX : Hid (textsV (L.take (k + 1)) = textsV (L.take k) ++ [.string x]) := texts_snoc hx
      have HZ : Hid (x.size ≤ 281474976710656) := hsz.out x (List.mem_of_getElem? hx)
      have hi : (k : Int) < (n : Int) := by omega
      clear hx
      go_wp2_with (go_at_call 75; refine (strClone x _ HZ.out).mono ?_)
      rintro e w1 ⟨rfl, b1⟩
      have O1 : Hid ((w1.alloc (.cells #[.string x] 9)).ownsRow w.heap.size 9 1 (.slice q j c') k (textsV (L.take k))) := by
        refine ⟨HO.out.1, ?_⟩
        rcases HO.out.2 with hn | ⟨g, cap, cur, e, hb, hgg, rest⟩
        · exact .inl hn
        · exact .inr ⟨g, cap, cur, e, hb, at_alloc (at_below b1 (Nat.le_refl _) hgg), rest⟩
      have y1 : Hid (Below w.heap.size w w1) := below_from HB.out b1 HB.out.size
      clear b1 h0
      go_wp2_with (at_builtin; refine append_vals (w := w1.alloc (.cells #[.string x] 9)) Try.underlying28 info9 rfl (by decide) rfl _ _ rfl w.heap.size (.slice q j c') k (textsV (L.take k)) rfl O1.out ⟨w1.heap.size, 0, none⟩ 1 1 [.string x] rfl rfl liesv_one (fun u hu => by simp at hu; subst hu; rfl) (by unfold maxLen; omega) (by omega) (by have := y1.out.size; simp; omega) ?_; intro v' w4 h1 h2)
      obtain ⟨s', rfl, -⟩ := slh_own h1
      refine ⟨⟨k + 1, s'.a, s'.n, s'.c, rfl, by go_num, by omega, by rw [HX.out]; exact h1, (y1.out.alloc y1.out.size _).trans h2⟩, ?_⟩
      simp [intOf]; omega
    · have HE : Hid (textsV (L.take k) = textsV L ∧ k = n) := by
        have := hn.out
        refine ⟨?_, by omega⟩
        rw [List.take_of_length_le (by omega)]
      go_wp2_with fail
      go_ret
      refine ⟨_, rfl, ?_, HB.out⟩
      have := HO.out
      rw [HE.out.1, HE.out.2] at this
      exact this

set_option maxHeartbeats 400000 in
theorem copiedTexts_none (a : Option Addr) (c : Nat) (w : World) : Calls Try.prog 78 #[.slice a 0 c] w fun e w' => e = .returned (.slice none 0 0) ∧ w' = w := by
  go_enter Try.func78, Try.ntmps78
  go_wp2_with fail
  go_rounds 1
  go_ret
  exact ⟨rfl, rfl⟩

theorem copiedTexts (L : List ByteArray) (s : SL) (w : World) (h : SLh w s L.length (textsV L)) (hle : L.length ≤ 8796093022208) (hsz : ∀ s ∈ L, s.size ≤ 281474976710656) :
    Calls Try.prog 78 #[s.v] w fun e w' => ∃ s' : SL, e = .returned s'.v ∧ (SLh w' s' L.length (textsV L) ∧ s'.far w.heap.size) ∧ Below w.heap.size w w' := by
  obtain ⟨a, n, c⟩ := s
  obtain ⟨h1, h2, h3⟩ := h
  simp only at h1 h2 h3
  subst h2
  rcases h1 with hx | ⟨g, o, rfl, h1⟩
  · have h0 : L = [] := by simpa [textsV] using hx
    subst h0
    exact (copiedTexts_none a c w).mono fun e w' ⟨he, hw⟩ => ⟨⟨none, 0, 0⟩, he, ⟨⟨.inl rfl, rfl, fun _ => ⟨rfl, rfl, rfl⟩⟩, fun ad e => by cases e⟩, hw ▸ Below.refl _ _⟩
  · refine (copiedTexts_at L g o c L.length w rfl hle hsz h1).mono ?_
    rintro e w' ⟨v, rfl, h1, h2⟩
    obtain ⟨s', rfl, hs⟩ := slh_own h1
    exact ⟨s', rfl, hs, h2⟩

end Go.Proofs.Ytnkkiepoljbhlaa
