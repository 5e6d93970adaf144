/-
  join; a vector taken away.
-/
import Derived.Test.YtkfpbpkadkhhnaaPg
namespace Go.Proofs.Ytkfpbpkadkhhnaa
open Go.RowKit Go.Maps

theorem eqV (v u : V) (w : World) :
    (Op.equalIn 10000 23 (.agg #[.int .i64 v.a, .int .i64 v.b, .int .i64 v.c, .int .i64 v.d]) (.agg #[.int .i64 u.a, .int .i64 u.b, .int .i64 u.c, .int .i64 u.d])).run Try.prog w = .ok (decide (v = u)) w := by
  rw [eq4, eq4_V]
/-- the row's cells that join looks at -/
def JC (w : World) (pb g n c k : Nat) (s : V) : Prop := w.cell? ⟨pb, 4, none⟩ = some (.slice (some ⟨g, 0, none⟩) n c) ∧ w.cell? ⟨g, k * 5 + 1, none⟩ = some (.int .i64 s.a) ∧ w.cell? ⟨g, k * 5 + 1 + 1, none⟩ = some (.int .i64 s.b) ∧ w.cell? ⟨g, k * 5 + 1 + 2, none⟩ = some (.int .i64 s.c) ∧ w.cell? ⟨g, k * 5 + 1 + 3, none⟩ = some (.int .i64 s.d)
set_option maxHeartbeats 2000000 in
theorem join_raw (w : World) (pb g n c k : Nat) (s u : V) (bt : Bool) (hk : k < n) (hn : n ≤ 60000) (hq : ∀ w, (Op.equalIn 10000 23 (.agg #[.int .i64 s.a, .int .i64 s.b, .int .i64 s.c, .int .i64 s.d]) (.agg #[.int .i64 u.a, .int .i64 u.b, .int .i64 u.c, .int .i64 u.d])).run Try.prog w = .ok bt w) (z : JC w pb g n c k s) (Q : World → Prop)
    (H29 : Hid (Calls Try.prog 29 #[.pointer (some ⟨pb, 0, none⟩), .int .i64 k] w.drew fun e w' => e = .returned (.agg #[.int .i64 u.a, .int .i64 u.b, .int .i64 u.c, .int .i64 u.d]) ∧ (w'.cell? ⟨pb, 4, none⟩ = some (.slice (some ⟨g, 0, none⟩) n c) ∧ w'.cell? ⟨g, k * 5 + 1, none⟩ = some (.int .i64 s.a) ∧ w'.cell? ⟨g, k * 5 + 1 + 1, none⟩ = some (.int .i64 s.b) ∧ w'.cell? ⟨g, k * 5 + 1 + 2, none⟩ = some (.int .i64 s.c) ∧ w'.cell? ⟨g, k * 5 + 1 + 3, none⟩ = some (.int .i64 s.d)) ∧
      Hid (if bt = true then Calls Try.prog 42 #[.slice (some ⟨g, 0, none⟩) n c, .int .i64 k, .int .i64 ((k : Int) + 1)] w' fun e w2 => ∃ (pa : Option Addr) (n' c' : Nat), e = .returned (.slice pa n' c') ∧ (w2.cell? ⟨pb, 4, none⟩ = some (.slice (some ⟨g, 0, none⟩) n c) ∧ w2.frozen? ⟨pb, 4, none⟩ = false) ∧ Hid (Q (w2.setCell ⟨pb, 4, none⟩ (.slice pa n' c'))) else Q w'))) :
    Calls Try.prog 37 #[.pointer (some ⟨pb, 0, none⟩), .int .i64 k] w fun e w' => e = .returned (.tuple #[]) ∧ Q w' := by
  have hk1 : (0 : Int) ≤ (k : Int) := by omega
  have hk2 : (k : Int) < (n : Int) := by omega
  have zz : w.cell? ⟨pb, 4, none⟩ = some (.slice (some ⟨g, 0, none⟩) n c) ∧ w.cell? ⟨g, k * 5 + 1, none⟩ = some (.int .i64 s.a) ∧ w.cell? ⟨g, k * 5 + 1 + 1, none⟩ = some (.int .i64 s.b) ∧ w.cell? ⟨g, k * 5 + 1 + 2, none⟩ = some (.int .i64 s.c) ∧ w.cell? ⟨g, k * 5 + 1 + 3, none⟩ = some (.int .i64 s.d) := z
  clear z
  go_enter Try.func37, Try.ntmps37
  go_wp2_with fail
  go_region_held3 (fun w' : World => w'.cell? ⟨pb, 4, none⟩ = some (.slice (some ⟨g, 0, none⟩) n c) ∧ w'.cell? ⟨g, k * 5 + 1, none⟩ = some (.int .i64 s.a) ∧ w'.cell? ⟨g, k * 5 + 1 + 1, none⟩ = some (.int .i64 s.b) ∧ w'.cell? ⟨g, k * 5 + 1 + 2, none⟩ = some (.int .i64 s.c) ∧ w'.cell? ⟨g, k * 5 + 1 + 3, none⟩ = some (.int .i64 s.d)) (first | (with_reducible assumption) | (with_reducible exact z3) | (with_reducible exact zz) | (exact zz) | go_keep) (first | (go_at_call 29; refine H29.out.mono ?_; rintro e w3 ⟨rfl, z3, h3⟩))
  all_goals clear H29 zz
  all_goals obtain ⟨z4, -⟩ := z3
  all_goals cases bt
  all_goals first
    | (have HQ : Hid (Q w3) := by have := h3.out; rwa [if_neg (by simp)] at this
       clear h3
       go_wp2_with fail
       go_end0
       exact ⟨rfl, HQ.out⟩)
    | (have H42 : Hid (Calls Try.prog 42 #[.slice (some ⟨g, 0, none⟩) n c, .int .i64 k, .int .i64 ((k : Int) + 1)] w3 fun e w2 => ∃ (pa : Option Addr) (n' c' : Nat), e = .returned (.slice pa n' c') ∧ (w2.cell? ⟨pb, 4, none⟩ = some (.slice (some ⟨g, 0, none⟩) n c) ∧ w2.frozen? ⟨pb, 4, none⟩ = false) ∧ Hid (Q (w2.setCell ⟨pb, 4, none⟩ (.slice pa n' c')))) := by have := h3.out; rwa [if_pos rfl] at this
       clear h3
       go_wp2_with (go_at_call 42; refine H42.out.mono ?_; rintro e w4 ⟨pa, n', c', rfl, ⟨t4, tf4⟩, h4⟩)
       go_end0
       exact ⟨rfl, h4.out⟩)
structure JnR (w w' : World) (pb : Nat) (S S' : PS) (k : Nat) : Prop where
  m : Mem w' pb S'
  c : S'.C = S.C
  n : S'.n = S.n
  l : S'.l = jnS S.C S.l k
  g : Chg pb S S' w w'
theorem join_any {w : World} {pb : Nat} {S : PS} (h : Mem w pb S) (hn : S.l.length ≤ 60000) {k : Nat} (hk : k < S.l.length) :
    Calls Try.prog 37 #[.pointer (some ⟨pb, 0, none⟩), .int .i64 k] w fun e w' => e = .returned (.tuple #[]) ∧ ∃ S', JnR w w' pb S S' k := by
  obtain ⟨g, c, e0⟩ := h.rw.row (by omega)
  have hs := List.getElem?_eq_getElem hk
  have cell : ∀ w', Below w.heap.size w w' → JC w' pb g S.l.length c k S.l[k].fr := fun w' b => by
    have h1 := h.below b
    have hR := h1.rw
    have c4 := h1.cells.2.2.2.2.1
    rw [e0] at hR c4
    exact ⟨c4, (hR.cells hs).2⟩
  refine join_raw w pb g S.l.length c k S.l[k].fr (pv S.C S.l k) (decide (S.l[k].fr = pv S.C S.l k)) hk hn (eqV _ _) (cell w (Below.refl _ _)) (fun w' => ∃ S', JnR w w' pb S S' k) ?_
  have hB : Below w.heap.size w w.drew := (Below.refl _ w).drew
  refine (free_any (h.below hB) hn (Nat.le_of_lt hk)).mono ?_
  rintro e w' ⟨rfl, b1⟩
  have y1 : Below w.heap.size w w' := hB.trans b1
  have h1 := h.below y1
  refine ⟨rfl, cell w' y1, ?_⟩
  show if _ then _ else _
  by_cases he : S.l[k].fr = pv S.C S.l k
  · rw [if_pos (decide_eq_true he)]
    have hd := del_any w' S.lv k S.l h1.rw hk
    rw [e0] at hd
    refine hd.mono ?_
    rintro e w2 ⟨v', rfl, k1⟩
    rw [← e0] at k1
    have k2 := Chg.ins h y1 k1
    obtain ⟨pa, ca, ev⟩ := k1.r.shape
    have h5 : w2.heap[pb]? = some (.cells #[.int .i64 S.C.a, .int .i64 S.C.b, .int .i64 S.C.c, .int .i64 S.C.d, S.lv, .int .i64 S.n] 58 (0, 0)) := (k1.k.block pb (h1.lt pb (.inl rfl)) (fun q => h.ne q)).trans h1.hp
    subst ev
    exact ⟨pa, _, ca, rfl, ⟨by rw [cell_of h5, ← e0]; rfl, fz h5 _⟩, S.wl _ _, k2.1, rfl, rfl, (jn_yes hs he).symm, k2.2⟩
  · rw [if_neg (by simpa using he)]
    exact ⟨S, h1, rfl, rfl, (jn_no hs he).symm, Chg.of_below y1⟩
theorem sub_V (s v : V) (w : World) (hs : s.ok = true) (hv : v.ok = true) (hl : v.le s) :
    Calls Try.prog 36 #[.agg #[.int .i64 s.a, .int .i64 s.b, .int .i64 s.c, .int .i64 s.d], .agg #[.int .i64 v.a, .int .i64 v.b, .int .i64 v.c, .int .i64 v.d]] w fun r w' => r = .returned (.tuple #[.agg #[.int .i64 (s.sub v).a, .int .i64 (s.sub v).b, .int .i64 (s.sub v).c, .int .i64 (s.sub v).d], .int .i64 0]) ∧ Below w.heap.size w w' := by
  have o1 := okV hs
  have o2 := okV hv
  have := sub_at s.a s.b s.c s.d v.a v.b v.c v.d (s.sub v).a (s.sub v).b (s.sub v).c (s.sub v).d w (by simp only [allOk, List.all_cons, List.all_nil, Bool.and_true]; rw [show V.ok ⟨s.a, s.b, s.c, s.d⟩ = true from hs, show V.ok ⟨v.a, v.b, v.c, v.d⟩ = true from hv]; rfl) (wrap_ok (by omega) (by omega)) (wrap_ok (by omega) (by omega)) (wrap_ok (by omega) (by omega)) (wrap_ok (by omega) (by omega))
  rw [ft_le, if_pos (decide_eq_true hl)] at this
  exact this
end Go.Proofs.Ytkfpbpkadkhhnaa
