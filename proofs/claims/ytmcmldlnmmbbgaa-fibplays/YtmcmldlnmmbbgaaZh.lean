/-
  The reference's Meld.
-/
import Derived.Test.YtmcmldlnmmbbgaaZg
import Derived.Laws.OwnMore
namespace Go.Proofs.Ytmcmldlnmmbbgaa
open Go.RowKit Go.Maps

theorem step_append_run {P : Program} (w : World) {ops : Array Oper} {o : Oper} {a : Act} {K : Act → World → Prop} {Q : Exit → Act → World → Prop} {E : Prop} (hgd : o.guard = none) (s x : Operand) (t : TypeId)
    (ho : o.op = .call { callee := .builtin .append, args := #[s, x], argTypes := #[t, t] }) (v u : Value) (hs : a.eval s = v) (hx : a.eval x = u) (N : Nat) (R : Option Addr → Nat → World → Prop)
    (H : ∀ ty, ∃ q c w', (Builtin.append_ #[t, t] ty #[v, u]).run P w = .ok (.slice q N c) w' ∧ R q c w')
    (h : ∀ q c w', R q c w' → K (a.put o.dst (.slice q N c)) w') :
    if Region.wanted o (yielded ops a.tmps) = true then Oper.wp P o a w K Q else E := by
  have hw : Region.wanted o (yielded ops a.tmps) = true := by simp [Region.wanted, hgd]
  rw [if_pos hw]
  obtain ⟨q, c, w', hr, h2⟩ := H o.type
  unfold Oper.wp execOp
  simp only [ho, resolve, invoke, builtin, Sem.run_bind, Sem.run_pure, Result.andThen_ok, List.map_toArray, List.map_cons, List.map_nil, hs, hx, hr]
  exact h q c w' h2

theorem rflat_app (l lo : List RE) : rflat (l ++ lo) = rflat l ++ rflat lo := List.flatMap_append
theorem rflat_one (l : List RE) : ∀ u ∈ rflat l, u.oneCell' = true := by
  intro u hu
  unfold rflat at hu
  obtain ⟨e, _, he⟩ := List.mem_flatMap.1 hu
  simp only [RE.cs, List.mem_cons, List.not_mem_nil, or_false] at he
  rcases he with rfl | rfl | rfl | rfl <;> rfl
section
variable {w w' W : World} {rb ro : Nat} {v v' vo : Value} {l lo : List RE}
theorem Rf.kp {Q : Nat → Prop} (h : Rf w rb v l) (k : Kp Q w w') (h1 : ¬ Q rb) (h2 : ∀ j, v.ownBlock = some j → ¬ Q j) : Rf w' rb v l :=
  ⟨(k.block rb h.blk h1).trans h.b, ownsKeep h.r fun g hg => k.block g (h.lt hg) (h2 g hg)⟩
structure Rm (w w' : World) (rb ro : Nat) (v v' : Value) (l lo : List RE) : Prop where
  r : Rf w' rb v' (l ++ lo)
  o : Rf w' ro (.slice none 0 0) []
  kp : Kp (fun j => j = rb ∨ j = ro ∨ v.ownBlock = some j) w w'
  lo : ∀ j, v'.ownBlock = some j → v.ownBlock = some j ∨ w.heap.size ≤ j
/-- two of the reference's heaps apart -/
structure Rap (rb ro : Nat) (v vo : Value) : Prop where
  n : rb ≠ ro
  a : v.ownBlock ≠ some ro
  b : vo.ownBlock ≠ some rb
  c : ∀ j, v.ownBlock = some j → vo.ownBlock ≠ some j
/-- behind the append -/
structure Rp (W w4 : World) (rb ro : Nat) (v v' vo : Value) (l lo : List RE) : Prop where
  o : w4.ownsRow 0 81 4 v' (l.length + lo.length) (rflat l ++ rflat lo)
  kp : Kp (fun j => v.ownBlock = some j) W w4
  lo : ∀ j, v'.ownBlock = some j → v.ownBlock = some j ∨ W.heap.size ≤ j
theorem Rp.done (p : Rp W w' rb ro v v' vo l lo) (h : Rf W rb v l) (ho : Rf W ro vo lo) (hap : Rap rb ro v vo) (b : Below w.heap.size w W) : Rm w ((w'.setCell ⟨rb, 0, none⟩ v').setCell ⟨ro, 0, none⟩ (.slice none 0 0)) rb ro v v' l lo := by
  have b1 : w'.heap[rb]? = some (.cells #[v] 30 (0, 0)) := (p.kp.block rb h.blk h.own).trans h.b
  have b2 : w'.heap[ro]? = some (.cells #[vo] 30 (0, 0)) := (p.kp.block ro ho.blk hap.a).trans ho.b
  have n1 : v'.ownBlock ≠ some rb := fun q => by
    rcases p.lo rb q with q | q
    · exact h.own q
    · have := h.blk; omega
  have n2 : v'.ownBlock ≠ some ro := fun q => by
    rcases p.lo ro q with q | q
    · exact hap.a q
    · have := ho.blk; omega
  refine ⟨⟨?_, ?_⟩, ⟨?_, World.ownsRow_nil _ _ _ _⟩, ?_, fun j q => ?_⟩
  · rw [Below.heap_setCell _ _ _ _ (by exact hap.n)]
    exact setB b1 _
  · rw [List.length_append, rflat_app]
    refine ownsKeep p.o fun g hg => ?_
    rw [Below.heap_setCell _ _ _ _ (fun e => n2 (by rw [hg]; exact congrArg some e)), Below.heap_setCell _ _ _ _ (fun e => n1 (by rw [hg]; exact congrArg some e))]
  · have b3 : (w'.setCell ⟨rb, 0, none⟩ v').heap[ro]? = some (.cells #[vo] 30 (0, 0)) := (Below.heap_setCell _ _ _ _ (by exact hap.n.symm)).trans b2
    exact setB b3 _
  · have K0 : Kp (fun j => j = rb ∨ j = ro ∨ v.ownBlock = some j) w W := Kp.of_below b
    exact ((K0.trans p.kp fun _ _ h => .inr (.inr h)).trans (Kp.of_set (S := (· = rb)) _ ⟨rb, 0, none⟩ _ rfl) fun _ _ h => .inl h).trans (Kp.of_set (S := (· = ro)) _ ⟨ro, 0, none⟩ _ rfl) fun _ _ h => .inr (.inl h)
  · rcases p.lo j q with q | q
    · exact .inl q
    · exact .inr (Nat.le_trans b.size q)
theorem append_RR (h : Rf W rb v l) (ho : Rf W ro vo lo) (hn : l.length + lo.length ≤ 1048576) (ty : TypeId) : ∃ q c w4, (Builtin.append_ #[28, 28] ty #[v, vo]).run Try.prog W = .ok (.slice q (l.length + lo.length) c) w4 ∧ Rp W w4 rb ro v (.slice q (l.length + lo.length) c) vo l lo := by
  obtain ⟨i0, hi, hz0, hz1, hz2⟩ := info_parts info81
  rcases ho.r.2 with ⟨rfl, h0⟩ | ⟨g, cap, cur, rfl, _⟩
  · have e : lo = [] := List.eq_nil_of_length_eq_zero h0
    subst e
    obtain ⟨a, c, rfl⟩ := h.shape
    refine ⟨a, c, W, run_append_owned_none (P := Try.prog) W 0 28 ty 81 i0 4 Try.underlying28 hi _ _ _ h.r, ⟨?_, Kp.of_below (Below.refl _ W), fun j q => .inl q⟩⟩
    have : rflat l ++ rflat [] = rflat l := List.append_nil _
    rw [this]
    exact h.r
  · obtain ⟨v', w4, hr, h2, h3, _, h5⟩ := run_append_own_at (P := Try.prog) W 0 28 ty 81 i0 _ 4 32 Try.underlying28 hi hz0 hz1 hz2 rfl (by decide) v l.length (rflat l) h.r ⟨g, 0, none⟩ lo.length cap (rflat lo) (rflat_len lo) (World.ownsRow.cells ho.r (g := g) rfl) (rflat_one lo) (by unfold maxLen; omega) (by omega) (Nat.zero_le _)
    have sh : ∃ a c, v' = .slice a (l.length + lo.length) c := by
      rcases h2.2 with ⟨rfl, h0⟩ | ⟨g, cap, cur, rfl, _⟩
      · exact ⟨none, 0, by rw [h0]⟩
      · exact ⟨_, _, rfl⟩
    obtain ⟨a, c, rfl⟩ := sh
    refine ⟨a, c, w4, hr, h2, Kp.of_grown h3 fun j e => e, fun j q => ?_⟩
    rcases h5 with h5 | h5
    · exact .inl (h5 ▸ q)
    · rw [h5] at q
      have : W.heap.size = j := Option.some.inj q
      exact .inr (by omega)
end
set_option maxHeartbeats 2000000 in
set_option maxRecDepth 100000 in
theorem rmeld_raw (w : World) (rb ro : Nat) (l lo : List RE) (n m : Nat) (q qo : Option Addr) (c co : Nat) (hl : Hid (l.length = n)) (hlo : Hid (lo.length = m)) (hn : n + m ≤ 1048576) (h : Hid (Rf w rb (.slice q n c) l)) (ho : Hid (Rf w ro (.slice qo m co) lo)) (hap : Hid (Rap rb ro (.slice q n c) (.slice qo m co))) :
    Calls Try.prog 29 #[.pointer (some ⟨rb, 0, none⟩), .pointer (some ⟨ro, 0, none⟩)] w fun e w' => e = .returned (.tuple #[.int .i64 n, .int .i64 0]) ∧ ∃ v', Rm w w' rb ro (.slice q n c) v' l lo := by
  have HNN : Hid (n + m ≤ 1048576) := hn
  have e0 := c1 h.out.b
  have e1 := c1 ho.out.b
  have hd : decide ((1048576 : Int) < wrap64 ((n : Int) + (m : Int))) = false := decide_eq_false (by unfold wrap64; omega)
  clear hn
  go_enter Try.func29, Try.ntmps29
  go_upto_region 1 with fail
  go_quiet (fail)
  go_upto_region 4 with fail
  have HB : Hid (Below w.heap.size w (w.drewN nq)) := below_drewN (Below.refl _ w) nq
  generalize w.drewN nq = W at *
  have h1 : Hid (Rf W rb (.slice q n c) l) := h.out.keep HB.out
  have ho1 : Hid (Rf W ro (.slice qo m co) lo) := ho.out.keep HB.out
  clear e0 e1 h ho hd
  have e0 := c1 h1.out.b
  have e1 := c1 ho1.out.b
  have f0 := fz h1.out.b 0
  have HP : Hid (∀ ty, ∃ q1 c1 w', (Builtin.append_ #[28, 28] ty #[.slice q n c, .slice qo m co]).run Try.prog W.drew = .ok (.slice q1 (n + m) c1) w' ∧ (w'.heap[rb]? = some (.cells #[.slice q n c] 30 (0, 0)) ∧ w'.heap[ro]? = some (.cells #[.slice qo m co] 30 (0, 0)) ∧ Rm w ((w'.setCell ⟨rb, 0, none⟩ (.slice q1 (n + m) c1)).setCell ⟨ro, 0, none⟩ (.slice none 0 0)) rb ro (.slice q n c) (.slice q1 (n + m) c1) l lo)) := fun ty => by
    have BD : Below W.heap.size W W.drew := below_drewN (Below.refl _ W) 1
    have h2 := h1.out.keep BD
    have ho2 := ho1.out.keep BD
    obtain ⟨q1, c1, w4, hr, hp⟩ := append_RR h2 ho2 (by rw [hl.out, hlo.out]; exact HNN.out) ty
    rw [hl.out, hlo.out] at hr hp
    exact ⟨q1, c1, w4, hr, (hp.kp.block rb h2.blk h2.own).trans h2.b, (hp.kp.block ro ho2.blk hap.out.a).trans ho2.b, hp.done h2 ho2 hap.out (HB.out.trans (BD.mono HB.out.size))⟩
  clear HB h1 ho1
  go_cut [4] from 24 to 36 (fun s4 wx => ∃ q1 c1, wx.heap[ro]? = some (.cells #[.slice qo m co] 30 (0, 0)) ∧ Hid (Rm w (wx.setCell ⟨ro, 0, none⟩ (.slice none 0 0)) rb ro (.slice q n c) (.slice q1 (n + m) c1) l lo))
  case first =>
    go_region_law (refine step_append_run _ rfl (.tmp 28) (.tmp 32) 28 rfl (.slice q n c) (.slice qo m co) (by simp [Act.eval]) (by simp [Act.eval]) (n + m) _ HP.out ?_; intro q1 c1' w4 hw; obtain ⟨hw4, hw5, hpw⟩ := hw; have d0 := c1 hw4; have df := fz hw4 0; have HO : Hid (w4.heap[ro]? = some (.cells #[.slice qo m co] 30 (0, 0))) := hw5; have HW : Hid (Rm w ((w4.setCell ⟨rb, 0, none⟩ (.slice q1 (n + m) c1')).setCell ⟨ro, 0, none⟩ (.slice none 0 0)) rb ro (.slice q n c) (.slice q1 (n + m) c1') l lo) := hpw; clear hpw hw4 hw5)
    all_goals (go_wp2_with fail; go_meet)
    all_goals exact ⟨_, _, (Below.heap_setCell _ _ _ _ (by exact hap.out.n.symm)).trans HO.out, HW⟩
  case rest =>
    obtain ⟨q1, c1', HO, HW⟩ := hcut
    have g1 := c1 HO
    have g2 := fz HO 0
    go_wp2_with fail
    go_ret2
    exact ⟨rfl, _, HW.out⟩
end Go.Proofs.Ytmcmldlnmmbbgaa
