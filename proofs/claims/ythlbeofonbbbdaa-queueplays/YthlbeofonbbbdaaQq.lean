/-
  Push on any queue.
-/
import Derived.Test.YthlbeofonbbbdaaQp
namespace Go.Proofs.Ythlbeofonbbbdaa
open Go.RowKit Go.Maps Go.WideMaps

theorem QAt.more {w : World} {ow : Nat → Option (List UInt8)} {pb N N' : Nat} {mw mh : Option Nat} {l : List Hd} {q : List Hq} (h : QAt w ow pb mw mh l q N) (hN : N ≤ N') : QAt w ow pb mw mh l q N' :=
  ⟨h.W, ⟨h.H.hm, fun x hx => ⟨(h.H.hp x hx).1, Nat.le_trans (h.H.hp x hx).2 hN⟩, h.H.srt, h.H.ct, h.H.hu, h.H.has, h.H.cnt, h.H.ne, h.H.oh, h.H.len⟩, h.nn, h.ns, h.oo⟩
theorem Que.more {w : World} {S : Nat → Prop} {pb N N' : Nat} {D : List J} (h : Que w S pb D N) (hN : N ≤ N') : Que w S pb D N' := by
  obtain ⟨⟨ow, mw, mh, l, q, h1, h2⟩, h5⟩ := h
  exact ⟨⟨ow, mw, mh, l, q, h1.more hN, h2⟩, h5⟩
/-- a tenant that has a heap has a waiter -/
theorem QAt.few {w : World} {ow : Nat → Option (List UInt8)} {pb N : Nat} {mw mh : Option Nat} {l : List Hd} {q : List Hq} (h : QAt w ow pb mw mh l q N) : q.length ≤ 101 := by
  have h1 : (q.map Hq.nm).Nodup := by
    refine List.pairwise_map.2 (List.Pairwise.imp_of_mem (fun {a b} _ _ hab e => ?_) h.H.srt)
    rw [e] at hab
    exact bb_asym hab hab
  have h2 := nd_len h1 (l' := l.map fun a => a.j.tn) fun y hy => by
    obtain ⟨z, hz, rfl⟩ := List.mem_map.1 hy
    have c1 := h.H.cnt z hz
    have c2 := h.H.ne z hz
    cases hf : l.filter (fun a => a.j.tn == z.nm) with
    | nil => rw [hf] at c1; exact absurd c1 c2
    | cons a r =>
      have := List.mem_filter.1 (show a ∈ l.filter (fun a => a.j.tn == z.nm) by rw [hf]; exact List.mem_cons_self ..)
      exact List.mem_map.2 ⟨a, this.1, by simpa using this.2⟩
  have h3 := jobs_len h.W.nj h.W.ok
  simp only [List.length_map] at h2
  omega
set_option maxHeartbeats 1000000 in
set_option maxRecDepth 100000 in
/-- a job that waits -/
theorem push_has (w : World) (pb a : Nat) (j p : Int) (s : ByteArray) (h1 : ¬ j < 1) (h2 : ¬ 100 < j) (h3 : ¬ p < 0) (h4 : ¬ 100 < p) (H29 : Hid (∀ w1, Below w.heap.size w w1 → Calls Try.prog 29 #[.pointer (some ⟨pb, 0, none⟩), .int .i64 j] w1 fun e w' => e = .returned (.pointer (some ⟨a, 0, none⟩)) ∧ w' = w1)) :
    Calls Try.prog 12 #[.pointer (some ⟨pb, 0, none⟩), .agg #[.int .i64 j, .string s, .int .i64 p]] w fun e w' => e = .returned (.int .i64 5) ∧ Below w.heap.size w w' := by
  have B0 : Below w.heap.size w (w.alloc (.cells #[.int .i64 j, .string s, .int .i64 p] 32)) := (Below.refl _ w).alloc (Nat.le_refl _) _
  have X29 := H29.out _ B0
  clear H29
  go_enter Try.func12, Try.ntmps12
  go_wp2_with (go_at_call 29; refine X29.mono ?_; rintro e w1 ⟨rfl, h1⟩; obtain rfl := h1.symm)
  go_ret
  exact ⟨rfl, B0⟩
/-- behind a call that changes a queue -/
def PuR (w w' : World) (S : Nat → Prop) (pb : Nat) (D : List J) (N : Nat) : Prop := ∃ S', Que w' S' pb D N ∧ Kp S w w' ∧ ∀ k, S' k → S k ∨ w.heap.size ≤ k
theorem PuR.below {w V w' : World} {S : Nat → Prop} {pb N : Nat} {D : List J} (h : PuR V w' S pb D N) (b : Below w.heap.size w V) : PuR w w' S pb D N := by
  obtain ⟨S', h1, h2, h3⟩ := h
  exact ⟨S', h1, (Kp.of_below b).trans h2 fun _ _ e => e, fun k hk => (h3 k hk).imp id fun q => Nat.le_trans b.size q⟩
theorem add_any {w : World} {S : Nat → Prop} {pb N : Nat} {D : List J} (h : Que w S pb D N) (x : J) (hx : x.ok = true) (hz : x.tn.length ≤ 281474976710656) (hf : fJ x.job D = none) (hN : N < 1048576) :
    Calls Try.prog 30 #[.pointer (some ⟨pb, 0, none⟩), .agg #[.int .i64 x.job, .string ⟨⟨x.tn⟩⟩, .int .i64 x.pr]] w fun e w' => e = .returned (.tuple #[]) ∧ PuR w w' S pb (iJ x D) (N + 1) := by
  obtain ⟨⟨ow, mw, mh, l, q, h1, h2, h3, h4⟩, h5⟩ := h
  have hnoD := fJ_none hf
  have hno : ∀ a ∈ l, a.j.job ≠ x.job := fun a ha => hnoD _ (h2.mem_iff.1 (List.mem_map.2 ⟨a, ha, rfl⟩))
  have out : ∀ w', AddR w w' pb mw mh l q N x → PuR w w' S pb (iJ x D) (N + 1) := by
    rintro w' ⟨ow', mw', mh', l', q', a1, a2, a3, a4⟩
    exact ⟨Owq pb mw' mh' l' q', ⟨⟨ow', mw', mh', l', q', a1, a2.trans ((h2.cons x).trans (iJ_perm x D).symm), srt_iJ h3 hnoD, fun k hk => hk⟩, fun k hk => a1.lt hk⟩, a3.mono fun k _ e => h4 k e, fun k hk => (a4 k hk).imp (h4 k) id⟩
  cases mw with
  | none =>
    have hl : l = [] := h1.W.wm
    have hmh := h1.nn rfl
    subst hl hmh
    have hD : D = [] := List.Perm.eq_nil h2.symm
    subst hD
    refine (first_any w pb x ⟨⟨x.tn⟩⟩ rfl hz hx h1.W.cell).mono fun e w' ⟨he, S', k1, k2, k3⟩ => ⟨he, S', k1.more (by omega), k2.mono fun k _ e => ?_, fun k hk => (k3 k hk).imp (fun e => ?_) id⟩
    · rw [show k = pb from e]; exact h4 pb (.inl (.inl rfl))
    · rw [e]; exact h4 pb (.inl (.inl rfl))
  | some m =>
    obtain ⟨m2, rfl, hne⟩ := h1.ns m rfl
    cases hq : fndN Hq.nm x.tn q with
    | none => exact (add_B h1 hne hx hz hno hq (by have := h1.few; omega)).mono fun e w' ⟨he, hr⟩ => ⟨he, out w' hr⟩
    | some y =>
      obtain ⟨hy, hyn⟩ := fndN_some hq
      exact (add_A h1 hne hx hz hno hy hyn hN).mono fun e w' ⟨he, hr⟩ => ⟨he, out w' hr⟩
theorem push_any {w : World} {S : Nat → Prop} {pb N : Nat} {D : List J} (h : Que w S pb D N) (x : J) (hz : x.tn.length ≤ 281474976710656) (hN : N < 1048576) :
    Calls Try.prog 12 #[.pointer (some ⟨pb, 0, none⟩), .agg #[.int .i64 x.job, .string ⟨⟨x.tn⟩⟩, .int .i64 x.pr]] w fun e w' => e = .returned (.int .i64 (pushD D x).1) ∧ Hid (PuR w w' S pb (pushD D x).2 (N + 1)) := by
  have same : ∀ w', Below w.heap.size w w' → PuR w w' S pb D (N + 1) := fun w' b => ⟨S, (h.keepB b).more (by omega), Kp.of_below b, fun k hk => .inl hk⟩
  unfold pushD
  cases hx : x.ok with
  | false => exact (push_bad w pb x ⟨⟨x.tn⟩⟩ hx).mono fun e w' ⟨he, hb⟩ => ⟨he, same w' hb⟩
  | true =>
    obtain ⟨k1, k2, k3, k4⟩ := ok_pr hx
    obtain ⟨⟨ow, mw, mh, l, q, h1, h2, h3, h4⟩, h5⟩ := id h
    have hfd : ∀ w1, Below w.heap.size w w1 → Calls Try.prog 29 #[.pointer (some ⟨pb, 0, none⟩), .int .i64 x.job] w1 fun e w' => e = .returned (optp (aJ l x.job)) ∧ w' = w1 := fun w1 b => find_Q (h1.W.below b) x.job (wf_ok hx)
    have e1 : fJ x.job D = (l.find? fun a => decide (a.j.job = x.job)).map Hd.j := by rw [← fJ_perm h1.W.nj h2, fJ_at]
    unfold aJ at hfd
    cases hq : l.find? fun a => decide (a.j.job = x.job) with
    | none =>
      rw [hq] at hfd e1
      simp only [Option.map_none] at e1
      rw [e1]
      exact push_raw w pb x.job x.pr ⟨⟨x.tn⟩⟩ (fun w' => PuR w w' S pb (iJ x D) (N + 1)) (by omega) (by omega) (by omega) (by omega) hfd fun w1 b => (add_any (h.keepB b) x hx hz e1 hN).mono fun e w' ⟨he, hr⟩ => ⟨he, hr.below b⟩
    | some a =>
      rw [hq] at hfd e1
      simp only [Option.map_some] at e1
      rw [e1]
      exact (push_has w pb a.b x.job x.pr ⟨⟨x.tn⟩⟩ (by omega) (by omega) (by omega) (by omega) hfd).mono fun e w' ⟨he, hb⟩ => ⟨he, same w' hb⟩
end Go.Proofs.Ythlbeofonbbbdaa
