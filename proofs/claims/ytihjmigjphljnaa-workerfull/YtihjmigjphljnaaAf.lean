/-
  Register, whole; Beat.
-/
import Derived.Test.YtihjmigjphljnaaAe
namespace Go.Proofs.Ytihjmigjphljnaa
open Go.RowKit Go.Maps Go.WideMaps
open Tk

theorem inR_dec' {ep now : Int} : (decide (1 ≤ ep) && decide (ep ≤ 2147483647) && decide (0 ≤ now) && decide (now ≤ 1099511627776)) = true ↔ inR ep now := by
  unfold inR
  simp only [Bool.and_eq_true, decide_eq_true_eq]
  constructor
  · rintro ⟨⟨⟨a, b⟩, c⟩, d⟩; exact ⟨⟨a, b⟩, c, d⟩
  · rintro ⟨⟨a, b⟩, c, d⟩; exact ⟨⟨⟨a, b⟩, c⟩, d⟩
theorem Hd.tab {w w' : World} {tb : Nat} {S : HS} {mb : Option Nat} {D : List Nd} {R : List Al} {n : Nd} {X : Nat → Prop} (h : Hd w w' tb S mb D R n) (hX : ∀ k, Tf tb S mb k → X k) : ∃ X', Tab w' X' tb (put n D) ∧ Step X X' w w' := by
  obtain ⟨S', mb', R', h1, h2⟩ := h.t
  exact h1.within hX h2
theorem reg_any {w : World} {X : Nat → Prop} {tb : Nat} {D : List Nd} (h : Tab w X tb D) (s : ByteArray) (hs : s.size ≤ 281474976710656) (ep now : Int) (v : V) :
    Calls Try.prog 18 #[.pointer (some ⟨tb, 0, none⟩), .string s, .int .i64 ep, .agg #[.int .i64 v.a, .int .i64 v.b, .int .i64 v.c, .int .i64 v.d], .int .i64 now] w fun e w' => e = ansR (regR D s ep v now).1 ∧ Hid (∃ X', Tab w' X' tb (regR D s ep v now).2 ∧ Step X X' w w') := by
  have h0 := h
  obtain ⟨⟨S, mb, R, h1, hX⟩, hlt⟩ := h
  have stay : ∀ w', Below w.heap.size w w' → Hid (∃ X', Tab w' X' tb D ∧ Step X X' w w') := fun w' b => ⟨X, h0.keepB b, Step.of_below X b⟩
  unfold regR
  by_cases hf : (Txt.name s && v.ok) = true
  · rw [if_pos hf]
    rw [Bool.and_eq_true] at hf
    obtain ⟨hnm, hv⟩ := hf
    by_cases hr : inR ep now
    · rw [if_pos (inR_dec'.2 hr)]
      cases hf : fnd Nd.k s.data.toList D with
      | some a =>
        have hg : getN D s.data.toList = a := by unfold getN; rw [hf]; rfl
        by_cases hle : ep ≤ a.ep
        · simp only [if_pos hle]
          refine (reg_no w tb s hs ep now v hnm hv hr h1 a 14 true hg (by rw [hf]; rfl) (.inl ⟨rfl, hle, rfl⟩)).mono ?_
          rintro e w' ⟨rfl, b⟩
          exact ⟨rfl, stay _ b⟩
        · simp only [if_neg hle]
          refine (reg_put w tb s hs ep now v hnm hv hr h1 a true hg (by rw [hf]; rfl) (.inl ⟨rfl, by omega⟩)).mono ?_
          rintro e w' ⟨rfl, hd⟩
          exact ⟨rfl, hd.out.tab hX⟩
      | none =>
        have hg : getN D s.data.toList = Nd.z := by unfold getN; rw [hf]; rfl
        simp only
        by_cases h12 : 12 ≤ D.length
        · simp only [if_pos h12]
          refine (reg_no w tb s hs ep now v hnm hv hr h1 Nd.z 6 false hg (by rw [hf]; rfl) (.inr ⟨rfl, by have := h1.len; omega, rfl⟩)).mono ?_
          rintro e w' ⟨rfl, b⟩
          exact ⟨rfl, stay _ b⟩
        · simp only [if_neg h12]
          refine (reg_put w tb s hs ep now v hnm hv hr h1 Nd.z false hg (by rw [hf]; rfl) (.inr ⟨rfl, by omega⟩)).mono ?_
          rintro e w' ⟨rfl, hd⟩
          exact ⟨rfl, hd.out.tab hX⟩
    · rw [if_neg (fun q => hr (inR_dec'.1 q))]
      refine (reg_range w tb s hs ep now v hnm hv hr).mono ?_
      rintro e w' ⟨rfl, b⟩
      exact ⟨rfl, stay _ b⟩
  · rw [if_neg hf]
    refine (reg_form w tb s hs ep now v (Bool.eq_false_iff.2 hf)).mono ?_
    rintro e w' ⟨rfl, b⟩
    exact ⟨rfl, stay _ b⟩
/-! ### Beat -/
set_option maxHeartbeats 1000000 in
theorem beat_no (w : World) (p : Value) (s : ByteArray) (ep now : Int) (H : Hid (Calls Try.prog 21 #[p, .string s] w fun e w' => e = .returned (.tuple #[.agg #[.string ⟨#[]⟩, .int .i64 0, .int .i64 0, .int .i64 0, .int .i64 0, .int .i64 0, .int .i64 0, .bool false], .int .i64 3]) ∧ Hid (Below w.heap.size w w'))) : Calls Try.prog 19 #[p, .string s, .int .i64 ep, .int .i64 now] w fun e w' => e = .returned (.int .i64 3) ∧ Below w.heap.size w w' := by
  go_enter Try.func19, Try.ntmps19
  go_wp2_with (go_at_call 21; refine H.out.mono ?_; rintro e w2 ⟨rfl, h2⟩)
  go_ret
  exact ⟨rfl, h2.out.alloc h2.out.size _⟩
set_option maxHeartbeats 2000000 in
set_option maxRecDepth 100000 in
theorem beat_ref (w : World) (tb : Nat) (s : ByteArray) (ep now : Int) (a : Nd) (r : Int)
    (hx : (a.ep ≠ ep ∧ r = 14) ∨ (a.ep = ep ∧ a.lv = false ∧ r = 14) ∨ (a.ep = ep ∧ a.lv = true ∧ now < a.sn ∧ r = 2) ∨ (a.ep = ep ∧ a.lv = true ∧ a.sn ≤ now ∧ 1099511627776 < now ∧ r = 2))
    (H : Hid (Calls Try.prog 21 #[.pointer (some ⟨tb, 0, none⟩), .string s] w fun e w' => e = .returned (.tuple #[.agg #[.string a.nm, .int .i64 a.ep, .int .i64 a.v.a, .int .i64 a.v.b, .int .i64 a.v.c, .int .i64 a.v.d, .int .i64 a.sn, .bool a.lv], .int .i64 0]) ∧ Hid (Below w.heap.size w w'))) : Calls Try.prog 19 #[.pointer (some ⟨tb, 0, none⟩), .string s, .int .i64 ep, .int .i64 now] w fun e w' => e = .returned (.int .i64 r) ∧ Below w.heap.size w w' := by
  obtain ⟨an, ae, av, sn, al⟩ := a
  simp only at *
  go_enter Try.func19, Try.ntmps19
  go_upto_region 2 with (go_at_call 21; refine H.out.mono ?_; rintro e w2 ⟨rfl, h2⟩)
  have b3 : Hid (Below w.heap.size w (w2.alloc (.cells #[.string an, .int .i64 ae, .int .i64 av.a, .int .i64 av.b, .int .i64 av.c, .int .i64 av.d, .int .i64 sn, .bool al] 46))) := h2.out.alloc h2.out.size _
  have z1 : (w2.alloc (.cells #[.string an, .int .i64 ae, .int .i64 av.a, .int .i64 av.b, .int .i64 av.c, .int .i64 av.d, .int .i64 sn, .bool al] 46)).cell? ⟨w2.heap.size, 1, none⟩ = some (.int .i64 ae) := by rw [cell_of new0]; rfl
  have z6 : (w2.alloc (.cells #[.string an, .int .i64 ae, .int .i64 av.a, .int .i64 av.b, .int .i64 av.c, .int .i64 av.d, .int .i64 sn, .bool al] 46)).cell? ⟨w2.heap.size, 6, none⟩ = some (.int .i64 sn) := by rw [cell_of new0]; rfl
  have z7 : (w2.alloc (.cells #[.string an, .int .i64 ae, .int .i64 av.a, .int .i64 av.b, .int .i64 av.c, .int .i64 av.d, .int .i64 sn, .bool al] 46)).cell? ⟨w2.heap.size, 7, none⟩ = some (.bool al) := by rw [cell_of new0]; rfl
  clear H
  generalize hg : w2.heap.size = g at *
  clear hg h2
  generalize (w2.alloc (.cells #[.string an, .int .i64 ae, .int .i64 av.a, .int .i64 av.b, .int .i64 av.c, .int .i64 av.d, .int .i64 sn, .bool al] 46)) = W at *
  rcases hx with ⟨h1, rfl⟩ | ⟨rfl, rfl, rfl⟩ | ⟨rfl, rfl, h1, rfl⟩ | ⟨rfl, rfl, h1, h2, rfl⟩
  · have hb : (ep == ae) = false := by simpa using fun q => h1 (Eq.symm q)
    go_wp2_with fail
    go_ret
    exact ⟨rfl, b3.out⟩
  all_goals go_wp2_with fail
  all_goals go_ret
  all_goals exact ⟨rfl, b3.out⟩
set_option maxHeartbeats 2000000 in
set_option maxRecDepth 100000 in
theorem beat_yes (w : World) (tb : Nat) (s : ByteArray) (now : Int) (a : Nd) (hl : a.lv = true) (h1 : a.sn ≤ now) (h2 : now ≤ 1099511627776) {S : HS} {mb : Option Nat} {D : List Nd} {R : List Al} (hT : TbAt w tb S mb D R) (hd : a ∈ D)
    (H : Hid (Calls Try.prog 21 #[.pointer (some ⟨tb, 0, none⟩), .string s] w fun e w' => e = .returned (.tuple #[.agg #[.string a.nm, .int .i64 a.ep, .int .i64 a.v.a, .int .i64 a.v.b, .int .i64 a.v.c, .int .i64 a.v.d, .int .i64 a.sn, .bool a.lv], .int .i64 0]) ∧ Hid (Below w.heap.size w w'))) : Calls Try.prog 19 #[.pointer (some ⟨tb, 0, none⟩), .string s, .int .i64 a.ep, .int .i64 now] w fun e w' => e = .returned (.int .i64 0) ∧ Hid (Hd w w' tb S mb D R { a with sn := now }) := by
  have ok := hT.ok a hd
  have hf := fnd_of hT.srt hd
  have HP : Hid ((put ({ a with sn := now } : Nd) D).length ≤ 12) := by
    have h1 := put_length (n := { a with sn := now }) hT.srt
    rw [show ({ a with sn := now } : Nd).k = a.k from rfl, hf] at h1
    have := hT.len
    show _ ≤ _
    rw [h1]
    exact this
  have HO : Hid (({ a with sn := now } : Nd).ok) := ⟨ok.1, ok.2.1, ok.2.2.1, by have := ok.2.2.2.1; show (0 : Int) ≤ now; omega, h2⟩
  have HQ : Hid (∀ W, Below w.heap.size w W → Calls Try.prog 33 #[.pointer (some ⟨tb, 0, none⟩), .agg #[.string a.nm, .int .i64 a.ep, .int .i64 a.v.a, .int .i64 a.v.b, .int .i64 a.v.c, .int .i64 a.v.d, .int .i64 now, .bool a.lv]] W fun e w' => e = .returned (.tuple #[]) ∧ Hid (Hd W w' tb S mb D R { a with sn := now })) := fun W bw => hear_any (n := { a with sn := now }) (hT.keep fun k hk => bw.block k (hT.lt hk)) HO hl HP
  clear HO HP hT ok hf hd
  obtain ⟨an, ae, av, sn, al⟩ := a
  simp only at *
  subst hl
  go_enter Try.func19, Try.ntmps19
  go_upto_region 2 with (go_at_call 21; refine H.out.mono ?_; rintro e w2 ⟨rfl, h2⟩)
  have b3 : Hid (Below w.heap.size w (w2.alloc (.cells #[.string an, .int .i64 ae, .int .i64 av.a, .int .i64 av.b, .int .i64 av.c, .int .i64 av.d, .int .i64 sn, .bool true] 46))) := h2.out.alloc h2.out.size _
  have z : Hid ((w2.alloc (.cells #[.string an, .int .i64 ae, .int .i64 av.a, .int .i64 av.b, .int .i64 av.c, .int .i64 av.d, .int .i64 sn, .bool true] 46)).heap[w2.heap.size]? = some (.cells #[.string an, .int .i64 ae, .int .i64 av.a, .int .i64 av.b, .int .i64 av.c, .int .i64 av.d, .int .i64 sn, .bool true] 46 (0, 0))) := new0
  have hge := h2.out.size
  clear H
  generalize hg : w2.heap.size = g at *
  clear hg h2
  generalize (w2.alloc (.cells #[.string an, .int .i64 ae, .int .i64 av.a, .int .i64 av.b, .int .i64 av.c, .int .i64 av.d, .int .i64 sn, .bool true] 46)) = W at *
  have z1 : W.cell? ⟨g, 1, none⟩ = some (.int .i64 ae) := by rw [cell_of z.out]; rfl
  have z6 : W.cell? ⟨g, 6, none⟩ = some (.int .i64 sn) := by rw [cell_of z.out]; rfl
  have z7 : W.cell? ⟨g, 7, none⟩ = some (.bool true) := by rw [cell_of z.out]; rfl
  have f6 := fz z.out 6
  go_upto_region 9 with fail
  have y : Hid ((W.setCell ⟨g, 6, none⟩ (.int .i64 now)).heap[g]? = some (.cells #[.string an, .int .i64 ae, .int .i64 av.a, .int .i64 av.b, .int .i64 av.c, .int .i64 av.d, .int .i64 now, .bool true] 46 (0, 0))) := setB z.out _
  have b4 : Hid (Below w.heap.size w (W.setCell ⟨g, 6, none⟩ (.int .i64 now))) := b3.out.setCell hge _
  clear z1 z6 z7 f6 z b3
  generalize W.setCell ⟨g, 6, none⟩ (.int .i64 now) = W2 at *
  have z0 : W2.cell? ⟨g, 0, none⟩ = some (.string an) := by rw [cell_of y.out]; rfl
  have z1 : W2.cell? ⟨g, 1, none⟩ = some (.int .i64 ae) := by rw [cell_of y.out]; rfl
  have z2 : W2.cell? ⟨g, 2, none⟩ = some (.int .i64 av.a) := by rw [cell_of y.out]; rfl
  have z3 : W2.cell? ⟨g, 3, none⟩ = some (.int .i64 av.b) := by rw [cell_of y.out]; rfl
  have z4 : W2.cell? ⟨g, 4, none⟩ = some (.int .i64 av.c) := by rw [cell_of y.out]; rfl
  have z5 : W2.cell? ⟨g, 5, none⟩ = some (.int .i64 av.d) := by rw [cell_of y.out]; rfl
  have z6 : W2.cell? ⟨g, 6, none⟩ = some (.int .i64 now) := by rw [cell_of y.out]; rfl
  have z7 : W2.cell? ⟨g, 7, none⟩ = some (.bool true) := by rw [cell_of y.out]; rfl
  go_wp2_with (go_at_call 33; refine (HQ.out _ b4.out).mono ?_; rintro e w6 ⟨rfl, h6⟩)
  go_ret
  exact ⟨rfl, h6.out.from b4.out⟩
theorem beat_any {w : World} {X : Nat → Prop} {tb : Nat} {D : List Nd} (h : Tab w X tb D) (s : ByteArray) (hs : s.size ≤ 281474976710656) (ep now : Int) :
    Calls Try.prog 19 #[.pointer (some ⟨tb, 0, none⟩), .string s, .int .i64 ep, .int .i64 now] w fun e w' => e = .returned (.int .i64 (beatR D s.data.toList ep now).1) ∧ Hid (∃ X', Tab w' X' tb (beatR D s.data.toList ep now).2 ∧ Step X X' w w') := by
  have h0 := h
  obtain ⟨⟨S, mb, R, h1, hX⟩, hlt⟩ := h
  have stay : ∀ w', Below w.heap.size w w' → Hid (∃ X', Tab w' X' tb D ∧ Step X X' w w') := fun w' b => ⟨X, h0.keepB b, Step.of_below X b⟩
  have HG := get_at h1 s hs
  unfold getR at HG
  unfold beatR
  cases hf : fnd Nd.k s.data.toList D with
  | none =>
    rw [hf] at HG
    refine (beat_no w _ s ep now HG).mono ?_
    rintro e w' ⟨rfl, b⟩
    exact ⟨rfl, stay _ b⟩
  | some a =>
    rw [hf] at HG
    by_cases hp : (ep = a.ep ∧ a.lv = true) ∧ a.sn ≤ now ∧ now ≤ 1099511627776
    · obtain ⟨⟨rfl, hl⟩, i1, i2⟩ := hp
      simp only [hl, and_self, i1, i2, if_true]
      refine (beat_yes w tb s now a hl i1 i2 h1 (fnd_some hf).1 HG).mono ?_
      rintro e w' ⟨rfl, hd⟩
      have := hd.out.tab hX
      rw [hl] at this
      exact ⟨rfl, this⟩
    · have hx : ∃ r : Int, ((a.ep ≠ ep ∧ r = 14) ∨ (a.ep = ep ∧ a.lv = false ∧ r = 14) ∨ (a.ep = ep ∧ a.lv = true ∧ now < a.sn ∧ r = 2) ∨ (a.ep = ep ∧ a.lv = true ∧ a.sn ≤ now ∧ 1099511627776 < now ∧ r = 2)) ∧ (if ep = a.ep ∧ a.lv = true then (if a.sn ≤ now ∧ now ≤ 1099511627776 then ((0 : Int), put { a with sn := now } D) else (2, D)) else (14, D)) = (r, D) := by
        by_cases e1 : ep = a.ep
        · cases hl : a.lv with
          | false => exact ⟨14, .inr (.inl ⟨e1.symm, rfl, rfl⟩), by rw [if_neg (by simp)]⟩
          | true =>
            refine ⟨2, ?_, ?_⟩
            · by_cases e2 : now < a.sn
              · exact .inr (.inr (.inl ⟨e1.symm, rfl, e2, rfl⟩))
              · exact .inr (.inr (.inr ⟨e1.symm, rfl, by omega, by
                  by_cases e3 : now ≤ 1099511627776
                  · exact absurd ⟨⟨e1, hl⟩, by omega, e3⟩ hp
                  · omega, rfl⟩))
            · rw [if_pos ⟨e1, rfl⟩, if_neg fun q => hp ⟨⟨e1, hl⟩, q⟩]
        · exact ⟨14, .inl ⟨fun q => e1 q.symm, rfl⟩, by rw [if_neg fun q => e1 q.1]⟩
      obtain ⟨r, hx, e⟩ := hx
      simp only [e]
      refine (beat_ref w tb s ep now a r hx HG).mono ?_
      rintro e w' ⟨rfl, b⟩
      exact ⟨rfl, stay _ b⟩
theorem beat_nil (w : World) (s : ByteArray) (ep now : Int) : Calls Try.prog 19 #[.pointer none, .string s, .int .i64 ep, .int .i64 now] w fun e w' => e = .returned (.int .i64 3) ∧ Below w.heap.size w w' := beat_no w _ s ep now (get_none w s)
end Go.Proofs.Ytihjmigjphljnaa
