/-
  Fail: a job fails, with all that descend from it.
-/
import Derived.Test.YtodldfgoieikcaaMj
namespace Go.Proofs.Ytodldfgoieikcaa
open Go.RowKit Go.Maps

/-- open jobs that descend from i, by open ones -/
inductive Dsc (g : GS) (i : Nat) : Nat → Prop
  | base {j : Nat} : j < 101 → g.st j = 1 → j ≠ i → g.ps j i = true → Dsc g i j
  | step {j k : Nat} : Dsc g i k → j < 101 → g.st j = 1 → j ≠ i → g.ps j k = true → Dsc g i j
theorem Dsc.lt {g : GS} {i j : Nat} (h : Dsc g i j) : j < 101 := by cases h <;> assumption
theorem Dsc.op {g : GS} {i j : Nat} (h : Dsc g i j) : g.st j = 1 := by cases h <;> assumption
theorem Dsc.ne {g : GS} {i j : Nat} (h : Dsc g i j) : j ≠ i := by cases h <;> assumption
def GS.fails (g : GS) (i : Nat) (f : Nat → Bool) : GS := ⟨fun j => if j = i ∨ f j = true then 3 else g.st j, g.ps⟩
theorem fails_zero (g : GS) (i : Nat) : g.sett i 3 = g.fails i s0 := by
  unfold GS.sett GS.fails s0
  congr 1
  funext j
  simp
theorem fails_succ (g : GS) (i j : Nat) (f : Nat → Bool) : (g.fails i f).sett j 3 = g.fails i (sset f j true) := by
  unfold GS.sett GS.fails sset
  congr 1
  funext k
  by_cases e : k = j <;> simp [e]
theorem fails_open {g : GS} {i j : Nat} {f : Nat → Bool} : (g.fails i f).st j = 1 ↔ g.st j = 1 ∧ j ≠ i ∧ f j = false := by
  unfold GS.fails
  by_cases e : j = i
  · simp [e]
  · cases hf : f j <;> simp [e, hf]
/-- while the child c of the parent k is looked at -/
structure Fi (g : GS) (i : Nat) (f : Nat → Bool) (E : List Int) (k c : Nat) : Prop where
  a : ∀ x ∈ E, ∃ k : Nat, x = k ∧ k < 101 ∧ (k = i ∨ f k = true)
  b : ∀ j, f j = true → Dsc g i j
  c : ∀ m, m < 101 → (m = i ∨ f m = true) → (m : Int) ∈ E ∨ (m = k ∧ ∀ j, j < c → g.st j = 1 → j ≠ i → g.ps j m = true → f j = true) ∨ ∀ j, j < 101 → g.st j = 1 → j ≠ i → g.ps j m = true → f j = true
  k : k < 101 ∧ (k = i ∨ f k = true)
/-- while parents are looked at -/
structure Fo (g : GS) (i : Nat) (f : Nat → Bool) (E : List Int) : Prop where
  a : ∀ x ∈ E, ∃ k : Nat, x = k ∧ k < 101 ∧ (k = i ∨ f k = true)
  b : ∀ j, f j = true → Dsc g i j
  c : ∀ m, m < 101 → (m = i ∨ f m = true) → (m : Int) ∈ E ∨ ∀ j, j < 101 → g.st j = 1 → j ≠ i → g.ps j m = true → f j = true
theorem Fo.start (g : GS) (i : Nat) (hi : i < 101) : Fo g i s0 [(i : Int)] := by
  refine ⟨fun x hx => ?_, (fun j h => by cases h), fun m _ hm => ?_⟩
  · simp at hx; exact ⟨i, hx, hi, .inl rfl⟩
  · rcases hm with rfl | h
    · exact .inl (by simp)
    · cases h
theorem Fo.pop {g : GS} {i : Nat} {f : Nat → Bool} {E : List Int} {k : Nat} (h : Fo g i f (E ++ [(k : Int)])) : Fi g i f E k 0 := by
  refine ⟨fun x hx => h.a x (List.mem_append_left _ hx), h.b, fun m hm hq => ?_, ?_⟩
  · rcases h.c m hm hq with q | q
    · rcases List.mem_append.1 q with q | q
      · exact .inl q
      · simp at q
        exact .inr (.inl ⟨by omega, fun j hj => absurd hj (by omega)⟩)
    · exact .inr (.inr q)
  · obtain ⟨m, h1, h2, h3⟩ := h.a k (by simp)
    have : k = m := by omega
    rw [this]
    exact ⟨h2, h3⟩
theorem Fi.skip {g : GS} {i : Nat} {f : Nat → Bool} {E : List Int} {k c : Nat} (h : Fi g i f E k c) (hn : g.st c = 1 → c ≠ i → g.ps c k = true → f c = true) : Fi g i f E k (c + 1) := by
  refine ⟨h.a, h.b, fun m hm hq => ?_, h.k⟩
  rcases h.c m hm hq with q | ⟨rfl, q⟩ | q
  · exact .inl q
  · refine .inr (.inl ⟨rfl, fun j hj h1 h2 h3 => ?_⟩)
    by_cases e : j = c
    · subst e; exact hn h1 h2 h3
    · exact q j (by omega) h1 h2 h3
  · exact .inr (.inr q)
theorem Fi.push {g : GS} {i : Nat} {f : Nat → Bool} {E : List Int} {k c : Nat} (h : Fi g i f E k c) (hc : c < 101) (h1 : g.st c = 1) (h2 : c ≠ i) (h3 : g.ps c k = true) : Fi g i (sset f c true) (E ++ [(c : Int)]) k (c + 1) := by
  have hs : ∀ j, f j = true → sset f c true j = true := fun j hj => by unfold sset; split <;> simp_all
  have hcc : sset f c true c = true := by simp [sset]
  refine ⟨fun x hx => ?_, fun j hj => ?_, fun m hm hq => ?_, h.k.1, ?_⟩
  · rcases List.mem_append.1 hx with q | q
    · obtain ⟨m, r1, r2, r3⟩ := h.a x q
      exact ⟨m, r1, r2, r3.imp id (hs m)⟩
    · simp at q; exact ⟨c, q, hc, .inr hcc⟩
  · by_cases e : j = c
    · subst e
      rcases h.k.2 with e | e
      · rw [e] at h3; exact .base hc h1 h2 h3
      · exact .step (h.b k e) hc h1 h2 h3
    · exact h.b j (by simpa [sset, e] using hj)
  · by_cases e : m = c
    · exact .inl (List.mem_append_right _ (by simp [e]))
    · have hq' : m = i ∨ f m = true := hq.imp id fun q => by simpa [sset, e] using q
      rcases h.c m hm hq' with q | ⟨rfl, q⟩ | q
      · exact .inl (List.mem_append_left _ q)
      · refine .inr (.inl ⟨rfl, fun j hj r1 r2 r3 => ?_⟩)
        by_cases e2 : j = c
        · subst e2; exact hcc
        · exact hs j (q j (by omega) r1 r2 r3)
      · exact .inr (.inr fun j hj r1 r2 r3 => hs j (q j hj r1 r2 r3))
  · exact h.k.2.imp id (hs k)
theorem Fi.done {g : GS} {i : Nat} {f : Nat → Bool} {E : List Int} {k : Nat} (h : Fi g i f E k 101) : Fo g i f E := by
  refine ⟨h.a, h.b, fun m hm hq => ?_⟩
  rcases h.c m hm hq with q | ⟨rfl, q⟩ | q
  · exact .inl q
  · exact .inr q
  · exact .inr q
theorem Fo.all {g : GS} {i : Nat} {f : Nat → Bool} (hi : i < 101) (h : Fo g i f []) : ∀ j, f j = true ↔ Dsc g i j := by
  intro j
  refine ⟨h.b j, fun hd => ?_⟩
  induction hd with
  | base h1 h2 h3 h4 =>
    rcases h.c i hi (.inl rfl) with q | q
    · simp at q
    · exact q _ h1 h2 h3 h4
  | step h0 h1 h2 h3 h4 ih =>
    rcases h.c _ h0.lt (.inr ih) with q | q
    · simp at q
    · exact q _ h1 h2 h3 h4
/-- what lies in memory then -/
structure Fm (w wr : World) (gb : Nat) (g : GS) (i : Nat) (f : Nat → Bool) (v : Value) (E : List Int) : Prop where
  r : IRow (w.heap.size + 2) wr v E
  z : Sx wr w.heap.size s0
  x : Sx wr (w.heap.size + 1) f
  kp : Kp (fun k => k = gb) w wr
  gr : Gr wr gb (g.fails i f)
  h : w.heap.size + 2 ≤ wr.heap.size
set_option maxHeartbeats 4000000 in
set_option maxRecDepth 100000 in
theorem fb_any {w : World} {gb : Nat} {g : GS} {i : Nat} (h : Gr w gb (g.fails i s0)) (hi : i < 101) : Calls Try.prog 34 #[.pointer (some ⟨gb, 0, none⟩), .int .i64 i] w fun e w' => ∃ f : Nat → Bool, e = .returned (.agg (sA f)) ∧ Hid ((∀ j, f j = true ↔ Dsc g i j) ∧ Gr w' gb (g.fails i f) ∧ Kp (fun k => k = gb) w w') := by
  have HG : Hid (Gr w gb (g.fails i s0)) := h
  have hlt := h.lt
  clear h
  have hz := zero49
  have L0 : Hid (Fm w (((w.alloc (.cells (sA s0) 49)).alloc (.cells (sA s0) 49)).alloc (.cells #[.int .i64 i] 2)) gb g i s0 (.slice (some ⟨w.heap.size + 1 + 1, 0, none⟩) 1 1) [(i : Int)]) := by
    have hb : Below w.heap.size w (((w.alloc (.cells (sA s0) 49)).alloc (.cells (sA s0) 49)).alloc (.cells #[.int .i64 i] 2)) := by go_grown
    refine ⟨⟨rfl, .inr ⟨w.heap.size + 1 + 1, 1, #[.int .i64 i], rfl, by omega, ?_, by simp, by unfold maxLen; omega, rfl, rfl⟩⟩, ((sx_new w _ _ rfl).alloc _).alloc _, (sx_new _ _ _ (by simp)).alloc _, Kp.of_below hb, HG.out.grow hb, by simp⟩
    have := new0 (w := (w.alloc (.cells (sA s0) 49)).alloc (.cells (sA s0) 49)) (o := .cells #[.int .i64 i] 2 (0, 0))
    simpa using this
  go_enter Try.func34, Try.ntmps34
  go_upto_region 3 with fail
  generalize ((w.alloc (.cells (sA s0) 49)).alloc (.cells (sA s0) 49)).alloc (.cells #[.int .i64 i] 2) = W at *
  clear hz HG
  go_loopw [6] (fun t wr => ∃ (p : Option Addr) (n c : Nat) (f : Nat → Bool) (E : List Int), t = .slice p n c ∧ n ≤ 20000 ∧ Hid (n = E.length ∧ Fm w wr gb g i f (.slice p n c) E ∧ Fo g i f E ∧ n + 2 * cnt f ≤ 20000)) (fun t wr => (match t with | .slice _ n _ => n | _ => 0) + 2 * cntW wr (w.heap.size + 1))
  case atStart => exact ⟨_, 1, 1, s0, [(i : Int)], rfl, by omega, rfl, L0.out, Fo.start g i hi, by have := cnt_le s0; omega⟩
  case round =>
    clear L0
    obtain ⟨p, n, c, f, E, rfl, hn, HM⟩ := hrel
    have hM := HM.out.2.1
    by_cases hn0 : n = 0
    · have hn' : ¬ (0 : Int) < (n : Int) := by omega
      have hn2 : decide ((0 : Int) < (n : Int)) = false := decide_eq_false hn'
      have HE : Hid (∀ j, f j = true ↔ Dsc g i j) := by
        have e : E = [] := List.eq_nil_of_length_eq_zero (by have := HM.out.1; omega)
        have := HM.out.2.2.1
        rw [e] at this
        exact this.all hi
      have HS1 := hM.x
      have HS := hM.z
      have HS2 : Hid (Sx (wr.setRow w.heap.size (sA f)) w.heap.size f) := HS.setRow
      have hsz : (sA s0).size = (sA f).size := by rw [sA_size, sA_size]
      have HF : Hid (Gr (wr.setRow w.heap.size (sA f)) gb (g.fails i f) ∧ Kp (fun k => k = gb) w (wr.setRow w.heap.size (sA f))) := by
        have hk : Below w.heap.size wr (wr.setRow w.heap.size (sA f)) := below_setRow (Below.refl _ _) (Nat.le_refl _)
        refine ⟨hM.gr.below hk hlt, ⟨hk.os.trans hM.kp.os, hk.tape.trans hM.kp.tape, hk.output.trans hM.kp.output, Nat.le_trans hM.kp.size hk.size, fun k h1 h2 => (hk.block k h1).trans (hM.kp.block k h1 h2)⟩⟩
      clear hM HM hn0
      go_upto_region 14 with fail
      go_wp2_with (first
          | refine wpList_load_row rfl 49 _ rfl (w.heap.size + 1) rfl 49 (sA f) (0, 0) _ HS1 Try.underlying49 rfl (size49 _) ?_
          | refine wpList_store_row rfl 49 _ _ rfl w.heap.size (sA f) rfl rfl 49 (sA s0) HS (size49 _) hsz (sA_one _) ?_)
      refine bodyPost_ret (results_cell_row Try.results34 _ _ w.heap.size 49 (sA f) (0, 0) _ rfl HS2.out Try.underlying49 rfl (size49 _)) rfl ?_
      exact ⟨f, rfl, HE.out, HF.out⟩
    · obtain ⟨F, x, hF⟩ := list_last (E := E) (by have := HM.out.1; omega)
      obtain ⟨m, hm⟩ : ∃ m, n = m + 1 := ⟨n - 1, by omega⟩
      obtain ⟨gg, c', e0⟩ := hM.r.row (by have := HM.out.1; omega)
      injection e0 with e0 e1 e2
      clear e1 e2
      subst hF e0 hm
      have hmF : m = F.length := by have := HM.out.1; simp at this; exact this
      obtain ⟨k, rfl, hk9, _⟩ := HM.out.2.2.1.a x (by simp)
      have cx := hM.r.cell (i := m) (x := (k : Int)) (by rw [hmF]; simp)
      have hk' : (k : Int) < 101 := by omega
      have hm' : (m : Int) < (m : Int) + 1 := by omega
      have hm0 : (0 : Int) < (m : Int) + 1 := by omega
      have hpop := hM.r.pop
      have hcap : (m : Int) ≤ (c : Int) := by have := hM.r.cap; omega
      have hc0 : ¬ c = 0 := by have := hM.r.cap; omega
      obtain ⟨μ, hμ⟩ : ∃ μ, μ = (m + 1) + 2 * cntW wr (w.heap.size + 1) := ⟨_, rfl⟩
      have HN : Hid (m = F.length ∧ Fm w wr gb g i f (.slice (some ⟨gg, 0, none⟩) m c) F ∧ Fi g i f F k 0 ∧ m + 2 * cnt f + 1 ≤ μ ∧ μ ≤ 20000) := ⟨hmF, ⟨hpop, hM.z, hM.x, hM.kp, hM.gr, hM.h⟩, HM.out.2.2.1.pop, by rw [hμ, hM.x.cnt]; omega, by have := HM.out.2.2.2; rw [hμ, hM.x.cnt]; omega⟩
      clear hM HM hpop hmF
      go_upto_region 6 with fail
      clear cx hcap hc0 hm' hm0
      have Hμ : Hid (μ = (m + 1) + 2 * cntW wr (w.heap.size + 1)) := hμ
      clear hμ
      go_wp2_with fail
      go_loopw [6, 25] (fun t t25 wx => ∃ (p : Option Addr) (n c : Nat) (f : Nat → Bool) (E : List Int) (ch : Nat), t = .slice p n c ∧ t25 = .int .i64 ch ∧ ch ≤ 101 ∧ n ≤ 20000 ∧ Hid (n = E.length ∧ Fm w wx gb g i f (.slice p n c) E ∧ Fi g i f E k ch ∧ n + 2 * cnt f + 1 ≤ μ ∧ μ ≤ 20000)) (fun _ t25 _ => 101 - (intOf t25).toNat)
      case atStart => exact ⟨_, m, c, f, F, 0, rfl, rfl, by omega, by omega, HN.out⟩
      case round =>
        clear HN
        obtain ⟨p, n, c, f, E, ch, rfl, rfl, hch, hn, HM⟩ := hrel
        have hM := HM.out.2.1
        by_cases hc : ch < 101
        · have hc' : (ch : Int) < 101 := by omega
          have cs := hM.gr.s ch hc
          have cp := hM.gr.p ch k hc hk9
          have hps : (g.fails i f).ps ch k = g.ps ch k := rfl
          rw [hps] at cp
          clear hps
          by_cases ho : (g.fails i f).st ch = 1
          · have ho' : ((((g.fails i f).st ch : Nat) : Int) == 1) = true := by simp [ho]
            obtain ⟨o1, o2, o3⟩ := fails_open.1 ho
            cases hp : g.ps ch k
            · rw [hp] at cp
              have HK : Hid (n = E.length ∧ Fm w wr gb g i f (.slice p n c) E ∧ Fi g i f E k (ch + 1) ∧ n + 2 * cnt f + 1 ≤ μ ∧ μ ≤ 20000) := ⟨HM.out.1, hM, HM.out.2.2.1.skip fun _ _ q => (by rw [hp] at q; cases q), HM.out.2.2.2⟩
              clear HM hM ho o1 o2 o3
              go_wp2_with fail
              refine ⟨⟨_, n, c, f, E, ch + 1, rfl, by simp, by omega, by omega, HK.out⟩, ?_⟩
              simp [intOf]
              omega
            · rw [hp] at cp
              have fs := hM.gr.fz (ch * 102)
              have cx := hM.x.cell ch hc
              have fx := hM.x.fz ch
              have hne : gb ≠ w.heap.size + 1 := by omega
              have HW : Hid (Fm w ((wr.setCell ⟨gb, ch * 102, none⟩ (.int .u8 3)).setCell ⟨w.heap.size + 1, ch, none⟩ (.bool true)) gb g i (sset f ch true) (.slice p n c) E) := by
                have hg1 : Gr (wr.setCell ⟨gb, ch * 102, none⟩ (.int .u8 3)) gb ((g.fails i f).sett ch 3) := hM.gr.setst ch 3 hc
                rw [fails_succ] at hg1
                have hs : ((wr.setCell ⟨gb, ch * 102, none⟩ (.int .u8 3)).setCell ⟨w.heap.size + 1, ch, none⟩ (.bool true)).heap.size = wr.heap.size := by simp [World.setCell]
                refine ⟨hM.r.keep fun g' e => ?_, (hM.z.other _ _ (by show gb ≠ w.heap.size; omega)).other _ _ (by simp), (hM.x.other _ _ hne).set ch true, ?_, hg1.at (Below.heap_setCell _ _ _ _ hne), by rw [hs]; exact hM.h⟩
                · have := hM.r.ge e
                  exact (Below.heap_setCell _ _ _ _ (by show g' ≠ w.heap.size + 1; omega)).trans (Below.heap_setCell _ _ _ _ (by show g' ≠ gb; omega))
                · refine ⟨hM.kp.os, hM.kp.tape, hM.kp.output, by rw [hs]; exact hM.kp.size, fun b h1 h2 => ?_⟩
                  exact ((Below.heap_setCell _ _ _ _ (by show b ≠ w.heap.size + 1; omega)).trans (Below.heap_setCell _ _ _ _ h2)).trans (hM.kp.block b h1 h2)
              have HK : Hid (n = E.length ∧ Fi g i (sset f ch true) (E ++ [(ch : Int)]) k (ch + 1) ∧ cnt (sset f ch true) + 1 = cnt f ∧ n + 2 * cnt f + 1 ≤ μ ∧ μ ≤ 20000) := ⟨HM.out.1, HM.out.2.2.1.push hc o1 o2 hp, cnt_less hc o3, HM.out.2.2.2⟩
              clear HM hM ho o1 o2 o3
              go_upto_region 12 with fail
              generalize (wr.setCell ⟨gb, ch * 102, none⟩ (.int .u8 3)).setCell ⟨w.heap.size + 1, ch, none⟩ (.bool true) = W2 at *
              clear cs cp cx fx fs ho'
              have HO : Hid (IRow (w.heap.size + 2) (W2.alloc (.cells #[.int .i64 ch] 2)) (.slice p n c) E) := HW.out.r.below ((Below.refl _ _).alloc (Nat.le_refl _) _)
              have HV : Hid ((W2.alloc (.cells #[.int .i64 ch] 2)).cell? ⟨W2.heap.size, 0, none⟩ = some (.int .i64 ch)) := by show World.cell? _ _ = _; rw [cell_of new0]; rfl
              have HB2 : Hid (Below W2.heap.size W2 (W2.alloc (.cells #[.int .i64 ch] 2))) := (Below.refl _ _).alloc (Nat.le_refl _) _
              have HB3 : Hid (w.heap.size + 2 ≤ (W2.alloc (.cells #[.int .i64 ch] 2)).heap.size) := Nat.le_trans HW.out.h HB2.out.size
              go_wp2_with (at_builtin; refine append_one (wr := W2.alloc (.cells #[.int .i64 ch] 2)) (B := w.heap.size + 2) rfl _ _ rfl p n c E ch rfl HO.out HB3.out W2.heap.size 1 rfl HV.out (by omega) ?_; intro g3 c3 w3 R3 hB3)
              have hb : Below (w.heap.size + 2) W2 w3 := (HB2.out.mono HW.out.h).trans hB3
              refine ⟨⟨_, n + 1, c3, sset f ch true, E ++ [(ch : Int)], ch + 1, rfl, by simp, by omega, by have := HK.out.2.2; omega, by rw [List.length_append, ← HK.out.1]; rfl, ⟨R3, HW.out.z.below hb (by omega), HW.out.x.below hb (by omega), ?_, HW.out.gr.below hb (by omega), Nat.le_trans HW.out.h hb.size⟩, HK.out.2.1, by have := HK.out.2.2; omega, HK.out.2.2.2.2⟩, ?_⟩
              · exact ⟨hb.os.trans HW.out.kp.os, hb.tape.trans HW.out.kp.tape, hb.output.trans HW.out.kp.output, Nat.le_trans HW.out.kp.size hb.size, fun b h1 h2 => (hb.block b (by omega)).trans (HW.out.kp.block b h1 h2)⟩
              · simp [intOf]
                omega
          · have ho' : ((((g.fails i f).st ch : Nat) : Int) == 1) = false := by simp; omega
            have HK : Hid (n = E.length ∧ Fm w wr gb g i f (.slice p n c) E ∧ Fi g i f E k (ch + 1) ∧ n + 2 * cnt f + 1 ≤ μ ∧ μ ≤ 20000) := ⟨HM.out.1, hM, HM.out.2.2.1.skip fun h1 h2 _ => (by
              cases hf : f ch
              · exact absurd (fails_open.2 ⟨h1, h2, hf⟩) ho
              · rfl), HM.out.2.2.2⟩
            clear HM hM ho
            go_wp2_with fail
            refine ⟨⟨_, n, c, f, E, ch + 1, rfl, by simp, by omega, by omega, HK.out⟩, ?_⟩
            simp [intOf]
            omega
        · have hc' : ¬ (ch : Int) < 101 := by omega
          have HD : Hid (n = E.length ∧ Fm w wr gb g i f (.slice p n c) E ∧ Fo g i f E ∧ n + 2 * cnt f + 1 ≤ μ ∧ μ ≤ 20000) := by
            have e : ch = 101 := by omega
            have := HM.out.2.2.1
            rw [e] at this
            exact ⟨HM.out.1, hM, this.done, HM.out.2.2.2⟩
          clear HM hM
          go_wp2_with fail
          refine ⟨⟨p, n, c, f, E, rfl, hn, HD.out.1, HD.out.2.1, HD.out.2.2.1, by have := HD.out.2.2.2; omega⟩, ?_⟩
          have h1 := HD.out.2.1.x.cnt
          have h2 := HD.out.2.2.2
          have h3 := Hμ.out
          simp only [h1]
          omega
end Go.Proofs.Ytodldfgoieikcaa
