/-
  MinmaxUpdates' law.
-/
import Derived.Test.YtbaffgkopgbknaaLf
namespace Go.Proofs.Ytbaffgkopgbknaa
open Go.RowKit Go.Maps

def NoU : Nat → Prop := fun _ => False
def lg (L : List K) (i : Nat) : K := L.getD i kz
theorem lg_at {L : List K} {i : Nat} (h : i < L.length) : lg L i = L[i] := by unfold lg; rw [List.getD_eq_getElem?_getD, List.getElem?_eq_getElem h]; rfl
/-- the keys given anew -/
def nf (L th : List K) (i : Nat) : K := if i < th.length then lg th i else lg L i
def mix (L th : List K) (i x : Nat) : K := if x < i then nf L th x else lg L x
theorem mix_upd (L th : List K) (i : Nat) : upd (mix L th i) i (nf L th i) = mix L th (i + 1) := by
  funext x
  unfold upd mix
  by_cases e : x = i
  · subst e; rw [if_pos rfl, if_pos (by omega)]
  · rw [if_neg e]
    by_cases q : x < i
    · rw [if_pos q, if_pos (by omega)]
    · rw [if_neg q, if_neg (by omega)]
/-- both heaps and the key's box -/
structure Uk (w wr : World) (ha hb n i kb : Nat) (L th : List K) (k : K) : Prop where
  t : Tw w wr ha (cf (mix L th i) n) n n hb (cf (nf L th) i) i i (fun j => j = kb)
  z : wr.heap[kb]? = some (.cells (kc k) 32 (0, 0))
  al : w.heap.size ≤ kb
section
variable {w wr w' : World} {ha hb n i kb : Nat} {L th : List K} {k k' : K}
theorem Uk.setz (h : Uk w wr ha hb n i kb L th k) (k' : K) : Uk w (st3 wr kb k') ha hb n i kb L th k' := ⟨h.t.st3 rfl h.al k', st3_at h.z, h.al⟩
theorem Uk.go (h : Uk w wr ha hb n i kb L th k) (hi : i < n) (hn : n ≤ 300) (hk : k.ok) (e : k = nf L th i) :
    Calls Try.prog 17 #[ptr ha, .int .i64 i, ktup k] wr fun e w' => e = .returned (.int .i64 0) ∧ Hid (w'.heap[kb]? = some (.cells (kc k) 32 (0, 0)) ∧ Calls Try.prog 12 #[ptr hb, ktup k] w' fun e w2 => e = .returned (.tuple #[.int .i64 i, .int .i64 0]) ∧ Hid (Tw w w2 ha (cf (mix L th (i + 1)) n) n n hb (cf (nf L th) (i + 1)) (i + 1) (i + 1) NoU)) := by
  obtain ⟨y, hy, h1⟩ := tw_upd h.t (x := i) (by simp [Lit.wf, IntKind.min, IntKind.max, IntKind.bits, IntKind.signed]; omega) (cf_at _ hi) k hk
  refine h1.mono ?_
  rintro q w' ⟨rfl, h2, h3⟩
  refine ⟨rfl, (h3 kb rfl).trans h.z, ?_⟩
  refine (tw_insert h2.swap k hk (by omega)).mono ?_
  rintro q w2 ⟨rfl, h4, _⟩
  refine ⟨rfl, ?_⟩
  have hyi : y = i := by omega
  rw [hyi] at h4
  have h5 := h4.swap
  rw [cf_upd _ _ hi, e, mix_upd, cf_put] at h5
  exact h5.less nofun
/-- both popped from above -/
theorem pop_both {C : Ct} {m : Nat} (h : Tw w wr ha C n m hb C n m NoU) (hm : m ≠ 0) : ∃ (x : Nat) (k : K), Calls Try.prog 14 #[ptr ha] wr fun e w' => e = .returned (.tuple #[.int .i64 x, ktup k, .int .i64 0]) ∧ Hid (∀ w2, w2 = w'.alloc (.cells (kc k) 32) → Calls Try.prog 14 #[ptr hb] w2 fun e w3 => e = .returned (.tuple #[.int .i64 x, ktup k, .int .i64 0]) ∧ Hid (w3.heap[w'.heap.size]? = some (.cells (kc k) 32 (0, 0)) ∧ ∃ C', Tw w w3 ha C' n (m - 1) hb C' n (m - 1) NoU)) := by
  obtain ⟨x, k, h1, h2, _, h3⟩ := tw_pop h hm (s := 1) (by decide)
  refine ⟨x, k, h3.mono ?_⟩
  rintro e w' ⟨rfl, h4, _⟩
  refine ⟨rfl, fun w2 e2 => ?_⟩
  subst e2
  have h5 := (h4.box (.cells (kc k) 32)).swap
  obtain ⟨y, k', g1, g2, _, g3⟩ := tw_pop h5 hm (s := 1) (by decide)
  obtain ⟨rfl, rfl⟩ := ext_same (by decide) g1 h1 g2 h2 (h5.ok g1.1).2.1 (h.ok h1.1).2.1
  refine g3.mono ?_
  rintro e w3 ⟨rfl, g4, g5⟩
  exact ⟨rfl, (g5 _ (.inr rfl)).trans new0, _, g4.swap.less nofun⟩
theorem pop_none2 {C : Ct} (h : Tw w wr ha C n 0 hb C n 0 NoU) : Calls Try.prog 14 #[ptr ha] wr fun e w' => e = .returned (.tuple #[.int .i64 0, ktup kz, .int .i64 3]) ∧ Hid (∀ w2, w2 = w'.alloc (.cells (kc kz) 32) → Calls Try.prog 14 #[ptr hb] w2 fun e w3 => e = .returned (.tuple #[.int .i64 0, ktup kz, .int .i64 3]) ∧ Hid (w3.heap[w'.heap.size]? = some (.cells (kc kz) 32 (0, 0)) ∧ ∃ C', Tw w w3 ha C' n (0 - 1) hb C' n (0 - 1) NoU)) := by
  refine (tw_pop0 h (s := 1) (by decide)).mono ?_
  rintro e w' ⟨rfl, b⟩
  refine ⟨rfl, fun w2 e2 => ?_⟩
  subst e2
  have h5 := ((h.below b).box (.cells (kc kz) 32)).swap
  refine (tw_pop0 h5 (s := 1) (by decide)).mono ?_
  rintro e w3 ⟨rfl, b3⟩
  exact ⟨rfl, at_below b3 (Nat.le_refl _) new0, C, (h5.swap.below b3).less nofun⟩
end
set_option maxHeartbeats 4000000 in
theorem updates_law (q1 q2 : Option Addr) (c1 c2 : Nat) (L th : List K) (w : World) (hL : Hid (Kys w q1 L)) (hT : Hid (Kys w q2 th)) :
    Calls Try.prog 6 #[.slice q1 L.length c1, .slice q2 th.length c2] w fun e w' => e = .returned (.bool true) ∧ Below w.heap.size w w' := by
  have H8 : Hid (∀ w, Calls Try.prog 8 #[] w fun e w' => e = .returned (.bool true) ∧ Below w.heap.size w w') := awake_any
  have H9 : Hid (∀ w, Calls Try.prog 9 #[] w fun e w' => e = .returned (.pointer (some ⟨w.heap.size, 0, none⟩)) ∧ w' = w.alloc (.cells zeroH 58)) := fun w => new_at w
  have q32 := eq32s
  go_enter Try.func6, Try.ntmps6
  by_cases hn : 300 < L.length
  · have hn' : (300 : Int) < (L.length : Int) := by omega
    go_upto_region 2 with (go_at_call 8; refine (H8.out _).mono ?_; rintro e w1 ⟨rfl, b1⟩)
    have B1 : Hid (Below w.heap.size w w1) := b1
    clear b1
    go_wp2_with (go_at_call 8; refine (H8.out _).mono ?_; rintro e w2 ⟨rfl, b2⟩)
    go_ret
    exact ⟨rfl, B1.out.trans (b2.mono B1.out.size)⟩
  · have hn' : ¬ (300 : Int) < (L.length : Int) := by omega
    go_upto_region 3 with (go_at_call 8; refine (H8.out _).mono ?_; rintro e w1 ⟨rfl, b1⟩)
    have B1 : Hid (Below w.heap.size w w1) := b1
    clear b1
    go_upto_region 4 with (go_at_call 9; refine (H9.out _).mono ?_; rintro e w2 ⟨rfl, rfl⟩)
    have L0 : Hid (Tw w ((w1.alloc (.cells zeroH 58)).alloc (.cells zeroH 58)) w1.heap.size (cf (lg L) 0) 0 0 (w1.heap.size + 1) Ct.nil 0 0 NoU) := by
      rw [cf_nil]
      exact tw_new w w1 NoU B1.out nofun
    generalize (w1.alloc (.cells zeroH 58)).alloc (.cells zeroH 58) = W at *
    generalize w1.heap.size = ha at *
    clear B1 H8 H9
    go_wp2_with fail
    go_loopw [7] (fun t wr => ∃ i : Nat, i ≤ L.length ∧ t = .int .i64 i ∧ Hid (Tw w wr ha (cf (lg L) i) i i (ha + 1) Ct.nil 0 0 NoU)) (fun t _ => L.length - (intOf t).toNat)
    case atStart => exact ⟨0, Nat.zero_le _, rfl, L0.out⟩
    case round =>
      obtain ⟨i, hi, rfl, HE⟩ := hrel
      clear L0
      by_cases hil : i < L.length
      · have hil' : (i : Int) < (L.length : Int) := by omega
        obtain ⟨g, f, eq1, hok, d0, d1, d2⟩ := (hL.out.keep (w1 := wr) (by exact HE.out.b)).at hil
        subst eq1
        have H12 : Hid (Calls Try.prog 12 #[.pointer (some ⟨ha, 0, none⟩), .agg #[.int .i64 L[i].a, .int .i64 L[i].b, .int .i64 L[i].c]] wr fun e w' => e = .returned (.tuple #[.int .i64 i, .int .i64 0]) ∧ Hid (Tw w w' ha (cf (lg L) (i + 1)) (i + 1) (i + 1) (ha + 1) Ct.nil 0 0 NoU)) := by
          refine (tw_insert HE.out L[i] hok (by omega)).mono ?_
          rintro e w' ⟨rfl, h1, _⟩
          rw [← lg_at hil, cf_put] at h1
          exact ⟨rfl, h1⟩
        clear HE
        generalize L[i] = kk at *
        go_wp2_with (go_at_call 12; refine H12.out.mono ?_; first | rintro e w2 rfl h2 | rintro e w2 ⟨rfl, h2⟩)
        exact ⟨⟨i + 1, by omega, by go_num, h2.out⟩, by simp [intOf]; omega⟩
      · have hil' : ¬ (i : Int) < (L.length : Int) := by omega
        have E0 : Hid (Tw w wr ha (cf (mix L th 0) L.length) L.length L.length (ha + 1) (cf (nf L th) 0) 0 0 NoU) := by
          have hii : i = L.length := by omega
          have := HE.out
          rw [hii] at this
          rw [cf_nil, show mix L th 0 = lg L from funext fun x => if_neg (by omega)]
          exact this
        clear HE
        go_wp2_with fail
        go_loopw [8] (fun t wr => ∃ j : Nat, j ≤ L.length ∧ t = .int .i64 j ∧ Hid (Tw w wr ha (cf (mix L th j) L.length) L.length L.length (ha + 1) (cf (nf L th) j) j j NoU)) (fun t _ => L.length - (intOf t).toNat)
        case atStart => exact ⟨0, Nat.zero_le _, rfl, E0.out⟩
        case round =>
          obtain ⟨j, hj, rfl, HF⟩ := hrel
          clear E0
          by_cases hjl : j < L.length
          · have hjl' : (j : Int) < (L.length : Int) := by omega
            obtain ⟨g, f, eq1, hok, d0, d1, d2⟩ := (hL.out.keep (w1 := wr) (by exact HF.out.b)).at hjl
            subst eq1
            have U0 : Hid (Uk w (wr.alloc (.cells (kc L[j]) 32)) ha (ha + 1) L.length j wr.heap.size L th L[j]) := ⟨(HF.out.box _).less fun k q => .inr q, new0, HF.out.b.size⟩
            have HLJ : Hid (lg L j = L[j]) := lg_at hjl
            have HOK : Hid (L[j].ok) := hok
            have HBB : Hid (Below w.heap.size w (wr.alloc (.cells (kc L[j]) 32))) := HF.out.b.alloc HF.out.b.size _
            unfold kc at U0 HBB
            clear HF hok
            generalize L[j] = kk at *
            go_upto_region 12 with fail
            clear d0 d1 d2
            generalize wr.alloc (.cells #[.int .i64 kk.a, .int .i64 kk.b, .int .i64 kk.c] 32) = W2 at *
            generalize wr.heap.size = kb at *
            by_cases hjt : j < th.length
            · have hjt' : (j : Int) < (th.length : Int) := by omega
              obtain ⟨g2, f2, eq2, hok2, t0, t1, t2⟩ := (hT.out.keep (w1 := W2) (by exact HBB.out)).at hjt
              subst eq2
              have HNF : Hid (th[j] = nf L th j) := by unfold Hid nf; rw [if_pos hjt, lg_at hjt]
              have HOK2 : Hid (th[j].ok) := hok2
              clear hok2
              generalize th[j] = k2 at *
              obtain ⟨z0, z1, z2⟩ := c3 U0.out.z
              obtain ⟨f0, f1, f2⟩ := f3 U0.out.z
              have U1 : Hid (Uk w (st3 W2 kb k2) ha (ha + 1) L.length j kb L th k2) := U0.out.setz k2
              go_upto_region 14 with fail
              rw [show ((W2.setCell ⟨kb, 0, none⟩ (.int .i64 k2.a)).setCell ⟨kb, 1, none⟩ (.int .i64 k2.b)).setCell ⟨kb, 2, none⟩ (.int .i64 k2.c) = st3 W2 kb k2 from rfl]
              generalize st3 W2 kb k2 = W3 at *
              clear z0 z1 z2 f0 f1 f2 t0 t1 t2 U0
              obtain ⟨z0, z1, z2⟩ := c3 U1.out.z
              have H17 : Hid (Calls Try.prog 17 #[.pointer (some ⟨ha, 0, none⟩), .int .i64 j, .agg #[.int .i64 k2.a, .int .i64 k2.b, .int .i64 k2.c]] W3 fun e w' => e = .returned (.int .i64 0) ∧ Hid (w'.heap[kb]? = some (.cells (kc k2) 32 (0, 0)) ∧ Calls Try.prog 12 #[.pointer (some ⟨ha + 1, 0, none⟩), .agg #[.int .i64 k2.a, .int .i64 k2.b, .int .i64 k2.c]] w' fun e w2 => e = .returned (.tuple #[.int .i64 j, .int .i64 0]) ∧ Hid (Tw w w2 ha (cf (mix L th (j + 1)) L.length) L.length L.length (ha + 1) (cf (nf L th) (j + 1)) (j + 1) (j + 1) NoU))) := U1.out.go hjl (by omega) HOK2.out HNF.out
              clear U1
              go_upto_region 16 with (go_at_call 17; refine H17.out.mono ?_; first | rintro e w4 rfl h4 | rintro e w4 ⟨rfl, h4⟩)
              clear z0 z1 z2
              obtain ⟨z0, z1, z2⟩ := c3 h4.out.1
              have H12 := h4.out.2
              go_wp2_with (go_at_call 12; refine H12.mono ?_; first | rintro e w5 rfl h5 | rintro e w5 ⟨rfl, h5⟩)
              exact ⟨⟨j + 1, by omega, by go_num, h5.out⟩, by simp [intOf]; omega⟩
            · have hjt' : ¬ (j : Int) < (th.length : Int) := by omega
              have HNF : Hid (kk = nf L th j) := by unfold Hid nf; rw [if_neg hjt, HLJ.out]
              go_upto_region 14 with fail
              obtain ⟨z0, z1, z2⟩ := c3 U0.out.z
              have H17 : Hid (Calls Try.prog 17 #[.pointer (some ⟨ha, 0, none⟩), .int .i64 j, .agg #[.int .i64 kk.a, .int .i64 kk.b, .int .i64 kk.c]] W2 fun e w' => e = .returned (.int .i64 0) ∧ Hid (w'.heap[kb]? = some (.cells (kc kk) 32 (0, 0)) ∧ Calls Try.prog 12 #[.pointer (some ⟨ha + 1, 0, none⟩), .agg #[.int .i64 kk.a, .int .i64 kk.b, .int .i64 kk.c]] w' fun e w2 => e = .returned (.tuple #[.int .i64 j, .int .i64 0]) ∧ Hid (Tw w w2 ha (cf (mix L th (j + 1)) L.length) L.length L.length (ha + 1) (cf (nf L th) (j + 1)) (j + 1) (j + 1) NoU))) := U0.out.go hjl (by omega) HOK.out HNF.out
              clear U0
              go_upto_region 16 with (go_at_call 17; refine H17.out.mono ?_; first | rintro e w4 rfl h4 | rintro e w4 ⟨rfl, h4⟩)
              clear z0 z1 z2
              obtain ⟨z0, z1, z2⟩ := c3 h4.out.1
              have H12 := h4.out.2
              go_wp2_with (go_at_call 12; refine H12.mono ?_; first | rintro e w5 rfl h5 | rintro e w5 ⟨rfl, h5⟩)
              exact ⟨⟨j + 1, by omega, by go_num, h5.out⟩, by simp [intOf]; omega⟩
          · have hjl' : ¬ (j : Int) < (L.length : Int) := by omega
            have E1 : Hid (∃ C, Tw w wr ha C L.length (L.length - 0) (ha + 1) C L.length (L.length - 0) NoU) := by
              have hjj : j = L.length := by omega
              have := HF.out
              rw [hjj, show cf (mix L th L.length) L.length = cf (nf L th) L.length from cf_same fun x hx => if_pos hx] at this
              exact ⟨_, this⟩
            clear HF
            go_wp2_with fail
            go_loopw [10] (fun t wr => ∃ m : Nat, m ≤ L.length + 1 ∧ t = .int .i64 m ∧ Hid (∃ C, Tw w wr ha C L.length (L.length - m) (ha + 1) C L.length (L.length - m) NoU)) (fun t _ => L.length + 1 - (intOf t).toNat)
            case atStart => exact ⟨0, by omega, rfl, E1.out⟩
            case round =>
              obtain ⟨m, hm, rfl, HG⟩ := hrel
              clear E1
              by_cases hml : m ≤ L.length
              · have hml' : (m : Int) ≤ (L.length : Int) := by omega
                obtain ⟨x, k, ee, HP⟩ : ∃ (x : Nat) (k : K) (ee : Int), Hid (Calls Try.prog 14 #[.pointer (some ⟨ha, 0, none⟩)] wr fun e w' => e = .returned (.tuple #[.int .i64 x, .agg #[.int .i64 k.a, .int .i64 k.b, .int .i64 k.c], .int .i64 ee]) ∧ Hid (∀ w2, w2 = w'.alloc (.cells (kc k) 32) → Calls Try.prog 14 #[.pointer (some ⟨ha + 1, 0, none⟩)] w2 fun e w3 => e = .returned (.tuple #[.int .i64 x, .agg #[.int .i64 k.a, .int .i64 k.b, .int .i64 k.c], .int .i64 ee]) ∧ Hid (w3.heap[w'.heap.size]? = some (.cells (kc k) 32 (0, 0)) ∧ ∃ C', Tw w w3 ha C' L.length (L.length - (m + 1)) (ha + 1) C' L.length (L.length - (m + 1)) NoU))) := by
                  obtain ⟨C, hC⟩ := HG.out
                  by_cases hz : L.length - m = 0
                  · rw [hz] at hC
                    refine ⟨0, kz, 3, ?_⟩
                    have := pop_none2 hC
                    rw [show 0 - 1 = L.length - (m + 1) by omega] at this
                    exact this
                  · obtain ⟨x, k, h⟩ := pop_both hC hz
                    rw [show L.length - m - 1 = L.length - (m + 1) by omega] at h
                    exact ⟨x, k, 0, h⟩
                clear HG
                go_upto_region 21 with (go_at_call 14; refine HP.out.mono ?_; first | rintro e w2 rfl h2 | rintro e w2 ⟨rfl, h2⟩)
                have HQ : Hid (Calls Try.prog 14 #[.pointer (some ⟨ha + 1, 0, none⟩)] (w2.alloc (.cells #[.int .i64 k.a, .int .i64 k.b, .int .i64 k.c] 32)) fun e w3 => e = .returned (.tuple #[.int .i64 x, .agg #[.int .i64 k.a, .int .i64 k.b, .int .i64 k.c], .int .i64 ee]) ∧ Hid (w3.heap[w2.heap.size]? = some (.cells (kc k) 32 (0, 0)) ∧ ∃ C', Tw w w3 ha C' L.length (L.length - (m + 1)) (ha + 1) C' L.length (L.length - (m + 1)) NoU)) := h2.out _ rfl
                generalize w2.alloc (.cells #[.int .i64 k.a, .int .i64 k.b, .int .i64 k.c] 32) = W4 at *
                generalize w2.heap.size = kb at *
                clear HP h2
                go_upto_region 22 with (go_at_call 14; refine HQ.out.mono ?_; first | rintro e w5 rfl h5 | rintro e w5 ⟨rfl, h5⟩)
                have T6 : Hid (∃ C', Tw w (w5.alloc (.cells #[.int .i64 k.a, .int .i64 k.b, .int .i64 k.c] 32)) ha C' L.length (L.length - (m + 1)) (ha + 1) C' L.length (L.length - (m + 1)) NoU) := by
                  obtain ⟨C', h⟩ := h5.out.2
                  exact ⟨C', (h.box _).less nofun⟩
                obtain ⟨y0, y1, y2⟩ := c3 (at_alloc (o' := .cells #[.int .i64 k.a, .int .i64 k.b, .int .i64 k.c] 32) h5.out.1)
                obtain ⟨z0, z1, z2⟩ := c3 (w := w5.alloc (.cells #[.int .i64 k.a, .int .i64 k.b, .int .i64 k.c] 32)) (g := w5.heap.size) new0
                generalize w5.alloc (.cells #[.int .i64 k.a, .int .i64 k.b, .int .i64 k.c] 32) = W6 at *
                generalize w5.heap.size = kb2 at *
                clear h5 HQ
                go_wp2_with fail
                exact ⟨⟨m + 1, by omega, by go_num, T6.out⟩, by simp [intOf]; omega⟩
              · have hml' : ¬ (m : Int) ≤ (L.length : Int) := by omega
                have HB : Hid (Below w.heap.size w wr) := by
                  obtain ⟨C, hC⟩ := HG.out
                  exact hC.b
                go_wp2_with fail
                go_ret
                exact ⟨rfl, HB.out⟩
end Go.Proofs.Ytbaffgkopgbknaa
