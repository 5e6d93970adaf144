/-
  TimerOrder's law.
-/
import Derived.Test.YtnjnfbfjmeofaaaLj
namespace Go.Proofs.Ytnjnfbfjmeofaaa
open Go.RowKit Go.Maps Go.WideMaps

theorem eq45s (s : ByteArray) (a : Int) : ∀ w, (Op.equalIn 10000 45 (.agg #[.string s, .int .i64 a]) (.agg #[.string s, .int .i64 a])).run Try.prog w = .ok true w := fun w => by
  go_simp
theorem append_no {ops : Array Oper} {rest : List Oper} {o : Oper} {a : Act} {Q : Exit → Act → World → Prop} {w : World} (hgd : o.guard = none) (s x : Operand) (ho : o.op = .call { callee := .builtin .append, args := #[s, x], argTypes := #[35, 35] }) (v : Value) (T : List Al) (hs : a.eval s = v) (hown : Row w v T) (hx : a.eval x = .slice none 0 0) (h : wpList Try.prog ops Q rest (a.put o.dst v) w) : wpList Try.prog ops Q (o :: rest) a w := by
  obtain ⟨i0, hi, _⟩ := info_parts info45
  exact wpList_append_own_none hgd s x 35 ho 0 45 i0 2 Try.underlying35 hi v _ _ hs hown hx h
theorem append_rr {ops : Array Oper} {rest : List Oper} {o : Oper} {a : Act} {Q : Exit → Act → World → Prop} {w : World} (hgd : o.guard = none) (s x : Operand) (ho : o.op = .call { callee := .builtin .append, args := #[s, x], argTypes := #[35, 35] }) (v u : Value) (T N : List Al) (hs : a.eval s = v) (hown : Row w v T) (hx : a.eval x = u) (hu : Row w u N) (hb : T.length + N.length ≤ 4096)
    (h : ∀ v' w', Row w' v' (T ++ N) → w.grownBy w' v.ownBlock → (v'.ownBlock = v.ownBlock ∨ v'.ownBlock = some w.heap.size) → wpList Try.prog ops Q rest (a.put o.dst v') w') : wpList Try.prog ops Q (o :: rest) a w := by
  rcases hu.2 with ⟨e, hT0⟩ | ⟨g, cap, cur, e, _⟩
  · have hT1 : N = [] := List.eq_nil_of_length_eq_zero hT0
    subst hT1
    exact append_no hgd s x ho v T hs hown (by rw [hx, e]) (h v w (by rw [List.append_nil]; exact hown) (World.grownBy.refl _ _) (.inl rfl))
  · subst e
    refine append_al hgd s x ho v T T.length rfl hs hown g 0 cap N.length N hx rfl (fun k y hk => ?_) hb h
    have := World.ownsRow.cells hu (g := g) rfl k y hk
    rw [Addr.add_lit] at this
    exact this
def ticks (ts : List Int) (k : Nat) : Int := ts.getD (k % ts.length) 0
def strV (ss : List ByteArray) : List Value := ss.map Value.string
def u8V (ts : List Int) : List Value := ts.map (Value.int .u8)
/-- the law, with loops' walks as they come -/
structure Od (w0 w : World) (cb : Nat) (X : Nat → Option Obj) (R : List Al) (v : Value) (now : Nat) : Prop where
  g : ∃ P Q, P ++ Q = R ∧ GG w0 w cb X Q v P ∧ (256 ≤ now → Q = [])
  n : now ≤ 256
set_option maxHeartbeats 4000000 in
set_option maxRecDepth 100000 in
theorem order_law (q q' : Option Addr) (n c m c' : Nat) (ss : List ByteArray) (ts : List Int) (w : World) (hq : Arg w q (strV ss)) (hq' : Arg w q' (u8V ts)) (hn : ss.length = n) (hm : ts.length = m) (hs : ∀ s ∈ ss, s.size ≤ 281474976710656) (ht : ∀ t ∈ ts, 0 ≤ t ∧ t ≤ 255) (hn9 : n ≤ 9223372036854775807) (hm9 : m ≤ 9223372036854775807) :
    Calls Try.prog 8 #[.slice q n c, .slice q' m c'] w fun e w' => e = .returned (.bool true) ∧ Below w.heap.size w w' := by
  have HA : Hid (∀ W, Below w.heap.size w W → Calls Try.prog 9 #[] W fun e w' => e = .returned (.bool true) ∧ Hid (Below w.heap.size w w')) := fun W b => awake_any w W b
  have HA0 : Hid (Calls Try.prog 9 #[] w fun e w' => e = .returned (.bool true) ∧ Hid (Below w.heap.size w w')) := HA.out w (Below.refl _ _)
  go_enter Try.func8, Try.ntmps8
  by_cases h2 : 200 < n
  · have h2' : decide ((200 : Int) < (n : Int)) = true := decide_eq_true (by omega)
    clear h2 hn hm hn9 hm9
    go_upto_region 2 with (go_at_call 9; refine HA0.out.mono ?_; rintro e w1 ⟨rfl, b1⟩)
    go_wp2_with (go_at_call 9; refine (HA.out _ b1.out).mono ?_; rintro e w2 ⟨rfl, b2⟩)
    go_ret
    exact ⟨rfl, b2.out⟩
  have h2' : decide ((200 : Int) < (n : Int)) = false := decide_eq_false (by omega)
  have h2'' : (n : Int) ≤ 200 := by omega
  by_cases h3 : m = 0
  · have h3' : ((m : Int) == 0) = true := by simp [h3]
    subst h3
    clear h2 hn hm hn9 hm9
    go_upto_region 2 with (go_at_call 9; refine HA0.out.mono ?_; rintro e w1 ⟨rfl, b1⟩)
    go_wp2_with (go_at_call 9; refine (HA.out _ b1.out).mono ?_; rintro e w2 ⟨rfl, b2⟩)
    go_ret
    exact ⟨rfl, b2.out⟩
  have h3' : ((m : Int) == 0) = false := by simp; omega
  have h4 : ¬ (m : Int) = 0 := by omega
  have HNN : Hid (n ≤ 200 ∧ ss.length = n ∧ ts.length = m ∧ 0 < m) := ⟨by omega, hn, hm, by omega⟩
  have hm8 : (m : Int) ≤ 9223372036854775807 := by omega
  have HNW : Hid (∀ W, Calls Try.prog 10 #[] W fun e w' => e = .returned (.pointer (some ⟨W.heap.size, 0, none⟩)) ∧ w' = W.alloc (.cells #[.slice none 0 0, .map none] 60 (0, 0))) := new_any
  clear h2 hn hm hn9 hm9
  go_upto_region 4 with (first | (go_at_call 9; refine HA0.out.mono ?_; rintro e w1 ⟨rfl, b1⟩) | (go_at_call 10; refine (HNW.out _).mono ?_; rintro e w2 ⟨rfl, rfl⟩))
  have T0 : Hid (TT w ((w1.alloc (.cells #[.slice none 0 0, .map none] 60 (0, 0))).alloc (.cells #[.slice none 0 0, .map none] 60 (0, 0))) w1.heap.size (w1.heap.size + 1) [] []) := t_new w w1 b1.out
  generalize (w1.alloc (.cells #[.slice none 0 0, .map none] 60 (0, 0))).alloc (.cells #[.slice none 0 0, .map none] 60 (0, 0)) = W0 at *
  generalize w1.heap.size = ca at *
  generalize ca + 1 = cb at *
  clear HNW HA HA0 b1
  have HAG : Hid (Arg w q (strV ss) ∧ Arg w q' (u8V ts) ∧ (∀ s ∈ ss, s.size ≤ 281474976710656) ∧ ∀ t ∈ ts, 0 ≤ t ∧ t ≤ 255) := ⟨hq, hq', hs, ht⟩
  clear hq hq' hs ht
  go_wp2_with fail
  go_loopw [7] (fun t wr => ∃ k : Nat, t = .int .i64 k ∧ Hid (k ≤ n ∧ TT w wr ca cb (ro ss (ticks ts) k) (ro ss (ticks ts) k))) (fun t _ => n - (intOf t).toNat)
  case atStart => exact ⟨0, rfl, Nat.zero_le _, T0.out⟩
  case round =>
    clear T0
    obtain ⟨k, rfl, HK⟩ := hrel
    by_cases hk : k < n
    · have hk' : (k : Int) < (n : Int) := by omega
      have HH := HNN.out
      have hb := HK.out.2.bel
      obtain ⟨s, hs⟩ : ∃ s, ss[k]? = some s := ⟨ss[k], List.getElem?_eq_getElem (by omega)⟩
      obtain ⟨j, hj⟩ : ∃ j : Nat, j = k % m := ⟨_, rfl⟩
      have hjm : j < m := by rw [hj]; exact Nat.mod_lt _ (by omega)
      obtain ⟨x, hx⟩ : ∃ x, ts[j]? = some x := ⟨ts[j], List.getElem?_eq_getElem (by omega)⟩
      obtain ⟨g, o, eq1, sc⟩ := HAG.out.1 k (.string s) (by unfold strV; rw [List.getElem?_map, hs]; rfl)
      obtain ⟨g', o', eq2, tc⟩ := HAG.out.2.1 j (.int .u8 x) (by unfold u8V; rw [List.getElem?_map, hx]; rfl)
      have hsz := HAG.out.2.2.1 s (List.mem_of_getElem? hs)
      have hxr := HAG.out.2.2.2 x (List.mem_of_getElem? hx)
      have ex : ticks ts k = x := by
        unfold ticks
        rw [HH.2.2.1, ← hj, List.getD_eq_getElem?_getD, hx]
        rfl
      have es : ss.getD k .empty = s := by rw [List.getD_eq_getElem?_getD, hs]; rfl
      have en : ro ss (ticks ts) (k + 1) = setR s x (ro ss (ticks ts) k) := by
        show setR (ss.getD k .empty) (ticks ts k) _ = _
        rw [es, ex]
      have hlt := cell_lt sc
      have hlt' := cell_lt tc
      replace sc := cell_below sc (hb.mono (Nat.le_refl _))
      replace tc := cell_below tc (hb.mono (Nat.le_refl _))
      have HS1 : Hid (Calls Try.prog 16 #[.pointer (some ⟨ca, 0, none⟩), .string s, .int .i64 x] wr fun e w' => ∃ r, e = .returned (.int .i64 r) ∧ Hid (w'.cell? ⟨g, o + k, none⟩ = some (.string s) ∧ Calls Try.prog 16 #[.pointer (some ⟨cb, 0, none⟩), .string s, .int .i64 x] w' fun e w2 => ∃ r, e = .returned (.int .i64 r) ∧ Hid (TT w w2 ca cb (ro ss (ticks ts) (k + 1)) (ro ss (ticks ts) (k + 1))))) := by
        refine (t_set HK.out.2 s x hsz).mono ?_
        rintro e w' ⟨rfl, h1⟩
        refine ⟨_, rfl, ?_, ?_⟩
        · obtain ⟨g2, o2, e2, sc2⟩ := HAG.out.1 k (.string s) (by unfold strV; rw [List.getElem?_map, hs]; rfl)
          rw [eq1] at e2
          cases e2
          exact cell_below sc2 h1.bel
        · refine (t_set h1.swap s x hsz).mono ?_
          rintro e w2 ⟨rfl, h2⟩
          rw [en]
          exact ⟨_, rfl, h2.swap⟩
      have hj1 : (k : Int) % (m : Int) = (j : Int) := by rw [hj]; simp
      have hj2 : (k : Int).tmod (m : Int) = (j : Int) := by rw [Int.tmod_eq_emod_of_nonneg (by omega)]; exact hj1
      have hjm' : (j : Int) < (m : Int) := by omega
      have hx0 := hxr.1
      have hx1 := hxr.2
      subst eq1 eq2
      have Hk : Hid (k < n) := hk
      clear hk HK hs hx ex es en hb hsz hj hjm hxr hlt hlt' HH
      go_upto_region 9 with (go_at_call 16; refine HS1.out.mono ?_; rintro e w3 ⟨r, rfl, h3⟩)
      have sc3 := h3.out.1
      have HS2 := h3.out.2
      clear sc tc HS1 h3
      go_wp2_with (go_at_call 16; refine HS2.mono ?_; rintro e w4 ⟨r, rfl, h4⟩)
      have := Hk.out
      refine ⟨⟨k + 1, by simp, by show k + 1 ≤ n; omega, h4.out⟩, ?_⟩
      simp [intOf]
      omega
    · have hk' : ¬ (k : Int) < (n : Int) := by omega
      have hk2 : decide ((k : Int) < (n : Int)) = false := decide_eq_false hk'
      obtain ⟨R, hR⟩ : ∃ R, R = ro ss (ticks ts) k := ⟨_, rfl⟩
      have HR : Hid ((∀ a ∈ R, 0 ≤ a.at' ∧ a.at' ≤ 255) ∧ R.length ≤ 200) := by
        have HH := HNN.out
        have h1 := HK.out.1
        refine ⟨fun a ha => ?_, ?_⟩
        · rw [hR] at ha
          refine ro_mem (P := fun x => 0 ≤ x ∧ x ≤ 255) (fun i => ?_) k a ha
          unfold ticks
          have hjm : i % ts.length < ts.length := Nat.mod_lt _ (by omega)
          rw [List.getD_eq_getElem?_getD, List.getElem?_eq_getElem hjm]
          exact HAG.out.2.2.2 _ (List.getElem_mem hjm)
        · have := ro_len ss (ticks ts) k
          rw [hR]
          omega
      have HT : Hid (TT w wr ca cb R R) := by rw [hR]; exact HK.out.2
      have H14 : Hid (Calls Try.prog 14 #[.pointer (some ⟨ca, 0, none⟩), .int .i64 255] wr fun e w' => ∃ v X, e = .returned v ∧ Hid (GG w w' cb X R (.slice none 0 0) [] ∧ ∀ W R' u P, GG w W cb X R' u P → Row W v R ∧ Calls Try.prog 12 #[.pointer (some ⟨ca, 0, none⟩)] W fun e w' => e = .returned (.int .i64 0) ∧ w' = W)) := (t_whole HT.out 255 fun a ha => (HR.out.1 a ha).2).mono fun e w' ⟨v, X, h1, h2⟩ => ⟨v, X, h1, h2⟩
      clear HK hk hR HT HAG HNN
      go_wp2_with (go_at_call 14; refine H14.out.mono ?_; rintro e w3 ⟨v, X, rfl, h3⟩)
      have O0 : Hid (Od w w3 cb X R (.slice none 0 0) 0) := ⟨⟨[], R, rfl, h3.out.1, fun q => by omega⟩, by omega⟩
      have HV : Hid (∀ W R' u P, GG w W cb X R' u P → Row W v R ∧ Calls Try.prog 12 #[.pointer (some ⟨ca, 0, none⟩)] W fun e w' => e = .returned (.int .i64 0) ∧ w' = W) := h3.out.2
      clear h3 H14
      go_loopw [10, 11] (fun pv t wr => ∃ now : Nat, t = .int .i64 now ∧ Hid (Od w wr cb X R pv now)) (fun _ t _ => 256 - (intOf t).toNat)
      case atStart => exact ⟨0, rfl, O0.out⟩
      case round =>
        clear O0
        obtain ⟨now, rfl, HO⟩ := hrel
        by_cases hno : now ≤ 255
        · have hno' : (now : Int) ≤ 255 := by omega
          obtain ⟨⟨P, Q, ePQ, HG, _⟩, _⟩ := HO.out
          have H14 : Hid (Calls Try.prog 14 #[.pointer (some ⟨cb, 0, none⟩), .int .i64 now] wr fun e w' => ∃ u, e = .returned u ∧ Hid (GD w w' cb X (dw now Q) u10 P u (pw now Q))) := g_due HG now
          have HE : Hid ((P ++ pw now Q) ++ dw now Q = R ∧ (256 ≤ now + 1 → dw now Q = []) ∧ now ≤ 255) := by
            refine ⟨by rw [List.append_assoc, pw_dw]; exact ePQ, fun q => ?_, hno⟩
            have e : now = 255 := by omega
            subst e
            unfold dw
            have hd : ∀ a ∈ Q, decide (a.at' ≤ ((255 : Nat) : Int)) = true := fun a ha => decide_eq_true (by
              have := (HR.out.1 a (by rw [← ePQ]; exact List.mem_append_right _ ha)).2
              show a.at' ≤ (255 : Int)
              exact this)
            have := List.dropWhile_append_of_pos (l₂ := []) hd
            simpa using this
          have HLN : Hid (P.length + (pw now Q).length ≤ 200) := by
            have h1 := congrArg List.length HE.out.1
            simp only [List.length_append] at h1
            have := HR.out.2
            show _ ≤ 200
            omega
          clear HO HG hno ePQ
          obtain ⟨T, hT⟩ : ∃ T, T = pw now Q := ⟨_, rfl⟩
          rw [← hT] at H14 HE HLN
          clear hT
          have HF : Hid (∀ w4 u v' w2, GD w w4 cb X (dw now Q) u10 P u T → Row w2 v' (P ++ T) → w4.grownBy w2 u10.ownBlock → (v'.ownBlock = u10.ownBlock ∨ v'.ownBlock = some w4.heap.size) → Od w w2 cb X R v' (now + 1)) := fun w4 u v' w2 h0 h1 h2 h3 => ⟨⟨P ++ T, dw now Q, HE.out.1, h0.1.app h1 h2 h3, HE.out.2.1⟩, by have := HE.out.2.2; omega⟩
          go_wp2_with (first | (go_at_call 14; refine H14.out.mono ?_; rintro e w4 ⟨u, rfl, h4⟩) | (at_builtin; refine append_rr (w := w4) rfl _ _ rfl u10 u P T rfl h4.out.1.row rfl h4.out.2 (by have := HLN.out; omega) ?_; intro v' w5 h1 h2 h4'))
          have HF1 := HF.out _ _ _ _ h4.out h1 h2 h4'
          have := HE.out.2.2
          refine ⟨⟨now + 1, by simp, HF1⟩, ?_⟩
          simp [intOf]
          omega
        · have hno' : ¬ (now : Int) ≤ 255 := by omega
          have hno2 : decide ((now : Int) ≤ 255) = false := decide_eq_false hno'
          obtain ⟨⟨P, Q, ePQ, HG, hQ⟩, _⟩ := HO.out
          have hQ0 := hQ (by omega)
          subst hQ0
          rw [List.append_nil] at ePQ
          subst ePQ
          have hpv := HG.row
          obtain ⟨hv, hla⟩ := HV.out _ _ _ _ HG
          have H12a : Hid (Calls Try.prog 12 #[.pointer (some ⟨ca, 0, none⟩)] wr fun e w' => e = .returned (.int .i64 0) ∧ w' = wr) := hla
          have H12b : Hid (Calls Try.prog 12 #[.pointer (some ⟨cb, 0, none⟩)] wr fun e w' => e = .returned (.int .i64 0) ∧ w' = wr) := HG.len
          have HB : Hid (Below w.heap.size w wr) := HG.bel
          obtain ⟨qa, ka, ea⟩ := hv.shape
          obtain ⟨qb, kb, eb⟩ := hpv.shape
          have HPV : Hid (Row wr (.slice qa P.length ka) P ∧ Row wr (.slice qb P.length kb) P) := ⟨by rw [← ea]; exact hv, by rw [← eb]; exact hpv⟩
          subst ea eb
          have hPl : (P.length : Int) ≤ 200 := by have := HR.out.2; omega
          clear HO hno HG hQ hpv hv hla HV
          go_wp2_with (first | (go_at_call_of 12 #[Value.pointer (some ⟨ca, 0, none⟩)]; refine H12a.out.mono ?_; rintro e w5 ⟨rfl, rfl⟩) | (go_at_call_of 12 #[Value.pointer (some ⟨cb, 0, none⟩)]; refine H12b.out.mono ?_; rintro e w6 ⟨rfl, rfl⟩))
          go_loopw [12] (fun t wx => ∃ i : Nat, t = .int .i64 i ∧ Hid (i ≤ P.length ∧ wx.heap = w6.heap ∧ Below w.heap.size w wx)) (fun t _ => P.length - (intOf t).toNat)
          case atStart => exact ⟨0, rfl, Nat.zero_le _, rfl, HB.out⟩
          case round =>
            obtain ⟨i, rfl, HI⟩ := hrel
            have ew := HI.out.2.1
            have EW : Hid (wr.heap = w6.heap ∧ Below w.heap.size w wr) := HI.out.2
            have ec : ∀ p, wr.cell? p = w6.cell? p := fun p => by unfold World.cell?; rw [ew]
            by_cases hi : i < P.length
            · have hi' : (i : Int) < (P.length : Int) := by omega
              obtain ⟨ga, ca', e1⟩ := HPV.out.1.row (by omega)
              obtain ⟨gb, cb', e2⟩ := HPV.out.2.row (by omega)
              have r1 := HPV.out.1
              have r2 := HPV.out.2
              rw [e1] at r1
              rw [e2] at r2
              have eqa : qa = some ⟨ga, 0, none⟩ ∧ ka = ca' := by simpa using e1
              have eqb : qb = some ⟨gb, 0, none⟩ ∧ kb = cb' := by simpa using e2
              have hgi := gt_some hi
              obtain ⟨an, aa⟩ : ∃ a, a = gt P i := ⟨_, rfl⟩
              have x0 : wr.cell? ⟨ga, i * 2, none⟩ = some (.string (gt P i).nm) := (ec _).trans (r1.c0 hgi)
              have x1 : wr.cell? ⟨ga, i * 2 + 1, none⟩ = some (.int .i64 (gt P i).at') := (ec _).trans (r1.c1 hgi)
              have y0 : wr.cell? ⟨gb, i * 2, none⟩ = some (.string (gt P i).nm) := (ec _).trans (r2.c0 hgi)
              have y1 : wr.cell? ⟨gb, i * 2 + 1, none⟩ = some (.int .i64 (gt P i).at') := (ec _).trans (r2.c1 hgi)
              have q45 := eq45s (gt P i).nm (gt P i).at'
              generalize (gt P i).nm = xn at *
              generalize (gt P i).at' = xa at *
              obtain ⟨rfl, rfl⟩ := eqa
              obtain ⟨rfl, rfl⟩ := eqb
              have Hi : Hid (i < P.length) := hi
              clear hi HI r1 r2 e1 e2 hgi aa ec ew
              go_upto_region 21 with fail
              go_quiet (fail)
              go_wp2_with fail
              have := Hi.out
              refine ⟨⟨i + 1, by simp, by show i + 1 ≤ P.length; omega, EW.out.1, below_drewN EW.out.2 _⟩, ?_⟩
              simp [intOf]
              omega
            · have hi' : ¬ (i : Int) < (P.length : Int) := by omega
              have hi2 : decide ((i : Int) < (P.length : Int)) = false := decide_eq_false hi'
              clear hi HI ec ew
              go_wp2_with fail
              go_ret
              exact ⟨rfl, EW.out.2⟩
end Go.Proofs.Ytnjnfbfjmeofaaa
