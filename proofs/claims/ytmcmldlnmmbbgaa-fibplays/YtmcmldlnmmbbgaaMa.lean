/-
  The heap's Meld, where the other has a map.
-/
import Derived.Test.YtmcmldlnmmbbgaaPz
import Derived.Deep.MidRow
import Derived.Laws.Tables
namespace Go.Proofs.Ytmcmldlnmmbbgaa
open Go.RowKit Go.Maps
theorem info70 : ∃ j, Try.prog.info? 70 = some j ∧ j.size = 32 := by
  have h : (Try.prog.info? 70).map (·.size) = some 32 := by kernel_rfl
  cases hq : Try.prog.info? 70 with
  | none => rw [hq] at h; cases h
  | some i => rw [hq] at h; exact ⟨i, rfl, Option.some.inj h⟩
theorem ptr24 {w : World} {e m n n' t t' : Nat} {f f' : Nat → Value} (he : Blk w e t n f) (hm : Blk w m t' n' f') (hne : e ≠ m) : (binOp .eql 24 (.pointer (some ⟨e, 0, none⟩)) (.pointer (some ⟨m, 0, none⟩))).run Try.prog w = .ok (.bool false) w := by
  obtain ⟨j, h1, h2⟩ := info70
  exact run_eql_ptr_other w Try.underlying24 h1 (by omega) (fun q => hne (by injection q)) he hm
/-- the other's rows of roots, as they are loaded -/
def rts (O : HS) : List Value := (List.range 29).map fun i => O.fv (.rt i)
theorem rts_len (O : HS) : (rts O).length = 29 := by unfold rts; simp
theorem rts_get (O : HS) {d : Nat} (hd : d < 29) : (rts O)[d]? = some (O.fv (.rt d)) := by
  unfold rts
  rw [List.getElem?_map, List.getElem?_range hd]
  rfl
theorem rts_at {w : World} {ob : Nat} {O : HS} (h : Blk w ob 70 32 O.hpC) : w.rangeAt ob 2 (rts O) := fun j v hv => by
  have hj : j < 29 := by have := (List.getElem?_eq_some_iff.1 hv).1; rw [rts_len] at this; exact this
  rw [rts_get O hj] at hv
  rw [h.cell (2 + j) (by omega), hpC_rt O hj]
  exact hv
theorem info67 : (Try.prog.info? 67).map (·.size) = some 29 := by kernel_rfl
theorem info66 : ∃ j, Try.prog.info? 66 = some j ∧ j.size = 1 := by
  have h : (Try.prog.info? 66).map (·.size) = some 1 := by kernel_rfl
  cases hq : Try.prog.info? 66 with
  | none => rw [hq] at h; cases h
  | some i => rw [hq] at h; exact ⟨i, rfl, Option.some.inj h⟩
theorem index67 (w : World) {L : List Value} {d : Nat} {v : Value} (hd : d < 29) (hv : L[d]? = some v) : (Instr.index 67 (.agg L.toArray) (.int .i64 d)).run Try.prog w = .ok v w := by
  obtain ⟨j, h1, h2⟩ := info66
  simp [Instr.index, asIntOf, run_underlying Try.underlying67, part, isAgg, run_underlying Try.underlying66, sizeOf, typeInfo, h1, h2, hv, Result.andThen]
  intro q
  omega
/-- the other has come over whole, and is the zero heap -/
structure Mlt (w0 w' : World) (tS tO tg : Nat → Tg) (hb ob : Nat) (S O : HS) (P : List Nat) (S' : HS) : Prop where
  h : Hp w' tg hb S'
  pm : ∀ b, b ∈ P ↔ b ∈ O.X
  X : S'.X = P ++ S.X
  hd : S'.hd = (S.meld O).hd
  ky : S'.ky = (S.meld O).ky
  gv : S'.gv = S.gv + O.gv
  oz : Blk w' ob 70 32 zH
  tb : tg ob = .no
  tl : ∀ k, k < w0.heap.size → tg k ≠ .no → tS k ≠ .no ∨ tO k ≠ .no
  kp : Kp (fun k => tS k ≠ .no ∨ tO k ≠ .no) w0 w'
theorem Meld.zero {w0 wr : World} {tS tO tg : Nat → Tg} {hb ob : Nat} {S O : HS} {P : List Nat} {S' : HS} (h2 : Two w0 tS tO hb ob S O) (hP : ∀ b, b ∈ P ↔ b ∈ O.X) (H : Meld w0 wr tS tO tg hb ob S O P S') : Mlt w0 (wr.setRow ob zeroH) tS tO tg hb ob S O P S' := by
  have k : ∀ k, k ≠ ob → (wr.setRow ob zeroH).heap[k]? = wr.heap[k]? := fun k hk => setRow_other wr ob k zeroH hk
  have kt : ∀ j, tg j ≠ .no → (wr.setRow ob zeroH).heap[j]? = wr.heap[j]? := fun j hj => k j fun q => hj (by rw [q]; exact H.tb)
  have hm := H.h.m
  have hsz : (wr.setRow ob zeroH).heap.size = wr.heap.size := size_setRow _ _ _
  refine ⟨⟨⟨hm.hp.at (kt hb (by rw [hm.tp]; exact nofun)), fun b hb' => (hm.nd b hb').at (kt b (by rw [hm.tn b hb']; exact nofun)), fun F hF => (hm.fm F hF).keep fun g hg => kt g (by rw [hm.tf F hF g hg]; exact nofun), hm.tp, hm.tn, hm.tf, fun j hj => by rw [hsz]; exact hm.lt j hj⟩, ?_, H.h.i, H.h.l⟩, hP, H.X, H.hd, H.ky, H.gv, ?_, H.tb, H.tl, ⟨H.kp.os, H.kp.tape, H.kp.output, by rw [hsz]; exact H.kp.size, fun j hj hn => (k j fun q => hn (.inr ?_)).trans (H.kp.block j hj hn)⟩⟩
  · have hp := H.h.p
    unfold Mp at *
    cases hmb : S'.mb with
    | none => rw [hmb] at hp; exact hp
    | some m =>
      rw [hmb] at hp
      obtain ⟨M, hM⟩ := hp
      exact ⟨M, hM.t, keepMap hM.o (kt m (by rw [hM.t]; exact nofun)), hM.n, hM.a⟩
  · unfold Blk
    rw [← zeroH_eq]
    exact setRow_heap wr ob _ zeroH 70 (0, 0) H.oh
  · rw [q, h2.o.m.tp]; exact nofun
theorem zone : zeroH.all (·.oneCell') = true := by kernel_rfl
theorem zsz (f : Nat → Value) : (Array.ofFn (n := 32) fun i => f i.val).size = zeroH.size := by rw [Array.size_ofFn]; rfl
theorem info70s : (Try.prog.info? 70).map (·.size) = some zeroH.size := by kernel_rfl
def UpE (w wr : World) (tS tO : Nat → Tg) (hb ob : Nat) (S O : HS) (P : List Nat) (mb : Option Nat) (d j : Nat) : Prop := ∃ S' Z tg, Up w wr tS tO tg hb ob S O P mb S' Z d j
theorem UpE.next {w wr : World} {tS tO : Nat → Tg} {hb ob : Nat} {S O : HS} {P : List Nat} {mb : Option Nat} {d j x : Nat} (h : Two w tS tO hb ob S O) (H : UpE w wr tS tO hb ob S O P mb d j) (hs : (P ++ S.X).length ≤ 2000) (hd : d < 29) (hx : (O.fl (.rt d))[j]? = some x) :
    Calls Try.prog 32 #[.pointer (some ⟨hb, 0, none⟩), .pointer (some ⟨x, 0, none⟩)] wr fun e w' => e = .returned (.tuple #[]) ∧ Hid (UpE w w' tS tO hb ob S O P mb d (j + 1)) := by
  obtain ⟨S', Z, tg, H⟩ := H
  exact H.next h hs hd hx
theorem UpE.row {w wr : World} {tS tO : Nat → Tg} {hb ob : Nat} {S O : HS} {P : List Nat} {mb : Option Nat} {d j : Nat} (H : UpE w wr tS tO hb ob S O P mb d j) (hj : (O.fl (.rt d)).length ≤ j) : UpE w wr tS tO hb ob S O P mb (d + 1) 0 := by
  obtain ⟨S', Z, tg, H⟩ := H
  exact ⟨S', Z, tg, H.row hj⟩
theorem UpE.least {w wr : World} {tS tO : Nat → Tg} {hb ob : Nat} {S O : HS} {P : List Nat} {mb : Option Nat} (h : Two w tS tO hb ob S O) (H : UpE w wr tS tO hb ob S O P mb 29 0) (hP : ∀ b, b ∈ P ↔ b ∈ O.X) {x : Nat} (hl : O.lst = some x) :
    Calls Try.prog 33 #[.pointer (some ⟨hb, 0, none⟩), .pointer (some ⟨x, 0, none⟩)] wr fun e w' => e = .returned (.tuple #[]) ∧ Hid (∃ tg S2, Meld w w' tS tO tg hb ob S O P S2) := by
  obtain ⟨S', Z, tg, H⟩ := H
  refine (H.least h hP hl).mono ?_
  rintro e w' ⟨rfl, H2⟩
  exact ⟨rfl, tg, H2.out⟩
section
variable {w : World} {tS tO : Nat → Tg} {hb ob : Nat} {S O : HS}
set_option maxHeartbeats 4000000 in
set_option maxRecDepth 100000 in
theorem meld_some (h : Hid (Two w tS tO hb ob S O)) (hg : Hid (S.gv + O.gv ≤ 1048576)) (hs : Hid (O.X.length + S.X.length ≤ 2000)) {m2 : Nat} {M : DataW Nat} (hm2 : Hid (O.mb = some m2)) (hM : Hid (MpA w tO O m2 M)) :
    Calls Try.prog 21 #[.pointer (some ⟨hb, 0, none⟩), .pointer (some ⟨ob, 0, none⟩)] w fun e w' => e = .returned (.tuple #[.int .i64 S.gv, .int .i64 0]) ∧ Hid (∃ tg P S', Mlt w w' tS tO tg hb ob S O P S') := by
  have q24 := ptr24 h.out.s.m.hp h.out.o.m.hp h.out.ne
  have e0 := h.out.s.m.hp.cell 0 (by decide)
  have f0 := h.out.s.m.hp.fz 0
  have o0 := h.out.o.m.hp.cell 0 (by decide)
  rw [show S.hpC 0 = .int .i64 (S.gv : Int) from rfl] at e0
  rw [show O.hpC 0 = .int .i64 (O.gv : Int) from rfl] at o0
  have g1 : (S.gv : Int) + (O.gv : Int) ≤ 1048576 := by have := hg.out; omega
  have g2 : 0 ≤ (S.gv : Int) := by omega
  have g3 : 0 ≤ (O.gv : Int) := by omega
  have HW : Hid (Ph w (w.setCell ⟨hb, 0, none⟩ (.int .i64 ((S.gv : Int) + (O.gv : Int)))) tS tO tS hb ob S O [] S.mb) := Ph.start h.out
  generalize hx : (S.gv : Int) = x at *
  generalize hy : (O.gv : Int) = y at *
  have HX : Hid (x = (S.gv : Int) ∧ y = (O.gv : Int)) := ⟨hx.symm, hy.symm⟩
  clear hx hy
  go_enter Try.func21, Try.ntmps21
  go_upto_region 3 with fail
  go_region
  all_goals go_upto_region 6 with fail
  all_goals go_region
  have W1 : Hid (∀ W, W = (w.setCell ⟨hb, 0, none⟩ (.int .i64 (x + y))).drew.drew → Ph w W tS tO tS hb ob S O [] S.mb ∧ W.heap.size = w.heap.size ∧ W.ownsMap Try.prog 3 pE m2 (Maps.size M) M ∧ W.cell? ⟨ob, 1, none⟩ = some (.map (some m2))) := fun W e => by
    subst e
    have hno : tS w.heap.size = .no := by
      by_cases q : tS w.heap.size = .no
      · exact q
      · have := h.out.s.m.lt _ q; omega
    have hP := HW.out.iter (r := w.heap.size) (w' := (w.setCell ⟨hb, 0, none⟩ (.int .i64 (x + y))).drew.drew) h.out ⟨rfl, rfl, rfl, Nat.le_refl _, fun _ _ _ => rfl⟩ hno (Nat.le_refl _)
    refine ⟨hP, by simp [World.setCell], keepMap hM.out.o ?_, ?_⟩
    · refine Below.heap_setCell _ _ _ _ fun q => ?_
      have h1 := h.out.a hb (by rw [h.out.s.m.tp]; exact nofun)
      rw [← show m2 = hb from q, hM.out.t] at h1
      cases h1
    · have := hP.oh.cell 1 (by decide)
      rw [show O.hpC 1 = .map O.mb from rfl, hm2.out] at this
      exact this
  generalize (w.setCell ⟨hb, 0, none⟩ (.int .i64 (x + y))).drew.drew = W at *
  obtain ⟨V1, V2, V3, o1⟩ := W1.out _ rfl
  have HV : Hid (Ph w W tS tO tS hb ob S O [] S.mb ∧ W.heap.size = w.heap.size) := ⟨V1, V2⟩
  have H4 : Hid (W.ownsMap Try.prog 3 pE m2 (Maps.size M) M) := V3
  clear V1 V2 V3 W1 HW e0 o0 f0 q24
  go_wp2_with (first
    | (at_range; refine wpList_range_own _ rfl _ 64 rfl 3 68 law3 Try.underlying64 _ m2 (Maps.size M) M rfl H4.out ?_; intro w1 hrg0 hg0 hs0)
    | go_in)
  go_frame
  have R0 : Hid (Rd w w1 tS tO hb ob S O m2 W.heap.size (Maps.size M) M (Maps.size M)) := Rd.start h.out hM.out HV.out.1 HV.out.2 hrg0 hg0
  clear hrg0 hg0 hs0 HV H4 o1
  generalize W.heap.size = r at *
  go_loopw [8] (fun _ wr => ∃ cnt, Rd w wr tS tO hb ob S O m2 r (Maps.size M) M cnt) (fun _ wr => wr.rangeLeft m2 r)
  case atStart => exact ⟨_, R0.out⟩
  case round =>
    obtain ⟨cnt, tg, P, mb, left, hA⟩ := hrel
    have HA : Hid (RdA w wr tS tO tg hb ob S O P mb m2 r (Maps.size M) M left cnt) := hA
    clear hA R0
    go_wp2_with (first
      | (at_next; refine wpList_next_ranges _ rfl _ rfl 3 law3 pE (Value.int .i64) optp invK invV m2 r (Maps.size M) M left cnt rfl HA.out.g ?_ ?_)
      | go_in)
    · intro hc0 hl0
      obtain ⟨hP, hU⟩ := HA.out.done h.out hg.out hl0
      have HU : Hid (UpE w wr tS tO hb ob S O P mb 0 0) := ⟨_, _, _, hU⟩
      have HP : Hid (∀ b, b ∈ P ↔ b ∈ O.X) := hP
      have HOL : Hid (O.X.length ≤ 2000) := Nat.le_trans (Nat.le_add_right _ _) hs.out
      have HL : Hid ((P ++ S.X).length ≤ 2000) := by
        have h1 : P.length ≤ O.X.length := nodup_len HA.out.h.pn HA.out.h.px
        have h2 := hs.out
        show (P ++ S.X).length ≤ 2000
        rw [List.length_append]
        omega
      have i67 : Hid ((Try.prog.info? 67).map (·.size) = some (rts O).length) := by show _ = _; rw [rts_len]; exact info67
      have r67 : Hid (wr.rangeAt ob 2 (rts O)) := rts_at hU.oh
      have X67 : Hid (∀ (w1 : World) (d : Nat), d < 29 → (Instr.index 67 (.agg (rts O).toArray) (.int .i64 d)).run Try.prog w1 = .ok (O.fv (.rt d)) w1) := fun w1 d hd => index67 w1 hd (rts_get O hd)
      clear hP hU HA hc0 hl0 hg hs hM
      generalize rts O = L at *
      go_wp2_with (first | (refine wpList_load_mid rfl 67 _ rfl ob 2 rfl L _ r67.out Try.underlying67 rfl i67.out ?_) | go_in)
      clear i67 r67
      go_loopw [73] (fun i wr => ∃ d : Nat, d ≤ 29 ∧ i = .int .i64 d ∧ UpE w wr tS tO hb ob S O P mb d 0) (fun i _ => 29 - (intOf i).toNat)
      case atStart => exact ⟨0, by omega, rfl, HU.out⟩
      case round =>
        obtain ⟨d, hd, rfl, hE⟩ := hrel
        have HE : Hid (UpE w wr tS tO hb ob S O P mb d 0) := hE
        clear hE HU
        by_cases hd2 : ¬ d < 29
        · have hi : ¬ (d : Int) < 29 := by omega
          have hde : d = 29 := by omega
          subst hde
          clear X67 HL
          have o31 : wr.cell? ⟨ob, 31, none⟩ = some (optp O.lst) := by
            obtain ⟨S', Z, tg', hU⟩ := HE.out
            exact hU.oh.cell 31 (by decide)
          cases hl : O.lst with
          | none =>
            rw [hl] at o31
            unfold optp at o31
            have HB : Hid (wr.heap[ob]? = some (.cells (Array.ofFn (n := 32) fun i => O.hpC i.val) 70 (0, 0))) := by
              obtain ⟨S', Z, tg', hU⟩ := HE.out
              exact hU.oh
            have HF : Hid (Hid (∃ tg P S', Mlt w (wr.setRow ob zeroH) tS tO tg hb ob S O P S')) := by
              obtain ⟨S', Z, tg', hU⟩ := HE.out
              exact ⟨tg', P, S', (hU.leastNo h.out HP.out hl).zero h.out HP.out⟩
            clear HE hl
            go_wp2_with (first | (refine wpList_store_row rfl 70 _ _ rfl ob zeroH rfl rfl 70 (Array.ofFn (n := 32) fun i => O.hpC i.val) HB.out info70s (zsz _) zone ?_) | go_in)
            go_ret2
            exact ⟨rfl, HF.out⟩
          | some xo =>
            rw [hl] at o31
            unfold optp ptr at o31
            have H33 : Hid (Calls Try.prog 33 #[.pointer (some ⟨hb, 0, none⟩), .pointer (some ⟨xo, 0, none⟩)] wr fun e w' => e = .returned (.tuple #[]) ∧ Hid (∃ tg S2, Meld w w' tS tO tg hb ob S O P S2)) := HE.out.least h.out HP.out hl
            clear HE hl
            go_upto_region 23 with (go_at_call 33; refine H33.out.mono ?_; rintro e w9 ⟨rfl, H9⟩)
            have HB : Hid (w9.heap[ob]? = some (.cells (Array.ofFn (n := 32) fun i => O.hpC i.val) 70 (0, 0))) := by
              obtain ⟨tg', S2, hM9⟩ := H9.out
              exact hM9.oh
            have HF : Hid (Hid (∃ tg P S', Mlt w (w9.setRow ob zeroH) tS tO tg hb ob S O P S')) := by
              obtain ⟨tg', S2, hM9⟩ := H9.out
              exact ⟨tg', P, S2, hM9.zero h.out HP.out⟩
            clear H9 H33 o31
            go_wp2_with (first | (refine wpList_store_row rfl 70 _ _ rfl ob zeroH rfl rfl 70 (Array.ofFn (n := 32) fun i => O.hpC i.val) HB.out info70s (zsz _) zone ?_) | go_in)
            go_ret2
            exact ⟨rfl, HF.out⟩
        have hd3 : d < 29 := Decidable.not_not.1 hd2
        have hi : (d : Int) < 29 := by omega
        clear hd2
        obtain ⟨a, c, hv⟩ : ∃ a c, O.fv (.rt d) = .slice a (O.fl (.rt d)).length c := by
          obtain ⟨S', Z, tg', hU⟩ := HE.out
          exact (hU.of d hd3).shape
        have i1 := X67.out wr d hd3
        rw [hv] at i1
        have HV : Hid (O.fv (.rt d) = .slice a (O.fl (.rt d)).length c) := hv
        have hlen : (O.fl (.rt d)).length ≤ 2000 := Nat.le_trans (fam_len h.out.o.i.lc (F := .rt d) hd3) HOL.out
        obtain ⟨l, hl⟩ : ∃ l, l = O.fl (.rt d) := ⟨_, rfl⟩
        have HLE : Hid (l = O.fl (.rt d)) := hl
        rw [← hl] at i1 hlen HV
        clear hl hv
        go_wp2_with fail
        go_loopw [78] (fun i wr => ∃ j : Nat, j ≤ l.length ∧ i = .int .i64 j ∧ UpE w wr tS tO hb ob S O P mb d j) (fun i _ => l.length - (intOf i).toNat)
        case atStart => exact ⟨0, Nat.zero_le _, rfl, HE.out⟩
        case round =>
          obtain ⟨j, hj, rfl, hO⟩ := hrel
          have O1 : Hid (UpE w wr tS tO hb ob S O P mb d j) := hO
          clear hO HE i1
          by_cases hjl : j < l.length
          · have hi2 : (j : Int) < (l.length : Int) := by omega
            obtain ⟨x2, hx2⟩ : ∃ x2, (O.fl (.rt d))[j]? = some x2 := ⟨_, List.getElem?_eq_getElem (by rw [← HLE.out]; exact hjl)⟩
            have hF2 : Fam wr (.slice a l.length c) l := by
              obtain ⟨S', Z, tg', hU⟩ := O1.out
              have := hU.of d hd3
              rw [HV.out, ← HLE.out] at this
              exact this
            obtain ⟨g, c', hg'⟩ := hF2.row (by intro e; rw [e] at hjl; simp at hjl)
            have ea : a = some ⟨g, 0, none⟩ ∧ c = c' := by simpa using hg'
            obtain ⟨rfl, rfl⟩ := ea
            obtain ⟨p0, _⟩ := hF2.cell (by rw [HLE.out]; exact hx2)
            unfold ptr at p0
            have H32 : Hid (Calls Try.prog 32 #[.pointer (some ⟨hb, 0, none⟩), .pointer (some ⟨x2, 0, none⟩)] wr fun e w'' => e = .returned (.tuple #[]) ∧ Hid (UpE w w'' tS tO hb ob S O P mb d (j + 1))) := O1.out.next h.out HL.out hd3 hx2
            clear hx2 hF2 hg' O1
            go_wp2_with (go_at_call 32; refine H32.out.mono ?_; rintro e w6 ⟨rfl, H6⟩)
            exact ⟨⟨j + 1, by omega, by go_num, H6.out⟩, by simp [intOf]; omega⟩
          · have hi2 : ¬ (j : Int) < (l.length : Int) := by omega
            have HD : Hid (UpE w wr tS tO hb ob S O P mb (d + 1) 0) := O1.out.row (by rw [← HLE.out]; omega)
            clear O1
            go_wp2_with fail
            exact ⟨⟨d + 1, by omega, by go_num, HD.out⟩, by simp [intOf]; omega⟩
    · intro x' c kl ya yb w2 cnt2 hkey hlk hy' hat hrg2 hlt hg2 hs2 hen
      obtain ⟨b, rfl, hbO, hbP, HP, hl'⟩ := HA.out.entry h.out hM.out hkey hlk hy' hat hrg2 hg2
      have HK : Hid (Calls Try.prog 31 #[.pointer (some ⟨hb, 0, none⟩), .pointer (some ⟨b, 0, none⟩)] (w2.setCell ⟨b, 0, none⟩ (.int .i64 ((O.hd b : Int) + x))) fun e w' => e = .returned (.tuple #[]) ∧ Hid (Rd w w' tS tO hb ob S O m2 r (Maps.size M) M cnt2)) := by
        have := RdA.keep h.out hM.out hg.out hs.out HP hbO hbP hrg2 hl' HA.out.t HA.out.r
        rw [show ((O.hd b + S.gv : Nat) : Int) = (O.hd b : Int) + x by rw [HX.out.1]; simp] at this
        exact this
      have HC : Hid (cnt2 < cnt ∧ wr.rangeLeft m2 r = cnt) := ⟨hlt, HA.out.g.left_eq⟩
      have b0 := (HP.on b hbO hbP).cell 0 (by decide)
      rw [show O.ndC b 0 = .int .i64 (O.hd b : Int) from rfl] at b0
      have b1 := (HP.on b hbO hbP).fz 0
      have b2 : 0 ≤ (O.hd b : Int) := by omega
      have b3 : (O.hd b : Int) ≤ 1048576 := by have := h.out.o.i.hg b hbO; have := hg.out; omega
      have b4 : x ≤ 1048576 := by omega
      unfold optp ptr at hen
      clear hkey hlk hy' hat hrg2 hlt hg2 hs2 hl' HP hbO hbP HA g1
      generalize (O.hd b : Int) = z at *
      go_wp2_with (go_at_call 31; refine HK.out.mono ?_; rintro e w3 ⟨rfl, H3⟩)
      refine ⟨⟨_, H3.out⟩, ?_⟩
      obtain ⟨tg4, P4, mb4, left4, h4⟩ := H3.out
      rw [h4.g.left_eq, HC.out.2]
      exact HC.out.1
end
end Go.Proofs.Ytmcmldlnmmbbgaa
