/-
  The law of a log that goes on for long.
-/
import Derived.Test.YtplcpjngpkghmaaJn
import Derived.Deep.RegionHeld3
namespace Go.Proofs.Ytplcpjngpkghmaa
open Go.RowKit Go.Maps

theorem LJ.protect {P P' : Nat → Obj → Prop} {w0 w : World} {pb lb first : Nat} {D : DK} {pt : Option Addr} {l : List RC} {tg lt : Nat → Tg} (h : LJ P w0 w pb lb D pt first l tg lt) (hp : ∀ g o, P' g o → w.heap[g]? = some o ∧ tg g = .no ∧ lt g = .no) : LJ P' w0 w pb lb D pt first l tg lt := ⟨h.d, h.g, h.ap, h.t1, h.t2, h.b, hp⟩
theorem LJ.set {P : Nat → Obj → Prop} {w0 w : World} {pb lb first : Nat} {D : DK} {pt : Option Addr} {l : List RC} {tg lt : Nat → Tg} (h : LJ P w0 w pb lb D pt first l tg lt) (p : Addr) (u : Value) (ht : tg p.block = .no) (hl : lt p.block = .no) (hb : w0.heap.size ≤ p.block) : LJ NoP w0 (w.setCell p u) pb lb D pt first l tg lt := by
  obtain ⟨v, hg⟩ := h.g
  refine ⟨h.d.keep (fun k hk => Below.heap_setCell _ _ _ _ fun e => hk (by rw [e]; exact ht)) (by simp [World.setCell]), ⟨v, hg.keep (fun k hk => Below.heap_setCell _ _ _ _ fun e => hk (by rw [e]; exact hl)) (by simp [World.setCell])⟩, h.ap, h.t1, h.t2, h.b.setCell hb u, nofun⟩
theorem encB_snoc' (first : Nat) (ls : List (List UInt8)) (b : List UInt8) : encB first (ls ++ [b]) = encB first ls ++ Crc.frame b := by
  unfold encB
  rw [List.flatMap_append, List.append_assoc]
  simp
theorem encB_len3 (first : Nat) : ∀ (l : List RC), (∀ r ∈ l, r.b.length = 3000) → (encB first (l.map RC.b)).length = 16 + 3008 * l.length
  | [], _ => by unfold encB; simp [Crc.frame_length]; rfl
  | r :: l, h => by
    have ih := encB_len3 first l fun r hr => h r (List.mem_cons_of_mem _ hr)
    have h0 := h r (List.mem_cons_self ..)
    unfold encB at ih ⊢
    simp only [List.map_cons, List.flatMap_cons, List.length_append, Crc.frame_length, List.length_cons] at ih ⊢
    omega
/-- the memory of the law's loop -/
structure LgW (w wr : World) (pb lb gb K k first : Nat) (l : List RC) (D : DK) (tg lt : Nat → Tg) (bs : List UInt8) : Prop where
  j : LJ NoP w wr pb lb D (some ⟨pb, 0, none⟩) first l tg lt
  u : ∃ sy, Up D none (encB first (l.map RC.b)) sy
  nx : first + l.length = k
  len : ∀ r ∈ l, r.b.length = 3000
  few : l.length ≤ k % K + 1
  pos : k = 0 ∨ 1 ≤ l.length
  last : ∀ r, l[l.length - 1]? = some r → 0 < l.length → r.b[0]? = some (UInt8.ofNat (k - 1))
  o : Own wr w.heap.size (.slice (some ⟨gb, 0, none⟩) 3000 3000) bs
  bl : bs.length = 3000
  t1 : tg gb = .no
  t2 : lt gb = .no
theorem next_lj {P : Nat → Obj → Prop} {w0 w : World} {pb lb first : Nat} {D : DK} {pt : Option Addr} {l : List RC} {tg lt : Nat → Tg} (h : LJ P w0 w pb lb D pt first l tg lt) (hf : first + l.length < 4611686018427387904) :
    Calls Try.prog 22 #[.pointer (some ⟨lb, 0, none⟩)] w fun e w' => e = .returned (.int .i64 ((first : Int) + l.length)) ∧ Below w.heap.size w w' := by
  obtain ⟨v, hg⟩ := h.g
  obtain ⟨q, c, rfl⟩ := lg_slice hg
  exact next_at w lb _ _ _ _ _ (by omega) (by omega) hg.cell
set_option maxRecDepth 100000 in
/-- what a record's Append leaves, the buffer among it -/
theorem lgw_append {w wr : World} {pb lb gb K k first : Nat} {l : List RC} {D : DK} {tg lt : Nat → Tg} {bs : List UInt8} (h : LgW w wr pb lb gb K k first l D tg lt bs) (hK : 20 ≤ K) (hK2 : K ≤ 119) (hk : k < 700) (x : UInt8) :
    Calls Try.prog 20 #[.pointer (some ⟨lb, 0, none⟩), .slice (some ⟨gb, 0, none⟩) 3000 3000] (wr.setCell ⟨gb, 0, none⟩ (.int .u8 x.toNat)) fun e w' => e = .returned (.tuple #[.int .i64 k, .int .i64 0]) ∧ ∃ (tg' lt' : Nat → Tg) (a : Option Addr) (c' : Nat) (D' : DK), LJ NoP w w' pb lb D' (some ⟨pb, 0, none⟩) first (l ++ [RC.mk (bs.set 0 x) a c']) tg' lt' ∧ (∃ sy, Up D' none (encB first ((l ++ [RC.mk (bs.set 0 x) a c']).map RC.b)) sy) ∧ Own w' w.heap.size (.slice (some ⟨gb, 0, none⟩) 3000 3000) (bs.set 0 x) ∧ tg' gb = .no ∧ lt' gb = .no := by
  have hgb := World.ownsRow.lt h.o gb rfl
  have hmod : k % K < K := Nat.mod_lt _ (by omega)
  have hlen : l.length ≤ 119 := by have := h.few; omega
  have o1 : Own (wr.setCell ⟨gb, 0, none⟩ (.int .u8 x.toNat)) w.heap.size (.slice (some ⟨gb, 0, none⟩) 3000 3000) (bs.set 0 x) := h.o.set x
  have j1 := h.j.set ⟨gb, 0, none⟩ (.int .u8 x.toNat) h.t1 h.t2 hgb.1
  generalize wr.setCell ⟨gb, 0, none⟩ (.int .u8 x.toNat) = w1 at *
  obtain ⟨obj, hobj⟩ : ∃ obj, w1.heap[gb]? = some obj := ⟨w1.heap[gb]'(World.ownsRow.lt o1 gb rfl).2, Array.getElem?_eq_getElem _⟩
  have j2 : LJ (fun g o => g = gb ∧ o = obj) w w1 pb lb D (some ⟨pb, 0, none⟩) first l tg lt := j1.protect (by rintro g o ⟨rfl, rfl⟩; exact ⟨hobj, h.t1, h.t2⟩)
  obtain ⟨sy, hu⟩ := h.u
  have hbl : (bs.set 0 x).length = 3000 := by rw [List.length_set]; exact h.bl
  have he := encB_len3 first l h.len
  obtain ⟨D', hA, hU⟩ := hu.append (Crc.frame (bs.set 0 x)) (by rw [Crc.frame_length, hbl, he]; omega)
  have off : ∀ t : Nat → Tg, t gb = .no → LiesOff w1 t (some ⟨gb, 0, none⟩) (bs.set 0 x) := fun t ht => by
    rcases (own_parts o1).1 with e | ⟨g', o', e, hr⟩
    · exact .inl e
    · cases e; exact .inr ⟨gb, 0, rfl, hr, (World.ownsRow.lt o1 gb rfl).2, ht⟩
  have hnx := h.nx
  refine (lap_ok (P := fun g o => g = gb ∧ o = obj) j2 (bs.set 0 x) (some ⟨gb, 0, none⟩) 3000 3000 (by omega) hbl (show some (⟨gb, 0, none⟩ : Addr) = none → 3000 = 0 from nofun) (off tg h.t1) (off lt h.t2) (by omega) (by omega) D' hA).mono ?_
  rintro e w' ⟨rfl, tg', lt', a, c', j3⟩
  obtain ⟨p1, p2, p3⟩ := j3.pr gb obj ⟨rfl, rfl⟩
  refine ⟨by rw [show ((first : Int) + (l.length : Int)) = (k : Int) by omega], tg', lt', a, c', D', j3.protect nofun, ⟨sy, ?_⟩, o1.keepAt fun g e => ?_, p2, p3⟩
  · rw [List.map_append, show [RC.mk (bs.set 0 x) a c'].map RC.b = [bs.set 0 x] from rfl, encB_snoc']
    exact hU
  · have : gb = g := by simpa [Value.ownBlock] using e
    subst this
    rw [p1, hobj]
set_option maxRecDepth 100000 in
theorem lgw_trim {w w5 : World} {pb lb gb k first : Nat} {l : List RC} {r : RC} {D : DK} {tg lt : Nat → Tg} {bs : List UInt8} (j : LJ NoP w w5 pb lb D (some ⟨pb, 0, none⟩) first (l ++ [r]) tg lt) (u : ∃ sy, Up D none (encB first ((l ++ [r]).map RC.b)) sy) (o : Own w5 w.heap.size (.slice (some ⟨gb, 0, none⟩) 3000 3000) bs) (t1 : tg gb = .no) (t2 : lt gb = .no) (hpos : 1 ≤ l.length) (hk : first + l.length = k) (hr : r.b.length = 3000) :
    Calls Try.prog 25 #[.pointer (some ⟨lb, 0, none⟩), .int .i64 k] w5 fun e w' => e = .returned (.int .i64 0) ∧ ∃ (tg' : Nat → Tg) (D' : DK), LJ NoP w w' pb lb D' (some ⟨pb, 0, none⟩) k [r] tg' lt ∧ (∃ sy, Up D' none (encB k ([r].map RC.b)) sy) ∧ Own w' w.heap.size (.slice (some ⟨gb, 0, none⟩) 3000 3000) bs ∧ tg' gb = .no := by
  obtain ⟨obj, hobj⟩ : ∃ obj, w5.heap[gb]? = some obj := ⟨w5.heap[gb]'(World.ownsRow.lt o gb rfl).2, Array.getElem?_eq_getElem _⟩
  have j2 : LJ (fun g o => g = gb ∧ o = obj) w w5 pb lb D (some ⟨pb, 0, none⟩) first (l ++ [r]) tg lt := j.protect (by rintro g o ⟨rfl, rfl⟩; exact ⟨hobj, t1, t2⟩)
  obtain ⟨sy, hu⟩ := u
  have hdrop : (l ++ [r]).drop l.length = [r] := List.drop_left
  have he : (encB k ([r].map RC.b)).length = 16 + 3008 * 1 := encB_len3 k [r] (by simpa using hr)
  obtain ⟨D', hA, hU⟩ := hu.replace k ([r].map RC.b) (by omega)
  have := ltr_ok (P := fun g o => g = gb ∧ o = obj) j2 l.length (by omega) (by simp) D' (by rw [hdrop, hk]; exact hA)
  rw [hdrop, hk, show ((first : Int) + (l.length : Int)) = (k : Int) by omega] at this
  refine this.mono ?_
  rintro e w' ⟨rfl, tg', j3⟩
  obtain ⟨p1, p2, p3⟩ := j3.pr gb obj ⟨rfl, rfl⟩
  refine ⟨rfl, tg', D', j3.protect nofun, ⟨_, hU⟩, o.keepAt fun g e => ?_, p2⟩
  have : gb = g := by simpa [Value.ownBlock] using e
  subst this
  rw [p1, hobj]
theorem wrap8 (k : Nat) (h1 : 1 ≤ k) (h2 : k < 1000000) : ((UInt8.ofNat (k - 1)).toNat : Int) = IntKind.u8.wrap (IntKind.i64.wrap ((k : Int) - 1)) := by
  have e : ((k : Int) - 1) % 2 ^ 64 = (k : Int) - 1 := Int.emod_eq_of_lt (by omega) (by omega)
  have e1 : IntKind.i64.wrap ((k : Int) - 1) = (k : Int) - 1 := by
    unfold IntKind.wrap
    simp only [IntKind.bits, IntKind.signed, e]
    rw [if_neg]
    simp
    omega
  rw [e1, UInt8.toNat_ofNat']
  unfold IntKind.wrap
  simp only [IntKind.bits, IntKind.signed]
  simp
  omega
theorem last_snoc (l : List RC) (r : RC) : (l ++ [r])[(l ++ [r]).length - 1]? = some r := by
  rw [List.length_append, List.length_singleton, Nat.add_sub_cancel, List.getElem?_append_right (Nat.le_refl _), Nat.sub_self]
  rfl
theorem make3 (w : World) : ∃ (O : Obj) (bs : List UInt8), bs.length = 3000 ∧ (∀ B, B ≤ w.heap.size → Own (w.alloc O) B (.slice (some ⟨w.heap.size, 0, none⟩) 3000 3000) bs) ∧ (Instr.makeSlice 31 (.int .i64 3000) (.int .i64 3000)).run Try.prog w = .ok (.slice (some ⟨w.heap.size, 0, none⟩) 3000 3000) (w.alloc O) := by
  refine ⟨.cells (madeCells #[.int .u8 0] 3000) 5, List.replicate 3000 0, List.length_replicate .., fun B hB => ?_, ?_⟩
  · obtain ⟨cs, hb, hsz, hc⟩ := World.rowIs_made w (.int .u8 0) 3000 5
    have hl : (List.replicate 3000 (0 : UInt8)).length = 3000 := List.length_replicate ..
    generalize hL : List.replicate 3000 (0 : UInt8) = L at *
    refine ⟨by rw [bv_length, Nat.mul_one], .inr ⟨w.heap.size, 3000, cs, by rw [hl], hB, hb, by rw [hl]; exact Nat.le_refl _, by unfold maxLen; omega, by rw [hsz, Nat.mul_one], ?_⟩⟩
    rw [hl, Nat.mul_one]
    refine List.ext_getElem? fun i => ?_
    rw [List.getElem?_take]
    unfold bv
    rw [← hL, List.map_replicate, List.getElem?_replicate]
    by_cases hi : i < 3000
    · rw [if_pos hi, if_pos hi, Array.getElem?_toList]
      exact hc i hi
    · rw [if_neg hi, if_neg hi]
  · have h := run_make_row' (P := Try.prog) 31 5 (.int .u8 0) 1 Try.underlying31 info5 rfl .i64 .i64 3000 (by omega) (by omega) w
    rw [show ((3000 : Nat) : Int) = 3000 from rfl] at h
    exact h
set_option maxHeartbeats 8000000 in
set_option maxRecDepth 100000 in
theorem long_law (n ev : UInt8) (w : World) : Calls Try.prog 6 #[.int .u8 n.toNat, .int .u8 ev.toNat] w fun e w' => e = .returned (.bool true) ∧ Below w.heap.size w w' := by
  have bn := u8_bd n
  have be := u8_bd ev
  go_enter Try.func6, Try.ntmps6
  go_wp2_with (go_at_call 9; refine (awake_any w).mono ?_)
  rintro e w1 ⟨rfl, b1⟩
  have y1 : Hid (Below w.heap.size w w1) := b1
  clear b1
  go_wp2_with (go_at_call 11; refine (new_law w w1 y1.out).mono ?_)
  rintro e w2 ⟨pb, rfl, tg2, d2, t2, b2⟩
  have H12 : Hid (Calls Try.prog 12 #[.pointer (some ⟨pb, 0, none⟩), .slice none 0 0] w2 fun e w' => e = .returned (.pointer (some ⟨w2.heap.size, 0, none⟩)) ∧ ∃ tg' lt, LJ NoP w w' pb w2.heap.size (dl (encB 0 []) 16) (some ⟨pb, 0, none⟩) 0 [] tg' lt) := opened_fresh _ b2 d2 t2 nofun
  clear d2 t2 b2
  go_wp2_with (go_at_call 12; refine H12.out.mono ?_)
  rintro e w3 ⟨rfl, tg3, lt3, h3⟩
  generalize w2.heap.size = lb at *
  obtain ⟨O, bs, hbs, hO, hmk⟩ := make3 w3
  obtain ⟨K, hK1, hK2, hKe⟩ : ∃ K : Nat, 20 ≤ K ∧ K ≤ 119 ∧ (20 + (ev.toNat : Int) % 100) = K := ⟨20 + ev.toNat % 100, by omega, by omega, by omega⟩
  obtain ⟨N, hN1, hN2, hNe⟩ : ∃ N : Nat, 400 ≤ N ∧ N ≤ 655 ∧ (400 + (n.toNat : Int)) = N := ⟨400 + n.toNat, by omega, by omega, by omega⟩
  have I0 : Hid (LgW w (w3.alloc O) pb lb w3.heap.size K 0 0 [] (dl (encB 0 []) 16) tg3 lt3 bs) := by
    refine ⟨(h3.keep ((Below.refl _ w3).alloc (Nat.le_refl _) _)), ⟨16, rfl, rfl, rfl⟩, rfl, nofun, Nat.zero_le _, .inl rfl, fun r hr => by simp at hr, hO _ h3.b.size, hbs, no_of fun e => Nat.lt_irrefl _ (h3.d.lt e), no_of fun e => ?_⟩
    obtain ⟨_, hg⟩ := h3.g
    exact Nat.lt_irrefl _ (hg.lt_ _ e)
  have HK : Hid ((20 + (ev.toNat : Int) % 100) = K) := hKe
  have HN : Hid ((400 + (n.toNat : Int)) = N) := hNe
  clear h3 H12 y1 hO hKe hNe
  go_wp2_with fail
  generalize w3.alloc O = w4 at *
  generalize w3.heap.size = gb at *
  go_loopw [9] (fun i wr => ∃ (k first : Nat) (l : List RC) (D : DK) (tg lt : Nat → Tg) (bs : List UInt8), k ≤ N ∧ i = .int .i64 k ∧ LgW w wr pb lb gb K k first l D tg lt bs) (fun i _ => N - (intOf i).toNat)
  case atStart => exact ⟨0, 0, [], _, _, _, _, Nat.zero_le _, rfl, I0.out⟩
  case round =>
    obtain ⟨k, first, l, D, tg, lt, bs, hk, rfl, hG⟩ := hrel
    have HG : Hid (LgW w wr pb lb gb K k first l D tg lt bs) := hG
    clear hG
    by_cases hlt : k < N
    · have hi : (k : Int) < 400 + (n.toNat : Int) := by rw [HN.out]; omega
      have hb0 : bs[0]? = some (bs[0]'(by have := HG.out.bl; omega)) := List.getElem?_eq_getElem _
      have e0 := HG.out.o.cell hb0
      have f0 := HG.out.o.free 0
      have hv : ((k : Int) % 256) = ((UInt8.ofNat k).toNat : Int) := by rw [UInt8.toNat_ofNat']; omega
      have H20 : Hid (Calls Try.prog 20 #[.pointer (some ⟨lb, 0, none⟩), .slice (some ⟨gb, 0, none⟩) 3000 3000] (wr.setCell ⟨gb, 0, none⟩ (.int .u8 ((k : Int) % 256))) fun e w' => e = .returned (.tuple #[.int .i64 k, .int .i64 0]) ∧ ∃ (tg' lt' : Nat → Tg) (a : Option Addr) (c' : Nat) (D' : DK), LJ NoP w w' pb lb D' (some ⟨pb, 0, none⟩) first (l ++ [RC.mk (bs.set 0 (UInt8.ofNat k)) a c']) tg' lt' ∧ (∃ sy, Up D' none (encB first ((l ++ [RC.mk (bs.set 0 (UInt8.ofNat k)) a c']).map RC.b)) sy) ∧ Own w' w.heap.size (.slice (some ⟨gb, 0, none⟩) 3000 3000) (bs.set 0 (UInt8.ofNat k)) ∧ tg' gb = .no ∧ lt' gb = .no) := by
        have := lgw_append HG.out hK1 hK2 (by omega) (UInt8.ofNat k)
        rw [← hv] at this
        exact this
      clear hb0 hv
      go_wp2_with (go_at_call 20; refine H20.out.mono ?_)
      first | rintro e w5 rfl tg5 lt5 a5 c5 D5 j5 u5 o5 t5 v5 | rintro e w5 ⟨rfl, tg5, lt5, a5, c5, D5, j5, u5, o5, t5, v5⟩
      have J5 : Hid (LJ NoP w w5 pb lb D5 (some ⟨pb, 0, none⟩) first (l ++ [RC.mk (bs.set 0 (UInt8.ofNat k)) a5 c5]) tg5 lt5 ∧ (∃ sy, Up D5 none (encB first ((l ++ [RC.mk (bs.set 0 (UInt8.ofNat k)) a5 c5]).map RC.b)) sy) ∧ Own w5 w.heap.size (.slice (some ⟨gb, 0, none⟩) 3000 3000) (bs.set 0 (UInt8.ofNat k)) ∧ tg5 gb = .no ∧ lt5 gb = .no) := ⟨j5, u5, o5, t5, v5⟩
      have hbl : Hid ((bs.set 0 (UInt8.ofNat k)).length = 3000) := by
        refine (?_ : (bs.set 0 (UInt8.ofNat k)).length = 3000)
        rw [List.length_set]; exact HG.out.bl
      have hb1 : Hid ((bs.set 0 (UInt8.ofNat k))[0]? = some (UInt8.ofNat k)) := by
        refine (?_ : (bs.set 0 (UInt8.ofNat k))[0]? = some (UInt8.ofNat k))
        rw [List.getElem?_set_self (by have := HG.out.bl; omega)]
      clear j5 u5 o5 t5 v5 e0 f0 H20
      have hmK : k % K < K := Nat.mod_lt _ (by omega)
      by_cases hm : ((k : Int) % (20 + (ev.toNat : Int) % 100)) = 20 + (ev.toNat : Int) % 100 - 1
      · have hm' : Hid (k % K = K - 1) := by
          rw [HK.out] at hm
          refine (?_ : k % K = K - 1)
          omega
        have H25 : Hid (Calls Try.prog 25 #[.pointer (some ⟨lb, 0, none⟩), .int .i64 k] w5 fun e w' => e = .returned (.int .i64 0) ∧ ∃ (tg' : Nat → Tg) (D' : DK), LJ NoP w w' pb lb D' (some ⟨pb, 0, none⟩) k [RC.mk (bs.set 0 (UInt8.ofNat k)) a5 c5] tg' lt5 ∧ (∃ sy, Up D' none (encB k ([RC.mk (bs.set 0 (UInt8.ofNat k)) a5 c5].map RC.b)) sy) ∧ Own w' w.heap.size (.slice (some ⟨gb, 0, none⟩) 3000 3000) (bs.set 0 (UInt8.ofNat k)) ∧ tg' gb = .no) := by
          obtain ⟨j5, u5, o5, t5, v5⟩ := J5.out
          refine lgw_trim j5 u5 o5 t5 v5 ?_ HG.out.nx hbl.out
          rcases HG.out.pos with h0 | h0
          · have := hm'.out
            rw [h0, Nat.zero_mod] at this
            omega
          · exact h0
        go_wp2_with (go_at_call 25; refine H25.out.mono ?_)
        first | rintro e w6 rfl tg6 D6 j6 u6 o6 t6 | rintro e w6 ⟨rfl, tg6, D6, j6, u6, o6, t6⟩
        have G6 : Hid (LgW w w6 pb lb gb K (k + 1) k [RC.mk (bs.set 0 (UInt8.ofNat k)) a5 c5] D6 tg6 lt5 (bs.set 0 (UInt8.ofNat k))) := by
          refine ⟨j6, u6, rfl, by simpa using hbl.out, by simp, .inr (Nat.le_refl _), fun r hr _ => ?_, o6, hbl.out, t6, J5.out.2.2.2.2⟩
          have e : RC.mk (bs.set 0 (UInt8.ofNat k)) a5 c5 = r := by simpa using hr
          rw [← e]
          exact hb1.out
        clear j6 u6 o6 t6 H25
        go_wp2_with fail
        exact ⟨⟨k + 1, _, _, _, _, _, _, by omega, by go_num, G6.out⟩, by simp [intOf]; omega⟩
      · have hm' : Hid (k % K ≠ K - 1) := by
          rw [HK.out] at hm
          refine (?_ : k % K ≠ K - 1)
          omega
        have G6 : Hid (LgW w w5 pb lb gb K (k + 1) first (l ++ [RC.mk (bs.set 0 (UInt8.ofNat k)) a5 c5]) D5 tg5 lt5 (bs.set 0 (UInt8.ofNat k))) := by
          obtain ⟨j5, u5, o5, t5, v5⟩ := J5.out
          have hnx := HG.out.nx
          have hfw := HG.out.few
          have hmm := hm'.out
          refine ⟨j5, u5, by rw [List.length_append]; simp; omega, fun r hr => ?_, ?_, .inr (by simp), fun r hr _ => ?_, o5, hbl.out, t5, v5⟩
          · rcases List.mem_append.1 hr with hr | hr
            · exact HG.out.len r hr
            · simp only [List.mem_singleton] at hr
              subst hr
              exact hbl.out
          · rw [List.length_append, List.length_singleton]
            have : (k + 1) % K = k % K + 1 := by
              rw [Nat.add_mod, Nat.mod_eq_of_lt (show 1 < K by omega), Nat.mod_eq_of_lt (by omega)]
            omega
          · rw [last_snoc] at hr
            cases hr
            exact hb1.out
        go_wp2_with fail
        exact ⟨⟨k + 1, _, _, _, _, _, _, by omega, by go_num, G6.out⟩, by simp [intOf]; omega⟩
    · have hi : ¬ (k : Int) < 400 + (n.toNat : Int) := by rw [HN.out]; omega
      have hkN : k = N := by omega
      subst hkN
      have hnx := HG.out.nx
      have hl0 : 1 ≤ l.length := by
        rcases HG.out.pos with h0 | h0
        · omega
        · exact h0
      obtain ⟨r, hr⟩ : ∃ r, l[l.length - 1]? = some r := ⟨l[l.length - 1]'(by omega), List.getElem?_eq_getElem _⟩
      have hr0 := HG.out.last r hr (by omega)
      have hr3 := HG.out.len r (List.mem_of_getElem? hr)
      have NX : Hid (∀ V : World, LJ NoP w V pb lb D (some ⟨pb, 0, none⟩) first l tg lt → Calls Try.prog 22 #[.pointer (some ⟨lb, 0, none⟩)] V fun e w' => e = .returned (.int .i64 k) ∧ LJ NoP w w' pb lb D (some ⟨pb, 0, none⟩) first l tg lt ∧ Below V.heap.size V w') := by
        intro V hV
        have := next_lj hV (by omega)
        rw [show ((first : Int) + (l.length : Int)) = (k : Int) by omega] at this
        refine this.mono ?_
        rintro e w' ⟨rfl, b⟩
        exact ⟨rfl, hV.keep b, b⟩
      have GT : Hid (∀ V : World, LJ NoP w V pb lb D (some ⟨pb, 0, none⟩) first l tg lt → Calls Try.prog 23 #[.pointer (some ⟨lb, 0, none⟩), .int .i64 ((k : Int) - 1)] V fun e w' => ∃ g c, e = .returned (.tuple #[.slice (some ⟨g, 0, none⟩) 3000 c, .int .i64 0]) ∧ w'.cell? ⟨g, 0, none⟩ = some (.int .u8 (IntKind.u8.wrap (IntKind.i64.wrap ((k : Int) - 1)))) ∧ V.heap.size ≤ g ∧ LJ NoP w w' pb lb D (some ⟨pb, 0, none⟩) first l tg lt) := by
        intro V hV
        have := get_ok (P := NoP) hV (l.length - 1) r hr (by omega) (by omega)
        rw [show ((first : Int) + ((l.length - 1 : Nat) : Int)) = (k : Int) - 1 by omega, hr3] at this
        refine this.mono ?_
        rintro e w' ⟨q, c, rfl, o, b⟩
        obtain ⟨g, c', e, h1, h2⟩ := o.posn (by omega)
        rw [hr3] at e
        cases e
        have hc := o.cell hr0
        rw [wrap8 k (by omega) (by omega)] at hc
        exact ⟨g, c, rfl, hc, h1, hV.keep b⟩
      obtain ⟨sy, hu⟩ := HG.out.u
      obtain ⟨D', hA, hU⟩ := hu.sync
      have HA : Hid (syncD D nmL = (0, D')) := hA
      clear hr hr0 hr3 hA hU hu
      go_wp2_with (go_at_call 22; refine (NX.out _ HG.out.j).mono ?_)
      first | rintro e w5 rfl j5 b5 | rintro e w5 ⟨rfl, j5, b5⟩
      have J5 : Hid (LJ NoP w w5 pb lb D (some ⟨pb, 0, none⟩) first l tg lt) := j5
      clear j5 b5
      go_wp2_with (go_at_call 23; refine (GT.out _ J5.out).mono ?_)
      first | rintro e w6 g6 c6 rfl x6 l6 j6 | rintro e w6 ⟨g6, c6, rfl, x6, l6, j6⟩
      have hg6 : g6 < w6.heap.size := block_lt_of_cell x6
      have J6 : Hid (LJ (fun g o => g = g6 ∧ o = w6.heap[g6]) w w6 pb lb D (some ⟨pb, 0, none⟩) first l tg lt) := by
        refine j6.protect ?_
        rintro g o ⟨rfl, rfl⟩
        refine ⟨Array.getElem?_eq_getElem _, no_of fun e => ?_, no_of fun e => ?_⟩
        · have := J5.out.d.lt e; omega
        · obtain ⟨_, hg⟩ := J5.out.g
          have := hg.lt_ _ e; omega
      have hx : ∀ V : World, V.heap[g6]? = some w6.heap[g6] → V.cell? ⟨g6, 0, none⟩ = some (.int .u8 (IntKind.u8.wrap (IntKind.i64.wrap ((k : Int) - 1)))) := fun V hV => (World.cell?_of_block (a := ⟨g6, 0, none⟩) (w := w6) (hV.trans (Array.getElem?_eq_getElem hg6).symm)).trans x6
      have NX6 : Hid (∀ V : World, LJ (fun g o => g = g6 ∧ o = w6.heap[g6]) w V pb lb D (some ⟨pb, 0, none⟩) first l tg lt → Calls Try.prog 22 #[.pointer (some ⟨lb, 0, none⟩)] V fun e w' => e = .returned (.int .i64 k) ∧ LJ (fun g o => g = g6 ∧ o = w6.heap[g6]) w w' pb lb D (some ⟨pb, 0, none⟩) first l tg lt ∧ w'.cell? ⟨g6, 0, none⟩ = some (.int .u8 (IntKind.u8.wrap (IntKind.i64.wrap ((k : Int) - 1))))) := by
        intro V hV
        have := next_lj hV (by omega)
        rw [show ((first : Int) + (l.length : Int)) = (k : Int) by omega] at this
        refine this.mono ?_
        rintro e w' ⟨rfl, b⟩
        exact ⟨rfl, hV.keep b, hx w' ((hV.keep b).pr g6 _ ⟨rfl, rfl⟩).1⟩
      have SY6 : Hid (∀ V : World, LJ (fun g o => g = g6 ∧ o = w6.heap[g6]) w V pb lb D (some ⟨pb, 0, none⟩) first l tg lt → Calls Try.prog 26 #[.pointer (some ⟨lb, 0, none⟩)] V fun e w' => e = .returned (.int .i64 0) ∧ Below w.heap.size w w' ∧ w'.cell? ⟨g6, 0, none⟩ = some (.int .u8 (IntKind.u8.wrap (IntKind.i64.wrap ((k : Int) - 1))))) := by
        intro V hV
        refine (lsy_ok (P := fun g o => g = g6 ∧ o = w6.heap[g6]) hV D' HA.out).mono ?_
        rintro e w' ⟨rfl, j⟩
        exact ⟨rfl, j.b, hx w' (j.pr g6 _ ⟨rfl, rfl⟩).1⟩
      have D6 : Hid (∀ n, LJ (fun g o => g = g6 ∧ o = w6.heap[g6]) w (w6.drewN n) pb lb D (some ⟨pb, 0, none⟩) first l tg lt) := fun n => J6.out.keep (below_drewN (Below.refl _ _) n)
      clear j6 J5 hx l6 J6 NX GT HG
      generalize hPP : (fun g o => g = g6 ∧ o = w6.heap[g6] : Nat → Obj → Prop) = PP at *
      clear hPP
      go_wp2_with fail
      go_region_held3 (fun V : World => V.cell? ⟨g6, 0, none⟩ = some (.int .u8 (IntKind.u8.wrap (IntKind.i64.wrap ((k : Int) - 1))))) (go_keep) (first
        | (go_at_call 22; refine (NX6.out _ (D6.out 1)).mono ?_; rintro e w7 ⟨rfl, j7, x7⟩; have J7 : Hid (∀ n, LJ PP w (w7.drewN n) pb lb D (some ⟨pb, 0, none⟩) first l tg lt) := (fun n => j7.keep (below_drewN (Below.refl _ _) n)); clear j7)
        | (go_at_call 26; refine (SY6.out _ (J7.out 0)).mono ?_; rintro e w8 ⟨rfl, b8, x8⟩))
      all_goals (go_wp2_with fail)
      all_goals go_ret
      all_goals exact ⟨rfl, b8⟩
end Go.Proofs.Ytplcpjngpkghmaa
