/-
  Insert.
-/
import Derived.Test.YthlbeofonbbbdaaNj
namespace Go.Proofs.Ythlbeofonbbbdaa
open Go.RowKit Go.Maps

set_option maxHeartbeats 400000 in
theorem insert_nil (k : K) (w : World) : Calls Try.prog 40 #[.pointer none, ktup k] w fun e w' => e = .returned (.tuple #[.int .i64 0, .int .i64 10]) ∧ Below w.heap.size w w' := by
  unfold ktup
  go_enter Try.func40, Try.ntmps40
  go_wp2_with fail
  go_ret2
  exact ⟨rfl, by go_grown⟩
set_option maxHeartbeats 400000 in
theorem insert_full (hb : Nat) (k : K) (w : World) (f : Nat → Value) (h : Hid (Blk w hb 102 3 f)) (hf : f 0 = .int .i64 1048576) : Calls Try.prog 40 #[ptr hb, ktup k] w fun e w' => e = .returned (.tuple #[.int .i64 0, .int .i64 6]) ∧ Below w.heap.size w w' := by
  unfold ktup ptr
  have c0 := h.out.cell 0 (by decide)
  rw [hf] at c0
  have hlt := h.out.lt
  go_enter Try.func40, Try.ntmps40
  go_wp2_with fail
  go_ret2
  exact ⟨rfl, by go_grown⟩
structure Put0 (w W : World) (hb eb gv : Nat) (k : K) (f : Nat → Value) : Prop where
  hp : Blk W hb 102 3 (fset f 0 (.int .i64 (gv + 1 : Nat)))
  en : Blk W eb 104 5 (e0 gv k)
  kp : Kp (· = hb) w W
  new : w.heap.size ≤ eb
structure Put1 (w W : World) (hb eb : Nat) (f : Nat → Value) (z : Value) (k : K) : Prop where
  hp : Blk W hb 102 3 f
  en : W.heap[eb]? = some (.cells #[z, .int .i64 k.a, .int .i64 k.b, .int .i64 k.c, .int .i64 0] 104 (0, 0))
  kp : Below w.heap.size w W
  new : w.heap.size ≤ eb
theorem e0_eq (gv : Nat) (k : K) : (#[.int .i64 gv, .int .i64 k.a, .int .i64 k.b, .int .i64 k.c, .int .i64 0] : Array Value) = Array.ofFn (n := 5) fun i => e0 gv k i.val := rfl
set_option maxHeartbeats 1000000 in
set_option maxRecDepth 100000 in
theorem insert_raw (w : World) (hb gv : Nat) (k : K) (f : Nat → Value) (R : Nat → World → Prop) (h : Hid (Blk w hb 102 3 f)) (hf : f 0 = .int .i64 gv) (hgv : gv < 1048576)
    (H : Hid (∀ W eb, Put0 w W hb eb gv k f → Calls Try.prog 53 #[.pointer (some ⟨hb, 0, none⟩), .pointer (some ⟨eb, 0, none⟩)] W fun e w3 => e = .returned (.tuple #[]) ∧ w3.cell? ⟨eb, 0, none⟩ = some (.int .i64 gv) ∧ Hid (R eb w3))) :
    Calls Try.prog 40 #[ptr hb, ktup k] w fun e w' => e = .returned (.tuple #[.int .i64 gv, .int .i64 0]) ∧ ∃ eb, w.heap.size ≤ eb ∧ R eb w' := by
  have hlt := h.out.lt
  have g1 : (gv : Int) < 1048576 := by omega
  have HG : Hid (gv < 1048576) := hgv
  clear hgv
  unfold ktup ptr
  go_enter Try.func40, Try.ntmps40
  go_upto_region 3 with fail
  have K1 : Hid ((w.alloc (.cells #[.int .i64 k.a, .int .i64 k.b, .int .i64 k.c] 78)).heap[w.heap.size]? = some (.cells #[.int .i64 k.a, .int .i64 k.b, .int .i64 k.c] 78 (0, 0))) := new0
  have B1 : Hid (Below w.heap.size w (w.alloc (.cells #[.int .i64 k.a, .int .i64 k.b, .int .i64 k.c] 78))) := by unfold Hid; go_grown
  have S1 : Hid (w.heap.size < (w.alloc (.cells #[.int .i64 k.a, .int .i64 k.b, .int .i64 k.c] 78)).heap.size) := by unfold Hid; simp
  generalize w.alloc (.cells #[.int .i64 k.a, .int .i64 k.b, .int .i64 k.c] 78) = w1 at *
  have P1 : Hid (Blk w1 hb 102 3 f) := h.out.at (B1.out.block _ hlt)
  have p0 := P1.out.cell 0 (by decide)
  rw [hf] at p0
  have z0 : 0 ≤ (gv : Int) := by omega
  have HZ : ∃ z : Int, z = (gv : Int) := ⟨_, rfl⟩
  obtain ⟨z, hz⟩ := HZ
  rw [← hz] at p0 g1 z0 hf
  have HZ : Hid (z = (gv : Int)) := hz
  clear hz
  obtain ⟨k0, k1, k2⟩ := c3 K1.out
  go_upto_region 5 with fail
  go_region
  have HW : Hid (Put1 w (w1.alloc (.cells #[.int .i64 z, .int .i64 k.a, .int .i64 k.b, .int .i64 k.c, .int .i64 0] 104)).drew hb w1.heap.size f (.int .i64 z) k) := ⟨at_alloc P1.out, new0, by
    have b2 := B1.out.alloc B1.out.size (.cells #[.int .i64 z, .int .i64 k.a, .int .i64 k.b, .int .i64 k.c, .int .i64 0] 104)
    exact ⟨b2.os, b2.tape, b2.output, b2.size, b2.block⟩, Nat.le_of_lt S1.out⟩
  generalize (w1.alloc (.cells #[.int .i64 z, .int .i64 k.a, .int .i64 k.b, .int .i64 k.c, .int .i64 0] 104)).drew = W2 at *
  generalize w1.heap.size = eb at *
  clear k0 k1 k2 K1 B1 S1 P1 p0
  have q0 := HW.out.hp.cell 0 (by decide)
  rw [hf] at q0
  have q1 := HW.out.hp.fz 0
  have HC : Hid (∀ W3, W3 = W2.setCell ⟨hb, 0, none⟩ (.int .i64 (z + 1)) → Put0 w W3 hb eb gv k f) := fun W3 e => by
    subst e
    have hne : hb ≠ eb := by have := HW.out.new; omega
    refine ⟨?_, ?_, ?_, HW.out.new⟩
    · have := HW.out.hp.set 0 (.int .i64 (z + 1))
      rw [HZ.out] at this ⊢
      exact this
    · have := HW.out.en
      rw [HZ.out] at this
      refine Blk.other ?_ _ _ hne
      unfold Blk
      rw [← e0_eq]
      exact this
    · exact (Kp.of_below (S := (· = hb)) HW.out.kp).trans (Kp.of_set (S := (· = hb)) _ ⟨hb, 0, none⟩ _ rfl) fun _ _ h => h
  have HN : Hid (w.heap.size ≤ eb) := HW.out.new
  go_upto_region 7 with fail
  have HD := H.out _ eb (HC.out _ rfl)
  generalize W2.setCell ⟨hb, 0, none⟩ (.int .i64 (z + 1)) = W3 at *
  clear q0 q1 HC HW H
  go_wp2_with (go_at_call 53; refine HD.mono ?_; rintro e w3 ⟨rfl, h5, H5⟩)
  go_ret2
  exact ⟨rfl, eb, HN.out, H5.out⟩

/-! ### over what a heap holds -/
abbrev Ct := Int → Option K
def HS.cont (S : HS) : Ct := fun x => (S.at x).map S.ky
def Ct.nil : Ct := fun _ => none
def Ct.put (C : Ct) (g : Nat) (k : K) : Ct := fun x => if x = (g : Int) then some k else C x
def Ct.del (C : Ct) (g : Nat) : Ct := fun x => if x = (g : Int) then none else C x
structure Hc (w : World) (hb : Nat) (C : Ct) (g n : Nat) (S : HS) : Prop where
  h : Hp w hb S
  c : S.cont = C
  g : S.gv = g
  n : S.l.length = n
section
variable {w w' : World} {hb g n : Nat} {C : Ct} {S S' : HS} {k : K}
theorem cont_mem (hu : S.uh) {b : Nat} (hb : b ∈ S.l) : S.cont (S.hd b) = some (S.ky b) := by unfold HS.cont; rw [at_of hu hb]; rfl
theorem cont_some {x : Int} {k : K} (h : S.cont x = some k) : ∃ b ∈ S.l, (S.hd b : Int) = x ∧ S.ky b = k := by
  unfold HS.cont at h
  obtain ⟨b, h1, h2⟩ := Option.map_eq_some_iff.1 h
  obtain ⟨k1, k2⟩ := at_some h1
  exact ⟨b, k1, k2, h2⟩
theorem cont_none {x : Int} (h : S.cont x = none) : ∀ b ∈ S.l, (S.hd b : Int) ≠ x := by
  unfold HS.cont at h
  exact at_none (Option.map_eq_none_iff.1 h)
theorem cont_eq (hu : S.uh) {x : Int} {o : Option K} (h1 : ∀ k, o = some k → ∃ b ∈ S.l, (S.hd b : Int) = x ∧ S.ky b = k) (h2 : o = none → ∀ b ∈ S.l, (S.hd b : Int) ≠ x) : S.cont x = o := by
  cases o with
  | none =>
    cases q : S.cont x with
    | none => rfl
    | some k => obtain ⟨b, k1, k2, _⟩ := cont_some q; exact absurd k2 (h2 rfl b k1)
  | some k =>
    obtain ⟨b, k1, k2, k3⟩ := h1 k rfl
    rw [← k2, cont_mem hu k1, k3]
theorem Hc.below (h : Hc w hb C g n S) (b : Below w.heap.size w w') : Hc w' hb C g n S := ⟨h.h.below b, h.c, h.g, h.n⟩
theorem Hc.keep (h : Hc w hb C g n S) (b : ∀ k, Fp hb S k → w'.heap[k]? = w.heap[k]?) : Hc w' hb C g n S := ⟨h.h.keep b, h.c, h.g, h.n⟩
def zS : HS := ⟨0, none, .slice none 0 0, [], fun _ => 0, fun _ => kz⟩
theorem hc_zero (hB : Blk w hb 102 3 zH) : Hc w hb Ct.nil 0 0 zS :=
  ⟨⟨⟨hB.same fun i hi => by rcases (by omega : i = 0 ∨ i = 1 ∨ i = 2) with rfl | rfl | rfl <;> rfl, fun i b q => by simp [zS] at q, Fam.nil _, List.nodup_nil, fun b q => by simp [zS] at q, by simp [zS]⟩, rfl, vv_zero, fun a q => by simp [zS] at q, fun a q => by simp [zS] at q, by simp [zS], by simp [zS]⟩, rfl, rfl, rfl⟩
theorem Mp.gv (h : Mp w S) (x : Nat) : Mp w { S with gv := x } := by
  unfold Mp at *
  show match S.mb with | none => S.l = [] | some m => _
  cases hm : S.mb with
  | none => rw [hm] at h; exact h
  | some m =>
    rw [hm] at h
    obtain ⟨M, h⟩ := h
    exact ⟨M, h.o, h.n, h.a⟩
theorem insert_C (h : Hc w hb C g n S) (k : K) (hk : k.ok) (hg : g < 1048576) :
    Calls Try.prog 40 #[ptr hb, ktup k] w fun e w' => e = .returned (.tuple #[.int .i64 g, .int .i64 0]) ∧ ∃ S', Hc w' hb (C.put g k) (g + 1) (n + 1) S' ∧ Chg hb S S' w w' := by
  have hgv := h.g
  refine (insert_raw w hb g k S.hpC (fun _ w' => ∃ S', Hc w' hb (C.put g k) (g + 1) (n + 1) S' ∧ Chg hb S S' w w') h.h.m.hp (by show Value.int .i64 S.gv = _; rw [hgv]) hg fun W eb P0 => ?_).mono ?_
  · have hnl : eb ∉ S.l := fun q => by have := h.h.m.lt eb (.inr (.inl q)); have := P0.new; omega
    have hold : ∀ k', Fp hb S k' → k' ≠ hb → W.heap[k']? = w.heap[k']? := fun k' q hne => P0.kp.block k' (h.h.lt k' q) hne
    have hm : Mem W hb { S with gv := g + 1 } := by
      refine ⟨P0.hp.same fun i hi => ?_, fun i b q => (h.h.m.nd i b q).at (hold b (.inr (.inl (List.mem_of_getElem? q))) fun e => blk_ne h.h.m.hp (h.h.m.nd i b q) (by decide) e.symm), h.h.m.fm.keep fun x hx => hold x (.inr (.inr (.inl hx))) fun e => h.h.m.fm.ne h.h.m.hp (by decide) (by rw [← e]; exact hx), h.h.m.no, h.h.m.ok, h.h.m.sm⟩
      rcases (by omega : i = 0 ∨ i = 1 ∨ i = 2) with rfl | rfl | rfl <;> rfl
    have hp : Mp W { S with gv := g + 1 } := Mp.gv (w := W) (S := S) (x := g + 1) <| h.h.p.keep fun m e _ => hold m (.inr (.inr (.inr e))) fun q => by
      have hp0 := h.h.p
      unfold Mp at hp0
      rw [e] at hp0
      obtain ⟨M, hM⟩ := hp0
      exact map_ne hM.o h.h.m.hp q.symm
    refine (add_S (g := g) (k := k) hm hp h.h.v h.h.hu (fun b q => by have := h.h.hg b q; rw [hgv] at this; exact this) rfl hg (by have := h.h.ln; rw [hgv] at this; exact this) P0.en hnl hk).mono ?_
    rintro e w' ⟨rfl, S', M⟩
    have mX : ∀ {c}, c ∈ S'.l ↔ c ∈ S.l ∨ c = eb := fun {c} => by rw [M.l.mem_iff, List.mem_append]; simp
    have hbb : S'.hd eb = g ∧ S'.ky eb = k := ⟨by rw [M.hd, upd_same], by rw [M.ky, upd_same]⟩
    have hhd : ∀ c ∈ S.l, S'.hd c = S.hd c ∧ S'.ky c = S.ky c := fun c hc => ⟨by rw [M.hd]; exact upd_other _ _ (ne_of_in hc hnl), by rw [M.ky]; exact upd_other _ _ (ne_of_in hc hnl)⟩
    have hc0 : w'.cell? ⟨eb, 0, none⟩ = some (.int .i64 g) := by
      obtain ⟨i, hi⟩ := List.getElem?_of_mem (mX.2 (.inr rfl))
      have := (M.h.m.en hi).h
      rw [hbb.1] at this
      exact this
    refine ⟨rfl, hc0, S', ⟨M.h, ?_, by rw [M.gv], ?_⟩, ?_⟩
    · funext x
      refine cont_eq M.h.hu (fun k' q => ?_) (fun q c hc => ?_)
      · unfold Ct.put at q
        split at q
        · rename_i ex
          exact ⟨eb, mX.2 (.inr rfl), by rw [hbb.1, ex], by rw [hbb.2]; exact Option.some.inj q⟩
        · rw [← h.c] at q
          obtain ⟨c, k1, k2, k3⟩ := cont_some q
          exact ⟨c, mX.2 (.inl k1), by rw [(hhd c k1).1]; exact k2, by rw [(hhd c k1).2]; exact k3⟩
      · unfold Ct.put at q
        split at q
        · cases q
        · rename_i ex
          rw [← h.c] at q
          rcases mX.1 hc with hc | rfl
          · rw [(hhd c hc).1]; exact cont_none q c hc
          · rw [hbb.1]; exact fun q' => ex q'.symm
    · rw [M.l.length_eq, List.length_append, ← h.n]; rfl
    · refine ⟨(P0.kp.mono (S' := Fp hb S) fun k' _ q => .inl q).trans M.kp fun k' hk' q => ?_, fun k' q => ?_⟩
      · rcases q with q | q
        · exact q
        · have := P0.new; omega
      · rcases M.fp k' q with q | q | q
        · exact .inl q
        · exact .inr (by have := P0.new; omega)
        · exact .inr (Nat.le_trans P0.kp.size q)
  · rintro e w' ⟨rfl, eb, _, S', h1, h2⟩
    exact ⟨rfl, S', h1, h2⟩
theorem len_C (h : Hc w hb C g n S) : Calls Try.prog 51 #[ptr hb] w fun e w' => e = .returned (.int .i64 n) ∧ w' = w := by
  obtain ⟨a, c, e⟩ := h.h.m.fm.shape
  rw [h.n] at e
  exact len_at w hb n c a (by rw [h.h.m.c2, e])
end
end Go.Proofs.Ythlbeofonbbbdaa
