/-
  A heap while the other's entries come over: its memory, its tags.
-/
import Derived.Test.YtmcmldlnmmbbgaaPw
namespace Go.Proofs.Ytmcmldlnmmbbgaa
open Go.RowKit Go.Maps

/-- the other's entries P have come over, and stand nowhere yet -/
def HS.mx (S O : HS) (P : List Nat) (mb : Option Nat) : HS := { S.meld O with X := P ++ S.X, mb := mb }
def mt (tO : Nat → Tg) (P : List Nat) (k : Nat) : Tg := match tO k with
  | .nd => if k ∈ P then .nd else .no
  | .fm (.kd p) => if p ∈ P then .fm (.kd p) else .no
  | _ => .no
section
variable {tO tg : Nat → Tg} {P : List Nat} {k b : Nat}
theorem mt_cons (h : mt tO P k ≠ .no) : mt tO (b :: P) k = mt tO P k := by
  unfold mt at *
  split at h
  · split at h
    · rename_i h1; rw [if_pos h1, if_pos (List.mem_cons_of_mem _ h1)]
    · exact absurd rfl h
  · split at h
    · rename_i h1; rw [if_pos h1, if_pos (List.mem_cons_of_mem _ h1)]
    · exact absurd rfl h
  · exact absurd rfl h
theorem mt_nd (h : tO k = .nd) : mt tO P k = if k ∈ P then .nd else .no := by unfold mt; rw [h]
theorem mt_kd {p : Nat} (h : tO k = .fm (.kd p)) : mt tO P k = if p ∈ P then .fm (.kd p) else .no := by unfold mt; rw [h]
theorem mt_hp : mt tO P k ≠ .hp := by
  unfold mt
  split
  · split <;> exact nofun
  · split <;> exact nofun
  · exact nofun
theorem mt_hp0 (h : tO k = .hp) : mt tO P k = .no := by unfold mt; rw [h]
theorem mt_mp0 (h : tO k = .mp) : mt tO P k = .no := by unfold mt; rw [h]
theorem mt_rt {i : Nat} (h : tO k = .fm (.rt i)) : mt tO P k = .no := by unfold mt; rw [h]
theorem mt_mp : mt tO P k ≠ .mp := by
  unfold mt
  split
  · split <;> exact nofun
  · split <;> exact nofun
  · exact nofun
end
section
variable {w0 wr w w' : World} {tS tO tg tg' : Nat → Tg} {hb ob : Nat} {S S' O : HS} {P : List Nat} {mb : Option Nat}
theorem Mem.eqv (h : Mem w tg hb S) (hX : ∀ b, b ∈ S'.X ↔ b ∈ S.X) (hfl : ∀ F, S.val F → S'.fl F = S.fl F) (hfv : ∀ F, S.val F → S'.fv F = S.fv F) (hnd : ∀ b ∈ S.X, S'.ndC b = S.ndC b) (hk : Kp (· = hb) w w') (hB : Blk w' hb 70 32 S'.hpC) : Mem w' tg hb S' := by
  have hval : ∀ F, S'.val F → S.val F := fun F hF => by
    cases F with
    | rt i => exact hF
    | kd p => exact (hX p).1 hF
  refine ⟨hB, fun b hb' => ?_, fun F hF => ?_, h.tp, fun b hb' => h.tn b ((hX b).1 hb'), fun F hF g hg => ?_, fun k hk' => Nat.lt_of_lt_of_le (h.lt k hk') hk.size⟩
  · have hb1 := (hX b).1 hb'
    rw [hnd b hb1]
    exact blk_keep (h.nd b hb1) hk (h.ne_hb hb1).symm
  · have hF' := hval F hF
    rw [hfl F hF', hfv F hF']
    refine (h.fm F hF').keep fun g hg => hk.block g ((h.fm F hF').lt hg) fun q => ?_
    have := h.tf F hF' g hg
    rw [show g = hb from q, h.tp] at this
    cases this
  · have hF' := hval F hF
    rw [hfv F hF'] at hg
    exact h.tf F hF' g hg
/-- the two heaps while the other's entries P have come over -/
structure Ph (w0 wr : World) (tS tO tg : Nat → Tg) (hb ob : Nat) (S O : HS) (P : List Nat) (mb : Option Nat) : Prop where
  mm : Mem wr tg hb (S.mx O P mb)
  mp : Mp wr tg (S.mx O P mb)
  oh : Blk wr ob 70 32 O.hpC
  on : ∀ b ∈ O.X, b ∉ P → Blk wr b 84 8 (O.ndC b)
  of : ∀ F, O.val F → (∀ p, F = .kd p → p ∉ P) → Fam wr (O.fv F) (O.fl F)
  tw : ∀ k, tO k ≠ .no → tg k = mt tO P k
  ts : ∀ k, k < w0.heap.size → tO k = .no → tg k = tS k
  pn : P.Nodup
  px : ∀ p ∈ P, p ∈ O.X
  kp : Kp (fun k => tS k ≠ .no ∨ tO k ≠ .no) w0 wr
/-- two heaps, apart -/
structure Two (w : World) (tS tO : Nat → Tg) (hb ob : Nat) (S O : HS) : Prop where
  s : Hp w tS hb S
  o : Hp w tO ob O
  a : ∀ k, tS k ≠ .no → tO k = .no
theorem Two.dis (h : Two w tS tO hb ob S O) : ∀ b ∈ O.X, b ∉ S.X := fun b h1 h2 => by
  have := h.a b (by rw [h.s.m.tn b h2]; exact nofun)
  rw [h.o.m.tn b h1] at this
  cases this
theorem Two.no (h : Two w tS tO hb ob S O) {k : Nat} (hk : tO k ≠ .no) : tS k = .no := by
  by_cases q : tS k = .no
  · exact q
  · exact absurd (h.a k q) hk
theorem Two.ne (h : Two w tS tO hb ob S O) : hb ≠ ob := fun q => by
  have := h.a hb (by rw [h.s.m.tp]; exact nofun)
  rw [q, h.o.m.tp] at this
  cases this
theorem Ph.start (h : Two w0 tS tO hb ob S O) : Ph w0 (w0.setCell ⟨hb, 0, none⟩ (.int .i64 ((S.gv + O.gv : Nat) : Int))) tS tO tS hb ob S O [] S.mb := by
  have hk : Kp (· = hb) w0 (w0.setCell ⟨hb, 0, none⟩ (.int .i64 ((S.gv + O.gv : Nat) : Int))) := Kp.of_set _ _ _ rfl
  have hkO : ∀ k, k < w0.heap.size → tO k ≠ .no → (w0.setCell ⟨hb, 0, none⟩ (.int .i64 ((S.gv + O.gv : Nat) : Int))).heap[k]? = w0.heap[k]? := fun k hk0 hno => hk.block k hk0 fun q => by
    have := h.no hno
    rw [show k = hb from q, h.s.m.tp] at this
    cases this
  refine ⟨h.s.m.eqv (fun b => Iff.rfl) (fun F hF => ?_) (fun F hF => ?_) (fun b hb' => ?_) hk (((h.s.m.hp).set 0 _).same fun j hj => ?_), ?_, h.o.m.hp.at (hkO ob h.o.m.hp.lt (by rw [h.o.m.tp]; exact nofun)), fun b hb' _ => (h.o.m.nd b hb').at (hkO b (h.o.m.nd b hb').lt (by rw [h.o.m.tn b hb']; exact nofun)), fun F hF _ => (h.o.m.fm F hF).keep fun g hg => hkO g ((h.o.m.fm F hF).lt hg) (by rw [h.o.m.tf F hF g hg]; exact nofun), fun k hk0 => ?_, fun k _ _ => rfl, List.Pairwise.nil, nofun, hk.mono fun k _ q => .inl (by rw [show k = hb from q, h.s.m.tp]; exact nofun)⟩
  · cases F with
    | rt i => rfl
    | kd p => exact if_pos hF
  · cases F with
    | rt i => rfl
    | kd p => exact if_pos hF
  · unfold HS.ndC HS.mx HS.meld
    simp only [if_pos hb']
  · unfold fset HS.hpC HS.mx HS.meld
    simp only
    by_cases e : j = 0
    · subst e; rfl
    · rw [if_neg e, if_neg e, if_neg e]
  · have hp := h.s.p
    unfold Mp at *
    show match S.mb with | none => _ | some m => _
    cases hm : S.mb with
    | none => rw [hm] at hp; exact hp
    | some m =>
      rw [hm] at hp
      obtain ⟨M, hM⟩ := hp
      refine ⟨M, hM.t, keepMap hM.o (hk.block m hM.o.lt fun q => ?_), hM.n, fun x z => ?_⟩
      · have := hM.t
        rw [show m = hb from q, h.s.m.tp] at this
        cases this
      · rw [hM.a]
        congr 1
        have hat : ∀ (l : List Nat), (∀ b ∈ l, b ∈ S.X) → l.find? (fun b => ((S.hd b : Int) == x)) = l.find? (fun b => (((S.mx O [] (some m)).hd b : Int) == x)) := fun l => by
          induction l with
          | nil => intro _; rfl
          | cons a l ih =>
            intro hl
            have ha : (S.mx O [] (some m)).hd a = S.hd a := if_pos (hl a (List.mem_cons_self ..))
            rw [List.find?_cons, List.find?_cons, ha, ih fun b hb' => hl b (List.mem_cons_of_mem _ hb')]
        exact hat S.X fun b hb' => hb'
  · rw [h.no hk0]
    unfold mt
    split
    · simp
    · simp
    · rfl

def tgX (tO tg : Nat → Tg) (P : List Nat) (k : Nat) : Tg := if tO k = .no then tg k else mt tO P k
theorem Ph.mono {b k : Nat} (H : Ph w0 wr tS tO tg hb ob S O P mb) (h : tg k ≠ .no) : tgX tO tg (b :: P) k = tg k := by
  unfold tgX
  by_cases q : tO k = .no
  · rw [if_pos q]
  · rw [if_neg q]
    have := H.tw k q
    rw [this] at h ⊢
    exact mt_cons h
theorem Ph.free {b : Nat} (h : Two w0 tS tO hb ob S O) (H : Ph w0 wr tS tO tg hb ob S O P mb) (hbO : b ∈ O.X) (hbP : b ∉ P) : tg b = .no := by
  have e := h.o.m.tn b hbO
  rw [H.tw b (by rw [e]; exact nofun), mt_nd e, if_neg hbP]
theorem mx_val {F : Fa} {b : Nat} (hF : (S.mx O (b :: P) mb).val F) (hne : F ≠ .kd b) : (S.mx O P mb).val F := by
  cases F with
  | rt i => exact hF
  | kd p =>
    have hF' : p ∈ b :: (P ++ S.X) := hF
    exact (List.mem_cons.1 hF').resolve_left fun q => hne (by rw [q])
/-- an entry's handle is turned -/
theorem Ph.take {b : Nat} (h : Two w0 tS tO hb ob S O) (H : Ph w0 wr tS tO tg hb ob S O P mb) (hbO : b ∈ O.X) (hbP : b ∉ P) :
    Mem (wr.setCell ⟨b, 0, none⟩ (.int .i64 ((O.hd b + S.gv : Nat) : Int))) (tgX tO tg (b :: P)) hb (S.mx O (b :: P) mb) ∧ Mp (wr.setCell ⟨b, 0, none⟩ (.int .i64 ((O.hd b + S.gv : Nat) : Int))) (tgX tO tg (b :: P)) (S.mx O P mb) := by
  have hbS := h.dis b hbO
  have hfr := H.free h hbO hbP
  have tOb := h.o.m.tn b hbO
  have hoth : ∀ k, k ≠ b → (wr.setCell ⟨b, 0, none⟩ (.int .i64 ((O.hd b + S.gv : Nat) : Int))).heap[k]? = wr.heap[k]? := fun k hk => Below.heap_setCell _ _ _ _ fun q => hk q
  have hno : ∀ k, tg k ≠ .no → k ≠ b := fun k hk q => hk (by rw [q]; exact hfr)
  have hsz : (wr.setCell ⟨b, 0, none⟩ (.int .i64 ((O.hd b + S.gv : Nat) : Int))).heap.size = wr.heap.size := by simp [World.setCell]
  have hfvb : (S.mx O (b :: P) mb).fv (.kd b) = O.fv (.kd b) := if_neg hbS
  have hflb : (S.mx O (b :: P) mb).fl (.kd b) = O.fl (.kd b) := if_neg hbS
  refine ⟨⟨H.mm.hp.at (hoth hb (hno hb (by rw [H.mm.tp]; exact nofun))), fun c hc => ?_, fun F hF => ?_, ?_, fun c hc => ?_, fun F hF g hg => ?_, fun k hk => ?_⟩, ?_⟩
  · by_cases e : c = b
    · subst e
      refine ((H.on c hbO hbP).set 0 _).same fun j hj => ?_
      unfold fset HS.ndC HS.mx HS.meld
      simp only [if_neg hbS]
      by_cases e0 : j = 0
      · subst e0; rfl
      · rw [if_neg e0, if_neg e0, if_neg e0]
    · have hc' : c ∈ P ++ S.X := (List.mem_cons.1 (show c ∈ b :: (P ++ S.X) from hc)).resolve_left e
      exact (H.mm.nd c hc').at (hoth c e)
  · by_cases e : F = .kd b
    · subst e
      rw [hfvb, hflb]
      refine (H.of (.kd b) hbO fun p q => by injection q with q; rw [← q]; exact hbP).keep fun g hg => hoth g fun q => ?_
      have := h.o.m.tf (.kd b) hbO g hg
      rw [q, tOb] at this
      cases this
    · have hF' := mx_val hF e
      exact (H.mm.fm F hF').keep fun g hg => hoth g (hno g (by rw [H.mm.tf F hF' g hg]; exact nofun))
  · rw [H.mono (by rw [H.mm.tp]; exact nofun)]; exact H.mm.tp
  · by_cases e : c = b
    · subst e
      unfold tgX
      rw [if_neg (by rw [tOb]; exact nofun), mt_nd tOb, if_pos (List.mem_cons_self ..)]
    · have hc' : c ∈ P ++ S.X := (List.mem_cons.1 (show c ∈ b :: (P ++ S.X) from hc)).resolve_left e
      have := H.mm.tn c hc'
      rw [H.mono (by rw [this]; exact nofun)]
      exact this
  · by_cases e : F = .kd b
    · subst e
      rw [hfvb] at hg
      have := h.o.m.tf (.kd b) hbO g hg
      unfold tgX
      rw [if_neg (by rw [this]; exact nofun), mt_kd this, if_pos (List.mem_cons_self ..)]
    · have hF' := mx_val hF e
      have := H.mm.tf F hF' g hg
      rw [H.mono (by rw [this]; exact nofun)]
      exact this
  · rw [hsz]
    unfold tgX at hk
    by_cases q : tO k = .no
    · rw [if_pos q] at hk; exact H.mm.lt k hk
    · exact Nat.lt_of_lt_of_le (h.o.m.lt k q) H.kp.size
  · have hp := H.mp
    unfold Mp at *
    cases mb with
    | none => exact hp
    | some m =>
      obtain ⟨M, hM⟩ := hp
      exact ⟨M, (H.mono (by rw [hM.t]; exact nofun)).trans hM.t, keepMap hM.o (hoth m (hno m (by rw [hM.t]; exact nofun))), hM.n, hM.a⟩
/-- an entry has come over -/
theorem Ph.come {b m : Nat} (h : Two w0 tS tO hb ob S O) (H : Ph w0 wr tS tO tg hb ob S O P mb) (hbO : b ∈ O.X) (hbP : b ∉ P)
    (c : Chg (fun k => tgX tO tg (b :: P) k ≠ .no) (wr.setCell ⟨b, 0, none⟩ (.int .i64 ((O.hd b + S.gv : Nat) : Int))) w' (tgX tO tg (b :: P)) tg') (hm : Mem w' tg' hb (S.mx O (b :: P) (some m))) (hp : Mp w' tg' (S.mx O (b :: P) (some m))) : Ph w0 w' tS tO tg' hb ob S O (b :: P) (some m) := by
  have hoth : ∀ k, k ≠ b → (wr.setCell ⟨b, 0, none⟩ (.int .i64 ((O.hd b + S.gv : Nat) : Int))).heap[k]? = wr.heap[k]? := fun k hk => Below.heap_setCell _ _ _ _ fun q => hk q
  have hsz : (wr.setCell ⟨b, 0, none⟩ (.int .i64 ((O.hd b + S.gv : Nat) : Int))).heap.size = wr.heap.size := by simp [World.setCell]
  have tOb := h.o.m.tn b hbO
  have kept : ∀ k, tO k ≠ .no → mt tO (b :: P) k = .no → w'.heap[k]? = wr.heap[k]? := fun k hk hz => by
    have hlt := h.o.m.lt k hk
    have h1 : tgX tO tg (b :: P) k = .no := by unfold tgX; rw [if_neg hk]; exact hz
    refine (c.kp.block k (by rw [hsz]; exact Nat.lt_of_lt_of_le hlt H.kp.size) fun q => q h1).trans (hoth k fun q => ?_)
    rw [q, mt_nd tOb, if_pos (List.mem_cons_self ..)] at hz
    cases hz
  have tgl : ∀ k, k < w0.heap.size → tg' k = tgX tO tg (b :: P) k := fun k hk => c.tg k (by rw [hsz]; exact Nat.lt_of_lt_of_le hk H.kp.size)
  refine ⟨hm, hp, H.oh.at (kept ob (by rw [h.o.m.tp]; exact nofun) (mt_hp0 h.o.m.tp)), fun x hx hxP => ?_, fun F hF hFP => ?_, fun k hk => ?_, fun k hk hk2 => ?_, List.nodup_cons.2 ⟨hbP, H.pn⟩, fun p hp' => ?_, ?_⟩
  · have e := h.o.m.tn x hx
    exact (H.on x hx fun q => hxP (List.mem_cons_of_mem _ q)).at (kept x (by rw [e]; exact nofun) (by rw [mt_nd e, if_neg hxP]))
  · refine (H.of F hF fun p q q2 => hFP p q (List.mem_cons_of_mem _ q2)).keep fun g hg => ?_
    have e := h.o.m.tf F hF g hg
    refine kept g (by rw [e]; exact nofun) ?_
    cases F with
    | rt i => exact mt_rt e
    | kd p => rw [mt_kd e, if_neg (hFP p rfl)]
  · rw [tgl k (h.o.m.lt k hk)]
    unfold tgX
    rw [if_neg hk]
  · rw [tgl k hk]
    unfold tgX
    rw [if_pos hk2]
    exact H.ts k hk hk2
  · rcases List.mem_cons.1 hp' with q | q
    · rw [q]; exact hbO
    · exact H.px p q
  · refine ⟨c.kp.os.trans H.kp.os, c.kp.tape.trans H.kp.tape, c.kp.output.trans H.kp.output, Nat.le_trans H.kp.size (by rw [← hsz]; exact c.kp.size), fun k hk q => ?_⟩
    have q2 : tO k = .no := Decidable.not_not.1 fun q3 => q (.inr q3)
    have q1 : tS k = .no := Decidable.not_not.1 fun q3 => q (.inl q3)
    have hk1 : k < wr.heap.size := Nat.lt_of_lt_of_le hk H.kp.size
    refine (c.kp.block k (by rw [hsz]; exact hk1) fun q' => q' ?_).trans ((hoth k fun q' => ?_).trans (H.kp.block k hk q))
    · unfold tgX
      rw [if_pos q2, H.ts k hk q2]
      exact q1
    · rw [q', tOb] at q2
      cases q2
end
end Go.Proofs.Ytmcmldlnmmbbgaa
