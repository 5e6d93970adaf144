/-
  A table of nodes as plain data: a list, rising by names; what Register, Beat and Expire make of it; the alarms of the live ones.
-/
import Derived.Test.YtihjmigjphljnaaDk
import Derived.Test.YtihjmigjphljnaaTOa
import Derived.Test.YtihjmigjphljnaaNames
namespace Go.Proofs.Ytihjmigjphljnaa
open Go.RowKit Go.Maps
open Tk (Al)

structure Nd where
  nm : ByteArray
  ep : Int
  v : V
  sn : Int
  lv : Bool
def Nd.k (n : Nd) : List UInt8 := n.nm.data.toList
def Nd.z : Nd := ⟨⟨#[]⟩, 0, V.nil, 0, false⟩
def Nd.al (n : Nd) : Al := ⟨n.nm, n.sn + 10⟩
theorem Nd.al_k (n : Nd) : n.al.k = n.k := rfl
def Nd.off (n : Nd) : Nd := { n with lv := false }
/-- the lease is over -/
def Nd.lost (now : Int) (n : Nd) : Bool := n.lv && decide (n.sn + 10 ≤ now)
def Nd.exp (now : Int) (n : Nd) : Nd := if n.lost now then n.off else n
theorem Nd.off_k (n : Nd) : n.off.k = n.k := rfl
theorem Nd.exp_k (now : Int) (n : Nd) : (n.exp now).k = n.k := by unfold Nd.exp; split <;> rfl

def put (n : Nd) (D : List Nd) : List Nd := ins Nd.k n (drp Nd.k n.k D)
def regR (D : List Nd) (s : ByteArray) (ep : Int) (v : V) (now : Int) : (Bool × Int) × List Nd :=
  if Txt.name s && v.ok then
    (if decide (1 ≤ ep) && decide (ep ≤ 2147483647) && decide (0 ≤ now) && decide (now ≤ 1099511627776) then
      (match fnd Nd.k s.data.toList D with
        | some o => if ep ≤ o.ep then ((false, 14), D) else ((o.lv, 0), put ⟨s, ep, v, now, true⟩ D)
        | none => if 12 ≤ D.length then ((false, 6), D) else ((false, 0), put ⟨s, ep, v, now, true⟩ D))
    else ((false, 2), D))
  else ((false, 4), D)
def beatR (D : List Nd) (s : List UInt8) (ep now : Int) : Int × List Nd :=
  match fnd Nd.k s D with
  | none => (3, D)
  | some o => if ep = o.ep ∧ o.lv = true then (if o.sn ≤ now ∧ now ≤ 1099511627776 then (0, put { o with sn := now } D) else (2, D)) else (14, D)
def expR (D : List Nd) (now : Int) : List Nd := D.map (Nd.exp now)
def expN (D : List Nd) (now : Int) : List Nd := D.filter (Nd.lost now)

/-! ### sorted lists -/
theorem srt_nd {l : List Nd} (h : Srt Nd.k l) : l.Pairwise fun a b => a.k ≠ b.k := List.Pairwise.imp (fun {a b} q e => by rw [e, WideAt.bytes_irrefl] at q; cases q) h
theorem ins_perm (n : Nd) : ∀ l : List Nd, (ins Nd.k n l).Perm (n :: l)
  | [] => .refl _
  | y :: r => by
    unfold ins
    split
    · exact .refl _
    · exact ((ins_perm n r).cons y).trans (List.Perm.swap n y r)
theorem srt_perm {l l' : List Nd} (p : l.Perm l') (h : Srt Nd.k l) (h' : Srt Nd.k l') : l = l' := by
  refine List.Perm.eq_of_pairwise (le := fun a b => bytesBefore a.k b.k = true) (fun a b _ _ h1 h2 => ?_) (show l.Pairwise fun a b => bytesBefore a.k b.k = true from h) (show l'.Pairwise fun a b => bytesBefore a.k b.k = true from h') p
  have := WideShapes.bytes_trans _ _ _ h1 h2
  rw [WideAt.bytes_irrefl] at this
  cases this
theorem srt_put {n : Nd} {D : List Nd} (h : Srt Nd.k D) : Srt Nd.k (put n D) := srt_ins (srt_drp h) fun _ hy => (mem_drp.1 hy).2
theorem put_perm (n : Nd) (D : List Nd) : (put n D).Perm (n :: drp Nd.k n.k D) := ins_perm _ _
theorem mem_put {n y : Nd} {D : List Nd} : y ∈ put n D ↔ y = n ∨ (y ∈ D ∧ y.k ≠ n.k) := by unfold put; rw [mem_ins, mem_drp]
theorem upd_perm {n o : Nd} : ∀ {D : List Nd}, Srt Nd.k D → fnd Nd.k n.k D = some o → (upd Nd.k n.k n D).Perm (n :: drp Nd.k n.k D)
  | [], _, hf => by simp [fnd] at hf
  | y :: r, h, hf => by
    have h1 := List.pairwise_cons.1 h
    by_cases e : y.k = n.k
    · have hr : ∀ x ∈ r, x.k ≠ n.k := fun x hx q => by
        have := h1.1 x hx
        rw [e, q, WideAt.bytes_irrefl] at this
        cases this
      have e1 : upd Nd.k n.k n r = r := by
        exact (List.map_congr_left (g := id) fun x hx => by simp [hr x hx]).trans (List.map_id r)
      have e2 : drp Nd.k n.k r = r := List.filter_eq_self.2 fun x hx => by simpa using hr x hx
      have e3 : upd Nd.k n.k n (y :: r) = n :: upd Nd.k n.k n r := by unfold upd; simp [e]
      have e4 : drp Nd.k n.k (y :: r) = drp Nd.k n.k r := by unfold drp; simp [e]
      rw [e3, e4, e1, e2]
    · have e3 : upd Nd.k n.k n (y :: r) = y :: upd Nd.k n.k n r := by unfold upd; simp [e]
      have e4 : drp Nd.k n.k (y :: r) = y :: drp Nd.k n.k r := by unfold drp; simp [e]
      have hf' : fnd Nd.k n.k r = some o := by unfold fnd at hf ⊢; rwa [List.find?_cons_of_neg (by simp [e])] at hf
      rw [e3, e4]
      exact ((upd_perm h1.2 hf').cons y).trans (List.Perm.swap n y _)
theorem put_upd {n o : Nd} {D : List Nd} (h : Srt Nd.k D) (hf : fnd Nd.k n.k D = some o) : put n D = upd Nd.k n.k n D :=
  srt_perm ((put_perm n D).trans (upd_perm h hf).symm) (srt_put h) (srt_upd rfl h)
theorem put_new {n : Nd} {D : List Nd} (hf : fnd Nd.k n.k D = none) : put n D = ins Nd.k n D := by unfold put; rw [drp_none hf]
theorem put_length {n : Nd} {D : List Nd} (h : Srt Nd.k D) : (put n D).length = if (fnd Nd.k n.k D).isSome then D.length else D.length + 1 := by
  cases hf : fnd Nd.k n.k D with
  | none => rw [put_new hf, ins_length]; rfl
  | some o => rw [put_upd h hf, upd_length]; rfl
theorem fnd_of {D : List Nd} (h : Srt Nd.k D) {n : Nd} (hn : n ∈ D) : fnd Nd.k n.k D = some n := by
  cases hf : fnd Nd.k n.k D with
  | none => exact absurd rfl (fnd_none hf n hn)
  | some o => obtain ⟨h1, h2⟩ := fnd_some hf; rw [srt_one h h1 hn h2]
theorem fnd_put {n : Nd} {D : List Nd} (h : Srt Nd.k D) (s : List UInt8) : fnd Nd.k s (put n D) = if s = n.k then some n else fnd Nd.k s D := by
  split
  · rename_i e
    rw [e]
    exact fnd_of (srt_put h) (mem_put.2 (.inl rfl))
  · rename_i e
    cases hf : fnd Nd.k s D with
    | none =>
      cases hg : fnd Nd.k s (put n D) with
      | none => rfl
      | some o =>
        obtain ⟨h1, h2⟩ := fnd_some hg
        rcases mem_put.1 h1 with rfl | h1
        · exact absurd h2.symm e
        · exact absurd h2 (fnd_none hf o h1.1)
    | some o =>
      obtain ⟨h1, h2⟩ := fnd_some hf
      rw [← h2]
      exact fnd_of (srt_put h) (mem_put.2 (.inr ⟨h1, by rw [h2]; exact e⟩))

/-! ### the live ones' alarms -/
def als (D : List Nd) : List Al := (D.filter Nd.lv).map Nd.al
theorem als_nod {D : List Nd} (h : Srt Nd.k D) : Tk.Nod (als D) := by
  unfold als Tk.Nod
  rw [List.pairwise_map]
  exact (srt_nd h).filter _
theorem als_length (D : List Nd) : (als D).length ≤ D.length := by unfold als; rw [List.length_map]; exact List.length_filter_le ..
theorem als_drp (s : List UInt8) (D : List Nd) : Tk.drp s (als D) = als (drp Nd.k s D) := by
  unfold als drp Tk.drp
  rw [List.filter_map, List.filter_filter, List.filter_filter]
  congr 1
  exact List.filter_congr fun x _ => Bool.and_comm _ _
theorem als_put {n : Nd} {D : List Nd} (hl : n.lv = true) {R : List Al} (hp : R.Perm (als D)) : (Tk.ins n.al (Tk.drp n.k R)).Perm (als (put n D)) := by
  refine (Tk.ins_perm _ _).trans ?_
  have h1 : (als (put n D)).Perm (als (n :: drp Nd.k n.k D)) := ((put_perm n D).filter _).map _
  refine (List.Perm.trans ?_ h1.symm)
  have e : als (n :: drp Nd.k n.k D) = n.al :: als (drp Nd.k n.k D) := by unfold als; rw [List.filter_cons_of_pos hl]; rfl
  rw [e, ← als_drp]
  exact (hp.filter _).cons _
/-- an alarm's name is that of a node -/
theorem als_mem {D : List Nd} {a : Al} (h : a ∈ als D) : ∃ n ∈ D, n.lv = true ∧ n.al = a := by
  obtain ⟨n, h1, h2⟩ := List.mem_map.1 h
  exact ⟨n, (List.mem_filter.1 h1).1, (List.mem_filter.1 h1).2, h2⟩
theorem exp_als (D : List Nd) (now : Int) : als (expR D now) = (als D).filter fun a => !decide (a.at' ≤ now) := by
  unfold als expR
  rw [List.filter_map, List.map_map, List.filter_map, List.filter_filter]
  have e1 : D.filter (Nd.lv ∘ Nd.exp now) = D.filter fun n => (((fun a : Al => !decide (a.at' ≤ now)) ∘ Nd.al) n && n.lv) := by
    refine List.filter_congr fun n _ => ?_
    unfold Nd.exp Nd.lost Nd.al Nd.off
    simp only [Function.comp]
    by_cases h1 : n.lv = true <;> by_cases h2 : n.sn + 10 ≤ now <;> simp [h1, h2]
  rw [e1]
  refine List.map_congr_left fun n hn => ?_
  have := (List.mem_filter.1 hn).2
  unfold Nd.exp Nd.lost
  simp only [Function.comp, Nd.al, Bool.and_eq_true, Bool.not_eq_true'] at this ⊢
  rw [if_neg]
  rintro ⟨_, q⟩
  have h1 := of_decide_eq_false this.1
  exact h1 (of_decide_eq_true q)
theorem lost_als (D : List Nd) (now : Int) : ((als D).filter fun a => decide (a.at' ≤ now)) = (expN D now).map Nd.al := by
  unfold als expN
  rw [List.filter_map, List.filter_filter]
  congr 1
  refine List.filter_congr fun n _ => ?_
  unfold Nd.lost
  exact Bool.and_comm _ _
/-- who is to go, by names -/
def kill (ks : List (List UInt8)) (n : Nd) : Nd := if ks.contains n.k then n.off else n
theorem kill_k (ks : List (List UInt8)) (n : Nd) : (kill ks n).k = n.k := by unfold kill; split <;> rfl
theorem map_kill_nil (D : List Nd) : D.map (kill []) = D := (List.map_congr_left (g := id) fun _ _ => rfl).trans (List.map_id D)
theorem srt_kill {D : List Nd} (h : Srt Nd.k D) (ks : List (List UInt8)) : Srt Nd.k (D.map (kill ks)) := List.pairwise_map.2 (List.Pairwise.imp (fun {a b} q => by rw [kill_k, kill_k]; exact q) h)
theorem fnd_kill {D : List Nd} (ks : List (List UInt8)) {s : List UInt8} {n : Nd} (hf : fnd Nd.k s D = some n) : fnd Nd.k s (D.map (kill ks)) = some (kill ks n) := by
  rw [← map_fnd (nm := Nd.k) (mn := Nd.k) (f := kill ks) (kill_k ks), hf]
  rfl
theorem kill_more {D : List Nd} (h : Srt Nd.k D) (ks : List (List UInt8)) {s : List UInt8} {n : Nd} (hf : fnd Nd.k s D = some n) : put (kill ks n).off (D.map (kill ks)) = D.map (kill (ks ++ [s])) := by
  have hk := (fnd_some hf).2
  have e1 : (kill ks n).off.k = s := by rw [Nd.off_k, kill_k, hk]
  rw [put_upd (o := kill ks n) (srt_kill h ks) (by rw [e1]; exact fnd_kill ks hf), e1]
  unfold upd
  rw [List.map_map]
  refine List.map_congr_left fun y hy => ?_
  simp only [Function.comp, kill_k]
  by_cases q : y.k = s
  · have : y = n := srt_one h hy (fnd_some hf).1 (q.trans hk.symm)
    subst this
    simp only [q, beq_self_eq_true, if_true]
    unfold kill
    rw [q]
    simp only [List.contains_append, List.contains_cons, beq_self_eq_true, Bool.true_or, Bool.or_true, if_true]
    split <;> rfl
  · unfold kill
    simp [q]
theorem kill_exp {D : List Nd} (h : Srt Nd.k D) (now : Int) {ks : List (List UInt8)} (hp : ks.Perm ((expN D now).map Nd.k)) : D.map (kill ks) = expR D now := by
  refine List.map_congr_left fun n hn => ?_
  have e : ks.contains n.k = n.lost now := by
    rw [Bool.eq_iff_iff, List.contains_iff_mem, hp.mem_iff, List.mem_map]
    constructor
    · rintro ⟨m, h1, h2⟩
      have h3 := List.mem_filter.1 h1
      rw [← srt_one h h3.1 hn h2]
      exact h3.2
    · exact fun q => ⟨n, List.mem_filter.2 ⟨hn, q⟩, rfl⟩
  unfold kill Nd.exp
  rw [e]
theorem srt_exp {D : List Nd} (h : Srt Nd.k D) (now : Int) : Srt Nd.k (expR D now) := List.pairwise_map.2 (List.Pairwise.imp (fun {a b} q => by rw [Nd.exp_k, Nd.exp_k]; exact q) h)
theorem srt_expN {D : List Nd} (h : Srt Nd.k D) (now : Int) : Srt Nd.k (expN D now) := List.Pairwise.filter _ h
theorem fnd_exp (D : List Nd) (now : Int) (s : List UInt8) : fnd Nd.k s (expR D now) = (fnd Nd.k s D).map (Nd.exp now) := (map_fnd (nm := Nd.k) (mn := Nd.k) (f := Nd.exp now) (Nd.exp_k now) s D).symm
end Go.Proofs.Ytihjmigjphljnaa
