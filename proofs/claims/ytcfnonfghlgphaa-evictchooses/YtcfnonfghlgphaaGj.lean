/-
  Choose, all but its loop.
-/
import Derived.Test.YtcfnonfghlgphaaGg
import Derived.Test.YtcfnonfghlgphaaGh
import Derived.Test.YtcfnonfghlgphaaGi
namespace Go.Proofs.Ytcfnonfghlgphaa
open Go.RowKit Go.Maps

theorem GA.keep {α : Type} {sz : Nat} {f : α → List Value} {w w' : World} {q : Option Addr} {L : List α} (h : GA sz f w q L) (k : ∀ g, q.map Addr.block = some g → 0 < L.length → w'.heap[g]? = w.heap[g]?) : GA sz f w' q L := fun i a ha => by
  obtain ⟨g, o, rfl, hc⟩ := h i a ha
  exact ⟨g, o, rfl, fun j u hu => (cell_eq (k g rfl (Nat.lt_of_le_of_lt (Nat.zero_le i) (List.getElem?_eq_some_iff.1 ha).1))).trans (hc j u hu)⟩
theorem SlS.keep {w w1 : World} {r : Option Addr} {m d : Nat} {S : List Sl} (h : SlS w r m d S) (k : ∀ g, r.map Addr.block = some g → 0 < m → w1.heap[g]? = w.heap[g]?) : SlS w1 r m d S := ⟨h.s.keep fun g e l => k g e (h.m ▸ l), h.h, h.d, h.m⟩
/-- what Choose is handed -/
structure ChA (w : World) (q : Option Addr) (n c : Nat) (T : List V) (qv : Option Addr) (nv : Nat) (L : List Vi) (r : Option Addr) (m d : Nat) (S : List Sl) : Prop where
  t : TA w q T
  ct : q = none → c = 0
  tn : T.length = n
  v : VA w qv L
  o : VOk w L
  vl : L.length = nv
  s : SlS w r m d S
  n1 : n ≤ 1000000
  l1 : nv ≤ 1000000
  m1 : m ≤ 1000000
section
variable {w w1 : World} {q qv r : Option Addr} {n c nv m d : Nat} {T : List V} {L : List Vi} {S : List Sl}
theorem ChA.below (h : ChA w q n c T qv nv L r m d S) (b : Below w.heap.size w w1) : ChA w1 q n c T qv nv L r m d S := ⟨h.t.below b, h.ct, h.tn, h.v.below b, h.o.below b, h.vl, h.s.below b, h.n1, h.l1, h.m1⟩
end
/-- what Fit answers -/
def FtO (w : World) (T : List V) (S : List Sl) (e : Ending) (w' : World) : Prop := ∃ p k c, e = .returned (.tuple #[.slice p k c, .int .i64 ((fitR T S).1 : Nat)]) ∧ Hid ((fitR T S).2.length = k ∧ NA w' p (fitR T S).2 ∧ Below w.heap.size w w')
theorem fit_o (T : List V) (S : List Sl) (q r : Option Addr) (n c m d : Nat) (w : World) (hT : TA w q T) (hn : T.length = n) (hS : SlS w r m d S) (n1 : n ≤ 1000000) (m1 : m ≤ 1000000) : Calls Try.prog 19 #[.slice q n c, .slice r m d] w (FtO w T S) := by
  refine (fit_any T S q r n c m d w hT hS.s hS.h hS.d hn hS.m n1 m1).mono ?_
  rintro e w' ⟨p, k, c, rfl, h1, h2, h3⟩
  exact ⟨p, k, c, rfl, h1, h3.out⟩
/-- the next one gives back -/
theorem go_step {p : Int} {L : List Vi} {S : List Sl} (hS : allS S = true) (hG : Gv L S) {k : Nat} {u : Vi} (hu : (blw p (srtV L))[k]? = some u) : movR addR u.T u.N (slA ((blw p (srtV L)).take k) S) = (0, slA ((blw p (srtV L)).take (k + 1)) S) := by
  have hp : ((blw p (srtV L)).take (k + 1) ++ ((blw p (srtV L)).drop (k + 1) ++ (srtV L).filter fun v => ! decide (v.p < p))).Perm L := by
    rw [← List.append_assoc, List.take_append_drop]
    exact (List.filter_append_perm _ _).trans (srtV_perm L)
  have h1 := hG.sub hS hp
  rw [take_next hu] at h1 ⊢
  have h2 : Gv ((blw p (srtV L)).take k) S := h1.sub (K := [u]) hS (List.Perm.refl _)
  have ha := slA_ok h2.2
  rw [give_one (gd_nm (slA_nm _ _) ha (h1.1 u (List.mem_append_right _ (List.mem_singleton.2 rfl)))) fun y hy => ?_, slA_append]
  obtain ⟨s, hs, rfl⟩ := List.mem_map.1 hy
  have := h1.2 s hs
  rw [totL_append, ← add_add] at this
  exact this
theorem go_gv {p : Int} {L : List Vi} {S : List Sl} (hS : allS S = true) (hG : Gv L S) (k : Nat) : Gv ((blw p (srtV L)).take k) S := by
  have hp : ((blw p (srtV L)).take k ++ ((blw p (srtV L)).drop k ++ (srtV L).filter fun v => ! decide (v.p < p))).Perm L := by
    rw [← List.append_assoc, List.take_append_drop]
    exact (List.filter_append_perm _ _).trans (srtV_perm L)
  exact hG.sub hS hp
theorem go_fit {T : List V} {p : Int} {L : List Vi} {S : List Sl} (h : chk T S = 0) (hG : Gv L S) (k : Nat) : (fitR T (slA ((blw p (srtV L)).take k) S)).1 = 0 ∨ (fitR T (slA ((blw p (srtV L)).take k) S)).1 = 6 := by
  have hS := (chk_ok h).2.1
  exact fitR_two (chk_nm (slA_nm _ _) (slA_ok (go_gv hS hG k).2) h)
theorem plv_uj {L : List Vi} (hu : Uj L) {u : Vi} (hm : u ∈ L) : ∃ i, plv u.j L = some i ∧ L[i]? = some u := by
  cases h : plv u.j L with
  | none => exact absurd rfl (plv_none h u hm)
  | some i =>
    obtain ⟨a, ha, e⟩ := plv_some h
    refine ⟨i, rfl, ?_⟩
    obtain ⟨k, hk⟩ := List.mem_iff_getElem?.1 hm
    obtain ⟨l1, e1⟩ := List.getElem?_eq_some_iff.1 ha
    obtain ⟨l2, e2⟩ := List.getElem?_eq_some_iff.1 hk
    rcases Nat.lt_trichotomy i k with q | q | q
    · have := List.pairwise_iff_getElem.1 hu i k l1 l2 q
      rw [e1, e2] at this
      exact absurd e this
    · subst q; exact hk
    · have := List.pairwise_iff_getElem.1 hu k i l2 l1 q
      rw [e1, e2] at this
      exact absurd e.symm this
def lenV : Value → Nat
  | .slice _ n _ => n
  | _ => 0
/-- what Choose answers -/
def ChoP (w : World) (T : List V) (p : Int) (L : List Vi) (S : List Sl) (e : Ending) (w' : World) : Prop :=
  ∃ pj kj cj pn kn cn, e = .returned (.tuple #[.slice pj kj cj, .slice pn kn cn, .int .i64 ((chR T p L S).1 : Nat)]) ∧ (chR T p L S).2.1.length = kj ∧ (chR T p L S).2.2.length = kn ∧ Hid (IR w.heap.size w' (.slice pj kj cj) ((chR T p L S).2.1.map Vi.j) ∧ NA w' pn (chR T p L S).2.2 ∧ Below w.heap.size w w')
theorem ChoP.bad {w w' : World} {T : List V} {p : Int} {L : List Vi} {S : List Sl} {en : Nat} (h : chR T p L S = (en, [], [])) (b : Below w.heap.size w w') : ChoP w T p L S (.returned (.tuple #[.slice none 0 0, .slice none 0 0, .int .i64 (en : Int)])) w' := by
  unfold ChoP
  rw [h]
  exact ⟨none, 0, 0, none, 0, 0, rfl, rfl, rfl, GRow.nil _ _ _ _ _, GA.none, b⟩
theorem sls_lt {w : World} {r : Option Addr} {m d : Nat} {S : List Sl} (h : SlS w r m d S) {g : Nat} (e : r.map Addr.block = some g) (l : 0 < m) : g < w.heap.size := by
  obtain ⟨s, hs⟩ : ∃ s, S[0]? = some s := ⟨_, List.getElem?_eq_getElem (h.m.symm ▸ l)⟩
  obtain ⟨g', o, rfl, c0, _⟩ := SA.at h.s hs
  cases e
  exact cell_lt c0
/-- while they go -/
structure ChS (w wr : World) (T : List V) (R : List Vi) (S : List Sl) (L : List Vi) (lb mb k : Nat) (r : Option Addr) (m d : Nat) (pn : Option Addr) (kn : Nat) (en : Nat) (v : Value) : Prop where
  ss : SlS wr r m d (slA (R.take k) S)
  na : NA wr pn (fitR T (slA (R.take k) S)).2
  ln : (fitR T (slA (R.take k) S)).2.length = kn
  er : (fitR T (slA (R.take k) S)).1 = en
  tu : TuS w wr lb (R.drop k) v ((R.take k).map Vi.j) (fun g => g = mb ∨ (r.map Addr.block = some g ∧ 0 < m))
  mp : MpI wr mb L
  pr : ∀ i, i < k → (fitR T (slA (R.take i) S)).1 ≠ 0
end Go.Proofs.Ytcfnonfghlgphaa
