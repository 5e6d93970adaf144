/-
  Restart.
-/
import Derived.Test.YtplcpjngpkghmaaCr
namespace Go.Proofs.Ytplcpjngpkghmaa
open Go.RowKit Go.Maps Go.WideMaps Go.Sort

def rst : List Fil → List UInt8 → List Fil
  | [], _ => []
  | f :: r, ch => if f.sy < f.b.length then ⟨f.nm, crashB f.b f.sy (ch.headD 0), (crashB f.b f.sy (ch.headD 0)).length⟩ :: rst r ch.tail else f :: rst r ch
def restartD (D : DK) (ch : List UInt8) : DK := ⟨rst D.fs ch, false, none⟩

theorem name_len {w : World} {tg : Nat → Tg} {mb : Option Nat} {l : List Fl} (h : MpAt w tg mb l) {f : Fl} (hf : f ∈ l) : f.nm.length ≤ maxLen := by
  unfold MpAt at h
  cases mb with
  | none => subst h; cases hf
  | some m =>
    obtain ⟨es, he, hk⟩ := h.2.keysOf
    unfold mapOf at he
    injection he with he
    obtain ⟨key, hkey⟩ := hk (.string f.nm, .held f.fb) (by rw [← he]; exact List.mem_map.2 ⟨f, hf, rfl⟩)
    obtain ⟨x, _, e, hx⟩ := Maps.keyOf_str Try.underlying9 hkey
    injection e with e
    rw [e]
    exact hx

theorem next_any {w : World} {tg : Nat → Tg} (ch : List UInt8) (q : Option Addr) (m c : Nat) (hm : ch.length = m) (hc : m ≤ c) (hL : LiesOff w tg q ch) :
    Calls Try.prog 34 #[.slice q m c] w fun e w' => (∃ q' c', e = .returned (.tuple #[.int .u8 (ch.headD 0).toNat, .slice q' ch.tail.length c']) ∧ ch.tail.length ≤ c' ∧ LiesOff w' tg q' ch.tail) ∧ Below w.heap.size w w' := by
  cases ch with
  | nil =>
    simp only [List.length_nil] at hm
    subst hm
    refine (next_none w q c).mono ?_
    rintro e w' ⟨rfl, rfl⟩
    exact ⟨⟨none, 0, rfl, Nat.le_refl _, .inl rfl⟩, Below.refl _ _⟩
  | cons x t =>
    rcases hL with h | ⟨g, o, rfl, hr, h1, h2⟩
    · cases h
    · simp only [List.length_cons] at hm
      have hx := hr 0 x rfl
      refine (next_some w g o m c x (by omega) hc hx).mono ?_
      rintro e w' ⟨⟨q', c', rfl, h3, h4⟩, hb⟩
      have ht : m - 1 = t.length := by omega
      refine ⟨⟨q', c', by rw [ht]; rfl, by simp only [List.tail_cons]; omega, ?_⟩, hb⟩
      rcases h3 with h3 | rfl
      · exact .inl (List.eq_nil_of_length_eq_zero (by simp only [List.tail_cons]; omega))
      · refine .inr ⟨g, o + 1, rfl, fun k y hy => ?_, Nat.lt_of_lt_of_le h1 hb.size, h2⟩
        have := hr (k + 1) y (by simpa using hy)
        have h5 := (World.cell?_of_block (a := ⟨g, o + (k + 1), none⟩) (hb.block g h1)).trans this
        rwa [show o + 1 + k = o + (k + 1) by omega]

theorem upd_mid {α : Type} {nm : α → List UInt8} {a r : List α} {x y : α} {n : List UInt8} (h : Srt nm (a ++ x :: r)) (hx : nm x = n) : upd nm n y (a ++ x :: r) = a ++ y :: r := by
  obtain ⟨_, h2, h3⟩ := List.pairwise_append.1 h
  have h4 := (List.pairwise_cons.1 h2).1
  have e : ∀ l : List α, (∀ z ∈ l, nm z ≠ n) → upd nm n y l = l := fun l hl => by
    unfold upd
    refine (List.map_congr_left fun z hz => ?_).trans (List.map_id l)
    have : (nm z == n) = false := by simpa using hl z hz
    simp [this]
  have e1 := e a fun z hz e => by have := h3 z hz x (List.mem_cons_self ..); rw [e, ← hx, WideAt.bytes_irrefl] at this; cases this
  have e2 := e r fun z hz e => by have := h4 z hz; rw [e, ← hx, WideAt.bytes_irrefl] at this; cases this
  unfold upd at *
  rw [List.map_append, List.map_cons, e1, e2]
  simp [hx]
theorem fnd_mid {α : Type} {nm : α → List UInt8} {a r : List α} {x : α} (h : Srt nm (a ++ x :: r)) : fnd nm (nm x) (a ++ x :: r) = some x := by
  cases hq : fnd nm (nm x) (a ++ x :: r) with
  | none => exact absurd rfl (fnd_none hq x (by simp))
  | some g =>
    obtain ⟨g1, g2⟩ := fnd_some hq
    rw [srt_one h g1 (by simp) g2]

/-- the loop of Restart, round by round -/
structure RsAt (w : World) (tg : Nat → Tg) (pb : Nat) (l : List Fl) (fs : List Fil) (ch : List UInt8) (D : DK) (mb : Option Nat) (z : Int) (v : Value) (k : Nat) (q : Option Addr) (m c : Nat) (wr : World) (a r : List Fl) (ch' : List UInt8) : Prop where
  len : a.length = k
  cm : ch'.length = m
  cc : m ≤ c
  lo : LiesOff wr tg q ch'
  dk : DkAt wr tg pb ⟨(a ++ r).map Fl.s, D.down, D.fuse⟩ mb (a ++ r) z
  nms : (a ++ r).map Fl.nm = l.map Fl.nm
  rs : rst fs ch = a.map Fl.s ++ rst (r.map Fl.s) ch'
  row : wr.ownsRow w.heap.size 9 1 v l.length ((l.map Fl.nm).map encStr)
  st : Step tg tg w wr
theorem RsAt.size {w : World} {tg : Nat → Tg} {pb : Nat} {l : List Fl} {fs : List Fil} {ch : List UInt8} {D : DK} {mb : Option Nat} {z : Int} {v : Value} {k : Nat} {q : Option Addr} {m c : Nat} {wr : World} {a r : List Fl} {ch' : List UInt8} (h : RsAt w tg pb l fs ch D mb z v k q m c wr a r ch') : k + r.length = l.length := by
  have := congrArg List.length h.nms
  rw [List.length_map, List.length_map, List.length_append] at this
  have := h.len
  omega
theorem keepRow {w w1 : World} {B : Nat} {e : TypeId} {sz n : Nat} {v : Value} {xs : List Value} (h : w.ownsRow B e sz v n xs) (b : ∀ g, v.ownBlock = some g → w1.heap[g]? = w.heap[g]?) : w1.ownsRow B e sz v n xs := by
  refine ⟨h.1, ?_⟩
  rcases h.2 with hn | ⟨g, cap, cur, rfl, hb, hgg, rest⟩
  · exact .inl hn
  · exact .inr ⟨g, cap, cur, rfl, hb, (b g rfl).trans hgg, rest⟩
end Go.Proofs.Ytplcpjngpkghmaa
