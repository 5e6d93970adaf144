/-
  Truncate.
-/
import Derived.Test.YtplcpjngpkghmaaCr
import Derived.Test.YtplcpjngpkghmaaRm
namespace Go.Proofs.Ytplcpjngpkghmaa
open Go.RowKit Go.Maps Go.WideMaps Go.Sort

def truncD (D : DK) (n : List UInt8) (k : Int) : Int × DK := if D.down then (11, D) else match fnd Fil.nm n D.fs with
  | none => (3, D)
  | some f => if k < 0 ∨ (f.b.length : Int) < k then (2, D) else if (burn D).1 then (0, ⟨upd Fil.nm n ⟨n, f.b.take k.toNat, min f.sy k.toNat⟩ D.fs, (burn D).2.down, (burn D).2.fuse⟩) else (11, (burn D).2)

theorem DkAt.recell {w w' : World} {tg : Nat → Tg} {pb : Nat} {D : DK} {mb : Option Nat} {l : List Fl} {z : Int} {f : Fl} {n b' : List UInt8} {sy' : Nat} {v' : Value} (h : DkAt w tg pb D mb l z) (hf : fnd Fl.nm n l = some f)
    (hc : w'.heap[f.fb]? = some (.cells #[v', .int .i64 sy'] 84 (0, 0))) (ho : Own w' 0 v' b') (hob : ∀ g, v'.ownBlock = some g → f.v.ownBlock = some g) (hk : Kp (· = f.fb) w w') (hs : sy' ≤ b'.length) (hl : b'.length ≤ 1048576) :
    DkAt w' tg pb ⟨upd Fil.nm n ⟨n, b', sy'⟩ D.fs, D.down, D.fuse⟩ mb (upd Fl.nm n ⟨n, b', sy', f.fb, v'⟩ l) z ∧ Step tg tg w w' := by
  obtain ⟨hfl, hfn⟩ := fnd_some hf
  have hF := h.fl f hfl
  have hk' : Kp (fun k => tg k = .fl n ∨ tg k = .rw n) w w' := hk.mono fun k _ e => .inl (by rw [e, hF.tb, hfn])
  refine ⟨?_, hk'.mono fun k _ e => by rcases e with e | e <;> rw [e] <;> exact nofun, fun _ h => .inl h⟩
  have := h.updated (f' := ⟨n, b', sy', f.fb, v'⟩) hf rfl rfl hk' (fun k _ e => e) (fun _ _ => rfl) (fun k hk1 => Nat.lt_of_lt_of_le (h.lt k hk1) hk.size)
    ⟨hc, ho, by rw [hF.tb, hfn], fun g hg => by rw [hF.tr g (hob g hg), hfn], hs, hl⟩
  rw [map_upd Fl.s_nm, ← h.fs] at this
  exact this

/-- cut, on a disk's file -/
theorem cut_any {w : World} {tg : Nat → Tg} {pb : Nat} {D : DK} {mb : Option Nat} {l : List Fl} {z : Int} {f : Fl} {n : List UInt8} (h : DkAt w tg pb D mb l z) (hf : fnd Fl.nm n l = some f) (k : Nat) (hk : k ≤ f.b.length) :
    Calls Try.prog 56 #[.pointer (some ⟨f.fb, 0, none⟩), .int .i64 k] w fun e w' => e = .returned (.tuple #[]) ∧ Dsk w' tg pb ⟨upd Fil.nm n ⟨n, f.b.take k, min f.sy k⟩ D.fs, D.down, D.fuse⟩ ∧ Step tg tg w w' := by
  obtain ⟨hfl, hfn⟩ := fnd_some hf
  have hF := h.fl f hfl
  have hne : f.v.ownBlock ≠ some f.fb := fun e => by have := hF.tr _ e; rw [hF.tb] at this; cases this
  have hl := hF.hl
  have hown := hF.own
  have hcell := hF.cell
  have hlen : (f.b.take k).length = k := by rw [List.length_take]; omega
  rcases hown.2 with ⟨hv, h0⟩ | ⟨g, cap, cur, hv, _, hgg, h1, h2, _, _⟩
  · have hk0 : k = 0 := by omega
    subst hk0
    rw [hv] at hcell
    refine (cut_none w f.fb f.sy hcell).mono ?_
    rintro e w' ⟨rfl, rfl⟩
    have hkp : Kp (· = f.fb) w ((w.setCell ⟨f.fb, 0, none⟩ (.slice none 0 0)).setCell ⟨f.fb, 1, none⟩ (.int .i64 0)) := (Kp.of_set (S := (· = f.fb)) w ⟨f.fb, 0, none⟩ _ rfl).trans (Kp.of_set (S := (· = f.fb)) _ ⟨f.fb, 1, none⟩ _ rfl) fun _ _ h => h
    have h5 := h.recell (b' := f.b.take 0) (sy' := min f.sy 0) (v' := .slice none 0 0) hf (by rw [Nat.min_zero]; exact setB (i := 1) (setB (i := 0) hcell _) _) (by rw [List.take_zero]; exact Own.nil _ _) nofun hkp (by omega) (by omega)
    exact ⟨rfl, ⟨_, _, _, h5.1⟩, h5.2⟩
  · have hob : f.v.ownBlock = some g := by rw [hv]; rfl
    have hgne : g ≠ f.fb := fun e => hne (by rw [hob, e])
    have hown' := hown
    rw [hv] at hcell hown'
    refine (cut_some w f.fb g f.b.length cap f.sy k (min f.sy k) hcell hk h1 (by unfold maxLen at h2; omega) rfl).mono ?_
    rintro e w' ⟨rfl, rfl⟩
    have hkp : Kp (· = f.fb) w ((w.setCell ⟨f.fb, 0, none⟩ (.slice (some ⟨g, 0, none⟩) k cap)).setCell ⟨f.fb, 1, none⟩ (.int .i64 (min f.sy k : Nat))) := (Kp.of_set (S := (· = f.fb)) w ⟨f.fb, 0, none⟩ _ rfl).trans (Kp.of_set (S := (· = f.fb)) _ ⟨f.fb, 1, none⟩ _ rfl) fun _ _ h => h
    have h5 := h.recell (b' := f.b.take k) (sy' := min f.sy k) (v' := .slice (some ⟨g, 0, none⟩) k cap) hf (setB (i := 1) (setB (i := 0) hcell _) _) ((hown'.take hk).keepAt fun g' hg' => by cases hg'; exact hkp.block g (Array.getElem?_eq_some_iff.1 hgg).1 hgne) (fun g' hg' => by cases hg'; exact hob) hkp (by omega) (by omega)
    exact ⟨rfl, ⟨_, _, _, h5.1⟩, h5.2⟩
end Go.Proofs.Ytplcpjngpkghmaa
