/-
  The journal's Trim of some records.
-/
import Derived.Test.YtplcpjngpkghmaaJj
namespace Go.Proofs.Ytplcpjngpkghmaa
open Go.RowKit Go.Maps
variable {P : Nat → Obj → Prop}

/-- the records behind the first k, as they are handed on -/
theorem recOff_drop {w0 w : World} {pb lb first g cap : Nat} {D : DK} {pt : Option Addr} {l : List RC} {tg lt : Nat → Tg} (h : LJ P w0 w pb lb D pt first l tg lt) (hg : LgAt w lt lb pt first (.slice (some ⟨g, 0, none⟩) l.length cap) l) (k : Nat) (hk : k ≤ l.length) (A : Addr) (hA : (if cap = k then some (⟨g, 0, none⟩ : Addr) else some ⟨g, k, none⟩) = some A) :
    RecOff w tg (.slice (some A) (l.length - k) (cap - k)) (l.drop k) := by
  have noT : ∀ j, lt j ≠ .no → tg j = .no := fun j hj => no_of fun e => hj (h.ap j e)
  refine ⟨?_, ?_, fun r hr => ?_⟩
  · by_cases h0 : l.length = k
    · left
      refine ⟨some A, cap - k, ?_, ?_⟩
      · rw [h0, Nat.sub_self]
      · exact List.drop_eq_nil_of_le (by omega)
    · right
      have hle : l.length ≤ cap := by
        rcases hg.own.2 with ⟨h1, _⟩ | ⟨g', cap', cur, h1, _, _, h2, _⟩
        · simp at h1
        · cases h1; exact h2
      rw [if_neg (by omega)] at hA
      cases hA
      refine ⟨g, k, cap - k, by rw [List.length_drop], fun j u hu => ?_, ?_, noT g (by rw [hg.tm g rfl]; exact nofun)⟩
      · have hu' : (l.map RC.v)[k + j]? = some u := by rw [← hu, List.map_drop, List.getElem?_drop]
        have := World.ownsRow.cells hg.own (g := g) rfl (k + j) u hu'
        rw [Addr.add_lit, Nat.zero_add] at this
        exact this
      · exact hg.lt_ g (by rw [hg.tm g rfl]; exact nofun)
  · rw [List.length_drop]
    have := hg.len
    omega
  · have hR := hg.fl r (List.mem_of_mem_drop hr)
    refine ⟨?_, hR.hz, hR.hl⟩
    rcases hR.row with h1 | ⟨g', o', h1, h2, h3⟩
    · exact .inl h1
    · exact .inr ⟨g', o', h1, h2, hg.lt_ g' (by rw [h3]; exact nofun), noT g' (by rw [h3]; exact nofun)⟩
theorem setCells_rest (g : Nat) : ∀ (vs : List Value) (o : Nat) (w : World), (w.setCells g o vs).os = w.os ∧ (w.setCells g o vs).tape = w.tape ∧ (w.setCells g o vs).output = w.output ∧ (w.setCells g o vs).heap.size = w.heap.size
  | [], _, _ => ⟨rfl, rfl, rfl, rfl⟩
  | v :: r, o, w => by
    have h := setCells_rest g r (o + 1) (w.setCell ⟨g, o, none⟩ v)
    exact ⟨h.1.trans rfl, h.2.1.trans rfl, h.2.2.1.trans rfl, h.2.2.2.trans (by simp [World.setCell])⟩
/-- behind the records' going -/
theorem trW {w : World} {lt : Nat → Tg} {lb first g cap k : Nat} {pt : Option Addr} {l : List RC} (h : LgAt w lt lb pt first (.slice (some ⟨g, 0, none⟩) l.length cap) l) (hk : k ≤ l.length) (w2 w3 : World)
    (h2 : w2 = ((w.setCell ⟨lb, 1, none⟩ (.int .i64 ((first + k : Nat) : Int))).drew.setCells g 0 ((l.map RC.v).drop k)).setCells g (l.length - k) (List.replicate k (.slice none 0 0))) (h3 : w3 = w2.setCell ⟨lb, 2, none⟩ (.slice (some ⟨g, 0, none⟩) (l.length - k) cap)) :
    LgAt w3 lt lb pt (first + k) (.slice (some ⟨g, 0, none⟩) (l.length - k) cap) (l.drop k) ∧ Step lt lt w w3 ∧ w2.heap[lb]? = some (.cells #[.pointer pt, .int .i64 ((first + k : Nat) : Int), .slice (some ⟨g, 0, none⟩) l.length cap] 77 (0, 0)) := by
  have tg' := h.tm g rfl
  have hgl : g ≠ lb := fun e => by rw [e, h.tp] at tg'; cases tg'
  rcases h.own.2 with ⟨h1, _⟩ | ⟨g', cap', cur, h1, _, hb, hn, hm, hs, hx⟩
  · simp at h1
  cases h1
  rw [Nat.mul_one] at hs hx
  have hb1 : (w.setCell ⟨lb, 1, none⟩ (.int .i64 ((first + k : Nat) : Int))).drew.heap[g]? = some (.cells cur 31 (0, 0)) := (Below.heap_setCell _ _ _ _ hgl).trans hb
  have hxl : ((l.map RC.v).drop k).length = l.length - k := by simp
  obtain ⟨c1, p1, p2, p3⟩ := setCells_at ((l.map RC.v).drop k) 0 _ cur hb1 (by rw [hxl]; omega)
  obtain ⟨c2, q1, q2, q3⟩ := setCells_at (List.replicate k (.slice none 0 0)) (l.length - k) _ c1 p1 (by simp; omega)
  rw [← h2] at q1
  have hat : ∀ j, j ≠ g → w2.heap[j]? = (w.setCell ⟨lb, 1, none⟩ (.int .i64 ((first + k : Nat) : Int))).heap[j]? := fun j hj => by
    rw [h2, setCells_ne g hj, setCells_ne g hj]
    rfl
  have hl2 : w2.heap[lb]? = some (.cells #[.pointer pt, .int .i64 ((first + k : Nat) : Int), .slice (some ⟨g, 0, none⟩) l.length cap] 77 (0, 0)) := (hat lb hgl.symm).trans (setB h.cell _)
  have hoth : ∀ j, j ≠ g → j ≠ lb → w3.heap[j]? = w.heap[j]? := fun j hj hj2 => by
    rw [h3]
    exact ((Below.heap_setCell _ _ _ _ hj2).trans (hat j hj)).trans (Below.heap_setCell _ _ _ _ hj2)
  have hsz : w3.heap.size = w.heap.size := by
    have a1 := (setCells_rest g ((l.map RC.v).drop k) 0 (w.setCell ⟨lb, 1, none⟩ (.int .i64 ((first + k : Nat) : Int))).drew).2.2.2
    have a2 := (setCells_rest g (List.replicate k (.slice none 0 0)) (l.length - k) ((w.setCell ⟨lb, 1, none⟩ (.int .i64 ((first + k : Nat) : Int))).drew.setCells g 0 ((l.map RC.v).drop k))).2.2.2
    rw [← h2, a1] at a2
    have a3 : w3.heap.size = w2.heap.size := by rw [h3]; simp [World.setCell]
    rw [a3, a2]
    simp [World.setCell, World.drew]
  refine ⟨⟨?_, h.tp, ?_, fun g' hg' => ?_, fun r hr => ?_, ?_, ?_, fun j hj => ?_⟩, ⟨?_, fun j hj => .inl hj⟩, hl2⟩
  · rw [h3]; exact setB hl2 _
  · refine ⟨by simp, .inr ⟨g, cap, c2, by rw [List.length_drop], Nat.zero_le _, ?_, by rw [List.length_drop]; omega, hm, by omega, ?_⟩⟩
    · rw [h3, Below.heap_setCell _ _ _ _ hgl]; exact q1
    · refine List.ext_getElem? fun j => ?_
      rw [List.length_drop, Nat.mul_one, List.getElem?_take]
      by_cases hj : j < l.length - k
      · rw [if_pos hj, Array.getElem?_toList, q3 j, if_neg (by omega), p3 j, if_pos (by rw [hxl]; omega), Nat.sub_zero, List.map_drop]
      · rw [if_neg hj, List.getElem?_eq_none (by simp; omega)]
  · exact h.tm g' hg'
  · refine (h.fl r (List.mem_of_mem_drop hr)).keep (fun j hj => hoth j ?_ ?_) (fun _ hj => hj)
    · intro e; rw [e, tg'] at hj; cases hj
    · intro e; rw [e, h.tp] at hj; cases hj
  · rw [List.length_drop]; have := h.len; omega
  · rw [List.length_drop]; have := h.bd; omega
  · rw [hsz]; exact h.lt_ j hj
  · refine ⟨?_, ?_, ?_, by rw [hsz]; exact Nat.le_refl _, fun j hj hn => hoth j (fun e => hn (by rw [e, tg']; exact nofun)) (fun e => hn (by rw [e, h.tp]; exact nofun))⟩
    · rw [h3, h2]; exact ((setCells_rest _ _ _ _).1).trans ((setCells_rest _ _ _ _).1)
    · rw [h3, h2]; exact ((setCells_rest _ _ _ _).2.1).trans ((setCells_rest _ _ _ _).2.1)
    · rw [h3, h2]; exact ((setCells_rest _ _ _ _).2.2.1).trans ((setCells_rest _ _ _ _).2.2.1)
theorem del_log {w : World} {lt : Nat → Tg} {lb first g cap k : Nat} {pt : Option Addr} {l : List RC} (h : LgAt w lt lb pt first (.slice (some ⟨g, 0, none⟩) l.length cap) l) (h0 : 0 < k) (hk : k ≤ l.length) :
    Calls Try.prog 47 #[.slice (some ⟨g, 0, none⟩) l.length cap, .int .i64 0, .int .i64 k] (w.setCell ⟨lb, 1, none⟩ (.int .i64 ((first : Int) + k))) fun e w2 => e = .returned (.slice (some ⟨g, 0, none⟩) (l.length - k) cap) ∧ w2.heap[lb]? = some (.cells #[.pointer pt, .int .i64 ((first : Int) + k), .slice (some ⟨g, 0, none⟩) l.length cap] 77 (0, 0)) ∧ LgAt (w2.setCell ⟨lb, 2, none⟩ (.slice (some ⟨g, 0, none⟩) (l.length - k) cap)) lt lb pt (first + k) (.slice (some ⟨g, 0, none⟩) (l.length - k) cap) (l.drop k) ∧ Step lt lt w (w2.setCell ⟨lb, 2, none⟩ (.slice (some ⟨g, 0, none⟩) (l.length - k) cap)) := by
  have tg' := h.tm g rfl
  have hgl : g ≠ lb := fun e => by rw [e, h.tp] at tg'; cases tg'
  rcases h.own.2 with ⟨h1, _⟩ | ⟨g', cap', cur, h1, _, hb, hn, hm, hs, hx⟩
  · simp at h1
  cases h1
  rw [Nat.mul_one] at hs hx
  refine (del_at _ g cap l.length k cur (l.map RC.v) ((Below.heap_setCell _ _ _ _ hgl).trans hb) hn hm hs hx (fun u hu => ?_) h0 hk).mono ?_
  · obtain ⟨r, _, rfl⟩ := List.mem_map.1 hu
    rfl
  · rintro e w2 ⟨rfl, h2⟩
    have h2' : w2 = ((w.setCell ⟨lb, 1, none⟩ (.int .i64 ((first + k : Nat) : Int))).drew.setCells g 0 ((l.map RC.v).drop k)).setCells g (l.length - k) (List.replicate k (.slice none 0 0)) := h2
    obtain ⟨a1, a2, a3⟩ := trW h hk w2 _ h2' rfl
    exact ⟨rfl, a3, a1, a2⟩
set_option maxHeartbeats 4000000 in
set_option maxRecDepth 100000 in
theorem ltr_ok {w0 w : World} {pb lb first : Nat} {D : DK} {l : List RC} {tg lt : Nat → Tg} (h : Hid (LJ P w0 w pb lb D (some ⟨pb, 0, none⟩) first l tg lt)) (k : Nat) (h0 : 0 < k) (hk : k ≤ l.length) (D' : DK) (hA : Hid (replaceD D (first + k) ((l.drop k).map RC.b) = (0, D'))) :
    Calls Try.prog 25 #[.pointer (some ⟨lb, 0, none⟩), .int .i64 ((first : Int) + k)] w fun e w' => e = .returned (.int .i64 0) ∧ ∃ tg', LJ P w0 w' pb lb D' (some ⟨pb, 0, none⟩) (first + k) (l.drop k) tg' lt := by
  obtain ⟨v, hg⟩ := h.out.g
  obtain ⟨g, cap, hv, hlc, hcm⟩ : ∃ g cap, v = .slice (some ⟨g, 0, none⟩) l.length cap ∧ l.length ≤ cap ∧ cap ≤ 9223372036854775807 := by
    rcases hg.own.2 with ⟨_, h1⟩ | ⟨g, cap, cur, e, _, _, h2, h3, _⟩
    · omega
    · exact ⟨g, cap, e, h2, h3⟩
  subst hv
  have H42 : Hid (Calls Try.prog 42 #[.pointer (some ⟨lb, 0, none⟩)] w fun e w' => e = .returned (.bool false) ∧ w' = w) := over_no w lb _ _ _ hg.cell
  have H21 : Hid (Calls Try.prog 21 #[.pointer (some ⟨lb, 0, none⟩)] w fun e w' => e = .returned (.int .i64 first) ∧ w' = w) := first_at w lb _ _ _ hg.cell
  have H22 : Hid (Calls Try.prog 22 #[.pointer (some ⟨lb, 0, none⟩)] w fun e w' => e = .returned (.int .i64 ((first : Int) + l.length)) ∧ Below w.heap.size w w') := next_at w lb _ _ _ _ _ (by omega) (by have := hg.bd; omega) hg.cell
  have HG : Hid (LgAt w lt lb (some ⟨pb, 0, none⟩) first (.slice (some ⟨g, 0, none⟩) l.length cap) l) := hg
  have hbd := hg.bd
  clear hg
  have g1 : (first : Int) ≤ (first : Int) + k := by omega
  have g2 : (first : Int) + k ≤ (first : Int) + l.length := by omega
  have g3 : ((first : Int) + k == (first : Int)) = false := by simp; omega
  have g4 : (first : Int) + k - first = k := by omega
  have g5 : IntKind.i64.wrap (k : Int) = (k : Int) := by rw [IntKind.wrap_i64]; omega
  have g6 : (k : Int) ≤ (l.length : Int) := by omega
  have g7 : k ≤ cap := by omega
  go_enter Try.func25, Try.ntmps25
  go_wp2_with (go_at_call 42; refine H42.out.mono ?_)
  rintro e w1 ⟨rfl, rfl⟩
  go_wp2_with (first | (go_at_call 21; refine H21.out.mono ?_; rintro e w2 ⟨rfl, rfl⟩) | (go_at_call 22; refine H22.out.mono ?_))
  first | rintro e w3 rfl b3 | rintro e w3 ⟨rfl, b3⟩
  have H3 : Hid (LJ P w0 w3.drew pb lb D (some ⟨pb, 0, none⟩) first l tg lt) := (h.out.keep b3).keep (Below.refl _ w3).drew
  have HG3 : Hid (LgAt w3.drew lt lb (some ⟨pb, 0, none⟩) first (.slice (some ⟨g, 0, none⟩) l.length cap) l) := (HG.out.keep (fun j hj => b3.block j (HG.out.lt_ j hj)) b3.size).keep (fun _ _ => rfl) (Nat.le_refl _)
  obtain ⟨e0, e1, e2⟩ := k3 (at_below b3 (Nat.le_refl _) HG.out.cell)
  obtain ⟨A, eA⟩ : ∃ A : Addr, (if cap = k then some (⟨g, 0, none⟩ : Addr) else some ⟨g, k, none⟩) = some A := by
    by_cases hh : cap = k
    · exact ⟨_, by rw [if_pos hh]⟩
    · exact ⟨_, by rw [if_neg hh]⟩
  have H46 : Hid (Calls Try.prog 46 #[.pointer (some ⟨pb, 0, none⟩), .int .i64 ((first : Int) + k), .slice (some A) (l.length - k) (cap - k)] w3.drew fun e w' => e = .returned (.int .i64 0) ∧ ∃ tg', LJ P w0 w' pb lb D' (some ⟨pb, 0, none⟩) first l tg' lt ∧ LgAt w' lt lb (some ⟨pb, 0, none⟩) first (.slice (some ⟨g, 0, none⟩) l.length cap) l) := by
    have := replace_any H3.out.d (first + k) (by omega) _ _ (recOff_drop H3.out HG3.out k hk A eA)
    rw [hA.out] at this
    refine this.mono ?_
    rintro e w' ⟨rfl, tg', d, st⟩
    exact ⟨rfl, tg', H3.out.left d st, HG3.out.keep (fun j hj => st.1.block j (HG3.out.lt_ j hj) fun e => hj (H3.out.ap j e)) st.1.size⟩
  clear b3 hbd
  go_wp2_with fail
  go_region_with (first | (go_at_call 46; refine H46.out.mono ?_; rintro e w4 ⟨rfl, tg4, h4, hg4⟩; have HL4 : Hid (LJ P w0 w4 pb lb D' (some ⟨pb, 0, none⟩) first l tg4 lt) := h4; have HG4 : Hid (LgAt w4 lt lb (some ⟨pb, 0, none⟩) first (.slice (some ⟨g, 0, none⟩) l.length cap) l) := hg4; clear h4 hg4) | (go_at_call 44; refine (opr_ok w4 _).mono ?_; rintro e w5 ⟨rfl, rfl⟩))
  all_goals
    obtain ⟨f0, f1, f2⟩ := k3 HG4.out.cell
    have z1 := fz HG4.out.cell 1
    have HD : Hid (Calls Try.prog 47 #[.slice (some ⟨g, 0, none⟩) l.length cap, .int .i64 0, .int .i64 k] (w5.setCell ⟨lb, 1, none⟩ (.int .i64 ((first : Int) + k))) fun e w2 => e = .returned (.slice (some ⟨g, 0, none⟩) (l.length - k) cap) ∧ w2.heap[lb]? = some (.cells #[.pointer (some ⟨pb, 0, none⟩), .int .i64 ((first : Int) + k), .slice (some ⟨g, 0, none⟩) l.length cap] 77 (0, 0)) ∧ LgAt (w2.setCell ⟨lb, 2, none⟩ (.slice (some ⟨g, 0, none⟩) (l.length - k) cap)) lt lb (some ⟨pb, 0, none⟩) (first + k) (.slice (some ⟨g, 0, none⟩) (l.length - k) cap) (l.drop k) ∧ Step lt lt w5 (w2.setCell ⟨lb, 2, none⟩ (.slice (some ⟨g, 0, none⟩) (l.length - k) cap))) := del_log HG4.out h0 hk
    go_wp2_with (go_at_call 47; refine HD.out.mono ?_)
  all_goals
    first | rintro e w6 rfl hc6 hg6 st6 | rintro e w6 ⟨rfl, hc6, hg6, st6⟩
    obtain ⟨y0, y1, y2⟩ := k3 hc6
    have z2 := fz hc6 2
    have HG6 : Hid (LgAt (w6.setCell ⟨lb, 2, none⟩ (.slice (some ⟨g, 0, none⟩) (l.length - k) cap)) lt lb (some ⟨pb, 0, none⟩) (first + k) (.slice (some ⟨g, 0, none⟩) (l.length - k) cap) (l.drop k) ∧ Step lt lt w5 (w6.setCell ⟨lb, 2, none⟩ (.slice (some ⟨g, 0, none⟩) (l.length - k) cap))) := ⟨hg6, st6⟩
    clear hg6 st6 hc6
    go_wp2_with fail
  all_goals go_ret
  all_goals exact ⟨rfl, tg4, HL4.out.right HG6.out.1 HG6.out.2⟩
end Go.Proofs.Ytplcpjngpkghmaa
