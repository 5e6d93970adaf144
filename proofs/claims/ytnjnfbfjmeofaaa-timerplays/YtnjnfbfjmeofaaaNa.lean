/-
  The calls on nil, New, find, Get, Next; Clone.
-/
import Derived.Test.YtnjnfbfjmeofaaaWk
import Derived.Test.YtnjnfbfjmeofaaaShelf
namespace Go.Proofs.Ytnjnfbfjmeofaaa
open Go.RowKit Go.Maps Go.WideMaps

set_option maxHeartbeats 400000 in
theorem clone_any (s : ByteArray) (w : World) (hs : s.size ≤ 281474976710656) : Calls Try.prog 29 #[.string s] w fun e w' => e = .returned (.string s) ∧ Below w.heap.size w w' := by
  have H : Hid (Calls Try.prog 35 #[.string s] w fun e w' => e = .returned (.string s) ∧ Below w.heap.size w w') := Try.stringslite_Clone s w hs
  go_enter Try.func29, Try.ntmps29
  go_wp2_with (go_at_call 35; refine H.out.mono ?_; rintro e w1 ⟨rfl, b⟩)
  go_ret
  exact ⟨rfl, b⟩
theorem new_any (w : World) : Calls Try.prog 10 #[] w fun e w' => e = .returned (.pointer (some ⟨w.heap.size, 0, none⟩)) ∧ w' = w.alloc (.cells #[.slice none 0 0, .map none] 60 (0, 0)) := by
  go_enter Try.func10, Try.ntmps10
  go_wp2_with fail
  go_ret
  exact ⟨rfl, rfl⟩
theorem find_nil (w : World) (s : ByteArray) : Calls Try.prog 26 #[.pointer none, .string s] w fun e w' => e = .returned (.tuple #[.int .i64 0, .bool false]) ∧ w' = w := by
  go_enter Try.func26, Try.ntmps26
  go_wp2_with fail
  go_ret2
  exact ⟨rfl, rfl⟩
theorem find_raw (w : World) (cb : Nat) (mb : Option Nat) (s : ByteArray) (x : Int) (b : Bool) (c1 : w.cell? ⟨cb, 1, none⟩ = some (.map mb)) (hlk : (Instr.lookup 58 (.map mb) (.string s) true).run Try.prog w = .ok (.tuple #[.int .i64 x, .bool b]) w) :
    Calls Try.prog 26 #[.pointer (some ⟨cb, 0, none⟩), .string s] w fun e w' => e = .returned (.tuple #[.int .i64 x, .bool b]) ∧ w' = w := by
  go_enter Try.func26, Try.ntmps26
  go_wp2_with fail
  go_ret2
  exact ⟨rfl, rfl⟩
theorem find_S {w : World} {cb : Nat} {S : HS} (h : Mem w cb S) (s : ByteArray) (hs : s.size ≤ maxLen) :
    Calls Try.prog 26 #[.pointer (some ⟨cb, 0, none⟩), .string s] w fun e w' => e = .returned (.tuple #[.int .i64 (((plc s.data.toList S.l).getD 0 : Nat) : Int), .bool (plc s.data.toList S.l).isSome]) ∧ w' = w := by
  refine find_raw w cb S.mb s _ _ h.c1 ?_
  have := h.mp
  cases hm : S.mb with
  | none =>
    rw [hm] at this
    simp only at this
    rw [this]
    exact look_none w s hs
  | some m =>
    rw [hm] at this
    obtain ⟨M, hM⟩ := this
    exact look_at hM.o s hs _ (hM.a _ _) (hM.has _)
set_option maxHeartbeats 400000 in
theorem get_no (w : World) (p : Value) (s : ByteArray) (x : Int) (H : Hid (Calls Try.prog 26 #[p, .string s] w fun e w' => e = .returned (.tuple #[.int .i64 x, .bool false]) ∧ w' = w)) :
    Calls Try.prog 18 #[p, .string s] w fun e w' => e = .returned (.tuple #[.int .i64 0, .int .i64 3]) ∧ w' = w := by
  go_enter Try.func18, Try.ntmps18
  go_wp2_with (go_at_call 26; refine H.out.mono ?_; rintro e w1 ⟨rfl, rfl⟩)
  go_ret2
  exact ⟨rfl, rfl⟩
set_option maxHeartbeats 400000 in
theorem get_yes (w : World) (cb g n c i : Nat) (s : ByteArray) (x : Int) (hi : i < n) (c0 : w.cell? ⟨cb, 0, none⟩ = some (.slice (some ⟨g, 0, none⟩) n c)) (x1 : w.cell? ⟨g, i * 2 + 1, none⟩ = some (.int .i64 x)) (H : Hid (Calls Try.prog 26 #[.pointer (some ⟨cb, 0, none⟩), .string s] w fun e w' => e = .returned (.tuple #[.int .i64 i, .bool true]) ∧ w' = w)) :
    Calls Try.prog 18 #[.pointer (some ⟨cb, 0, none⟩), .string s] w fun e w' => e = .returned (.tuple #[.int .i64 x, .int .i64 0]) ∧ w' = w := by
  have hi' : (i : Int) < (n : Int) := by omega
  go_enter Try.func18, Try.ntmps18
  go_wp2_with (go_at_call 26; refine H.out.mono ?_; rintro e w1 ⟨rfl, rfl⟩)
  go_ret2
  exact ⟨rfl, rfl⟩
/-- what a clock's Get answers -/
def getV (o : Option Al) : Value := match o with
  | none => .tuple #[.int .i64 0, .int .i64 3]
  | some a => .tuple #[.int .i64 a.at', .int .i64 0]
theorem plc_fnd {l : List Al} (s : List UInt8) : fnd s l = (plc s l).map (gt l) := by
  unfold fnd plc
  induction l with
  | nil => rfl
  | cons a r ih =>
    rw [List.find?_cons, List.findIdx?_cons]
    by_cases e : (a.k == s) = true
    · simp [e]; rfl
    · simp only [e]
      rw [ih]
      cases List.findIdx? (fun b => b.k == s) r <;> rfl
theorem get_S {w : World} {cb : Nat} {S : HS} (h : Mem w cb S) (s : ByteArray) (hs : s.size ≤ maxLen) :
    Calls Try.prog 18 #[.pointer (some ⟨cb, 0, none⟩), .string s] w fun e w' => e = .returned (getV (fnd s.data.toList S.l)) ∧ w' = w := by
  have hf := find_S h s hs
  rw [plc_fnd]
  cases hp : plc s.data.toList S.l with
  | none =>
    rw [hp] at hf
    exact get_no w _ s 0 hf
  | some i =>
    rw [hp] at hf
    obtain ⟨a, h1, h2⟩ := plc_some hp
    have hi := (List.getElem?_eq_some_iff.1 h1).1
    obtain ⟨g, c, e⟩ := h.rw.row (by omega)
    have hR := h.rw
    rw [e] at hR
    exact get_yes w cb g S.l.length c i s _ hi (by rw [h.c0, e]) (hR.c1 (gt_some hi)) hf
set_option maxHeartbeats 400000 in
theorem next_no (w : World) (p : Value) (H : Hid (∀ W, Below w.heap.size w W → Calls Try.prog 12 #[p] W fun e w' => e = .returned (.int .i64 0) ∧ w' = W)) :
    Calls Try.prog 20 #[p] w fun e w' => e = .returned (.tuple #[.agg #[.string ⟨#[]⟩, .int .i64 0], .int .i64 3]) ∧ Below w.heap.size w w' := by
  go_enter Try.func20, Try.ntmps20
  go_wp2_with (go_at_call 12; refine (H.out _ (by go_grown)).mono ?_; rintro e w1 ⟨rfl, rfl⟩)
  refine bodyPost_ret (v := .tuple #[.agg #[.string ⟨#[]⟩, .int .i64 0], .int .i64 3]) (by rw [results_cell_tmp rfl]; go_simp) rfl ⟨rfl, ?_⟩
  go_grown
set_option maxHeartbeats 400000 in
theorem next_yes (w : World) (cb g n c : Nat) (a : Al) (hn : 0 < n) (c0 : w.cell? ⟨cb, 0, none⟩ = some (.slice (some ⟨g, 0, none⟩) n c)) (x0 : w.cell? ⟨g, 0, none⟩ = some (.string a.nm)) (x1 : w.cell? ⟨g, 1, none⟩ = some (.int .i64 a.at')) (H : Hid (∀ W, Below w.heap.size w W → Calls Try.prog 12 #[.pointer (some ⟨cb, 0, none⟩)] W fun e w' => e = .returned (.int .i64 n) ∧ w' = W)) :
    Calls Try.prog 20 #[.pointer (some ⟨cb, 0, none⟩)] w fun e w' => e = .returned (.tuple #[.agg #[.string a.nm, .int .i64 a.at'], .int .i64 0]) ∧ Below w.heap.size w w' := by
  have hn0 : ¬ (n : Int) = 0 := by omega
  have hn1 : (0 : Int) < n := by omega
  have l0 := cell_lt c0
  have l1 := cell_lt x0
  simp only at l0 l1
  obtain ⟨an, aa⟩ := a
  simp only at x0 x1 ⊢
  go_enter Try.func20, Try.ntmps20
  go_wp2_with (go_at_call 12; refine (H.out _ (by go_grown)).mono ?_; rintro e w1 ⟨rfl, rfl⟩)
  refine bodyPost_ret (v := .tuple #[.agg #[.string an, .int .i64 aa], .int .i64 0]) (by rw [results_cell_tmp rfl]; go_simp) rfl ⟨rfl, ?_⟩
  go_grown
def nextV (o : Option Al) : Value := match o with
  | none => .tuple #[.agg #[.string ⟨#[]⟩, .int .i64 0], .int .i64 3]
  | some a => .tuple #[.agg #[.string a.nm, .int .i64 a.at'], .int .i64 0]
theorem next_S {w : World} {cb : Nat} {S : HS} (h : Mem w cb S) : Calls Try.prog 20 #[.pointer (some ⟨cb, 0, none⟩)] w fun e w' => e = .returned (nextV S.l.head?) ∧ Below w.heap.size w w' := by
  cases hl : S.l with
  | nil =>
    refine next_no w _ fun W b => ?_
    have := len_S (h.below b)
    rw [hl] at this
    exact this
  | cons a r =>
    have h0 : S.l[0]? = some a := by rw [hl]; rfl
    have hp : 0 < S.l.length := by rw [hl]; simp
    obtain ⟨g, c, e⟩ := h.rw.row hp
    have hR := h.rw
    rw [e] at hR
    exact next_yes w cb g S.l.length c a hp (by rw [h.c0, e]) (hR.c0 (i := 0) h0) (hR.c1 (i := 0) h0) fun W b => len_S (h.below b)
theorem next_nil (w : World) : Calls Try.prog 20 #[.pointer none] w fun e w' => e = .returned (nextV none) ∧ Below w.heap.size w w' := next_no w _ fun W _ => len_nil W
theorem get_nil (w : World) (s : ByteArray) : Calls Try.prog 18 #[.pointer none, .string s] w fun e w' => e = .returned (getV none) ∧ w' = w := get_no w _ s 0 (find_nil w s)
end Go.Proofs.Ytnjnfbfjmeofaaa
