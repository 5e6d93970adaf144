/-
  Register.
-/
import Derived.Test.YtihjmigjphljnaaAd
import Derived.Test.YtihjmigjphljnaaBb
import Derived.Test.YtihjmigjphljnaaNameW
import Derived.Deep.RegionWith
namespace Go.Proofs.Ytihjmigjphljnaa
open Go.RowKit Go.Maps Go.WideMaps
open Tk

theorem name_hid {s : ByteArray} {b : Bool} (hs : s.size ≤ 281474976710656) (h : Txt.name s = b) : Hid (∀ w, Calls Try.prog 31 #[.string s] w fun e w' => e = .returned (.bool b) ∧ Hid (Below w.heap.size w w')) := fun w => name_is s b w (by omega) h
theorem ok_hid {v : V} {b : Bool} (h : v.ok = b) : Hid (∀ w, Calls Try.prog 32 #[.agg #[.int .i64 v.a, .int .i64 v.b, .int .i64 v.c, .int .i64 v.d]] w fun e w' => e = .returned (.bool b) ∧ Hid (Below w.heap.size w w')) := fun w => by
  have := formed_any v.a v.b v.c v.d w
  rw [show fm v.a v.b v.c v.d = b from h] at this
  exact this
set_option maxHeartbeats 2000000 in
theorem reg_none (w : World) (s : ByteArray) (ep now : Int) (v : V) : Calls Try.prog 18 #[.pointer none, .string s, .int .i64 ep, .agg #[.int .i64 v.a, .int .i64 v.b, .int .i64 v.c, .int .i64 v.d], .int .i64 now] w fun e w' => e = ansR (false, 10) ∧ Below w.heap.size w w' := by
  have Y : Hid (Below w.heap.size w (w.alloc (.cells #[.int .i64 v.a, .int .i64 v.b, .int .i64 v.c, .int .i64 v.d] 32 (0, 0)))) := (Below.refl _ w).alloc (Nat.le_refl _) _
  go_enter Try.func18, Try.ntmps18
  go_wp2_with fail
  go_ret2
  exact ⟨rfl, Y.out⟩
/-- behind both checks: the box of the capacity, and what is as it was -/
structure Bx (w W : World) (v : V) : Prop where
  b : Below w.heap.size w W
  x : W.heap[w.heap.size]? = some (.cells #[.int .i64 v.a, .int .i64 v.b, .int .i64 v.c, .int .i64 v.d] 32 (0, 0))
theorem Bx.next {w W w1 : World} {v : V} (h : Bx w W v) (b : Below W.heap.size W w1) : Bx w w1 v := ⟨below_from h.b b h.b.size, at_below b (Nat.le_refl _) h.x⟩
theorem Bx.cells {w W : World} {v : V} (h : Bx w W v) : W.cell? ⟨w.heap.size, 0, none⟩ = some (.int .i64 v.a) ∧ W.cell? ⟨w.heap.size, 1, none⟩ = some (.int .i64 v.b) ∧ W.cell? ⟨w.heap.size, 2, none⟩ = some (.int .i64 v.c) ∧ W.cell? ⟨w.heap.size, 3, none⟩ = some (.int .i64 v.d) := by
  obtain ⟨h0, h1, h2, h3, -⟩ := cells4 h.x
  exact ⟨h0, h1, h2, h3⟩
theorem bx_new (w : World) (v : V) : Bx w (w.alloc (.cells #[.int .i64 v.a, .int .i64 v.b, .int .i64 v.c, .int .i64 v.d] 32 (0, 0))) v := ⟨(Below.refl _ w).alloc (Nat.le_refl _) _, new0⟩
set_option maxHeartbeats 2000000 in
set_option maxRecDepth 100000 in
theorem reg_form (w : World) (tb : Nat) (s : ByteArray) (hs : s.size ≤ 281474976710656) (ep now : Int) (v : V) (hf : (Txt.name s && v.ok) = false) : Calls Try.prog 18 #[.pointer (some ⟨tb, 0, none⟩), .string s, .int .i64 ep, .agg #[.int .i64 v.a, .int .i64 v.b, .int .i64 v.c, .int .i64 v.d], .int .i64 now] w fun e w' => e = ansR (false, 4) ∧ Below w.heap.size w w' := by
  have HX : Hid (Bx w (w.alloc (.cells #[.int .i64 v.a, .int .i64 v.b, .int .i64 v.c, .int .i64 v.d] 32 (0, 0))) v) := bx_new w v
  cases hn : Txt.name s with
  | false =>
    have HN := name_hid hs hn
    clear hf hn hs
    go_enter Try.func18, Try.ntmps18
    go_upto_region 1 with fail
    generalize w.alloc (.cells #[.int .i64 v.a, .int .i64 v.b, .int .i64 v.c, .int .i64 v.d] 32) = W at *
    go_wp2_with (go_at_call 31; refine (HN.out _).mono ?_; rintro e w1 ⟨rfl, hb⟩)
    go_ret2
    exact ⟨rfl, (HX.out.next hb.out).b⟩
  | true =>
    rw [hn, Bool.true_and] at hf
    have HN := name_hid hs hn
    have HC := ok_hid hf
    clear hf hn hs
    go_enter Try.func18, Try.ntmps18
    go_upto_region 1 with fail
    generalize w.alloc (.cells #[.int .i64 v.a, .int .i64 v.b, .int .i64 v.c, .int .i64 v.d] 32) = W at *
    go_wp2_with (first | (go_at_call 31; refine (HN.out _).mono ?_; rintro e w1 ⟨rfl, hb⟩; clear HN; have X1 : Hid (Bx w w1 v) := HX.out.next hb.out; clear HX hb; obtain ⟨p0, p1, p2, p3⟩ := X1.out.cells) | (go_at_call 32; refine (HC.out _).mono ?_; rintro e w2 ⟨rfl, hb2⟩; have X2 : Hid (Bx w w2 v) := X1.out.next hb2.out; clear X1 p0 p1 p2 p3 hb2))
    go_ret2
    exact ⟨rfl, X2.out.b⟩
section
variable (w : World) (tb : Nat) (s : ByteArray) (hs : s.size ≤ 281474976710656) (ep now : Int) (v : V) (hnm : Txt.name s = true) (hv : v.ok = true)
include hs hnm hv
set_option maxHeartbeats 2000000 in
set_option maxRecDepth 100000 in
theorem reg_range (hr : ¬ inR ep now) : Calls Try.prog 18 #[.pointer (some ⟨tb, 0, none⟩), .string s, .int .i64 ep, .agg #[.int .i64 v.a, .int .i64 v.b, .int .i64 v.c, .int .i64 v.d], .int .i64 now] w fun e w' => e = ansR (false, 2) ∧ Below w.heap.size w w' := by
  have HX : Hid (Bx w (w.alloc (.cells #[.int .i64 v.a, .int .i64 v.b, .int .i64 v.c, .int .i64 v.d] 32 (0, 0))) v) := bx_new w v
  have HN := name_hid hs hnm
  have HC := ok_hid hv
  have hc : ep < 1 ∨ (1 ≤ ep ∧ 2147483647 < ep) ∨ (1 ≤ ep ∧ ep ≤ 2147483647 ∧ now < 0) ∨ (1 ≤ ep ∧ ep ≤ 2147483647 ∧ 0 ≤ now ∧ 1099511627776 < now) := by unfold inR at hr; omega
  clear hr hs hnm hv
  go_enter Try.func18, Try.ntmps18
  go_upto_region 1 with fail
  generalize w.alloc (.cells #[.int .i64 v.a, .int .i64 v.b, .int .i64 v.c, .int .i64 v.d] 32) = W at *
  go_upto_region 5 with (first | (go_at_call 31; refine (HN.out _).mono ?_; rintro e w1 ⟨rfl, hb⟩; clear HN; have X1 : Hid (Bx w w1 v) := HX.out.next hb.out; clear HX hb; obtain ⟨p0, p1, p2, p3⟩ := X1.out.cells) | (go_at_call 32; refine (HC.out _).mono ?_; rintro e w2 ⟨rfl, hb2⟩; have X2 : Hid (Bx w w2 v) := X1.out.next hb2.out; clear X1 p0 p1 p2 p3 hb2))
  rcases hc with h | ⟨h1, h⟩ | ⟨h1, h2, h⟩ | ⟨h1, h2, h3, h⟩
  all_goals go_wp2_with fail
  all_goals go_ret2
  all_goals exact ⟨rfl, X2.out.b⟩
variable (hr : inR ep now)
include hr
variable {S : HS} {mb : Option Nat} {D : List Nd} {R : List Al} (hT : TbAt w tb S mb D R)
set_option maxHeartbeats 4000000 in
set_option maxRecDepth 100000 in
include hT in
theorem reg_no (o : Nd) (r : Int) (b : Bool) (ho : getN D s.data.toList = o) (hb : (fnd Nd.k s.data.toList D).isSome = b) (hx : (b = true ∧ ep ≤ o.ep ∧ r = 14) ∨ (b = false ∧ D.length = 12 ∧ r = 6)) : Calls Try.prog 18 #[.pointer (some ⟨tb, 0, none⟩), .string s, .int .i64 ep, .agg #[.int .i64 v.a, .int .i64 v.b, .int .i64 v.c, .int .i64 v.d], .int .i64 now] w fun e w' => e = ansR (false, r) ∧ Below w.heap.size w w' := by
  have HX : Hid (Bx w (w.alloc (.cells #[.int .i64 v.a, .int .i64 v.b, .int .i64 v.c, .int .i64 v.d] 32 (0, 0))) v) := bx_new w v
  have HN := name_hid hs hnm
  have HC := ok_hid hv
  have HT : Hid (TbAt w tb S mb D R) := hT
  have hs' : s.size ≤ maxLen := by unfold maxLen; omega
  have HL : Hid (∀ W, Below w.heap.size w W → (Instr.lookup 57 (.map mb) (.string s) true).run Try.prog W = .ok (.tuple #[.agg #[.string o.nm, .int .i64 o.ep, .int .i64 o.v.a, .int .i64 o.v.b, .int .i64 o.v.c, .int .i64 o.v.d, .int .i64 o.sn, .bool o.lv], .bool b]) W) := fun W bw => by
    have := look_ok (hT.mp.keep fun m hm => bw.block m (hT.lt (.inr hm))) s hs'
    rw [ho, hb] at this
    exact this
  have HM : Hid (∀ W, Below w.heap.size w W → ∀ ty, (Builtin.len_ #[57] ty #[.map mb]).run Try.prog W = .ok (.int .i64 D.length) W) := fun W bw ty => len_map (hT.mp.keep fun m hm => bw.block m (hT.lt (.inr hm))) ty
  obtain ⟨⟨i1, i2⟩, i3, i4⟩ := hr
  clear hs hnm hv hT ho hb
  go_enter Try.func18, Try.ntmps18
  go_upto_region 1 with fail
  generalize w.alloc (.cells #[.int .i64 v.a, .int .i64 v.b, .int .i64 v.c, .int .i64 v.d] 32) = W at *
  go_upto_region 5 with (first | (go_at_call 31; refine (HN.out _).mono ?_; rintro e w1 ⟨rfl, hb⟩; clear HN; have X1 : Hid (Bx w w1 v) := HX.out.next hb.out; clear HX hb; obtain ⟨p0, p1, p2, p3⟩ := X1.out.cells) | (go_at_call 32; refine (HC.out _).mono ?_; rintro e w2 ⟨rfl, hb2⟩; have X2 : Hid (Bx w w2 v) := X1.out.next hb2.out; clear X1 p0 p1 p2 p3 hb2))
  clear HC
  go_upto_region 7 with fail
  have c0 := (HT.out.keep fun k hk => X2.out.b.block k (HT.out.lt hk)).c0
  have hlk := HL.out w2 X2.out.b
  have b3 : Below w.heap.size w (w2.alloc (.cells #[.string o.nm, .int .i64 o.ep, .int .i64 o.v.a, .int .i64 o.v.b, .int .i64 o.v.c, .int .i64 o.v.d, .int .i64 o.sn, .bool o.lv] 46)) := X2.out.b.alloc X2.out.b.size _
  have HB : Hid (Below w.heap.size w (w2.alloc (.cells #[.string o.nm, .int .i64 o.ep, .int .i64 o.v.a, .int .i64 o.v.b, .int .i64 o.v.c, .int .i64 o.v.d, .int .i64 o.sn, .bool o.lv] 46))) := b3
  have c3 := (HT.out.keep fun k hk => b3.block k (HT.out.lt hk)).c0
  have hln := HM.out _ b3
  clear HL HM X2 HT b3
  rcases hx with ⟨rfl, hle, rfl⟩ | ⟨rfl, hle, rfl⟩
  · go_wp2_with fail
    go_ret2
    exact ⟨rfl, HB.out⟩
  · rw [hle] at hln
    go_wp2_with fail
    go_ret2
    exact ⟨rfl, HB.out⟩
end
theorem Hd.from {w W w' : World} {tb : Nat} {S : HS} {mb : Option Nat} {D : List Nd} {R : List Al} {n : Nd} (h : Hd W w' tb S mb D R n) (b : Below w.heap.size w W) : Hd w w' tb S mb D R n := by
  obtain ⟨S', mb', R', h1, h2⟩ := h.t
  exact ⟨S', mb', R', h1, (Step.of_below _ b).trans h2⟩
theorem Hd.box {w w' : World} {tb g : Nat} {S : HS} {mb : Option Nat} {D : List Nd} {R : List Al} {n : Nd} {o : Obj} (h : Hd w w' tb S mb D R n) (hl : ∀ k, Tf tb S mb k → k < g) (hg : w.heap[g]? = some o) : w'.heap[g]? = some o := by
  obtain ⟨S', mb', R', h1, h2⟩ := h.t
  refine (h2.1.block g (Array.getElem?_eq_some_iff.1 hg).1 fun q => ?_).trans hg
  have := hl g q
  omega
section
variable (w : World) (tb : Nat) (s : ByteArray) (hs : s.size ≤ 281474976710656) (ep now : Int) (v : V) (hnm : Txt.name s = true) (hv : v.ok = true) (hr : inR ep now)
include hs hnm hv hr
variable {S : HS} {mb : Option Nat} {D : List Nd} {R : List Al} (hT : TbAt w tb S mb D R)
set_option maxHeartbeats 4000000 in
set_option maxRecDepth 100000 in
include hT in
theorem reg_put (o : Nd) (b : Bool) (ho : getN D s.data.toList = o) (hb : (fnd Nd.k s.data.toList D).isSome = b) (hx : (b = true ∧ o.ep < ep) ∨ (b = false ∧ D.length < 12)) : Calls Try.prog 18 #[.pointer (some ⟨tb, 0, none⟩), .string s, .int .i64 ep, .agg #[.int .i64 v.a, .int .i64 v.b, .int .i64 v.c, .int .i64 v.d], .int .i64 now] w fun e w' => e = ansR (o.lv, 0) ∧ Hid (Hd w w' tb S mb D R ⟨s, ep, v, now, true⟩) := by
  have HX : Hid (Bx w (w.alloc (.cells #[.int .i64 v.a, .int .i64 v.b, .int .i64 v.c, .int .i64 v.d] 32 (0, 0))) v) := bx_new w v
  have HN := name_hid hs hnm
  have HC := ok_hid hv
  have HT : Hid (TbAt w tb S mb D R) := hT
  have hs' : s.size ≤ maxLen := by unfold maxLen; omega
  have HL : Hid (∀ W, Below w.heap.size w W → (Instr.lookup 57 (.map mb) (.string s) true).run Try.prog W = .ok (.tuple #[.agg #[.string o.nm, .int .i64 o.ep, .int .i64 o.v.a, .int .i64 o.v.b, .int .i64 o.v.c, .int .i64 o.v.d, .int .i64 o.sn, .bool o.lv], .bool b]) W) := fun W bw => by
    have := look_ok (hT.mp.keep fun m hm => bw.block m (hT.lt (.inr hm))) s hs'
    rw [ho, hb] at this
    exact this
  have HM : Hid (∀ W, Below w.heap.size w W → ∀ ty, (Builtin.len_ #[57] ty #[.map mb]).run Try.prog W = .ok (.int .i64 D.length) W) := fun W bw ty => len_map (hT.mp.keep fun m hm => bw.block m (hT.lt (.inr hm))) ty
  have HP : Hid ((put (⟨s, ep, v, now, true⟩ : Nd) D).length ≤ 12) := by
    have h1 := put_length (n := ⟨s, ep, v, now, true⟩) hT.srt
    rw [show (⟨s, ep, v, now, true⟩ : Nd).k = s.data.toList from rfl, hb] at h1
    have := hT.len
    rcases hx with ⟨rfl, _⟩ | ⟨rfl, _⟩ <;> simp at h1 <;> (show _ ≤ _) <;> omega
  have HO : Hid ((⟨s, ep, v, now, true⟩ : Nd).ok) := ⟨hs, hr.1, hv, hr.2⟩
  have HE : Hid (∀ W, Calls Try.prog 34 #[.string s] W fun e w' => e = .returned (.string s) ∧ Hid (Below W.heap.size W w')) := fun W => clone_any s W hs
  have HQ : Hid (∀ W, Below w.heap.size w W → Calls Try.prog 33 #[.pointer (some ⟨tb, 0, none⟩), .agg #[.string s, .int .i64 ep, .int .i64 v.a, .int .i64 v.b, .int .i64 v.c, .int .i64 v.d, .int .i64 now, .bool true]] W fun e w' => e = .returned (.tuple #[]) ∧ Hid (Hd W w' tb S mb D R ⟨s, ep, v, now, true⟩)) := fun W bw => hear_any (n := ⟨s, ep, v, now, true⟩) (hT.keep fun k hk => bw.block k (hT.lt hk)) HO rfl HP
  obtain ⟨⟨i1, i2⟩, i3, i4⟩ := hr
  clear hs hnm hv hT ho hb HO HP
  go_enter Try.func18, Try.ntmps18
  go_upto_region 1 with fail
  generalize w.alloc (.cells #[.int .i64 v.a, .int .i64 v.b, .int .i64 v.c, .int .i64 v.d] 32) = W at *
  go_upto_region 5 with (first | (go_at_call 31; refine (HN.out _).mono ?_; rintro e w1 ⟨rfl, hb⟩; clear HN; have X1 : Hid (Bx w w1 v) := HX.out.next hb.out; clear HX hb; obtain ⟨p0, p1, p2, p3⟩ := X1.out.cells) | (go_at_call 32; refine (HC.out _).mono ?_; rintro e w2 ⟨rfl, hb2⟩; have X2 : Hid (Bx w w2 v) := X1.out.next hb2.out; clear X1 p0 p1 p2 p3 hb2))
  clear HC
  go_upto_region 7 with fail
  have c0 := (HT.out.keep fun k hk => X2.out.b.block k (HT.out.lt hk)).c0
  have hlk := HL.out w2 X2.out.b
  have b4 : Below w2.heap.size w2 (w2.alloc (.cells #[.string o.nm, .int .i64 o.ep, .int .i64 o.v.a, .int .i64 o.v.b, .int .i64 o.v.c, .int .i64 o.v.d, .int .i64 o.sn, .bool o.lv] 46)) := (Below.refl _ _).alloc (Nat.le_refl _) _
  have b3 := below_from X2.out.b b4 X2.out.b.size
  have X3 : Hid (Bx w (w2.alloc (.cells #[.string o.nm, .int .i64 o.ep, .int .i64 o.v.a, .int .i64 o.v.b, .int .i64 o.v.c, .int .i64 o.v.d, .int .i64 o.sn, .bool o.lv] 46)) v) := X2.out.next b4
  have Z3 : Hid ((w2.alloc (.cells #[.string o.nm, .int .i64 o.ep, .int .i64 o.v.a, .int .i64 o.v.b, .int .i64 o.v.c, .int .i64 o.v.d, .int .i64 o.sn, .bool o.lv] 46)).heap[w2.heap.size]? = some (.cells #[.string o.nm, .int .i64 o.ep, .int .i64 o.v.a, .int .i64 o.v.b, .int .i64 o.v.c, .int .i64 o.v.d, .int .i64 o.sn, .bool o.lv] 46 (0, 0))) := new0
  have c3 := (HT.out.keep fun k hk => b3.block k (HT.out.lt hk)).c0
  have hln := HM.out _ b3
  have HS : Hid (∀ k, Tf tb S mb k → k < w2.heap.size) := fun k hk => Nat.lt_of_lt_of_le (HT.out.lt hk) X2.out.b.size
  clear HL HM X2 HT b3 b4
  go_upto_region 8 with fail
  clear c0 hlk
  generalize w2.heap.size = g at *
  generalize (w2.alloc (.cells #[.string o.nm, .int .i64 o.ep, .int .i64 o.v.a, .int .i64 o.v.b, .int .i64 o.v.c, .int .i64 o.v.d, .int .i64 o.sn, .bool o.lv] 46)) = W3 at *
  have z1 : W3.cell? ⟨g, 1, none⟩ = some (.int .i64 o.ep) := by rw [cell_of Z3.out]; rfl
  have hx' : (b = true ∧ o.ep < ep) ∨ (b = false ∧ (D.length : Int) < 12) := hx.imp id fun h => ⟨h.1, by omega⟩
  clear hx
  rcases hx' with ⟨rfl, hle⟩ | ⟨rfl, hle⟩
  all_goals go_upto_region 12 with fail
  all_goals clear z1 c3 hln
  all_goals
    have X4 : Hid (Bx w W3.drew v) := X3.out.next (below_drewN (Below.refl _ W3) 1)
    have Z4 : Hid (W3.drew.heap[g]? = some (.cells #[.string o.nm, .int .i64 o.ep, .int .i64 o.v.a, .int .i64 o.v.b, .int .i64 o.v.c, .int .i64 o.v.d, .int .i64 o.sn, .bool o.lv] 46 (0, 0))) := Z3.out
    clear X3 Z3
    obtain ⟨p0, p1, p2, p3⟩ := X4.out.cells
  all_goals go_region_with (first | (go_at_call 34; refine (HE.out _).mono ?_; rintro e w5 ⟨rfl, hb5⟩; have X5 : Hid (Bx w w5 v) := X4.out.next hb5.out; have Z5 : Hid _ := at_below hb5.out (Nat.le_refl _) Z4.out; clear HE hb5; obtain ⟨r0, r1, r2, r3⟩ := X5.out.cells) | (go_at_call 33; refine (HQ.out _ X5.out.b).mono ?_; rintro e w6 ⟨rfl, h6⟩; have z7 : w6.cell? ⟨g, 7, none⟩ = some (.bool o.lv) := by (rw [cell_of (h6.out.box HS.out Z5.out)]; rfl)))
  all_goals go_wp2_with fail
  all_goals go_ret2
  all_goals exact ⟨rfl, h6.out.from X5.out.b⟩
end
end Go.Proofs.Ytihjmigjphljnaa
