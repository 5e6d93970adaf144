/-
  Each call on both ledgers.
-/
import Derived.Test.YtehgcaaeifnjeaaTb
import Derived.Test.YtehgcaaeifnjeaaLb
import Derived.Laws.BytesArg
namespace Go.Proofs.Ytehgcaaeifnjeaa
open Go.RowKit Go.Maps Go.WideMaps

/-- the name of two bytes -/
def nm2 (x y : Nat) : ByteArray := strOfNums [(x : Int), (y : Int)]
theorem conv2 (w : World) (x y : Nat) : (convert 53 9 (.slice (some ⟨w.heap.size, 0, none⟩) 2 2)).run Try.prog (w.alloc (.cells #[.int .u8 x, .int .u8 y] 5)) = .ok (.string (nm2 x y)) (w.alloc (.cells #[.int .u8 x, .int .u8 y] 5)) := by
  refine run_convert_bytes_arg _ 53 5 Try.underlying53 Try.underlying5 w.heap.size 0 2 2 [(x : Int), (y : Int)] rfl (fun i hi => ?_) 9 Try.underlying9
  rw [cell_of new0]
  match i, hi with
  | 0, _ => rfl
  | 1, _ => rfl
theorem nm2_size (x y : Nat) : (nm2 x y).size ≤ 281474976710656 := by unfold nm2; rw [strOfNums_size]; simp
theorem str_eta (s : ByteArray) : (⟨⟨s.data.toList⟩⟩ : ByteArray) = s := rfl
section
variable {w0 w W : World} {X : Nat → Option Obj} {pb rb m g : Nat} {r : Int}
theorem p_open (h : P0 w0 w X pb rb) (b : Below w.heap.size w W) (s : ByteArray) (hs : s.size ≤ 281474976710656) (v : V) :
    Calls Try.prog 18 #[.pointer (some ⟨pb, 0, none⟩), .string s, .agg #[.int .i64 v.a, .int .i64 v.b, .int .i64 v.c, .int .i64 v.d]] W fun e w' => ∃ r, e = .returned (.int .i64 r) ∧ Hid (P1 w0 w' X pb rb w.heap.size (fun D => openD D s.data.toList v) r ∧ W.heap.size ≤ w'.heap.size ∧ ∀ k o, w.heap.size ≤ k → W.heap[k]? = some o → w'.heap[k]? = some o) :=
  p1_of (f := fun D => openD D s.data.toList v) h b fun _ _ hl => open_any hl s hs v
theorem r_open (s : ByteArray) (v : V) (h : P1 w0 w X pb rb m (fun D => openD D s.data.toList v) r) (b : Below w.heap.size w W) :
    Calls Try.prog 23 #[.pointer (some ⟨rb, 0, none⟩), .string s, .agg #[.int .i64 v.a, .int .i64 v.b, .int .i64 v.c, .int .i64 v.d]] W fun e w' => e = .returned (.int .i64 r) ∧ Hid (P0 w0 w' X pb rb) :=
  p0_of (f := fun D => openD D s.data.toList v) h b fun _ _ hl _ => ropen_any hl s.data.toList v
theorem p_take (h : P0 w0 w X pb rb) (b : Below w.heap.size w W) (p : Option Addr) (es : List E) (c : Nat) (hn : es.length < 1152921504606846976) (hr : ERow W p es) (hz : ∀ e ∈ es, e.nm.size ≤ 281474976710656) :
    Calls Try.prog 19 #[.pointer (some ⟨pb, 0, none⟩), .slice p es.length c] W fun e w' => ∃ r, e = .returned (.int .i64 r) ∧ Hid (P1 w0 w' X pb rb w.heap.size (fun D => takeD D es) r ∧ W.heap.size ≤ w'.heap.size ∧ ∀ k o, w.heap.size ≤ k → W.heap[k]? = some o → w'.heap[k]? = some o) :=
  p1_of (f := fun D => takeD D es) h b fun _ _ hl => take_any hl p es c hn hr hz
theorem r_take {es : List E} (h : P1 w0 w X pb rb m (fun D => takeD D es) r) (b : Below w.heap.size w W) (p : Option Addr) (c : Nat) (hn : es.length < 1152921504606846976) (hr : ERow W p es) (hp : ∀ g o, p = some ⟨g, o, none⟩ → m ≤ g) :
    Calls Try.prog 24 #[.pointer (some ⟨rb, 0, none⟩), .slice p es.length c] W fun e w' => e = .returned (.int .i64 r) ∧ Hid (P0 w0 w' X pb rb) :=
  p0_of (f := fun D => takeD D es) h b fun _ _ hl hT => rtake_any hl p es c hn hr fun g o e q => by
    have := hT g q
    have := hp g o e
    omega
theorem p_give (h : P0 w0 w X pb rb) (b : Below w.heap.size w W) (p : Option Addr) (es : List E) (c : Nat) (hn : es.length < 1152921504606846976) (hr : ERow W p es) (hz : ∀ e ∈ es, e.nm.size ≤ 281474976710656) :
    Calls Try.prog 20 #[.pointer (some ⟨pb, 0, none⟩), .slice p es.length c] W fun e w' => ∃ r, e = .returned (.int .i64 r) ∧ Hid (P1 w0 w' X pb rb w.heap.size (fun D => giveD D es) r ∧ W.heap.size ≤ w'.heap.size ∧ ∀ k o, w.heap.size ≤ k → W.heap[k]? = some o → w'.heap[k]? = some o) :=
  p1_of (f := fun D => giveD D es) h b fun _ _ hl => give_any hl p es c hn hr hz
theorem r_give {es : List E} (h : P1 w0 w X pb rb m (fun D => giveD D es) r) (b : Below w.heap.size w W) (p : Option Addr) (c : Nat) (hn : es.length < 1152921504606846976) (hr : ERow W p es) (hp : ∀ g o, p = some ⟨g, o, none⟩ → m ≤ g) :
    Calls Try.prog 30 #[.pointer (some ⟨rb, 0, none⟩), .slice p es.length c] W fun e w' => e = .returned (.int .i64 r) ∧ Hid (P0 w0 w' X pb rb) :=
  p0_of (f := fun D => giveD D es) h b fun _ _ hl hT => rgive_any hl p es c hn hr fun g o e q => by
    have := hT g q
    have := hp g o e
    omega
theorem p_close (h : P0 w0 w X pb rb) (b : Below w.heap.size w W) (s : ByteArray) (hs : s.size ≤ 281474976710656) :
    Calls Try.prog 25 #[.pointer (some ⟨pb, 0, none⟩), .string s] W fun e w' => ∃ r, e = .returned (.int .i64 r) ∧ Hid (P1 w0 w' X pb rb w.heap.size (fun D => closeD D s.data.toList) r ∧ W.heap.size ≤ w'.heap.size ∧ ∀ k o, w.heap.size ≤ k → W.heap[k]? = some o → w'.heap[k]? = some o) :=
  p1_of (f := fun D => closeD D s.data.toList) h b fun _ _ hl => close_any hl s hs
theorem r_close (s : ByteArray) (h : P1 w0 w X pb rb m (fun D => closeD D s.data.toList) r) (b : Below w.heap.size w W) :
    Calls Try.prog 26 #[.pointer (some ⟨rb, 0, none⟩), .string s] W fun e w' => e = .returned (.int .i64 r) ∧ Hid (P0 w0 w' X pb rb) :=
  p0_of (f := fun D => closeD D s.data.toList) h b fun _ _ hl _ => rclose_any hl s.data.toList
end
end Go.Proofs.Ytehgcaaeifnjeaa
