/-
  Records as plain data: what api.Make and api.Plainly answer, kind by kind.
-/
import Derived.Test.YtnkkiepoljbhlaaRows
namespace Go.Proofs.Ytnkkiepoljbhlaa

/-- a slice's three words -/
structure SL where
  a : Option Addr
  n : Nat
  c : Nat
def SL.v (s : SL) : Value := .slice s.a s.n s.c
def SL.nil : SL := ⟨none, 0, 0⟩
/-- a job -/
structure JB where
  id : Int
  tn : ByteArray
  pr : Int
  rt : Int
  pa : SL
  tk : SL
  st : Int
  at' : Int
  nd : SL
  sr : Int
  dn : SL
def JB.cells (j : JB) : Array Value := #[.int .i64 j.id, .string j.tn, .int .i64 j.pr, .int .i64 j.rt, j.pa.v, j.tk.v, .int .i64 j.st, .int .i64 j.at', j.nd.v, .int .i64 j.sr, j.dn.v]
def JB.zero : JB := ⟨0, ⟨#[]⟩, 0, 0, .nil, .nil, 0, 0, .nil, 0, .nil⟩
/-- a record as plain data -/
structure PL where
  kind : Int
  tn : ByteArray
  tw : Int
  q0 : Int
  q1 : Int
  q2 : Int
  q3 : Int
  nd : ByteArray
  ep : Int
  v0 : Int
  v1 : Int
  v2 : Int
  v3 : Int
  jb : JB
  id : Int
  ns : SL
  st : Int
def PL.zero : PL := ⟨0, ⟨#[]⟩, 0, 0, 0, 0, 0, ⟨#[]⟩, 0, 0, 0, 0, 0, .zero, 0, .nil, 0⟩
def PL.cells (p : PL) : Array Value := #[.int .i64 p.kind, .string p.tn, .int .i64 p.tw, .int .i64 p.q0, .int .i64 p.q1, .int .i64 p.q2, .int .i64 p.q3, .string p.nd, .int .i64 p.ep, .int .i64 p.v0, .int .i64 p.v1, .int .i64 p.v2, .int .i64 p.v3, .int .i64 p.jb.id, .string p.jb.tn, .int .i64 p.jb.pr, .int .i64 p.jb.rt, p.jb.pa.v, p.jb.tk.v, .int .i64 p.jb.st, .int .i64 p.jb.at', p.jb.nd.v, .int .i64 p.jb.sr, p.jb.dn.v, .int .i64 p.id, p.ns.v, .int .i64 p.st]
/-- the record of a kind -/
def PL.rcd (p : PL) : Nat → Value
  | 1 => .iface 61 (.agg #[.string p.tn, .int .i64 p.tw, .int .i64 p.q0, .int .i64 p.q1, .int .i64 p.q2, .int .i64 p.q3])
  | 2 => .iface 63 (.agg #[.string p.nd, .int .i64 p.ep, .int .i64 p.v0, .int .i64 p.v1, .int .i64 p.v2, .int .i64 p.v3])
  | 3 => .iface 57 (.agg #[.string p.nd])
  | 4 => .iface 64 (.agg #[.string p.nd])
  | 5 => .iface 66 (.agg p.jb.cells)
  | 6 => .iface 68 (.agg #[.int .i64 p.id])
  | 7 => .iface 70 (.agg #[.int .i64 p.id, p.ns.v])
  | 8 => .iface 71 (.agg #[.int .i64 p.id])
  | 9 => .iface 73 (.agg #[.int .i64 p.id, .string p.nd])
  | 10 => .iface 75 (.agg #[.int .i64 p.id, .int .i64 p.st])
  | 11 => .iface 59 (.agg #[])
  | _ => .nilIface
/-- the fields that a kind has, the others zero -/
def PL.norm (p : PL) : Nat → PL
  | 1 => { PL.zero with kind := 1, tn := p.tn, tw := p.tw, q0 := p.q0, q1 := p.q1, q2 := p.q2, q3 := p.q3 }
  | 2 => { PL.zero with kind := 2, nd := p.nd, ep := p.ep, v0 := p.v0, v1 := p.v1, v2 := p.v2, v3 := p.v3 }
  | 3 => { PL.zero with kind := 3, nd := p.nd }
  | 4 => { PL.zero with kind := 4, nd := p.nd }
  | 5 => { PL.zero with kind := 5, jb := p.jb }
  | 6 => { PL.zero with kind := 6, id := p.id }
  | 7 => { PL.zero with kind := 7, id := p.id, ns := p.ns }
  | 8 => { PL.zero with kind := 8, id := p.id }
  | 9 => { PL.zero with kind := 9, id := p.id, nd := p.nd }
  | 10 => { PL.zero with kind := 10, id := p.id, st := p.st }
  | 11 => { PL.zero with kind := 11 }
  | _ => .zero
theorem norm_rec1 (p : PL) : (p.norm 1).rcd 1 = p.rcd 1 := rfl
theorem norm_rec2 (p : PL) : (p.norm 2).rcd 2 = p.rcd 2 := rfl
theorem norm_rec3 (p : PL) : (p.norm 3).rcd 3 = p.rcd 3 := rfl
theorem norm_rec4 (p : PL) : (p.norm 4).rcd 4 = p.rcd 4 := rfl
theorem norm_rec5 (p : PL) : (p.norm 5).rcd 5 = p.rcd 5 := rfl
theorem norm_rec6 (p : PL) : (p.norm 6).rcd 6 = p.rcd 6 := rfl
theorem norm_rec7 (p : PL) : (p.norm 7).rcd 7 = p.rcd 7 := rfl
theorem norm_rec8 (p : PL) : (p.norm 8).rcd 8 = p.rcd 8 := rfl
theorem norm_rec9 (p : PL) : (p.norm 9).rcd 9 = p.rcd 9 := rfl
theorem norm_rec10 (p : PL) : (p.norm 10).rcd 10 = p.rcd 10 := rfl
theorem norm_rec11 (p : PL) : (p.norm 11).rcd 11 = p.rcd 11 := rfl

end Go.Proofs.Ytnkkiepoljbhlaa
