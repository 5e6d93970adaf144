/-
  No cell of these rows narrows 'for every input' (looked for: loops, veiled, ifaces, maps, wideKeys, modest, calm, conditions, laid).
  DERIVED. THE GIVEN ROWS OF THIS SEAT. 6 by the template 'for every input the law returns true; each argument reads behind the call as it read before'; 0 by the template 'total and deterministic' (their statements: YtlknklpjlljfjaaTotals.lean).
  GIVEN WITH THE SEED: the statements are not yours to turn. If you find one false, say at which input.
  Laid BY PROGRAM, IN A SANDBOX (cutbox-rows.mjs): the forced cells as the released guide's own fill.sh prints them over the translation 5b7a50af77ca6af6… (all of the seat's roots in one cut). By AI agents, Wed Nov 11 2026. No macro, syntax, notation, axiom, sorry.
-/
import Derived.Test.YtlknklpjlljfjaaChecked
import GoSem.Claim
import GoSem.ClaimJoined
import GoSem.ClaimMapViews
import Derived.JoinedTies
import Derived.KernelRfl
namespace Go.Proofs.Ytlknklpjlljfjaa
/- THE CELL 'sum', in the pinned program and in every row, IS THE sha256 OF THE DUMP (.gsa) THAT YtlknklpjlljfjaaProg.lean LOADS. Nothing in Lean hashes anything: it is a label: what it is worth is what the hold of that sum in a sandbox is worth. -/
noncomputable def Try.pinned : Pinned := { name := "ytlknklpjlljfjaa", sum := "5b7a50af77ca6af6d7a633e4fc58f7a47f3140f8bd40add911633a22ff4a59b8", checked := Try.checked }
namespace Rows
def none {H : Type} : Left H := { results := [], args := [] }

/-- 'droverlaw01.RunesChecks': WHATEVER THE INPUT: true; the input reads as it did. -/
def runesChecksSpec : ChangeSpec := { name := "runesChecks", fn := fun _ => fun
  | [d] => { results := [.lit (.bool true)], args := [d] }
  | _ => none }
def runesChecksRow : OpenClaim := { program := "ytlknklpjlljfjaa", sum := "5b7a50af77ca6af6d7a633e4fc58f7a47f3140f8bd40add911633a22ff4a59b8", func := "drover/droverlaw01.RunesChecks", spec := "runesChecks", inPlace := ["internal/abi.NoEscape"], apart := false }
def RunesChecksSaid : Prop := runesChecksRow.holds Try.pinned (OpenSpec.ofChange runesChecksSpec)

/-- ITS FALSE NEIGHBOUR: 'it returns false'. Refute it at one input. -/
def runesChecksWrong : ChangeSpec := { name := "runesChecks", fn := fun _ => fun
  | [d] => { results := [.lit (.bool false)], args := [d] }
  | _ => none }
def RunesChecksWrongFalsely : Prop := runesChecksRow.holds Try.pinned (OpenSpec.ofChange runesChecksWrong)

/-- 'droverlaw01.RunesWords': WHATEVER THE INPUT: true; the input reads as it did. -/
def runesWordsSpec : ChangeSpec := { name := "runesWords", fn := fun _ => fun
  | [d] => { results := [.lit (.bool true)], args := [d] }
  | _ => none }
def runesWordsRow : OpenClaim := { program := "ytlknklpjlljfjaa", sum := "5b7a50af77ca6af6d7a633e4fc58f7a47f3140f8bd40add911633a22ff4a59b8", func := "drover/droverlaw01.RunesWords", spec := "runesWords", inPlace := ["internal/abi.NoEscape"], apart := false }
def RunesWordsSaid : Prop := runesWordsRow.holds Try.pinned (OpenSpec.ofChange runesWordsSpec)

/-- ITS FALSE NEIGHBOUR: 'it returns false'. Refute it at one input. -/
def runesWordsWrong : ChangeSpec := { name := "runesWords", fn := fun _ => fun
  | [d] => { results := [.lit (.bool false)], args := [d] }
  | _ => none }
def RunesWordsWrongFalsely : Prop := runesWordsRow.holds Try.pinned (OpenSpec.ofChange runesWordsWrong)

/-- 'droverlaw01.RunesQuotes': WHATEVER THE INPUT: true; the input reads as it did. -/
def runesQuotesSpec : ChangeSpec := { name := "runesQuotes", fn := fun _ => fun
  | [d] => { results := [.lit (.bool true)], args := [d] }
  | _ => none }
def runesQuotesRow : OpenClaim := { program := "ytlknklpjlljfjaa", sum := "5b7a50af77ca6af6d7a633e4fc58f7a47f3140f8bd40add911633a22ff4a59b8", func := "drover/droverlaw01.RunesQuotes", spec := "runesQuotes", inPlace := ["internal/abi.NoEscape", "internal/bytealg.IndexByteString", "internal/bytealg.IndexString"], named := ["internal/bytealg.MaxLen"], apart := false }
def RunesQuotesSaid : Prop := runesQuotesRow.holds Try.pinned (OpenSpec.ofChange runesQuotesSpec)

/-- ITS FALSE NEIGHBOUR: 'it returns false'. Refute it at one input. -/
def runesQuotesWrong : ChangeSpec := { name := "runesQuotes", fn := fun _ => fun
  | [d] => { results := [.lit (.bool false)], args := [d] }
  | _ => none }
def RunesQuotesWrongFalsely : Prop := runesQuotesRow.holds Try.pinned (OpenSpec.ofChange runesQuotesWrong)

/-- 'droverlaw01.RunesJoins': WHATEVER THE INPUT: true; the input reads as it did. -/
def runesJoinsSpec : ChangeSpec := { name := "runesJoins", fn := fun _ => fun
  | [d1, d2] => { results := [.lit (.bool true)], args := [d1, d2] }
  | _ => none }
def runesJoinsRow : OpenClaim := { program := "ytlknklpjlljfjaa", sum := "5b7a50af77ca6af6d7a633e4fc58f7a47f3140f8bd40add911633a22ff4a59b8", func := "drover/droverlaw01.RunesJoins", spec := "runesJoins", inPlace := ["internal/abi.NoEscape", "internal/bytealg.IndexByteString", "internal/bytealg.IndexString"], named := ["internal/bytealg.MaxLen"], apart := false }
def RunesJoinsSaid : Prop := runesJoinsRow.holds Try.pinned (OpenSpec.ofChange runesJoinsSpec)

/-- ITS FALSE NEIGHBOUR: 'it returns false'. Refute it at one input. -/
def runesJoinsWrong : ChangeSpec := { name := "runesJoins", fn := fun _ => fun
  | [d1, d2] => { results := [.lit (.bool false)], args := [d1, d2] }
  | _ => none }
def RunesJoinsWrongFalsely : Prop := runesJoinsRow.holds Try.pinned (OpenSpec.ofChange runesJoinsWrong)

/-- 'droverlaw01.RunesBoth': WHATEVER THE INPUT: true; the input reads as it did. -/
def runesBothSpec : ChangeSpec := { name := "runesBoth", fn := fun _ => fun
  | [d1, d2] => { results := [.lit (.bool true)], args := [d1, d2] }
  | _ => none }
def runesBothRow : OpenClaim := { program := "ytlknklpjlljfjaa", sum := "5b7a50af77ca6af6d7a633e4fc58f7a47f3140f8bd40add911633a22ff4a59b8", func := "drover/droverlaw01.RunesBoth", spec := "runesBoth", inPlace := ["internal/abi.NoEscape"], apart := false }
def RunesBothSaid : Prop := runesBothRow.holds Try.pinned (OpenSpec.ofChange runesBothSpec)

/-- ITS FALSE NEIGHBOUR: 'it returns false'. Refute it at one input. -/
def runesBothWrong : ChangeSpec := { name := "runesBoth", fn := fun _ => fun
  | [d1, d2] => { results := [.lit (.bool false)], args := [d1, d2] }
  | _ => none }
def RunesBothWrongFalsely : Prop := runesBothRow.holds Try.pinned (OpenSpec.ofChange runesBothWrong)

/-- 'droverlaw01.RunesNames': WHATEVER THE INPUT: true; the input reads as it did. -/
def runesNamesSpec : ChangeSpec := { name := "runesNames", fn := fun _ => fun
  | [d1, d2] => { results := [.lit (.bool true)], args := [d1, d2] }
  | _ => none }
def runesNamesRow : OpenClaim := { program := "ytlknklpjlljfjaa", sum := "5b7a50af77ca6af6d7a633e4fc58f7a47f3140f8bd40add911633a22ff4a59b8", func := "drover/droverlaw01.RunesNames", spec := "runesNames", inPlace := ["internal/abi.NoEscape", "internal/bytealg.IndexByteString", "internal/bytealg.IndexString"], named := ["internal/bytealg.MaxLen"], apart := false }
def RunesNamesSaid : Prop := runesNamesRow.holds Try.pinned (OpenSpec.ofChange runesNamesSpec)

/-- ITS FALSE NEIGHBOUR: 'it returns false'. Refute it at one input. -/
def runesNamesWrong : ChangeSpec := { name := "runesNames", fn := fun _ => fun
  | [d1, d2] => { results := [.lit (.bool false)], args := [d1, d2] }
  | _ => none }
def RunesNamesWrongFalsely : Prop := runesNamesRow.holds Try.pinned (OpenSpec.ofChange runesNamesWrong)

/- THE SECOND FORM. 'bulk': how many values and letters a reading holds, each counted each time it is reached (what is shared counts as often as it is met; a slice's spare places count too). A statement '..UptoSaid' is the law's where the arguments, and the package variables that the reading takes, are together of bulk at most 1048576: NARROWER than '..Said'. Prove '..Said' where nothing that the law and all that it calls make is longer than what came in: it says more and counts as full. Else prove '..UptoSaid'. A law counts once. -/
mutual
def uptoBulk {H : Type} : DataW H → Nat
  | .lit (.string bytes) => bytes.length + 1
  | .lit _ => 1
  | .nil => 1
  | .ptr d => uptoBulk d + 1
  | .slice elems spare => uptoBulkAll elems + uptoBulkAll spare + 1
  | .agg parts => uptoBulkAll parts + 1
  | .iface _ d => uptoBulk d + 1
  | .map entries => uptoBulkEntries entries + 1
  | .held _ => 1
def uptoBulkAll {H : Type} : List (DataW H) → Nat
  | [] => 0
  | d :: r => uptoBulk d + uptoBulkAll r
def uptoBulkEntries {H : Type} : List (Lit × DataW H) → Nat
  | [] => 0
  | x :: r => uptoBulkEntry x + uptoBulkEntries r
def uptoBulkEntry {H : Type} : Lit × DataW H → Nat
  | (.string bytes, d) => bytes.length + uptoBulk d + 1
  | (_, d) => uptoBulk d + 1
 end
def uptoSmall : (H : Type) → List (DataW H) → Bool := fun _ ds => decide (uptoBulkAll ds ≤ 1048576)
def OpenSpec.upto (s : _root_.Go.ChangeSpec) : _root_.Go.OpenSpec := { _root_.Go.OpenSpec.ofChange s with cond := some uptoSmall }

/-- 'droverlaw01.RunesChecks', WHERE WHAT IT READS IS OF BULK AT MOST 1048576: true; the input reads as it did. -/
def runesChecksUptoRow : OpenClaim := { program := "ytlknklpjlljfjaa", sum := "5b7a50af77ca6af6d7a633e4fc58f7a47f3140f8bd40add911633a22ff4a59b8", func := "drover/droverlaw01.RunesChecks", spec := "runesChecks", inPlace := ["internal/abi.NoEscape"], apart := false, narrowed := true }
def RunesChecksUptoSaid : Prop := runesChecksUptoRow.holds Try.pinned (OpenSpec.upto runesChecksSpec)

/-- 'droverlaw01.RunesWords', WHERE WHAT IT READS IS OF BULK AT MOST 1048576: true; the input reads as it did. -/
def runesWordsUptoRow : OpenClaim := { program := "ytlknklpjlljfjaa", sum := "5b7a50af77ca6af6d7a633e4fc58f7a47f3140f8bd40add911633a22ff4a59b8", func := "drover/droverlaw01.RunesWords", spec := "runesWords", inPlace := ["internal/abi.NoEscape"], apart := false, narrowed := true }
def RunesWordsUptoSaid : Prop := runesWordsUptoRow.holds Try.pinned (OpenSpec.upto runesWordsSpec)

/-- 'droverlaw01.RunesQuotes', WHERE WHAT IT READS IS OF BULK AT MOST 1048576: true; the input reads as it did. -/
def runesQuotesUptoRow : OpenClaim := { program := "ytlknklpjlljfjaa", sum := "5b7a50af77ca6af6d7a633e4fc58f7a47f3140f8bd40add911633a22ff4a59b8", func := "drover/droverlaw01.RunesQuotes", spec := "runesQuotes", inPlace := ["internal/abi.NoEscape", "internal/bytealg.IndexByteString", "internal/bytealg.IndexString"], named := ["internal/bytealg.MaxLen"], apart := false, narrowed := true }
def RunesQuotesUptoSaid : Prop := runesQuotesUptoRow.holds Try.pinned (OpenSpec.upto runesQuotesSpec)

/-- 'droverlaw01.RunesJoins', WHERE WHAT IT READS IS OF BULK AT MOST 1048576: true; the input reads as it did. -/
def runesJoinsUptoRow : OpenClaim := { program := "ytlknklpjlljfjaa", sum := "5b7a50af77ca6af6d7a633e4fc58f7a47f3140f8bd40add911633a22ff4a59b8", func := "drover/droverlaw01.RunesJoins", spec := "runesJoins", inPlace := ["internal/abi.NoEscape", "internal/bytealg.IndexByteString", "internal/bytealg.IndexString"], named := ["internal/bytealg.MaxLen"], apart := false, narrowed := true }
def RunesJoinsUptoSaid : Prop := runesJoinsUptoRow.holds Try.pinned (OpenSpec.upto runesJoinsSpec)

/-- 'droverlaw01.RunesBoth', WHERE WHAT IT READS IS OF BULK AT MOST 1048576: true; the input reads as it did. -/
def runesBothUptoRow : OpenClaim := { program := "ytlknklpjlljfjaa", sum := "5b7a50af77ca6af6d7a633e4fc58f7a47f3140f8bd40add911633a22ff4a59b8", func := "drover/droverlaw01.RunesBoth", spec := "runesBoth", inPlace := ["internal/abi.NoEscape"], apart := false, narrowed := true }
def RunesBothUptoSaid : Prop := runesBothUptoRow.holds Try.pinned (OpenSpec.upto runesBothSpec)

/-- 'droverlaw01.RunesNames', WHERE WHAT IT READS IS OF BULK AT MOST 1048576: true; the input reads as it did. -/
def runesNamesUptoRow : OpenClaim := { program := "ytlknklpjlljfjaa", sum := "5b7a50af77ca6af6d7a633e4fc58f7a47f3140f8bd40add911633a22ff4a59b8", func := "drover/droverlaw01.RunesNames", spec := "runesNames", inPlace := ["internal/abi.NoEscape", "internal/bytealg.IndexByteString", "internal/bytealg.IndexString"], named := ["internal/bytealg.MaxLen"], apart := false, narrowed := true }
def RunesNamesUptoSaid : Prop := runesNamesUptoRow.holds Try.pinned (OpenSpec.upto runesNamesSpec)

end Rows
end Go.Proofs.Ytlknklpjlljfjaa
