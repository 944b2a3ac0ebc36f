/-
  NARROWER THAN 'FOR EVERY INPUT', by the rows' own cells (each row's printed sentence says how): CodeDays: laid · CodeSigns: laid · CodeStamps: laid · CodeReads: laid · CodeMisread: laid.
  DERIVED. THE GIVEN ROWS OF THIS SEAT. 5 by the template 'for every input the law returns true; each argument reads behind the call as it read before'; 0 by the template 'total and deterministic' (their statements: YtlnfebginkmbhaaDoorTotals.lean).
  GIVEN WITH THE SEED: the statements are not yours to turn. If you find one false, say at which input.
  Laid BY PROGRAM, IN A SANDBOX (cutbox-rows.mjs): the forced cells as the released guide's own fill.sh prints them over the translation f6f549ec122da584… (all of the seat's roots in one cut). By AI agents, Wed Nov 11 2026. No macro, syntax, notation, axiom, sorry.
-/
import Derived.Test.YtlnfebginkmbhaaDoorChecked
import GoSem.Claim
import GoSem.ClaimJoined
import GoSem.ClaimMapViews
import Derived.JoinedTies
import Derived.KernelRfl
namespace Go.Proofs.YtlnfebginkmbhaaDoor
/- THE CELL 'sum', in the pinned program and in every row, IS THE sha256 OF THE DUMP (.gsa) THAT YtlnfebginkmbhaaDoorProg.lean LOADS. Nothing in Lean hashes anything: it is a label: what it is worth is what the hold of that sum in a sandbox is worth. -/
noncomputable def Tryd.pinned : Pinned := { name := "ytlnfebginkmbhaadoor", sum := "f6f549ec122da584c7ba39e9d7a6ab5c0d6e0dff5720c7541596e085dca4b517", checked := Tryd.checked }
namespace Rows
def none {H : Type} : Left H := { results := [], args := [] }

/- WHAT THE LISTED PACKAGE-LEVEL VARIABLES READ AS WHEN THE CALL BEGINS. Each datum BY PROGRAM (the guide's laid-datum.mjs) off the statement by which the dump's own 'gosem.cut.vars' lays the variable. In a bare row this is a premise. The card (YtlnfebginkmbhaaDoorCards.lean) ties it to the program's text. -/
def laid_cannery_code_weights {H : Type} : DataW H := .agg [.lit (.int .i64 1), .lit (.int .i64 2), .lit (.int .i64 3), .lit (.int .i64 4), .lit (.int .i64 5), .lit (.int .i64 6), .lit (.int .i64 7), .lit (.int .i64 8), .lit (.int .i64 9)]

/-- 'cannerylaw06.CodeDays': WHATEVER THE INPUT: true; the input reads as it did. -/
def codeDaysSpec : ChangeSpec := { name := "codeDays", fn := fun _ => fun
  | [d1, d2] => { results := [.lit (.bool true)], args := [d1, d2] }
  | _ => none }
def codeDaysRow : OpenClaim := { program := "ytlnfebginkmbhaadoor", sum := "f6f549ec122da584c7ba39e9d7a6ab5c0d6e0dff5720c7541596e085dca4b517", func := "cannery/cannerylaw06.CodeDays", spec := "codeDays", inPlace := ["internal/bytealg.IndexByteString", "internal/bytealg.IndexString"], named := ["cannery/code.weights", "internal/bytealg.MaxLen"], apart := false, laid := [("cannery/code.weights", laid_cannery_code_weights)] }
def CodeDaysSaid : Prop := codeDaysRow.holds Tryd.pinned (OpenSpec.ofChange codeDaysSpec)

/-- ITS FALSE NEIGHBOUR: 'it returns false'. Refute it at one input. -/
def codeDaysWrong : ChangeSpec := { name := "codeDays", fn := fun _ => fun
  | [d1, d2] => { results := [.lit (.bool false)], args := [d1, d2] }
  | _ => none }
def CodeDaysWrongFalsely : Prop := codeDaysRow.holds Tryd.pinned (OpenSpec.ofChange codeDaysWrong)

/-- 'cannerylaw06.CodeSigns': WHATEVER THE INPUT: true; the input reads as it did. -/
def codeSignsSpec : ChangeSpec := { name := "codeSigns", fn := fun _ => fun
  | [d1, d2, d3] => { results := [.lit (.bool true)], args := [d1, d2, d3] }
  | _ => none }
def codeSignsRow : OpenClaim := { program := "ytlnfebginkmbhaadoor", sum := "f6f549ec122da584c7ba39e9d7a6ab5c0d6e0dff5720c7541596e085dca4b517", func := "cannery/cannerylaw06.CodeSigns", spec := "codeSigns", inPlace := ["internal/bytealg.IndexByteString", "internal/bytealg.IndexString"], named := ["cannery/code.weights", "internal/bytealg.MaxLen"], apart := false, laid := [("cannery/code.weights", laid_cannery_code_weights)] }
def CodeSignsSaid : Prop := codeSignsRow.holds Tryd.pinned (OpenSpec.ofChange codeSignsSpec)

/-- ITS FALSE NEIGHBOUR: 'it returns false'. Refute it at one input. -/
def codeSignsWrong : ChangeSpec := { name := "codeSigns", fn := fun _ => fun
  | [d1, d2, d3] => { results := [.lit (.bool false)], args := [d1, d2, d3] }
  | _ => none }
def CodeSignsWrongFalsely : Prop := codeSignsRow.holds Tryd.pinned (OpenSpec.ofChange codeSignsWrong)

/-- 'cannerylaw06.CodeStamps': WHATEVER THE INPUT: true; the input reads as it did. -/
def codeStampsSpec : ChangeSpec := { name := "codeStamps", fn := fun _ => fun
  | [d1, d2] => { results := [.lit (.bool true)], args := [d1, d2] }
  | _ => none }
def codeStampsRow : OpenClaim := { program := "ytlnfebginkmbhaadoor", sum := "f6f549ec122da584c7ba39e9d7a6ab5c0d6e0dff5720c7541596e085dca4b517", func := "cannery/cannerylaw06.CodeStamps", spec := "codeStamps", inPlace := ["internal/bytealg.IndexByteString", "internal/bytealg.IndexString"], named := ["cannery/code.weights", "internal/bytealg.MaxLen"], apart := false, laid := [("cannery/code.weights", laid_cannery_code_weights)] }
def CodeStampsSaid : Prop := codeStampsRow.holds Tryd.pinned (OpenSpec.ofChange codeStampsSpec)

/-- ITS FALSE NEIGHBOUR: 'it returns false'. Refute it at one input. -/
def codeStampsWrong : ChangeSpec := { name := "codeStamps", fn := fun _ => fun
  | [d1, d2] => { results := [.lit (.bool false)], args := [d1, d2] }
  | _ => none }
def CodeStampsWrongFalsely : Prop := codeStampsRow.holds Tryd.pinned (OpenSpec.ofChange codeStampsWrong)

/-- 'cannerylaw06.CodeReads': WHATEVER THE INPUT: true; the input reads as it did. -/
def codeReadsSpec : ChangeSpec := { name := "codeReads", fn := fun _ => fun
  | [d1, d2] => { results := [.lit (.bool true)], args := [d1, d2] }
  | _ => none }
def codeReadsRow : OpenClaim := { program := "ytlnfebginkmbhaadoor", sum := "f6f549ec122da584c7ba39e9d7a6ab5c0d6e0dff5720c7541596e085dca4b517", func := "cannery/cannerylaw06.CodeReads", spec := "codeReads", inPlace := ["internal/bytealg.IndexByteString", "internal/bytealg.IndexString"], named := ["cannery/code.weights", "internal/bytealg.MaxLen"], apart := false, laid := [("cannery/code.weights", laid_cannery_code_weights)] }
def CodeReadsSaid : Prop := codeReadsRow.holds Tryd.pinned (OpenSpec.ofChange codeReadsSpec)

/-- ITS FALSE NEIGHBOUR: 'it returns false'. Refute it at one input. -/
def codeReadsWrong : ChangeSpec := { name := "codeReads", fn := fun _ => fun
  | [d1, d2] => { results := [.lit (.bool false)], args := [d1, d2] }
  | _ => none }
def CodeReadsWrongFalsely : Prop := codeReadsRow.holds Tryd.pinned (OpenSpec.ofChange codeReadsWrong)

/-- 'cannerylaw06.CodeMisread': WHATEVER THE INPUT: true; the input reads as it did. -/
def codeMisreadSpec : ChangeSpec := { name := "codeMisread", fn := fun _ => fun
  | [d1, d2, d3] => { results := [.lit (.bool true)], args := [d1, d2, d3] }
  | _ => none }
def codeMisreadRow : OpenClaim := { program := "ytlnfebginkmbhaadoor", sum := "f6f549ec122da584c7ba39e9d7a6ab5c0d6e0dff5720c7541596e085dca4b517", func := "cannery/cannerylaw06.CodeMisread", spec := "codeMisread", inPlace := ["internal/bytealg.IndexByteString", "internal/bytealg.IndexString"], recurses := true, named := ["cannery/code.weights", "internal/bytealg.MaxLen"], apart := false, laid := [("cannery/code.weights", laid_cannery_code_weights)] }
def CodeMisreadSaid : Prop := codeMisreadRow.holds Tryd.pinned (OpenSpec.ofChange codeMisreadSpec)

/-- ITS FALSE NEIGHBOUR: 'it returns false'. Refute it at one input. -/
def codeMisreadWrong : ChangeSpec := { name := "codeMisread", fn := fun _ => fun
  | [d1, d2, d3] => { results := [.lit (.bool false)], args := [d1, d2, d3] }
  | _ => none }
def CodeMisreadWrongFalsely : Prop := codeMisreadRow.holds Tryd.pinned (OpenSpec.ofChange codeMisreadWrong)

/- THE SECOND FORM. 'bulk': how many values and letters a reading holds, each counted each time it is reached (what is shared counts as often as it is met; a slice's spare places count too). A statement '..UptoSaid' is the law's where the arguments, and the package variables that the reading takes, are together of bulk at most 1048576: NARROWER than '..Said'. Prove '..Said' where nothing that the law and all that it calls make is longer than what came in: it says more and counts as full. Else prove '..UptoSaid'. A law counts once. -/
mutual
def uptoBulk {H : Type} : DataW H → Nat
  | .lit (.string bytes) => bytes.length + 1
  | .lit _ => 1
  | .nil => 1
  | .ptr d => uptoBulk d + 1
  | .slice elems spare => uptoBulkAll elems + uptoBulkAll spare + 1
  | .agg parts => uptoBulkAll parts + 1
  | .iface _ d => uptoBulk d + 1
  | .map entries => uptoBulkEntries entries + 1
  | .held _ => 1
def uptoBulkAll {H : Type} : List (DataW H) → Nat
  | [] => 0
  | d :: r => uptoBulk d + uptoBulkAll r
def uptoBulkEntries {H : Type} : List (Lit × DataW H) → Nat
  | [] => 0
  | x :: r => uptoBulkEntry x + uptoBulkEntries r
def uptoBulkEntry {H : Type} : Lit × DataW H → Nat
  | (.string bytes, d) => bytes.length + uptoBulk d + 1
  | (_, d) => uptoBulk d + 1
 end
def uptoSmall : (H : Type) → List (DataW H) → Bool := fun _ ds => decide (uptoBulkAll ds ≤ 1048576)
def OpenSpec.upto (s : _root_.Go.ChangeSpec) : _root_.Go.OpenSpec := { _root_.Go.OpenSpec.ofChange s with cond := some uptoSmall }

/-- 'cannerylaw06.CodeDays', WHERE WHAT IT READS IS OF BULK AT MOST 1048576: true; the input reads as it did. -/
def codeDaysUptoRow : OpenClaim := { program := "ytlnfebginkmbhaadoor", sum := "f6f549ec122da584c7ba39e9d7a6ab5c0d6e0dff5720c7541596e085dca4b517", func := "cannery/cannerylaw06.CodeDays", spec := "codeDays", inPlace := ["internal/bytealg.IndexByteString", "internal/bytealg.IndexString"], named := ["cannery/code.weights", "internal/bytealg.MaxLen"], apart := false, laid := [("cannery/code.weights", laid_cannery_code_weights)], narrowed := true }
def CodeDaysUptoSaid : Prop := codeDaysUptoRow.holds Tryd.pinned (OpenSpec.upto codeDaysSpec)

/-- 'cannerylaw06.CodeSigns', WHERE WHAT IT READS IS OF BULK AT MOST 1048576: true; the input reads as it did. -/
def codeSignsUptoRow : OpenClaim := { program := "ytlnfebginkmbhaadoor", sum := "f6f549ec122da584c7ba39e9d7a6ab5c0d6e0dff5720c7541596e085dca4b517", func := "cannery/cannerylaw06.CodeSigns", spec := "codeSigns", inPlace := ["internal/bytealg.IndexByteString", "internal/bytealg.IndexString"], named := ["cannery/code.weights", "internal/bytealg.MaxLen"], apart := false, laid := [("cannery/code.weights", laid_cannery_code_weights)], narrowed := true }
def CodeSignsUptoSaid : Prop := codeSignsUptoRow.holds Tryd.pinned (OpenSpec.upto codeSignsSpec)

/-- 'cannerylaw06.CodeStamps', WHERE WHAT IT READS IS OF BULK AT MOST 1048576: true; the input reads as it did. -/
def codeStampsUptoRow : OpenClaim := { program := "ytlnfebginkmbhaadoor", sum := "f6f549ec122da584c7ba39e9d7a6ab5c0d6e0dff5720c7541596e085dca4b517", func := "cannery/cannerylaw06.CodeStamps", spec := "codeStamps", inPlace := ["internal/bytealg.IndexByteString", "internal/bytealg.IndexString"], named := ["cannery/code.weights", "internal/bytealg.MaxLen"], apart := false, laid := [("cannery/code.weights", laid_cannery_code_weights)], narrowed := true }
def CodeStampsUptoSaid : Prop := codeStampsUptoRow.holds Tryd.pinned (OpenSpec.upto codeStampsSpec)

/-- 'cannerylaw06.CodeReads', WHERE WHAT IT READS IS OF BULK AT MOST 1048576: true; the input reads as it did. -/
def codeReadsUptoRow : OpenClaim := { program := "ytlnfebginkmbhaadoor", sum := "f6f549ec122da584c7ba39e9d7a6ab5c0d6e0dff5720c7541596e085dca4b517", func := "cannery/cannerylaw06.CodeReads", spec := "codeReads", inPlace := ["internal/bytealg.IndexByteString", "internal/bytealg.IndexString"], named := ["cannery/code.weights", "internal/bytealg.MaxLen"], apart := false, laid := [("cannery/code.weights", laid_cannery_code_weights)], narrowed := true }
def CodeReadsUptoSaid : Prop := codeReadsUptoRow.holds Tryd.pinned (OpenSpec.upto codeReadsSpec)

/-- 'cannerylaw06.CodeMisread', WHERE WHAT IT READS IS OF BULK AT MOST 1048576: true; the input reads as it did. -/
def codeMisreadUptoRow : OpenClaim := { program := "ytlnfebginkmbhaadoor", sum := "f6f549ec122da584c7ba39e9d7a6ab5c0d6e0dff5720c7541596e085dca4b517", func := "cannery/cannerylaw06.CodeMisread", spec := "codeMisread", inPlace := ["internal/bytealg.IndexByteString", "internal/bytealg.IndexString"], recurses := true, named := ["cannery/code.weights", "internal/bytealg.MaxLen"], apart := false, laid := [("cannery/code.weights", laid_cannery_code_weights)], narrowed := true }
def CodeMisreadUptoSaid : Prop := codeMisreadUptoRow.holds Tryd.pinned (OpenSpec.upto codeMisreadSpec)

end Rows
end Go.Proofs.YtlnfebginkmbhaaDoor
