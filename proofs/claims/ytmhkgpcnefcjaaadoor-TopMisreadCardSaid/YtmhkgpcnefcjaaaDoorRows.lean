/-
  NARROWER THAN 'FOR EVERY INPUT', by the rows' own cells (each row's printed sentence says how): CodeBesides: laid · CodeNear: laid · CodeAround: laid · TopMisread: laid.
  DERIVED. THE GIVEN ROWS OF THIS SEAT. 4 by the template 'for every input the law returns true; each argument reads behind the call as it read before'; 0 by the template 'total and deterministic' (their statements: YtmhkgpcnefcjaaaDoorTotals.lean).
  GIVEN WITH THE SEED: the statements are not yours to turn. If you find one false, say at which input.
  Laid BY PROGRAM, IN A SANDBOX (cutbox-rows.mjs): the forced cells as the released guide's own fill.sh prints them over the translation 5ae275bfb9816623… (all of the seat's roots in one cut). By AI agents, Wed Nov 11 2026. No macro, syntax, notation, axiom, sorry.
-/
import Derived.Test.YtmhkgpcnefcjaaaDoorChecked
import GoSem.Claim
import GoSem.ClaimJoined
import GoSem.ClaimMapViews
import Derived.JoinedTies
import Derived.KernelRfl
namespace Go.Proofs.YtmhkgpcnefcjaaaDoor
/- THE CELL 'sum', in the pinned program and in every row, IS THE sha256 OF THE DUMP (.gsa) THAT YtmhkgpcnefcjaaaDoorProg.lean LOADS. Nothing in Lean hashes anything: it is a label: what it is worth is what the hold of that sum in a sandbox is worth. -/
noncomputable def Tryd.pinned : Pinned := { name := "ytmhkgpcnefcjaaadoor", sum := "5ae275bfb98166230a9e6162d90951bd5dfa2753f658ef159c0f7219fe3d400b", checked := Tryd.checked }
namespace Rows
def none {H : Type} : Left H := { results := [], args := [] }

/- WHAT THE LISTED PACKAGE-LEVEL VARIABLES READ AS WHEN THE CALL BEGINS. Each datum BY PROGRAM (the guide's laid-datum.mjs) off the statement by which the dump's own 'gosem.cut.vars' lays the variable. In a bare row this is a premise. The card (YtmhkgpcnefcjaaaDoorCards.lean) ties it to the program's text. -/
def laid_cannery_code_weights {H : Type} : DataW H := .agg [.lit (.int .i64 1), .lit (.int .i64 2), .lit (.int .i64 3), .lit (.int .i64 4), .lit (.int .i64 5), .lit (.int .i64 6), .lit (.int .i64 7), .lit (.int .i64 8), .lit (.int .i64 9)]

/-- 'cannerylaw06.CodeBesides': WHATEVER THE INPUT: true; the input reads as it did. -/
def codeBesidesSpec : ChangeSpec := { name := "codeBesides", fn := fun _ => fun
  | [d1, d2] => { results := [.lit (.bool true)], args := [d1, d2] }
  | _ => none }
def codeBesidesRow : OpenClaim := { program := "ytmhkgpcnefcjaaadoor", sum := "5ae275bfb98166230a9e6162d90951bd5dfa2753f658ef159c0f7219fe3d400b", func := "cannery/cannerylaw06.CodeBesides", spec := "codeBesides", inPlace := ["internal/bytealg.IndexByteString", "internal/bytealg.IndexString"], unfollowed := true, recurses := true, named := ["cannery/code.weights", "internal/bytealg.MaxLen"], apart := false, laid := [("cannery/code.weights", laid_cannery_code_weights)] }
def CodeBesidesSaid : Prop := codeBesidesRow.holds Tryd.pinned (OpenSpec.ofChange codeBesidesSpec)

/-- ITS FALSE NEIGHBOUR: 'it returns false'. Refute it at one input. -/
def codeBesidesWrong : ChangeSpec := { name := "codeBesides", fn := fun _ => fun
  | [d1, d2] => { results := [.lit (.bool false)], args := [d1, d2] }
  | _ => none }
def CodeBesidesWrongFalsely : Prop := codeBesidesRow.holds Tryd.pinned (OpenSpec.ofChange codeBesidesWrong)

/-- 'cannerylaw06.CodeNear': WHATEVER THE INPUT: true; the input reads as it did. -/
def codeNearSpec : ChangeSpec := { name := "codeNear", fn := fun _ => fun
  | [d1, d2, d3] => { results := [.lit (.bool true)], args := [d1, d2, d3] }
  | _ => none }
def codeNearRow : OpenClaim := { program := "ytmhkgpcnefcjaaadoor", sum := "5ae275bfb98166230a9e6162d90951bd5dfa2753f658ef159c0f7219fe3d400b", func := "cannery/cannerylaw06.CodeNear", spec := "codeNear", inPlace := ["internal/bytealg.IndexByteString", "internal/bytealg.IndexString"], unfollowed := true, recurses := true, named := ["cannery/code.weights", "internal/bytealg.MaxLen"], apart := false, laid := [("cannery/code.weights", laid_cannery_code_weights)] }
def CodeNearSaid : Prop := codeNearRow.holds Tryd.pinned (OpenSpec.ofChange codeNearSpec)

/-- ITS FALSE NEIGHBOUR: 'it returns false'. Refute it at one input. -/
def codeNearWrong : ChangeSpec := { name := "codeNear", fn := fun _ => fun
  | [d1, d2, d3] => { results := [.lit (.bool false)], args := [d1, d2, d3] }
  | _ => none }
def CodeNearWrongFalsely : Prop := codeNearRow.holds Tryd.pinned (OpenSpec.ofChange codeNearWrong)

/-- 'cannerylaw06.CodeAround': WHATEVER THE INPUT: true; the input reads as it did. -/
def codeAroundSpec : ChangeSpec := { name := "codeAround", fn := fun _ => fun
  | [d1, d2] => { results := [.lit (.bool true)], args := [d1, d2] }
  | _ => none }
def codeAroundRow : OpenClaim := { program := "ytmhkgpcnefcjaaadoor", sum := "5ae275bfb98166230a9e6162d90951bd5dfa2753f658ef159c0f7219fe3d400b", func := "cannery/cannerylaw06.CodeAround", spec := "codeAround", inPlace := ["internal/bytealg.IndexByteString", "internal/bytealg.IndexString"], named := ["cannery/code.weights", "internal/bytealg.MaxLen"], apart := false, laid := [("cannery/code.weights", laid_cannery_code_weights)] }
def CodeAroundSaid : Prop := codeAroundRow.holds Tryd.pinned (OpenSpec.ofChange codeAroundSpec)

/-- ITS FALSE NEIGHBOUR: 'it returns false'. Refute it at one input. -/
def codeAroundWrong : ChangeSpec := { name := "codeAround", fn := fun _ => fun
  | [d1, d2] => { results := [.lit (.bool false)], args := [d1, d2] }
  | _ => none }
def CodeAroundWrongFalsely : Prop := codeAroundRow.holds Tryd.pinned (OpenSpec.ofChange codeAroundWrong)

/-- 'cannerytop.TopMisread': WHATEVER THE INPUT: true; the input reads as it did. -/
def topMisreadSpec : ChangeSpec := { name := "topMisread", fn := fun _ => fun
  | [d1, d2, d3, d4] => { results := [.lit (.bool true)], args := [d1, d2, d3, d4] }
  | _ => none }
def topMisreadRow : OpenClaim := { program := "ytmhkgpcnefcjaaadoor", sum := "5ae275bfb98166230a9e6162d90951bd5dfa2753f658ef159c0f7219fe3d400b", func := "cannery/cannerytop.TopMisread", spec := "topMisread", inPlace := ["internal/bytealg.IndexByteString", "internal/bytealg.IndexString"], unfollowed := true, recurses := true, named := ["cannery/code.weights", "internal/bytealg.MaxLen"], apart := false, laid := [("cannery/code.weights", laid_cannery_code_weights)] }
def TopMisreadSaid : Prop := topMisreadRow.holds Tryd.pinned (OpenSpec.ofChange topMisreadSpec)

/-- ITS FALSE NEIGHBOUR: 'it returns false'. Refute it at one input. -/
def topMisreadWrong : ChangeSpec := { name := "topMisread", fn := fun _ => fun
  | [d1, d2, d3, d4] => { results := [.lit (.bool false)], args := [d1, d2, d3, d4] }
  | _ => none }
def TopMisreadWrongFalsely : Prop := topMisreadRow.holds Tryd.pinned (OpenSpec.ofChange topMisreadWrong)

/- THE SECOND FORM. 'bulk': how many values and letters a reading holds, each counted each time it is reached (what is shared counts as often as it is met; a slice's spare places count too). A statement '..UptoSaid' is the law's where the arguments, and the package variables that the reading takes, are together of bulk at most 1048576: NARROWER than '..Said'. Prove '..Said' where nothing that the law and all that it calls make is longer than what came in: it says more and counts as full. Else prove '..UptoSaid'. A law counts once. -/
mutual
def uptoBulk {H : Type} : DataW H → Nat
  | .lit (.string bytes) => bytes.length + 1
  | .lit _ => 1
  | .nil => 1
  | .ptr d => uptoBulk d + 1
  | .slice elems spare => uptoBulkAll elems + uptoBulkAll spare + 1
  | .agg parts => uptoBulkAll parts + 1
  | .iface _ d => uptoBulk d + 1
  | .map entries => uptoBulkEntries entries + 1
  | .held _ => 1
def uptoBulkAll {H : Type} : List (DataW H) → Nat
  | [] => 0
  | d :: r => uptoBulk d + uptoBulkAll r
def uptoBulkEntries {H : Type} : List (Lit × DataW H) → Nat
  | [] => 0
  | x :: r => uptoBulkEntry x + uptoBulkEntries r
def uptoBulkEntry {H : Type} : Lit × DataW H → Nat
  | (.string bytes, d) => bytes.length + uptoBulk d + 1
  | (_, d) => uptoBulk d + 1
 end
def uptoSmall : (H : Type) → List (DataW H) → Bool := fun _ ds => decide (uptoBulkAll ds ≤ 1048576)
def OpenSpec.upto (s : _root_.Go.ChangeSpec) : _root_.Go.OpenSpec := { _root_.Go.OpenSpec.ofChange s with cond := some uptoSmall }

/-- 'cannerylaw06.CodeBesides', WHERE WHAT IT READS IS OF BULK AT MOST 1048576: true; the input reads as it did. -/
def codeBesidesUptoRow : OpenClaim := { program := "ytmhkgpcnefcjaaadoor", sum := "5ae275bfb98166230a9e6162d90951bd5dfa2753f658ef159c0f7219fe3d400b", func := "cannery/cannerylaw06.CodeBesides", spec := "codeBesides", inPlace := ["internal/bytealg.IndexByteString", "internal/bytealg.IndexString"], unfollowed := true, recurses := true, named := ["cannery/code.weights", "internal/bytealg.MaxLen"], apart := false, laid := [("cannery/code.weights", laid_cannery_code_weights)], narrowed := true }
def CodeBesidesUptoSaid : Prop := codeBesidesUptoRow.holds Tryd.pinned (OpenSpec.upto codeBesidesSpec)

/-- 'cannerylaw06.CodeNear', WHERE WHAT IT READS IS OF BULK AT MOST 1048576: true; the input reads as it did. -/
def codeNearUptoRow : OpenClaim := { program := "ytmhkgpcnefcjaaadoor", sum := "5ae275bfb98166230a9e6162d90951bd5dfa2753f658ef159c0f7219fe3d400b", func := "cannery/cannerylaw06.CodeNear", spec := "codeNear", inPlace := ["internal/bytealg.IndexByteString", "internal/bytealg.IndexString"], unfollowed := true, recurses := true, named := ["cannery/code.weights", "internal/bytealg.MaxLen"], apart := false, laid := [("cannery/code.weights", laid_cannery_code_weights)], narrowed := true }
def CodeNearUptoSaid : Prop := codeNearUptoRow.holds Tryd.pinned (OpenSpec.upto codeNearSpec)

/-- 'cannerylaw06.CodeAround', WHERE WHAT IT READS IS OF BULK AT MOST 1048576: true; the input reads as it did. -/
def codeAroundUptoRow : OpenClaim := { program := "ytmhkgpcnefcjaaadoor", sum := "5ae275bfb98166230a9e6162d90951bd5dfa2753f658ef159c0f7219fe3d400b", func := "cannery/cannerylaw06.CodeAround", spec := "codeAround", inPlace := ["internal/bytealg.IndexByteString", "internal/bytealg.IndexString"], named := ["cannery/code.weights", "internal/bytealg.MaxLen"], apart := false, laid := [("cannery/code.weights", laid_cannery_code_weights)], narrowed := true }
def CodeAroundUptoSaid : Prop := codeAroundUptoRow.holds Tryd.pinned (OpenSpec.upto codeAroundSpec)

/-- 'cannerytop.TopMisread', WHERE WHAT IT READS IS OF BULK AT MOST 1048576: true; the input reads as it did. -/
def topMisreadUptoRow : OpenClaim := { program := "ytmhkgpcnefcjaaadoor", sum := "5ae275bfb98166230a9e6162d90951bd5dfa2753f658ef159c0f7219fe3d400b", func := "cannery/cannerytop.TopMisread", spec := "topMisread", inPlace := ["internal/bytealg.IndexByteString", "internal/bytealg.IndexString"], unfollowed := true, recurses := true, named := ["cannery/code.weights", "internal/bytealg.MaxLen"], apart := false, laid := [("cannery/code.weights", laid_cannery_code_weights)], narrowed := true }
def TopMisreadUptoSaid : Prop := topMisreadUptoRow.holds Tryd.pinned (OpenSpec.upto topMisreadSpec)

end Rows
end Go.Proofs.YtmhkgpcnefcjaaaDoor
