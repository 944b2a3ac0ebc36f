/-
  No cell of these rows narrows 'for every input' (looked for: loops, veiled, ifaces, maps, wideKeys, modest, calm, conditions, laid).
  DERIVED. THE GIVEN ROWS OF THIS SEAT. 7 by the template 'for every input the law returns true; each argument reads behind the call as it read before'; 0 by the template 'total and deterministic' (their statements: YtpkcnojcklmhmaaTotals.lean).
  GIVEN WITH THE SEED: the statements are not yours to turn. If you find one false, say at which input.
  Laid BY PROGRAM, IN A SANDBOX (cutbox-rows.mjs): the forced cells as the released guide's own fill.sh prints them over the translation 60a92e753f6de089… (all of the seat's roots in one cut). By AI agents, Wed Nov 11 2026. No macro, syntax, notation, axiom, sorry.
-/
import Derived.Test.YtpkcnojcklmhmaaChecked
import GoSem.Claim
import GoSem.ClaimJoined
import GoSem.ClaimMapViews
import Derived.JoinedTies
import Derived.KernelRfl
namespace Go.Proofs.Ytpkcnojcklmhmaa
/- THE CELL 'sum', in the pinned program and in every row, IS THE sha256 OF THE DUMP (.gsa) THAT YtpkcnojcklmhmaaProg.lean LOADS. Nothing in Lean hashes anything: it is a label: what it is worth is what the hold of that sum in a sandbox is worth. -/
noncomputable def Try.pinned : Pinned := { name := "ytpkcnojcklmhmaa", sum := "60a92e753f6de089027f71282d6174a69d7ac439a6a3b05de60d3f440422261d", checked := Try.checked }
namespace Rows
def none {H : Type} : Left H := { results := [], args := [] }

/-- 'cannerylaw02.HeatSteps': WHATEVER THE INPUT: true; the input reads as it did. -/
def heatStepsSpec : ChangeSpec := { name := "heatSteps", fn := fun _ => fun
  | [d1, d2, d3] => { results := [.lit (.bool true)], args := [d1, d2, d3] }
  | _ => none }
def heatStepsRow : OpenClaim := { program := "ytpkcnojcklmhmaa", sum := "60a92e753f6de089027f71282d6174a69d7ac439a6a3b05de60d3f440422261d", func := "cannery/cannerylaw02.HeatSteps", spec := "heatSteps", unfollowed := true, recurses := true, apart := false }
def HeatStepsSaid : Prop := heatStepsRow.holds Try.pinned (OpenSpec.ofChange heatStepsSpec)

/-- ITS FALSE NEIGHBOUR: 'it returns false'. Refute it at one input. -/
def heatStepsWrong : ChangeSpec := { name := "heatSteps", fn := fun _ => fun
  | [d1, d2, d3] => { results := [.lit (.bool false)], args := [d1, d2, d3] }
  | _ => none }
def HeatStepsWrongFalsely : Prop := heatStepsRow.holds Try.pinned (OpenSpec.ofChange heatStepsWrong)

/-- 'cannerylaw02.HeatCold': WHATEVER THE INPUT: true; the input reads as it did. -/
def heatColdSpec : ChangeSpec := { name := "heatCold", fn := fun _ => fun
  | [d1, d2, d3] => { results := [.lit (.bool true)], args := [d1, d2, d3] }
  | _ => none }
def heatColdRow : OpenClaim := { program := "ytpkcnojcklmhmaa", sum := "60a92e753f6de089027f71282d6174a69d7ac439a6a3b05de60d3f440422261d", func := "cannery/cannerylaw02.HeatCold", spec := "heatCold", unfollowed := true, recurses := true, apart := false }
def HeatColdSaid : Prop := heatColdRow.holds Try.pinned (OpenSpec.ofChange heatColdSpec)

/-- ITS FALSE NEIGHBOUR: 'it returns false'. Refute it at one input. -/
def heatColdWrong : ChangeSpec := { name := "heatCold", fn := fun _ => fun
  | [d1, d2, d3] => { results := [.lit (.bool false)], args := [d1, d2, d3] }
  | _ => none }
def HeatColdWrongFalsely : Prop := heatColdRow.holds Try.pinned (OpenSpec.ofChange heatColdWrong)

/-- 'cannerylaw02.HeatUntil': WHATEVER THE INPUT: true; the input reads as it did. -/
def heatUntilSpec : ChangeSpec := { name := "heatUntil", fn := fun _ => fun
  | [d] => { results := [.lit (.bool true)], args := [d] }
  | _ => none }
def heatUntilRow : OpenClaim := { program := "ytpkcnojcklmhmaa", sum := "60a92e753f6de089027f71282d6174a69d7ac439a6a3b05de60d3f440422261d", func := "cannery/cannerylaw02.HeatUntil", spec := "heatUntil", unfollowed := true, recurses := true, apart := false }
def HeatUntilSaid : Prop := heatUntilRow.holds Try.pinned (OpenSpec.ofChange heatUntilSpec)

/-- ITS FALSE NEIGHBOUR: 'it returns false'. Refute it at one input. -/
def heatUntilWrong : ChangeSpec := { name := "heatUntil", fn := fun _ => fun
  | [d] => { results := [.lit (.bool false)], args := [d] }
  | _ => none }
def HeatUntilWrongFalsely : Prop := heatUntilRow.holds Try.pinned (OpenSpec.ofChange heatUntilWrong)

/-- 'cannerylaw02.HeatTurns': WHATEVER THE INPUT: true; the input reads as it did. -/
def heatTurnsSpec : ChangeSpec := { name := "heatTurns", fn := fun _ => fun
  | [d1, d2, d3] => { results := [.lit (.bool true)], args := [d1, d2, d3] }
  | _ => none }
def heatTurnsRow : OpenClaim := { program := "ytpkcnojcklmhmaa", sum := "60a92e753f6de089027f71282d6174a69d7ac439a6a3b05de60d3f440422261d", func := "cannery/cannerylaw02.HeatTurns", spec := "heatTurns", unfollowed := true, recurses := true, apart := false }
def HeatTurnsSaid : Prop := heatTurnsRow.holds Try.pinned (OpenSpec.ofChange heatTurnsSpec)

/-- ITS FALSE NEIGHBOUR: 'it returns false'. Refute it at one input. -/
def heatTurnsWrong : ChangeSpec := { name := "heatTurns", fn := fun _ => fun
  | [d1, d2, d3] => { results := [.lit (.bool false)], args := [d1, d2, d3] }
  | _ => none }
def HeatTurnsWrongFalsely : Prop := heatTurnsRow.holds Try.pinned (OpenSpec.ofChange heatTurnsWrong)

/-- 'cannerylaw02.HeatUpside': WHATEVER THE INPUT: true; the input reads as it did. -/
def heatUpsideSpec : ChangeSpec := { name := "heatUpside", fn := fun _ => fun
  | [d1, d2, d3] => { results := [.lit (.bool true)], args := [d1, d2, d3] }
  | _ => none }
def heatUpsideRow : OpenClaim := { program := "ytpkcnojcklmhmaa", sum := "60a92e753f6de089027f71282d6174a69d7ac439a6a3b05de60d3f440422261d", func := "cannery/cannerylaw02.HeatUpside", spec := "heatUpside", unfollowed := true, recurses := true, apart := false }
def HeatUpsideSaid : Prop := heatUpsideRow.holds Try.pinned (OpenSpec.ofChange heatUpsideSpec)

/-- ITS FALSE NEIGHBOUR: 'it returns false'. Refute it at one input. -/
def heatUpsideWrong : ChangeSpec := { name := "heatUpside", fn := fun _ => fun
  | [d1, d2, d3] => { results := [.lit (.bool false)], args := [d1, d2, d3] }
  | _ => none }
def HeatUpsideWrongFalsely : Prop := heatUpsideRow.holds Try.pinned (OpenSpec.ofChange heatUpsideWrong)

/-- 'cannerylaw03.RetortRuns': WHATEVER THE INPUT: true; the input reads as it did. -/
def retortRunsSpec : ChangeSpec := { name := "retortRuns", fn := fun _ => fun
  | [d] => { results := [.lit (.bool true)], args := [d] }
  | _ => none }
def retortRunsRow : OpenClaim := { program := "ytpkcnojcklmhmaa", sum := "60a92e753f6de089027f71282d6174a69d7ac439a6a3b05de60d3f440422261d", func := "cannery/cannerylaw03.RetortRuns", spec := "retortRuns", unfollowed := true, recurses := true, apart := false }
def RetortRunsSaid : Prop := retortRunsRow.holds Try.pinned (OpenSpec.ofChange retortRunsSpec)

/-- ITS FALSE NEIGHBOUR: 'it returns false'. Refute it at one input. -/
def retortRunsWrong : ChangeSpec := { name := "retortRuns", fn := fun _ => fun
  | [d] => { results := [.lit (.bool false)], args := [d] }
  | _ => none }
def RetortRunsWrongFalsely : Prop := retortRunsRow.holds Try.pinned (OpenSpec.ofChange retortRunsWrong)

/-- 'cannerylaw03.RetortRecords': WHATEVER THE INPUT: true; the input reads as it did. -/
def retortRecordsSpec : ChangeSpec := { name := "retortRecords", fn := fun _ => fun
  | [d1, d2] => { results := [.lit (.bool true)], args := [d1, d2] }
  | _ => none }
def retortRecordsRow : OpenClaim := { program := "ytpkcnojcklmhmaa", sum := "60a92e753f6de089027f71282d6174a69d7ac439a6a3b05de60d3f440422261d", func := "cannery/cannerylaw03.RetortRecords", spec := "retortRecords", unfollowed := true, recurses := true, apart := false }
def RetortRecordsSaid : Prop := retortRecordsRow.holds Try.pinned (OpenSpec.ofChange retortRecordsSpec)

/-- ITS FALSE NEIGHBOUR: 'it returns false'. Refute it at one input. -/
def retortRecordsWrong : ChangeSpec := { name := "retortRecords", fn := fun _ => fun
  | [d1, d2] => { results := [.lit (.bool false)], args := [d1, d2] }
  | _ => none }
def RetortRecordsWrongFalsely : Prop := retortRecordsRow.holds Try.pinned (OpenSpec.ofChange retortRecordsWrong)

/- THE SECOND FORM. 'bulk': how many values and letters a reading holds, each counted each time it is reached (what is shared counts as often as it is met; a slice's spare places count too). A statement '..UptoSaid' is the law's where the arguments, and the package variables that the reading takes, are together of bulk at most 1048576: NARROWER than '..Said'. Prove '..Said' where nothing that the law and all that it calls make is longer than what came in: it says more and counts as full. Else prove '..UptoSaid'. A law counts once. -/
mutual
def uptoBulk {H : Type} : DataW H → Nat
  | .lit (.string bytes) => bytes.length + 1
  | .lit _ => 1
  | .nil => 1
  | .ptr d => uptoBulk d + 1
  | .slice elems spare => uptoBulkAll elems + uptoBulkAll spare + 1
  | .agg parts => uptoBulkAll parts + 1
  | .iface _ d => uptoBulk d + 1
  | .map entries => uptoBulkEntries entries + 1
  | .held _ => 1
def uptoBulkAll {H : Type} : List (DataW H) → Nat
  | [] => 0
  | d :: r => uptoBulk d + uptoBulkAll r
def uptoBulkEntries {H : Type} : List (Lit × DataW H) → Nat
  | [] => 0
  | x :: r => uptoBulkEntry x + uptoBulkEntries r
def uptoBulkEntry {H : Type} : Lit × DataW H → Nat
  | (.string bytes, d) => bytes.length + uptoBulk d + 1
  | (_, d) => uptoBulk d + 1
 end
def uptoSmall : (H : Type) → List (DataW H) → Bool := fun _ ds => decide (uptoBulkAll ds ≤ 1048576)
def OpenSpec.upto (s : _root_.Go.ChangeSpec) : _root_.Go.OpenSpec := { _root_.Go.OpenSpec.ofChange s with cond := some uptoSmall }

/-- 'cannerylaw02.HeatSteps', WHERE WHAT IT READS IS OF BULK AT MOST 1048576: true; the input reads as it did. -/
def heatStepsUptoRow : OpenClaim := { program := "ytpkcnojcklmhmaa", sum := "60a92e753f6de089027f71282d6174a69d7ac439a6a3b05de60d3f440422261d", func := "cannery/cannerylaw02.HeatSteps", spec := "heatSteps", unfollowed := true, recurses := true, apart := false, narrowed := true }
def HeatStepsUptoSaid : Prop := heatStepsUptoRow.holds Try.pinned (OpenSpec.upto heatStepsSpec)

/-- 'cannerylaw02.HeatCold', WHERE WHAT IT READS IS OF BULK AT MOST 1048576: true; the input reads as it did. -/
def heatColdUptoRow : OpenClaim := { program := "ytpkcnojcklmhmaa", sum := "60a92e753f6de089027f71282d6174a69d7ac439a6a3b05de60d3f440422261d", func := "cannery/cannerylaw02.HeatCold", spec := "heatCold", unfollowed := true, recurses := true, apart := false, narrowed := true }
def HeatColdUptoSaid : Prop := heatColdUptoRow.holds Try.pinned (OpenSpec.upto heatColdSpec)

/-- 'cannerylaw02.HeatUntil', WHERE WHAT IT READS IS OF BULK AT MOST 1048576: true; the input reads as it did. -/
def heatUntilUptoRow : OpenClaim := { program := "ytpkcnojcklmhmaa", sum := "60a92e753f6de089027f71282d6174a69d7ac439a6a3b05de60d3f440422261d", func := "cannery/cannerylaw02.HeatUntil", spec := "heatUntil", unfollowed := true, recurses := true, apart := false, narrowed := true }
def HeatUntilUptoSaid : Prop := heatUntilUptoRow.holds Try.pinned (OpenSpec.upto heatUntilSpec)

/-- 'cannerylaw02.HeatTurns', WHERE WHAT IT READS IS OF BULK AT MOST 1048576: true; the input reads as it did. -/
def heatTurnsUptoRow : OpenClaim := { program := "ytpkcnojcklmhmaa", sum := "60a92e753f6de089027f71282d6174a69d7ac439a6a3b05de60d3f440422261d", func := "cannery/cannerylaw02.HeatTurns", spec := "heatTurns", unfollowed := true, recurses := true, apart := false, narrowed := true }
def HeatTurnsUptoSaid : Prop := heatTurnsUptoRow.holds Try.pinned (OpenSpec.upto heatTurnsSpec)

/-- 'cannerylaw02.HeatUpside', WHERE WHAT IT READS IS OF BULK AT MOST 1048576: true; the input reads as it did. -/
def heatUpsideUptoRow : OpenClaim := { program := "ytpkcnojcklmhmaa", sum := "60a92e753f6de089027f71282d6174a69d7ac439a6a3b05de60d3f440422261d", func := "cannery/cannerylaw02.HeatUpside", spec := "heatUpside", unfollowed := true, recurses := true, apart := false, narrowed := true }
def HeatUpsideUptoSaid : Prop := heatUpsideUptoRow.holds Try.pinned (OpenSpec.upto heatUpsideSpec)

/-- 'cannerylaw03.RetortRuns', WHERE WHAT IT READS IS OF BULK AT MOST 1048576: true; the input reads as it did. -/
def retortRunsUptoRow : OpenClaim := { program := "ytpkcnojcklmhmaa", sum := "60a92e753f6de089027f71282d6174a69d7ac439a6a3b05de60d3f440422261d", func := "cannery/cannerylaw03.RetortRuns", spec := "retortRuns", unfollowed := true, recurses := true, apart := false, narrowed := true }
def RetortRunsUptoSaid : Prop := retortRunsUptoRow.holds Try.pinned (OpenSpec.upto retortRunsSpec)

/-- 'cannerylaw03.RetortRecords', WHERE WHAT IT READS IS OF BULK AT MOST 1048576: true; the input reads as it did. -/
def retortRecordsUptoRow : OpenClaim := { program := "ytpkcnojcklmhmaa", sum := "60a92e753f6de089027f71282d6174a69d7ac439a6a3b05de60d3f440422261d", func := "cannery/cannerylaw03.RetortRecords", spec := "retortRecords", unfollowed := true, recurses := true, apart := false, narrowed := true }
def RetortRecordsUptoSaid : Prop := retortRecordsUptoRow.holds Try.pinned (OpenSpec.upto retortRecordsSpec)

end Rows
end Go.Proofs.Ytpkcnojcklmhmaa
