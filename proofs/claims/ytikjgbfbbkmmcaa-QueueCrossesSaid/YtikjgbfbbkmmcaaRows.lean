/-
  No cell of these rows narrows 'for every input' (looked for: loops, veiled, ifaces, maps, wideKeys, modest, calm, conditions, laid).
  DERIVED. THE GIVEN ROWS OF THIS SEAT. 5 by the template 'for every input the law returns true; each argument reads behind the call as it read before'; 0 by the template 'total and deterministic' (their statements: YtikjgbfbbkmmcaaTotals.lean).
  GIVEN WITH THE SEED: the statements are not yours to turn. If you find one false, say at which input.
  Laid BY PROGRAM, IN A SANDBOX (cutbox-rows.mjs): the forced cells as the released guide's own fill.sh prints them over the translation 9918513d61622916… (all of the seat's roots in one cut). By AI agents, Wed Nov 11 2026. No macro, syntax, notation, axiom, sorry.
-/
import Derived.Test.YtikjgbfbbkmmcaaChecked
import GoSem.Claim
import GoSem.ClaimJoined
import GoSem.ClaimMapViews
import Derived.JoinedTies
import Derived.KernelRfl
namespace Go.Proofs.Ytikjgbfbbkmmcaa
/- THE CELL 'sum', in the pinned program and in every row, IS THE sha256 OF THE DUMP (.gsa) THAT YtikjgbfbbkmmcaaProg.lean LOADS. Nothing in Lean hashes anything: it is a label: what it is worth is what the hold of that sum in a sandbox is worth. -/
noncomputable def Try.pinned : Pinned := { name := "ytikjgbfbbkmmcaa", sum := "9918513d61622916ef304eb7252ea836b624549ebc0262c8ba6fbb64afde612c", checked := Try.checked }
namespace Rows
def none {H : Type} : Left H := { results := [], args := [] }

/-- 'cannerylaw07.QueueMerges': WHATEVER THE INPUT: true; the input reads as it did. -/
def queueMergesSpec : ChangeSpec := { name := "queueMerges", fn := fun _ => fun
  | [d1, d2] => { results := [.lit (.bool true)], args := [d1, d2] }
  | _ => none }
def queueMergesRow : OpenClaim := { program := "ytikjgbfbbkmmcaa", sum := "9918513d61622916ef304eb7252ea836b624549ebc0262c8ba6fbb64afde612c", func := "cannery/cannerylaw07.QueueMerges", spec := "queueMerges", unfollowed := true, recurses := true, apart := false }
def QueueMergesSaid : Prop := queueMergesRow.holds Try.pinned (OpenSpec.ofChange queueMergesSpec)

/-- ITS FALSE NEIGHBOUR: 'it returns false'. Refute it at one input. -/
def queueMergesWrong : ChangeSpec := { name := "queueMerges", fn := fun _ => fun
  | [d1, d2] => { results := [.lit (.bool false)], args := [d1, d2] }
  | _ => none }
def QueueMergesWrongFalsely : Prop := queueMergesRow.holds Try.pinned (OpenSpec.ofChange queueMergesWrong)

/-- 'cannerylaw07.QueuePlans': WHATEVER THE INPUT: true; the input reads as it did. -/
def queuePlansSpec : ChangeSpec := { name := "queuePlans", fn := fun _ => fun
  | [d1, d2, d3, d4, d5, d6] => { results := [.lit (.bool true)], args := [d1, d2, d3, d4, d5, d6] }
  | _ => none }
def queuePlansRow : OpenClaim := { program := "ytikjgbfbbkmmcaa", sum := "9918513d61622916ef304eb7252ea836b624549ebc0262c8ba6fbb64afde612c", func := "cannery/cannerylaw07.QueuePlans", spec := "queuePlans", unfollowed := true, recurses := true, apart := false }
def QueuePlansSaid : Prop := queuePlansRow.holds Try.pinned (OpenSpec.ofChange queuePlansSpec)

/-- ITS FALSE NEIGHBOUR: 'it returns false'. Refute it at one input. -/
def queuePlansWrong : ChangeSpec := { name := "queuePlans", fn := fun _ => fun
  | [d1, d2, d3, d4, d5, d6] => { results := [.lit (.bool false)], args := [d1, d2, d3, d4, d5, d6] }
  | _ => none }
def QueuePlansWrongFalsely : Prop := queuePlansRow.holds Try.pinned (OpenSpec.ofChange queuePlansWrong)

/-- 'cannerylaw07.QueueBest': WHATEVER THE INPUT: true; the input reads as it did. -/
def queueBestSpec : ChangeSpec := { name := "queueBest", fn := fun _ => fun
  | [d1, d2, d3, d4, d5] => { results := [.lit (.bool true)], args := [d1, d2, d3, d4, d5] }
  | _ => none }
def queueBestRow : OpenClaim := { program := "ytikjgbfbbkmmcaa", sum := "9918513d61622916ef304eb7252ea836b624549ebc0262c8ba6fbb64afde612c", func := "cannery/cannerylaw07.QueueBest", spec := "queueBest", unfollowed := true, recurses := true, apart := false }
def QueueBestSaid : Prop := queueBestRow.holds Try.pinned (OpenSpec.ofChange queueBestSpec)

/-- ITS FALSE NEIGHBOUR: 'it returns false'. Refute it at one input. -/
def queueBestWrong : ChangeSpec := { name := "queueBest", fn := fun _ => fun
  | [d1, d2, d3, d4, d5] => { results := [.lit (.bool false)], args := [d1, d2, d3, d4, d5] }
  | _ => none }
def QueueBestWrongFalsely : Prop := queueBestRow.holds Try.pinned (OpenSpec.ofChange queueBestWrong)

/-- 'cannerylaw07.QueueLeast': WHATEVER THE INPUT: true; the input reads as it did. -/
def queueLeastSpec : ChangeSpec := { name := "queueLeast", fn := fun _ => fun
  | [d1, d2, d3, d4, d5] => { results := [.lit (.bool true)], args := [d1, d2, d3, d4, d5] }
  | _ => none }
def queueLeastRow : OpenClaim := { program := "ytikjgbfbbkmmcaa", sum := "9918513d61622916ef304eb7252ea836b624549ebc0262c8ba6fbb64afde612c", func := "cannery/cannerylaw07.QueueLeast", spec := "queueLeast", unfollowed := true, recurses := true, apart := false }
def QueueLeastSaid : Prop := queueLeastRow.holds Try.pinned (OpenSpec.ofChange queueLeastSpec)

/-- ITS FALSE NEIGHBOUR: 'it returns false'. Refute it at one input. -/
def queueLeastWrong : ChangeSpec := { name := "queueLeast", fn := fun _ => fun
  | [d1, d2, d3, d4, d5] => { results := [.lit (.bool false)], args := [d1, d2, d3, d4, d5] }
  | _ => none }
def QueueLeastWrongFalsely : Prop := queueLeastRow.holds Try.pinned (OpenSpec.ofChange queueLeastWrong)

/-- 'cannerylaw07.QueueCrosses': WHATEVER THE INPUT: true; the input reads as it did. -/
def queueCrossesSpec : ChangeSpec := { name := "queueCrosses", fn := fun _ => fun
  | [d] => { results := [.lit (.bool true)], args := [d] }
  | _ => none }
def queueCrossesRow : OpenClaim := { program := "ytikjgbfbbkmmcaa", sum := "9918513d61622916ef304eb7252ea836b624549ebc0262c8ba6fbb64afde612c", func := "cannery/cannerylaw07.QueueCrosses", spec := "queueCrosses", unfollowed := true, recurses := true, apart := false }
def QueueCrossesSaid : Prop := queueCrossesRow.holds Try.pinned (OpenSpec.ofChange queueCrossesSpec)

/-- ITS FALSE NEIGHBOUR: 'it returns false'. Refute it at one input. -/
def queueCrossesWrong : ChangeSpec := { name := "queueCrosses", fn := fun _ => fun
  | [d] => { results := [.lit (.bool false)], args := [d] }
  | _ => none }
def QueueCrossesWrongFalsely : Prop := queueCrossesRow.holds Try.pinned (OpenSpec.ofChange queueCrossesWrong)

/- THE SECOND FORM. 'bulk': how many values and letters a reading holds, each counted each time it is reached (what is shared counts as often as it is met; a slice's spare places count too). A statement '..UptoSaid' is the law's where the arguments, and the package variables that the reading takes, are together of bulk at most 1048576: NARROWER than '..Said'. Prove '..Said' where nothing that the law and all that it calls make is longer than what came in: it says more and counts as full. Else prove '..UptoSaid'. A law counts once. -/
mutual
def uptoBulk {H : Type} : DataW H → Nat
  | .lit (.string bytes) => bytes.length + 1
  | .lit _ => 1
  | .nil => 1
  | .ptr d => uptoBulk d + 1
  | .slice elems spare => uptoBulkAll elems + uptoBulkAll spare + 1
  | .agg parts => uptoBulkAll parts + 1
  | .iface _ d => uptoBulk d + 1
  | .map entries => uptoBulkEntries entries + 1
  | .held _ => 1
def uptoBulkAll {H : Type} : List (DataW H) → Nat
  | [] => 0
  | d :: r => uptoBulk d + uptoBulkAll r
def uptoBulkEntries {H : Type} : List (Lit × DataW H) → Nat
  | [] => 0
  | x :: r => uptoBulkEntry x + uptoBulkEntries r
def uptoBulkEntry {H : Type} : Lit × DataW H → Nat
  | (.string bytes, d) => bytes.length + uptoBulk d + 1
  | (_, d) => uptoBulk d + 1
 end
def uptoSmall : (H : Type) → List (DataW H) → Bool := fun _ ds => decide (uptoBulkAll ds ≤ 1048576)
def OpenSpec.upto (s : _root_.Go.ChangeSpec) : _root_.Go.OpenSpec := { _root_.Go.OpenSpec.ofChange s with cond := some uptoSmall }

/-- 'cannerylaw07.QueueMerges', WHERE WHAT IT READS IS OF BULK AT MOST 1048576: true; the input reads as it did. -/
def queueMergesUptoRow : OpenClaim := { program := "ytikjgbfbbkmmcaa", sum := "9918513d61622916ef304eb7252ea836b624549ebc0262c8ba6fbb64afde612c", func := "cannery/cannerylaw07.QueueMerges", spec := "queueMerges", unfollowed := true, recurses := true, apart := false, narrowed := true }
def QueueMergesUptoSaid : Prop := queueMergesUptoRow.holds Try.pinned (OpenSpec.upto queueMergesSpec)

/-- 'cannerylaw07.QueuePlans', WHERE WHAT IT READS IS OF BULK AT MOST 1048576: true; the input reads as it did. -/
def queuePlansUptoRow : OpenClaim := { program := "ytikjgbfbbkmmcaa", sum := "9918513d61622916ef304eb7252ea836b624549ebc0262c8ba6fbb64afde612c", func := "cannery/cannerylaw07.QueuePlans", spec := "queuePlans", unfollowed := true, recurses := true, apart := false, narrowed := true }
def QueuePlansUptoSaid : Prop := queuePlansUptoRow.holds Try.pinned (OpenSpec.upto queuePlansSpec)

/-- 'cannerylaw07.QueueBest', WHERE WHAT IT READS IS OF BULK AT MOST 1048576: true; the input reads as it did. -/
def queueBestUptoRow : OpenClaim := { program := "ytikjgbfbbkmmcaa", sum := "9918513d61622916ef304eb7252ea836b624549ebc0262c8ba6fbb64afde612c", func := "cannery/cannerylaw07.QueueBest", spec := "queueBest", unfollowed := true, recurses := true, apart := false, narrowed := true }
def QueueBestUptoSaid : Prop := queueBestUptoRow.holds Try.pinned (OpenSpec.upto queueBestSpec)

/-- 'cannerylaw07.QueueLeast', WHERE WHAT IT READS IS OF BULK AT MOST 1048576: true; the input reads as it did. -/
def queueLeastUptoRow : OpenClaim := { program := "ytikjgbfbbkmmcaa", sum := "9918513d61622916ef304eb7252ea836b624549ebc0262c8ba6fbb64afde612c", func := "cannery/cannerylaw07.QueueLeast", spec := "queueLeast", unfollowed := true, recurses := true, apart := false, narrowed := true }
def QueueLeastUptoSaid : Prop := queueLeastUptoRow.holds Try.pinned (OpenSpec.upto queueLeastSpec)

/-- 'cannerylaw07.QueueCrosses', WHERE WHAT IT READS IS OF BULK AT MOST 1048576: true; the input reads as it did. -/
def queueCrossesUptoRow : OpenClaim := { program := "ytikjgbfbbkmmcaa", sum := "9918513d61622916ef304eb7252ea836b624549ebc0262c8ba6fbb64afde612c", func := "cannery/cannerylaw07.QueueCrosses", spec := "queueCrosses", unfollowed := true, recurses := true, apart := false, narrowed := true }
def QueueCrossesUptoSaid : Prop := queueCrossesUptoRow.holds Try.pinned (OpenSpec.upto queueCrossesSpec)

end Rows
end Go.Proofs.Ytikjgbfbbkmmcaa
