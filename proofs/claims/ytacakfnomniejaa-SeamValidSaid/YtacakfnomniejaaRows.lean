/-
  No cell of these rows narrows 'for every input' (looked for: loops, veiled, ifaces, maps, wideKeys, modest, calm, conditions, laid).
  DERIVED. THE GIVEN ROWS OF THIS SEAT. 6 by the template 'for every input the law returns true; each argument reads behind the call as it read before'; 0 by the template 'total and deterministic' (their statements: YtacakfnomniejaaTotals.lean).
  GIVEN WITH THE SEED: the statements are not yours to turn. If you find one false, say at which input.
  Laid BY PROGRAM, IN A SANDBOX (cutbox-rows.mjs): the forced cells as the released guide's own fill.sh prints them over the translation 51a3a39cdfe12d70… (all of the seat's roots in one cut). By AI agents, Wed Nov 11 2026. No macro, syntax, notation, axiom, sorry.
-/
import Derived.Test.YtacakfnomniejaaChecked
import GoSem.Claim
import GoSem.ClaimJoined
import GoSem.ClaimMapViews
import Derived.JoinedTies
import Derived.KernelRfl
namespace Go.Proofs.Ytacakfnomniejaa
/- THE CELL 'sum', in the pinned program and in every row, IS THE sha256 OF THE DUMP (.gsa) THAT YtacakfnomniejaaProg.lean LOADS. Nothing in Lean hashes anything: it is a label: what it is worth is what the hold of that sum in a sandbox is worth. -/
noncomputable def Try.pinned : Pinned := { name := "ytacakfnomniejaa", sum := "51a3a39cdfe12d7055b5e775fcd259d0ed3e75e7e9062755ec16f9093cfa01d7", checked := Try.checked }
namespace Rows
def none {H : Type} : Left H := { results := [], args := [] }

/-- 'cannerylaw05.SeamValid': WHATEVER THE INPUT: true; the input reads as it did. -/
def seamValidSpec : ChangeSpec := { name := "seamValid", fn := fun _ => fun
  | [d1, d2] => { results := [.lit (.bool true)], args := [d1, d2] }
  | _ => none }
def seamValidRow : OpenClaim := { program := "ytacakfnomniejaa", sum := "51a3a39cdfe12d7055b5e775fcd259d0ed3e75e7e9062755ec16f9093cfa01d7", func := "cannery/cannerylaw05.SeamValid", spec := "seamValid", apart := false }
def SeamValidSaid : Prop := seamValidRow.holds Try.pinned (OpenSpec.ofChange seamValidSpec)

/-- ITS FALSE NEIGHBOUR: 'it returns false'. Refute it at one input. -/
def seamValidWrong : ChangeSpec := { name := "seamValid", fn := fun _ => fun
  | [d1, d2] => { results := [.lit (.bool false)], args := [d1, d2] }
  | _ => none }
def SeamValidWrongFalsely : Prop := seamValidRow.holds Try.pinned (OpenSpec.ofChange seamValidWrong)

/-- 'cannerylaw05.SeamHolds': WHATEVER THE INPUT: true; the input reads as it did. -/
def seamHoldsSpec : ChangeSpec := { name := "seamHolds", fn := fun _ => fun
  | [d1, d2, d3] => { results := [.lit (.bool true)], args := [d1, d2, d3] }
  | _ => none }
def seamHoldsRow : OpenClaim := { program := "ytacakfnomniejaa", sum := "51a3a39cdfe12d7055b5e775fcd259d0ed3e75e7e9062755ec16f9093cfa01d7", func := "cannery/cannerylaw05.SeamHolds", spec := "seamHolds", unfollowed := true, recurses := true, apart := false }
def SeamHoldsSaid : Prop := seamHoldsRow.holds Try.pinned (OpenSpec.ofChange seamHoldsSpec)

/-- ITS FALSE NEIGHBOUR: 'it returns false'. Refute it at one input. -/
def seamHoldsWrong : ChangeSpec := { name := "seamHolds", fn := fun _ => fun
  | [d1, d2, d3] => { results := [.lit (.bool false)], args := [d1, d2, d3] }
  | _ => none }
def SeamHoldsWrongFalsely : Prop := seamHoldsRow.holds Try.pinned (OpenSpec.ofChange seamHoldsWrong)

/-- 'cannerylaw05.SeamSafe': WHATEVER THE INPUT: true; the input reads as it did. -/
def seamSafeSpec : ChangeSpec := { name := "seamSafe", fn := fun _ => fun
  | [d1, d2, d3] => { results := [.lit (.bool true)], args := [d1, d2, d3] }
  | _ => none }
def seamSafeRow : OpenClaim := { program := "ytacakfnomniejaa", sum := "51a3a39cdfe12d7055b5e775fcd259d0ed3e75e7e9062755ec16f9093cfa01d7", func := "cannery/cannerylaw05.SeamSafe", spec := "seamSafe", unfollowed := true, recurses := true, apart := false }
def SeamSafeSaid : Prop := seamSafeRow.holds Try.pinned (OpenSpec.ofChange seamSafeSpec)

/-- ITS FALSE NEIGHBOUR: 'it returns false'. Refute it at one input. -/
def seamSafeWrong : ChangeSpec := { name := "seamSafe", fn := fun _ => fun
  | [d1, d2, d3] => { results := [.lit (.bool false)], args := [d1, d2, d3] }
  | _ => none }
def SeamSafeWrongFalsely : Prop := seamSafeRow.holds Try.pinned (OpenSpec.ofChange seamSafeWrong)

/-- 'cannerylaw05.SeamBad': WHATEVER THE INPUT: true; the input reads as it did. -/
def seamBadSpec : ChangeSpec := { name := "seamBad", fn := fun _ => fun
  | [d1, d2, d3] => { results := [.lit (.bool true)], args := [d1, d2, d3] }
  | _ => none }
def seamBadRow : OpenClaim := { program := "ytacakfnomniejaa", sum := "51a3a39cdfe12d7055b5e775fcd259d0ed3e75e7e9062755ec16f9093cfa01d7", func := "cannery/cannerylaw05.SeamBad", spec := "seamBad", unfollowed := true, recurses := true, apart := false }
def SeamBadSaid : Prop := seamBadRow.holds Try.pinned (OpenSpec.ofChange seamBadSpec)

/-- ITS FALSE NEIGHBOUR: 'it returns false'. Refute it at one input. -/
def seamBadWrong : ChangeSpec := { name := "seamBad", fn := fun _ => fun
  | [d1, d2, d3] => { results := [.lit (.bool false)], args := [d1, d2, d3] }
  | _ => none }
def SeamBadWrongFalsely : Prop := seamBadRow.holds Try.pinned (OpenSpec.ofChange seamBadWrong)

/-- 'cannerylaw05.SeamOverdue': WHATEVER THE INPUT: true; the input reads as it did. -/
def seamOverdueSpec : ChangeSpec := { name := "seamOverdue", fn := fun _ => fun
  | [d1, d2, d3] => { results := [.lit (.bool true)], args := [d1, d2, d3] }
  | _ => none }
def seamOverdueRow : OpenClaim := { program := "ytacakfnomniejaa", sum := "51a3a39cdfe12d7055b5e775fcd259d0ed3e75e7e9062755ec16f9093cfa01d7", func := "cannery/cannerylaw05.SeamOverdue", spec := "seamOverdue", unfollowed := true, recurses := true, apart := false }
def SeamOverdueSaid : Prop := seamOverdueRow.holds Try.pinned (OpenSpec.ofChange seamOverdueSpec)

/-- ITS FALSE NEIGHBOUR: 'it returns false'. Refute it at one input. -/
def seamOverdueWrong : ChangeSpec := { name := "seamOverdue", fn := fun _ => fun
  | [d1, d2, d3] => { results := [.lit (.bool false)], args := [d1, d2, d3] }
  | _ => none }
def SeamOverdueWrongFalsely : Prop := seamOverdueRow.holds Try.pinned (OpenSpec.ofChange seamOverdueWrong)

/-- 'cannerylaw05.SeamUnions': WHATEVER THE INPUT: true; the input reads as it did. -/
def seamUnionsSpec : ChangeSpec := { name := "seamUnions", fn := fun _ => fun
  | [d1, d2] => { results := [.lit (.bool true)], args := [d1, d2] }
  | _ => none }
def seamUnionsRow : OpenClaim := { program := "ytacakfnomniejaa", sum := "51a3a39cdfe12d7055b5e775fcd259d0ed3e75e7e9062755ec16f9093cfa01d7", func := "cannery/cannerylaw05.SeamUnions", spec := "seamUnions", unfollowed := true, recurses := true, apart := false }
def SeamUnionsSaid : Prop := seamUnionsRow.holds Try.pinned (OpenSpec.ofChange seamUnionsSpec)

/-- ITS FALSE NEIGHBOUR: 'it returns false'. Refute it at one input. -/
def seamUnionsWrong : ChangeSpec := { name := "seamUnions", fn := fun _ => fun
  | [d1, d2] => { results := [.lit (.bool false)], args := [d1, d2] }
  | _ => none }
def SeamUnionsWrongFalsely : Prop := seamUnionsRow.holds Try.pinned (OpenSpec.ofChange seamUnionsWrong)

/- THE SECOND FORM. 'bulk': how many values and letters a reading holds, each counted each time it is reached (what is shared counts as often as it is met; a slice's spare places count too). A statement '..UptoSaid' is the law's where the arguments, and the package variables that the reading takes, are together of bulk at most 1048576: NARROWER than '..Said'. Prove '..Said' where nothing that the law and all that it calls make is longer than what came in: it says more and counts as full. Else prove '..UptoSaid'. A law counts once. -/
mutual
def uptoBulk {H : Type} : DataW H → Nat
  | .lit (.string bytes) => bytes.length + 1
  | .lit _ => 1
  | .nil => 1
  | .ptr d => uptoBulk d + 1
  | .slice elems spare => uptoBulkAll elems + uptoBulkAll spare + 1
  | .agg parts => uptoBulkAll parts + 1
  | .iface _ d => uptoBulk d + 1
  | .map entries => uptoBulkEntries entries + 1
  | .held _ => 1
def uptoBulkAll {H : Type} : List (DataW H) → Nat
  | [] => 0
  | d :: r => uptoBulk d + uptoBulkAll r
def uptoBulkEntries {H : Type} : List (Lit × DataW H) → Nat
  | [] => 0
  | x :: r => uptoBulkEntry x + uptoBulkEntries r
def uptoBulkEntry {H : Type} : Lit × DataW H → Nat
  | (.string bytes, d) => bytes.length + uptoBulk d + 1
  | (_, d) => uptoBulk d + 1
 end
def uptoSmall : (H : Type) → List (DataW H) → Bool := fun _ ds => decide (uptoBulkAll ds ≤ 1048576)
def OpenSpec.upto (s : _root_.Go.ChangeSpec) : _root_.Go.OpenSpec := { _root_.Go.OpenSpec.ofChange s with cond := some uptoSmall }

/-- 'cannerylaw05.SeamValid', WHERE WHAT IT READS IS OF BULK AT MOST 1048576: true; the input reads as it did. -/
def seamValidUptoRow : OpenClaim := { program := "ytacakfnomniejaa", sum := "51a3a39cdfe12d7055b5e775fcd259d0ed3e75e7e9062755ec16f9093cfa01d7", func := "cannery/cannerylaw05.SeamValid", spec := "seamValid", apart := false, narrowed := true }
def SeamValidUptoSaid : Prop := seamValidUptoRow.holds Try.pinned (OpenSpec.upto seamValidSpec)

/-- 'cannerylaw05.SeamHolds', WHERE WHAT IT READS IS OF BULK AT MOST 1048576: true; the input reads as it did. -/
def seamHoldsUptoRow : OpenClaim := { program := "ytacakfnomniejaa", sum := "51a3a39cdfe12d7055b5e775fcd259d0ed3e75e7e9062755ec16f9093cfa01d7", func := "cannery/cannerylaw05.SeamHolds", spec := "seamHolds", unfollowed := true, recurses := true, apart := false, narrowed := true }
def SeamHoldsUptoSaid : Prop := seamHoldsUptoRow.holds Try.pinned (OpenSpec.upto seamHoldsSpec)

/-- 'cannerylaw05.SeamSafe', WHERE WHAT IT READS IS OF BULK AT MOST 1048576: true; the input reads as it did. -/
def seamSafeUptoRow : OpenClaim := { program := "ytacakfnomniejaa", sum := "51a3a39cdfe12d7055b5e775fcd259d0ed3e75e7e9062755ec16f9093cfa01d7", func := "cannery/cannerylaw05.SeamSafe", spec := "seamSafe", unfollowed := true, recurses := true, apart := false, narrowed := true }
def SeamSafeUptoSaid : Prop := seamSafeUptoRow.holds Try.pinned (OpenSpec.upto seamSafeSpec)

/-- 'cannerylaw05.SeamBad', WHERE WHAT IT READS IS OF BULK AT MOST 1048576: true; the input reads as it did. -/
def seamBadUptoRow : OpenClaim := { program := "ytacakfnomniejaa", sum := "51a3a39cdfe12d7055b5e775fcd259d0ed3e75e7e9062755ec16f9093cfa01d7", func := "cannery/cannerylaw05.SeamBad", spec := "seamBad", unfollowed := true, recurses := true, apart := false, narrowed := true }
def SeamBadUptoSaid : Prop := seamBadUptoRow.holds Try.pinned (OpenSpec.upto seamBadSpec)

/-- 'cannerylaw05.SeamOverdue', WHERE WHAT IT READS IS OF BULK AT MOST 1048576: true; the input reads as it did. -/
def seamOverdueUptoRow : OpenClaim := { program := "ytacakfnomniejaa", sum := "51a3a39cdfe12d7055b5e775fcd259d0ed3e75e7e9062755ec16f9093cfa01d7", func := "cannery/cannerylaw05.SeamOverdue", spec := "seamOverdue", unfollowed := true, recurses := true, apart := false, narrowed := true }
def SeamOverdueUptoSaid : Prop := seamOverdueUptoRow.holds Try.pinned (OpenSpec.upto seamOverdueSpec)

/-- 'cannerylaw05.SeamUnions', WHERE WHAT IT READS IS OF BULK AT MOST 1048576: true; the input reads as it did. -/
def seamUnionsUptoRow : OpenClaim := { program := "ytacakfnomniejaa", sum := "51a3a39cdfe12d7055b5e775fcd259d0ed3e75e7e9062755ec16f9093cfa01d7", func := "cannery/cannerylaw05.SeamUnions", spec := "seamUnions", unfollowed := true, recurses := true, apart := false, narrowed := true }
def SeamUnionsUptoSaid : Prop := seamUnionsUptoRow.holds Try.pinned (OpenSpec.upto seamUnionsSpec)

end Rows
end Go.Proofs.Ytacakfnomniejaa
