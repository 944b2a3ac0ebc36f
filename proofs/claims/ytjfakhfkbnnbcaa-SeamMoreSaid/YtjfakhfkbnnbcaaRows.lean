/-
  No cell of these rows narrows 'for every input' (looked for: loops, veiled, ifaces, maps, wideKeys, modest, calm, conditions, laid).
  DERIVED. THE GIVEN ROWS OF THIS SEAT. 6 by the template 'for every input the law returns true; each argument reads behind the call as it read before'; 0 by the template 'total and deterministic' (their statements: YtjfakhfkbnnbcaaTotals.lean).
  GIVEN WITH THE SEED: the statements are not yours to turn. If you find one false, say at which input.
  Laid BY PROGRAM, IN A SANDBOX (cutbox-rows.mjs): the forced cells as the released guide's own fill.sh prints them over the translation 9f29c12db2995e99… (all of the seat's roots in one cut). By AI agents, Wed Nov 11 2026. No macro, syntax, notation, axiom, sorry.
-/
import Derived.Test.YtjfakhfkbnnbcaaChecked
import GoSem.Claim
import GoSem.ClaimJoined
import GoSem.ClaimMapViews
import Derived.JoinedTies
import Derived.KernelRfl
namespace Go.Proofs.Ytjfakhfkbnnbcaa
/- THE CELL 'sum', in the pinned program and in every row, IS THE sha256 OF THE DUMP (.gsa) THAT YtjfakhfkbnnbcaaProg.lean LOADS. Nothing in Lean hashes anything: it is a label: what it is worth is what the hold of that sum in a sandbox is worth. -/
noncomputable def Try.pinned : Pinned := { name := "ytjfakhfkbnnbcaa", sum := "9f29c12db2995e99a3329bfe18ba4a7f4c6b295992bc8aed950afc60b674a504", checked := Try.checked }
namespace Rows
def none {H : Type} : Left H := { results := [], args := [] }

/-- 'cannerylaw05.SeamHolds': WHATEVER THE INPUT: true; the input reads as it did. -/
def seamHoldsSpec : ChangeSpec := { name := "seamHolds", fn := fun _ => fun
  | [d1, d2, d3] => { results := [.lit (.bool true)], args := [d1, d2, d3] }
  | _ => none }
def seamHoldsRow : OpenClaim := { program := "ytjfakhfkbnnbcaa", sum := "9f29c12db2995e99a3329bfe18ba4a7f4c6b295992bc8aed950afc60b674a504", func := "cannery/cannerylaw05.SeamHolds", spec := "seamHolds", unfollowed := true, recurses := true, apart := false }
def SeamHoldsSaid : Prop := seamHoldsRow.holds Try.pinned (OpenSpec.ofChange seamHoldsSpec)

/-- ITS FALSE NEIGHBOUR: 'it returns false'. Refute it at one input. -/
def seamHoldsWrong : ChangeSpec := { name := "seamHolds", fn := fun _ => fun
  | [d1, d2, d3] => { results := [.lit (.bool false)], args := [d1, d2, d3] }
  | _ => none }
def SeamHoldsWrongFalsely : Prop := seamHoldsRow.holds Try.pinned (OpenSpec.ofChange seamHoldsWrong)

/-- 'cannerylaw05.SeamSafe': WHATEVER THE INPUT: true; the input reads as it did. -/
def seamSafeSpec : ChangeSpec := { name := "seamSafe", fn := fun _ => fun
  | [d1, d2, d3] => { results := [.lit (.bool true)], args := [d1, d2, d3] }
  | _ => none }
def seamSafeRow : OpenClaim := { program := "ytjfakhfkbnnbcaa", sum := "9f29c12db2995e99a3329bfe18ba4a7f4c6b295992bc8aed950afc60b674a504", func := "cannery/cannerylaw05.SeamSafe", spec := "seamSafe", unfollowed := true, recurses := true, apart := false }
def SeamSafeSaid : Prop := seamSafeRow.holds Try.pinned (OpenSpec.ofChange seamSafeSpec)

/-- ITS FALSE NEIGHBOUR: 'it returns false'. Refute it at one input. -/
def seamSafeWrong : ChangeSpec := { name := "seamSafe", fn := fun _ => fun
  | [d1, d2, d3] => { results := [.lit (.bool false)], args := [d1, d2, d3] }
  | _ => none }
def SeamSafeWrongFalsely : Prop := seamSafeRow.holds Try.pinned (OpenSpec.ofChange seamSafeWrong)

/-- 'cannerylaw05.SeamBad': WHATEVER THE INPUT: true; the input reads as it did. -/
def seamBadSpec : ChangeSpec := { name := "seamBad", fn := fun _ => fun
  | [d1, d2, d3] => { results := [.lit (.bool true)], args := [d1, d2, d3] }
  | _ => none }
def seamBadRow : OpenClaim := { program := "ytjfakhfkbnnbcaa", sum := "9f29c12db2995e99a3329bfe18ba4a7f4c6b295992bc8aed950afc60b674a504", func := "cannery/cannerylaw05.SeamBad", spec := "seamBad", unfollowed := true, recurses := true, apart := false }
def SeamBadSaid : Prop := seamBadRow.holds Try.pinned (OpenSpec.ofChange seamBadSpec)

/-- ITS FALSE NEIGHBOUR: 'it returns false'. Refute it at one input. -/
def seamBadWrong : ChangeSpec := { name := "seamBad", fn := fun _ => fun
  | [d1, d2, d3] => { results := [.lit (.bool false)], args := [d1, d2, d3] }
  | _ => none }
def SeamBadWrongFalsely : Prop := seamBadRow.holds Try.pinned (OpenSpec.ofChange seamBadWrong)

/-- 'cannerylaw05.SeamMore': WHATEVER THE INPUT: true; the input reads as it did. -/
def seamMoreSpec : ChangeSpec := { name := "seamMore", fn := fun _ => fun
  | [d1, d2, d3] => { results := [.lit (.bool true)], args := [d1, d2, d3] }
  | _ => none }
def seamMoreRow : OpenClaim := { program := "ytjfakhfkbnnbcaa", sum := "9f29c12db2995e99a3329bfe18ba4a7f4c6b295992bc8aed950afc60b674a504", func := "cannery/cannerylaw05.SeamMore", spec := "seamMore", unfollowed := true, recurses := true, apart := false }
def SeamMoreSaid : Prop := seamMoreRow.holds Try.pinned (OpenSpec.ofChange seamMoreSpec)

/-- ITS FALSE NEIGHBOUR: 'it returns false'. Refute it at one input. -/
def seamMoreWrong : ChangeSpec := { name := "seamMore", fn := fun _ => fun
  | [d1, d2, d3] => { results := [.lit (.bool false)], args := [d1, d2, d3] }
  | _ => none }
def SeamMoreWrongFalsely : Prop := seamMoreRow.holds Try.pinned (OpenSpec.ofChange seamMoreWrong)

/-- 'cannerylaw05.SeamOverdue': WHATEVER THE INPUT: true; the input reads as it did. -/
def seamOverdueSpec : ChangeSpec := { name := "seamOverdue", fn := fun _ => fun
  | [d1, d2, d3] => { results := [.lit (.bool true)], args := [d1, d2, d3] }
  | _ => none }
def seamOverdueRow : OpenClaim := { program := "ytjfakhfkbnnbcaa", sum := "9f29c12db2995e99a3329bfe18ba4a7f4c6b295992bc8aed950afc60b674a504", func := "cannery/cannerylaw05.SeamOverdue", spec := "seamOverdue", unfollowed := true, recurses := true, apart := false }
def SeamOverdueSaid : Prop := seamOverdueRow.holds Try.pinned (OpenSpec.ofChange seamOverdueSpec)

/-- ITS FALSE NEIGHBOUR: 'it returns false'. Refute it at one input. -/
def seamOverdueWrong : ChangeSpec := { name := "seamOverdue", fn := fun _ => fun
  | [d1, d2, d3] => { results := [.lit (.bool false)], args := [d1, d2, d3] }
  | _ => none }
def SeamOverdueWrongFalsely : Prop := seamOverdueRow.holds Try.pinned (OpenSpec.ofChange seamOverdueWrong)

/-- 'cannerylaw05.SeamAdds': WHATEVER THE INPUT: true; the input reads as it did. -/
def seamAddsSpec : ChangeSpec := { name := "seamAdds", fn := fun _ => fun
  | [d1, d2, d3] => { results := [.lit (.bool true)], args := [d1, d2, d3] }
  | _ => none }
def seamAddsRow : OpenClaim := { program := "ytjfakhfkbnnbcaa", sum := "9f29c12db2995e99a3329bfe18ba4a7f4c6b295992bc8aed950afc60b674a504", func := "cannery/cannerylaw05.SeamAdds", spec := "seamAdds", inPlace := ["slices.overlaps[cannery/seam.check]"], unfollowed := true, recurses := true, apart := false }
def SeamAddsSaid : Prop := seamAddsRow.holds Try.pinned (OpenSpec.ofChange seamAddsSpec)

/-- ITS FALSE NEIGHBOUR: 'it returns false'. Refute it at one input. -/
def seamAddsWrong : ChangeSpec := { name := "seamAdds", fn := fun _ => fun
  | [d1, d2, d3] => { results := [.lit (.bool false)], args := [d1, d2, d3] }
  | _ => none }
def SeamAddsWrongFalsely : Prop := seamAddsRow.holds Try.pinned (OpenSpec.ofChange seamAddsWrong)

/- THE SECOND FORM. 'bulk': how many values and letters a reading holds, each counted each time it is reached (what is shared counts as often as it is met; a slice's spare places count too). A statement '..UptoSaid' is the law's where the arguments, and the package variables that the reading takes, are together of bulk at most 1048576: NARROWER than '..Said'. Prove '..Said' where nothing that the law and all that it calls make is longer than what came in: it says more and counts as full. Else prove '..UptoSaid'. A law counts once. -/
mutual
def uptoBulk {H : Type} : DataW H → Nat
  | .lit (.string bytes) => bytes.length + 1
  | .lit _ => 1
  | .nil => 1
  | .ptr d => uptoBulk d + 1
  | .slice elems spare => uptoBulkAll elems + uptoBulkAll spare + 1
  | .agg parts => uptoBulkAll parts + 1
  | .iface _ d => uptoBulk d + 1
  | .map entries => uptoBulkEntries entries + 1
  | .held _ => 1
def uptoBulkAll {H : Type} : List (DataW H) → Nat
  | [] => 0
  | d :: r => uptoBulk d + uptoBulkAll r
def uptoBulkEntries {H : Type} : List (Lit × DataW H) → Nat
  | [] => 0
  | x :: r => uptoBulkEntry x + uptoBulkEntries r
def uptoBulkEntry {H : Type} : Lit × DataW H → Nat
  | (.string bytes, d) => bytes.length + uptoBulk d + 1
  | (_, d) => uptoBulk d + 1
 end
def uptoSmall : (H : Type) → List (DataW H) → Bool := fun _ ds => decide (uptoBulkAll ds ≤ 1048576)
def OpenSpec.upto (s : _root_.Go.ChangeSpec) : _root_.Go.OpenSpec := { _root_.Go.OpenSpec.ofChange s with cond := some uptoSmall }

/-- 'cannerylaw05.SeamHolds', WHERE WHAT IT READS IS OF BULK AT MOST 1048576: true; the input reads as it did. -/
def seamHoldsUptoRow : OpenClaim := { program := "ytjfakhfkbnnbcaa", sum := "9f29c12db2995e99a3329bfe18ba4a7f4c6b295992bc8aed950afc60b674a504", func := "cannery/cannerylaw05.SeamHolds", spec := "seamHolds", unfollowed := true, recurses := true, apart := false, narrowed := true }
def SeamHoldsUptoSaid : Prop := seamHoldsUptoRow.holds Try.pinned (OpenSpec.upto seamHoldsSpec)

/-- 'cannerylaw05.SeamSafe', WHERE WHAT IT READS IS OF BULK AT MOST 1048576: true; the input reads as it did. -/
def seamSafeUptoRow : OpenClaim := { program := "ytjfakhfkbnnbcaa", sum := "9f29c12db2995e99a3329bfe18ba4a7f4c6b295992bc8aed950afc60b674a504", func := "cannery/cannerylaw05.SeamSafe", spec := "seamSafe", unfollowed := true, recurses := true, apart := false, narrowed := true }
def SeamSafeUptoSaid : Prop := seamSafeUptoRow.holds Try.pinned (OpenSpec.upto seamSafeSpec)

/-- 'cannerylaw05.SeamBad', WHERE WHAT IT READS IS OF BULK AT MOST 1048576: true; the input reads as it did. -/
def seamBadUptoRow : OpenClaim := { program := "ytjfakhfkbnnbcaa", sum := "9f29c12db2995e99a3329bfe18ba4a7f4c6b295992bc8aed950afc60b674a504", func := "cannery/cannerylaw05.SeamBad", spec := "seamBad", unfollowed := true, recurses := true, apart := false, narrowed := true }
def SeamBadUptoSaid : Prop := seamBadUptoRow.holds Try.pinned (OpenSpec.upto seamBadSpec)

/-- 'cannerylaw05.SeamMore', WHERE WHAT IT READS IS OF BULK AT MOST 1048576: true; the input reads as it did. -/
def seamMoreUptoRow : OpenClaim := { program := "ytjfakhfkbnnbcaa", sum := "9f29c12db2995e99a3329bfe18ba4a7f4c6b295992bc8aed950afc60b674a504", func := "cannery/cannerylaw05.SeamMore", spec := "seamMore", unfollowed := true, recurses := true, apart := false, narrowed := true }
def SeamMoreUptoSaid : Prop := seamMoreUptoRow.holds Try.pinned (OpenSpec.upto seamMoreSpec)

/-- 'cannerylaw05.SeamOverdue', WHERE WHAT IT READS IS OF BULK AT MOST 1048576: true; the input reads as it did. -/
def seamOverdueUptoRow : OpenClaim := { program := "ytjfakhfkbnnbcaa", sum := "9f29c12db2995e99a3329bfe18ba4a7f4c6b295992bc8aed950afc60b674a504", func := "cannery/cannerylaw05.SeamOverdue", spec := "seamOverdue", unfollowed := true, recurses := true, apart := false, narrowed := true }
def SeamOverdueUptoSaid : Prop := seamOverdueUptoRow.holds Try.pinned (OpenSpec.upto seamOverdueSpec)

/-- 'cannerylaw05.SeamAdds', WHERE WHAT IT READS IS OF BULK AT MOST 1048576: true; the input reads as it did. -/
def seamAddsUptoRow : OpenClaim := { program := "ytjfakhfkbnnbcaa", sum := "9f29c12db2995e99a3329bfe18ba4a7f4c6b295992bc8aed950afc60b674a504", func := "cannery/cannerylaw05.SeamAdds", spec := "seamAdds", inPlace := ["slices.overlaps[cannery/seam.check]"], unfollowed := true, recurses := true, apart := false, narrowed := true }
def SeamAddsUptoSaid : Prop := seamAddsUptoRow.holds Try.pinned (OpenSpec.upto seamAddsSpec)

end Rows
end Go.Proofs.Ytjfakhfkbnnbcaa
