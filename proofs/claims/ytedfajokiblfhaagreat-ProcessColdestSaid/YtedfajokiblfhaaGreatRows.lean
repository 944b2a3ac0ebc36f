/-
  No cell of these rows narrows 'for every input' (looked for: loops, veiled, ifaces, maps, wideKeys, modest, calm, conditions, laid).
  DERIVED. THE GIVEN ROWS OF THIS SEAT. 6 by the template 'for every input the law returns true; each argument reads behind the call as it read before'; 0 by the template 'total and deterministic' (their statements: YtedfajokiblfhaaGreatTotals.lean).
  GIVEN WITH THE SEED: the statements are not yours to turn. If you find one false, say at which input.
  Laid BY PROGRAM, IN A SANDBOX (cutbox-rows.mjs): the forced cells as the released guide's own fill.sh prints them over the translation 9a4326735bd22fd9… (all of the seat's roots in one cut). By AI agents, Wed Nov 11 2026. No macro, syntax, notation, axiom, sorry.
-/
import Derived.Test.YtedfajokiblfhaaGreatChecked
import GoSem.Claim
import GoSem.ClaimJoined
import GoSem.ClaimMapViews
import Derived.JoinedTies
import Derived.KernelRfl
namespace Go.Proofs.YtedfajokiblfhaaGreat
/- THE CELL 'sum', in the pinned program and in every row, IS THE sha256 OF THE DUMP (.gsa) THAT YtedfajokiblfhaaGreatProg.lean LOADS. Nothing in Lean hashes anything: it is a label: what it is worth is what the hold of that sum in a sandbox is worth. -/
noncomputable def Tryz.pinned : Pinned := { name := "ytedfajokiblfhaagreat", sum := "9a4326735bd22fd90a6291c3be2ea8feb2294ad3d7879466238a89e4aa95560e", checked := Tryz.checked }
namespace Rows
def none {H : Type} : Left H := { results := [], args := [] }

/-- 'cannerylaw04.ProcessPlaces': WHATEVER THE INPUT: true; the input reads as it did. -/
def processPlacesSpec : ChangeSpec := { name := "processPlaces", fn := fun _ => fun
  | [d1, d2] => { results := [.lit (.bool true)], args := [d1, d2] }
  | _ => none }
def processPlacesRow : OpenClaim := { program := "ytedfajokiblfhaagreat", sum := "9a4326735bd22fd90a6291c3be2ea8feb2294ad3d7879466238a89e4aa95560e", func := "cannery/cannerylaw04.ProcessPlaces", spec := "processPlaces", inPlace := ["math/bits.Add64"], unfollowed := true, recurses := true, apart := false }
def ProcessPlacesSaid : Prop := processPlacesRow.holds Tryz.pinned (OpenSpec.ofChange processPlacesSpec)

/-- ITS FALSE NEIGHBOUR: 'it returns false'. Refute it at one input. -/
def processPlacesWrong : ChangeSpec := { name := "processPlaces", fn := fun _ => fun
  | [d1, d2] => { results := [.lit (.bool false)], args := [d1, d2] }
  | _ => none }
def ProcessPlacesWrongFalsely : Prop := processPlacesRow.holds Tryz.pinned (OpenSpec.ofChange processPlacesWrong)

/-- 'cannerylaw04.ProcessColdest': WHATEVER THE INPUT: true; the input reads as it did. -/
def processColdestSpec : ChangeSpec := { name := "processColdest", fn := fun _ => fun
  | [d1, d2] => { results := [.lit (.bool true)], args := [d1, d2] }
  | _ => none }
def processColdestRow : OpenClaim := { program := "ytedfajokiblfhaagreat", sum := "9a4326735bd22fd90a6291c3be2ea8feb2294ad3d7879466238a89e4aa95560e", func := "cannery/cannerylaw04.ProcessColdest", spec := "processColdest", inPlace := ["math/bits.Add64"], unfollowed := true, recurses := true, apart := false }
def ProcessColdestSaid : Prop := processColdestRow.holds Tryz.pinned (OpenSpec.ofChange processColdestSpec)

/-- ITS FALSE NEIGHBOUR: 'it returns false'. Refute it at one input. -/
def processColdestWrong : ChangeSpec := { name := "processColdest", fn := fun _ => fun
  | [d1, d2] => { results := [.lit (.bool false)], args := [d1, d2] }
  | _ => none }
def ProcessColdestWrongFalsely : Prop := processColdestRow.holds Tryz.pinned (OpenSpec.ofChange processColdestWrong)

/-- 'cannerylaw04.ProcessLeast': WHATEVER THE INPUT: true; the input reads as it did. -/
def processLeastSpec : ChangeSpec := { name := "processLeast", fn := fun _ => fun
  | [d1, d2] => { results := [.lit (.bool true)], args := [d1, d2] }
  | _ => none }
def processLeastRow : OpenClaim := { program := "ytedfajokiblfhaagreat", sum := "9a4326735bd22fd90a6291c3be2ea8feb2294ad3d7879466238a89e4aa95560e", func := "cannery/cannerylaw04.ProcessLeast", spec := "processLeast", inPlace := ["math/bits.Add64"], unfollowed := true, recurses := true, apart := false }
def ProcessLeastSaid : Prop := processLeastRow.holds Tryz.pinned (OpenSpec.ofChange processLeastSpec)

/-- ITS FALSE NEIGHBOUR: 'it returns false'. Refute it at one input. -/
def processLeastWrong : ChangeSpec := { name := "processLeast", fn := fun _ => fun
  | [d1, d2] => { results := [.lit (.bool false)], args := [d1, d2] }
  | _ => none }
def ProcessLeastWrongFalsely : Prop := processLeastRow.holds Tryz.pinned (OpenSpec.ofChange processLeastWrong)

/-- 'cannerylaw04.ProcessProved': WHATEVER THE INPUT: true; the input reads as it did. -/
def processProvedSpec : ChangeSpec := { name := "processProved", fn := fun _ => fun
  | [d1, d2, d3] => { results := [.lit (.bool true)], args := [d1, d2, d3] }
  | _ => none }
def processProvedRow : OpenClaim := { program := "ytedfajokiblfhaagreat", sum := "9a4326735bd22fd90a6291c3be2ea8feb2294ad3d7879466238a89e4aa95560e", func := "cannery/cannerylaw04.ProcessProved", spec := "processProved", inPlace := ["math/bits.Add64"], unfollowed := true, recurses := true, apart := false }
def ProcessProvedSaid : Prop := processProvedRow.holds Tryz.pinned (OpenSpec.ofChange processProvedSpec)

/-- ITS FALSE NEIGHBOUR: 'it returns false'. Refute it at one input. -/
def processProvedWrong : ChangeSpec := { name := "processProved", fn := fun _ => fun
  | [d1, d2, d3] => { results := [.lit (.bool false)], args := [d1, d2, d3] }
  | _ => none }
def ProcessProvedWrongFalsely : Prop := processProvedRow.holds Tryz.pinned (OpenSpec.ofChange processProvedWrong)

/-- 'cannerylaw04.ProcessMends': WHATEVER THE INPUT: true; the input reads as it did. -/
def processMendsSpec : ChangeSpec := { name := "processMends", fn := fun _ => fun
  | [d1, d2, d3] => { results := [.lit (.bool true)], args := [d1, d2, d3] }
  | _ => none }
def processMendsRow : OpenClaim := { program := "ytedfajokiblfhaagreat", sum := "9a4326735bd22fd90a6291c3be2ea8feb2294ad3d7879466238a89e4aa95560e", func := "cannery/cannerylaw04.ProcessMends", spec := "processMends", inPlace := ["math/bits.Add64"], unfollowed := true, recurses := true, apart := false }
def ProcessMendsSaid : Prop := processMendsRow.holds Tryz.pinned (OpenSpec.ofChange processMendsSpec)

/-- ITS FALSE NEIGHBOUR: 'it returns false'. Refute it at one input. -/
def processMendsWrong : ChangeSpec := { name := "processMends", fn := fun _ => fun
  | [d1, d2, d3] => { results := [.lit (.bool false)], args := [d1, d2, d3] }
  | _ => none }
def ProcessMendsWrongFalsely : Prop := processMendsRow.holds Tryz.pinned (OpenSpec.ofChange processMendsWrong)

/-- 'cannerylaw04.ProcessCredits': WHATEVER THE INPUT: true; the input reads as it did. -/
def processCreditsSpec : ChangeSpec := { name := "processCredits", fn := fun _ => fun
  | [d1, d2, d3] => { results := [.lit (.bool true)], args := [d1, d2, d3] }
  | _ => none }
def processCreditsRow : OpenClaim := { program := "ytedfajokiblfhaagreat", sum := "9a4326735bd22fd90a6291c3be2ea8feb2294ad3d7879466238a89e4aa95560e", func := "cannery/cannerylaw04.ProcessCredits", spec := "processCredits", inPlace := ["math/bits.Add64"], unfollowed := true, recurses := true, apart := false }
def ProcessCreditsSaid : Prop := processCreditsRow.holds Tryz.pinned (OpenSpec.ofChange processCreditsSpec)

/-- ITS FALSE NEIGHBOUR: 'it returns false'. Refute it at one input. -/
def processCreditsWrong : ChangeSpec := { name := "processCredits", fn := fun _ => fun
  | [d1, d2, d3] => { results := [.lit (.bool false)], args := [d1, d2, d3] }
  | _ => none }
def ProcessCreditsWrongFalsely : Prop := processCreditsRow.holds Tryz.pinned (OpenSpec.ofChange processCreditsWrong)

/- THE SECOND FORM. 'bulk': how many values and letters a reading holds, each counted each time it is reached (what is shared counts as often as it is met; a slice's spare places count too). A statement '..UptoSaid' is the law's where the arguments, and the package variables that the reading takes, are together of bulk at most 1048576: NARROWER than '..Said'. Prove '..Said' where nothing that the law and all that it calls make is longer than what came in: it says more and counts as full. Else prove '..UptoSaid'. A law counts once. -/
mutual
def uptoBulk {H : Type} : DataW H → Nat
  | .lit (.string bytes) => bytes.length + 1
  | .lit _ => 1
  | .nil => 1
  | .ptr d => uptoBulk d + 1
  | .slice elems spare => uptoBulkAll elems + uptoBulkAll spare + 1
  | .agg parts => uptoBulkAll parts + 1
  | .iface _ d => uptoBulk d + 1
  | .map entries => uptoBulkEntries entries + 1
  | .held _ => 1
def uptoBulkAll {H : Type} : List (DataW H) → Nat
  | [] => 0
  | d :: r => uptoBulk d + uptoBulkAll r
def uptoBulkEntries {H : Type} : List (Lit × DataW H) → Nat
  | [] => 0
  | x :: r => uptoBulkEntry x + uptoBulkEntries r
def uptoBulkEntry {H : Type} : Lit × DataW H → Nat
  | (.string bytes, d) => bytes.length + uptoBulk d + 1
  | (_, d) => uptoBulk d + 1
 end
def uptoSmall : (H : Type) → List (DataW H) → Bool := fun _ ds => decide (uptoBulkAll ds ≤ 1048576)
def OpenSpec.upto (s : _root_.Go.ChangeSpec) : _root_.Go.OpenSpec := { _root_.Go.OpenSpec.ofChange s with cond := some uptoSmall }

/-- 'cannerylaw04.ProcessPlaces', WHERE WHAT IT READS IS OF BULK AT MOST 1048576: true; the input reads as it did. -/
def processPlacesUptoRow : OpenClaim := { program := "ytedfajokiblfhaagreat", sum := "9a4326735bd22fd90a6291c3be2ea8feb2294ad3d7879466238a89e4aa95560e", func := "cannery/cannerylaw04.ProcessPlaces", spec := "processPlaces", inPlace := ["math/bits.Add64"], unfollowed := true, recurses := true, apart := false, narrowed := true }
def ProcessPlacesUptoSaid : Prop := processPlacesUptoRow.holds Tryz.pinned (OpenSpec.upto processPlacesSpec)

/-- 'cannerylaw04.ProcessColdest', WHERE WHAT IT READS IS OF BULK AT MOST 1048576: true; the input reads as it did. -/
def processColdestUptoRow : OpenClaim := { program := "ytedfajokiblfhaagreat", sum := "9a4326735bd22fd90a6291c3be2ea8feb2294ad3d7879466238a89e4aa95560e", func := "cannery/cannerylaw04.ProcessColdest", spec := "processColdest", inPlace := ["math/bits.Add64"], unfollowed := true, recurses := true, apart := false, narrowed := true }
def ProcessColdestUptoSaid : Prop := processColdestUptoRow.holds Tryz.pinned (OpenSpec.upto processColdestSpec)

/-- 'cannerylaw04.ProcessLeast', WHERE WHAT IT READS IS OF BULK AT MOST 1048576: true; the input reads as it did. -/
def processLeastUptoRow : OpenClaim := { program := "ytedfajokiblfhaagreat", sum := "9a4326735bd22fd90a6291c3be2ea8feb2294ad3d7879466238a89e4aa95560e", func := "cannery/cannerylaw04.ProcessLeast", spec := "processLeast", inPlace := ["math/bits.Add64"], unfollowed := true, recurses := true, apart := false, narrowed := true }
def ProcessLeastUptoSaid : Prop := processLeastUptoRow.holds Tryz.pinned (OpenSpec.upto processLeastSpec)

/-- 'cannerylaw04.ProcessProved', WHERE WHAT IT READS IS OF BULK AT MOST 1048576: true; the input reads as it did. -/
def processProvedUptoRow : OpenClaim := { program := "ytedfajokiblfhaagreat", sum := "9a4326735bd22fd90a6291c3be2ea8feb2294ad3d7879466238a89e4aa95560e", func := "cannery/cannerylaw04.ProcessProved", spec := "processProved", inPlace := ["math/bits.Add64"], unfollowed := true, recurses := true, apart := false, narrowed := true }
def ProcessProvedUptoSaid : Prop := processProvedUptoRow.holds Tryz.pinned (OpenSpec.upto processProvedSpec)

/-- 'cannerylaw04.ProcessMends', WHERE WHAT IT READS IS OF BULK AT MOST 1048576: true; the input reads as it did. -/
def processMendsUptoRow : OpenClaim := { program := "ytedfajokiblfhaagreat", sum := "9a4326735bd22fd90a6291c3be2ea8feb2294ad3d7879466238a89e4aa95560e", func := "cannery/cannerylaw04.ProcessMends", spec := "processMends", inPlace := ["math/bits.Add64"], unfollowed := true, recurses := true, apart := false, narrowed := true }
def ProcessMendsUptoSaid : Prop := processMendsUptoRow.holds Tryz.pinned (OpenSpec.upto processMendsSpec)

/-- 'cannerylaw04.ProcessCredits', WHERE WHAT IT READS IS OF BULK AT MOST 1048576: true; the input reads as it did. -/
def processCreditsUptoRow : OpenClaim := { program := "ytedfajokiblfhaagreat", sum := "9a4326735bd22fd90a6291c3be2ea8feb2294ad3d7879466238a89e4aa95560e", func := "cannery/cannerylaw04.ProcessCredits", spec := "processCredits", inPlace := ["math/bits.Add64"], unfollowed := true, recurses := true, apart := false, narrowed := true }
def ProcessCreditsUptoSaid : Prop := processCreditsUptoRow.holds Tryz.pinned (OpenSpec.upto processCreditsSpec)

end Rows
end Go.Proofs.YtedfajokiblfhaaGreat
