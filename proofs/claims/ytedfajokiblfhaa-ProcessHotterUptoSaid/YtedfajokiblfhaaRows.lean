/-
  No cell of these rows narrows 'for every input' (looked for: loops, veiled, ifaces, maps, wideKeys, modest, calm, conditions, laid).
  DERIVED. THE GIVEN ROWS OF THIS SEAT. 6 by the template 'for every input the law returns true; each argument reads behind the call as it read before'; 0 by the template 'total and deterministic' (their statements: YtedfajokiblfhaaTotals.lean).
  GIVEN WITH THE SEED: the statements are not yours to turn. If you find one false, say at which input.
  Laid BY PROGRAM, IN A SANDBOX (cutbox-rows.mjs): the forced cells as the released guide's own fill.sh prints them over the translation d3e45b32345394a6… (all of the seat's roots in one cut). By AI agents, Wed Nov 11 2026. No macro, syntax, notation, axiom, sorry.
-/
import Derived.Test.YtedfajokiblfhaaChecked
import GoSem.Claim
import GoSem.ClaimJoined
import GoSem.ClaimMapViews
import Derived.JoinedTies
import Derived.KernelRfl
namespace Go.Proofs.Ytedfajokiblfhaa
/- THE CELL 'sum', in the pinned program and in every row, IS THE sha256 OF THE DUMP (.gsa) THAT YtedfajokiblfhaaProg.lean LOADS. Nothing in Lean hashes anything: it is a label: what it is worth is what the hold of that sum in a sandbox is worth. -/
noncomputable def Try.pinned : Pinned := { name := "ytedfajokiblfhaa", sum := "d3e45b32345394a69279e6cee87717f6a40f8a492aa46001652af0166bad86d8", checked := Try.checked }
namespace Rows
def none {H : Type} : Left H := { results := [], args := [] }

/-- 'cannerylaw04.ProcessHotter': WHATEVER THE INPUT: true; the input reads as it did. -/
def processHotterSpec : ChangeSpec := { name := "processHotter", fn := fun _ => fun
  | [d1, d2, d3] => { results := [.lit (.bool true)], args := [d1, d2, d3] }
  | _ => none }
def processHotterRow : OpenClaim := { program := "ytedfajokiblfhaa", sum := "d3e45b32345394a69279e6cee87717f6a40f8a492aa46001652af0166bad86d8", func := "cannery/cannerylaw04.ProcessHotter", spec := "processHotter", inPlace := ["math/bits.Add64"], unfollowed := true, recurses := true, apart := false }
def ProcessHotterSaid : Prop := processHotterRow.holds Try.pinned (OpenSpec.ofChange processHotterSpec)

/-- ITS FALSE NEIGHBOUR: 'it returns false'. Refute it at one input. -/
def processHotterWrong : ChangeSpec := { name := "processHotter", fn := fun _ => fun
  | [d1, d2, d3] => { results := [.lit (.bool false)], args := [d1, d2, d3] }
  | _ => none }
def ProcessHotterWrongFalsely : Prop := processHotterRow.holds Try.pinned (OpenSpec.ofChange processHotterWrong)

/-- 'cannerylaw04.ProcessLonger': WHATEVER THE INPUT: true; the input reads as it did. -/
def processLongerSpec : ChangeSpec := { name := "processLonger", fn := fun _ => fun
  | [d1, d2, d3] => { results := [.lit (.bool true)], args := [d1, d2, d3] }
  | _ => none }
def processLongerRow : OpenClaim := { program := "ytedfajokiblfhaa", sum := "d3e45b32345394a69279e6cee87717f6a40f8a492aa46001652af0166bad86d8", func := "cannery/cannerylaw04.ProcessLonger", spec := "processLonger", inPlace := ["math/bits.Add64"], unfollowed := true, recurses := true, apart := false }
def ProcessLongerSaid : Prop := processLongerRow.holds Try.pinned (OpenSpec.ofChange processLongerSpec)

/-- ITS FALSE NEIGHBOUR: 'it returns false'. Refute it at one input. -/
def processLongerWrong : ChangeSpec := { name := "processLonger", fn := fun _ => fun
  | [d1, d2, d3] => { results := [.lit (.bool false)], args := [d1, d2, d3] }
  | _ => none }
def ProcessLongerWrongFalsely : Prop := processLongerRow.holds Try.pinned (OpenSpec.ofChange processLongerWrong)

/-- 'cannerytop.TopPlaces': WHATEVER THE INPUT: true; the input reads as it did. -/
def topPlacesSpec : ChangeSpec := { name := "topPlaces", fn := fun _ => fun
  | [d1, d2] => { results := [.lit (.bool true)], args := [d1, d2] }
  | _ => none }
def topPlacesRow : OpenClaim := { program := "ytedfajokiblfhaa", sum := "d3e45b32345394a69279e6cee87717f6a40f8a492aa46001652af0166bad86d8", func := "cannery/cannerytop.TopPlaces", spec := "topPlaces", inPlace := ["math/bits.Add64"], unfollowed := true, recurses := true, apart := false }
def TopPlacesSaid : Prop := topPlacesRow.holds Try.pinned (OpenSpec.ofChange topPlacesSpec)

/-- ITS FALSE NEIGHBOUR: 'it returns false'. Refute it at one input. -/
def topPlacesWrong : ChangeSpec := { name := "topPlaces", fn := fun _ => fun
  | [d1, d2] => { results := [.lit (.bool false)], args := [d1, d2] }
  | _ => none }
def TopPlacesWrongFalsely : Prop := topPlacesRow.holds Try.pinned (OpenSpec.ofChange topPlacesWrong)

/-- 'cannerytop.TopUpside': WHATEVER THE INPUT: true; the input reads as it did. -/
def topUpsideSpec : ChangeSpec := { name := "topUpside", fn := fun _ => fun
  | [d1, d2] => { results := [.lit (.bool true)], args := [d1, d2] }
  | _ => none }
def topUpsideRow : OpenClaim := { program := "ytedfajokiblfhaa", sum := "d3e45b32345394a69279e6cee87717f6a40f8a492aa46001652af0166bad86d8", func := "cannery/cannerytop.TopUpside", spec := "topUpside", inPlace := ["math/bits.Add64"], unfollowed := true, recurses := true, apart := false }
def TopUpsideSaid : Prop := topUpsideRow.holds Try.pinned (OpenSpec.ofChange topUpsideSpec)

/-- ITS FALSE NEIGHBOUR: 'it returns false'. Refute it at one input. -/
def topUpsideWrong : ChangeSpec := { name := "topUpside", fn := fun _ => fun
  | [d1, d2] => { results := [.lit (.bool false)], args := [d1, d2] }
  | _ => none }
def TopUpsideWrongFalsely : Prop := topUpsideRow.holds Try.pinned (OpenSpec.ofChange topUpsideWrong)

/-- 'cannerytop.TopSterile': WHATEVER THE INPUT: true; the input reads as it did. -/
def topSterileSpec : ChangeSpec := { name := "topSterile", fn := fun _ => fun
  | [d1, d2] => { results := [.lit (.bool true)], args := [d1, d2] }
  | _ => none }
def topSterileRow : OpenClaim := { program := "ytedfajokiblfhaa", sum := "d3e45b32345394a69279e6cee87717f6a40f8a492aa46001652af0166bad86d8", func := "cannery/cannerytop.TopSterile", spec := "topSterile", inPlace := ["math/bits.Add64"], unfollowed := true, recurses := true, apart := false }
def TopSterileSaid : Prop := topSterileRow.holds Try.pinned (OpenSpec.ofChange topSterileSpec)

/-- ITS FALSE NEIGHBOUR: 'it returns false'. Refute it at one input. -/
def topSterileWrong : ChangeSpec := { name := "topSterile", fn := fun _ => fun
  | [d1, d2] => { results := [.lit (.bool false)], args := [d1, d2] }
  | _ => none }
def TopSterileWrongFalsely : Prop := topSterileRow.holds Try.pinned (OpenSpec.ofChange topSterileWrong)

/-- 'cannerytop.TopCredits': WHATEVER THE INPUT: true; the input reads as it did. -/
def topCreditsSpec : ChangeSpec := { name := "topCredits", fn := fun _ => fun
  | [d1, d2] => { results := [.lit (.bool true)], args := [d1, d2] }
  | _ => none }
def topCreditsRow : OpenClaim := { program := "ytedfajokiblfhaa", sum := "d3e45b32345394a69279e6cee87717f6a40f8a492aa46001652af0166bad86d8", func := "cannery/cannerytop.TopCredits", spec := "topCredits", inPlace := ["math/bits.Add64"], unfollowed := true, recurses := true, apart := false }
def TopCreditsSaid : Prop := topCreditsRow.holds Try.pinned (OpenSpec.ofChange topCreditsSpec)

/-- ITS FALSE NEIGHBOUR: 'it returns false'. Refute it at one input. -/
def topCreditsWrong : ChangeSpec := { name := "topCredits", fn := fun _ => fun
  | [d1, d2] => { results := [.lit (.bool false)], args := [d1, d2] }
  | _ => none }
def TopCreditsWrongFalsely : Prop := topCreditsRow.holds Try.pinned (OpenSpec.ofChange topCreditsWrong)

/- THE SECOND FORM. 'bulk': how many values and letters a reading holds, each counted each time it is reached (what is shared counts as often as it is met; a slice's spare places count too). A statement '..UptoSaid' is the law's where the arguments, and the package variables that the reading takes, are together of bulk at most 1048576: NARROWER than '..Said'. Prove '..Said' where nothing that the law and all that it calls make is longer than what came in: it says more and counts as full. Else prove '..UptoSaid'. A law counts once. -/
mutual
def uptoBulk {H : Type} : DataW H → Nat
  | .lit (.string bytes) => bytes.length + 1
  | .lit _ => 1
  | .nil => 1
  | .ptr d => uptoBulk d + 1
  | .slice elems spare => uptoBulkAll elems + uptoBulkAll spare + 1
  | .agg parts => uptoBulkAll parts + 1
  | .iface _ d => uptoBulk d + 1
  | .map entries => uptoBulkEntries entries + 1
  | .held _ => 1
def uptoBulkAll {H : Type} : List (DataW H) → Nat
  | [] => 0
  | d :: r => uptoBulk d + uptoBulkAll r
def uptoBulkEntries {H : Type} : List (Lit × DataW H) → Nat
  | [] => 0
  | x :: r => uptoBulkEntry x + uptoBulkEntries r
def uptoBulkEntry {H : Type} : Lit × DataW H → Nat
  | (.string bytes, d) => bytes.length + uptoBulk d + 1
  | (_, d) => uptoBulk d + 1
 end
def uptoSmall : (H : Type) → List (DataW H) → Bool := fun _ ds => decide (uptoBulkAll ds ≤ 1048576)
def OpenSpec.upto (s : _root_.Go.ChangeSpec) : _root_.Go.OpenSpec := { _root_.Go.OpenSpec.ofChange s with cond := some uptoSmall }

/-- 'cannerylaw04.ProcessHotter', WHERE WHAT IT READS IS OF BULK AT MOST 1048576: true; the input reads as it did. -/
def processHotterUptoRow : OpenClaim := { program := "ytedfajokiblfhaa", sum := "d3e45b32345394a69279e6cee87717f6a40f8a492aa46001652af0166bad86d8", func := "cannery/cannerylaw04.ProcessHotter", spec := "processHotter", inPlace := ["math/bits.Add64"], unfollowed := true, recurses := true, apart := false, narrowed := true }
def ProcessHotterUptoSaid : Prop := processHotterUptoRow.holds Try.pinned (OpenSpec.upto processHotterSpec)

/-- 'cannerylaw04.ProcessLonger', WHERE WHAT IT READS IS OF BULK AT MOST 1048576: true; the input reads as it did. -/
def processLongerUptoRow : OpenClaim := { program := "ytedfajokiblfhaa", sum := "d3e45b32345394a69279e6cee87717f6a40f8a492aa46001652af0166bad86d8", func := "cannery/cannerylaw04.ProcessLonger", spec := "processLonger", inPlace := ["math/bits.Add64"], unfollowed := true, recurses := true, apart := false, narrowed := true }
def ProcessLongerUptoSaid : Prop := processLongerUptoRow.holds Try.pinned (OpenSpec.upto processLongerSpec)

/-- 'cannerytop.TopPlaces', WHERE WHAT IT READS IS OF BULK AT MOST 1048576: true; the input reads as it did. -/
def topPlacesUptoRow : OpenClaim := { program := "ytedfajokiblfhaa", sum := "d3e45b32345394a69279e6cee87717f6a40f8a492aa46001652af0166bad86d8", func := "cannery/cannerytop.TopPlaces", spec := "topPlaces", inPlace := ["math/bits.Add64"], unfollowed := true, recurses := true, apart := false, narrowed := true }
def TopPlacesUptoSaid : Prop := topPlacesUptoRow.holds Try.pinned (OpenSpec.upto topPlacesSpec)

/-- 'cannerytop.TopUpside', WHERE WHAT IT READS IS OF BULK AT MOST 1048576: true; the input reads as it did. -/
def topUpsideUptoRow : OpenClaim := { program := "ytedfajokiblfhaa", sum := "d3e45b32345394a69279e6cee87717f6a40f8a492aa46001652af0166bad86d8", func := "cannery/cannerytop.TopUpside", spec := "topUpside", inPlace := ["math/bits.Add64"], unfollowed := true, recurses := true, apart := false, narrowed := true }
def TopUpsideUptoSaid : Prop := topUpsideUptoRow.holds Try.pinned (OpenSpec.upto topUpsideSpec)

/-- 'cannerytop.TopSterile', WHERE WHAT IT READS IS OF BULK AT MOST 1048576: true; the input reads as it did. -/
def topSterileUptoRow : OpenClaim := { program := "ytedfajokiblfhaa", sum := "d3e45b32345394a69279e6cee87717f6a40f8a492aa46001652af0166bad86d8", func := "cannery/cannerytop.TopSterile", spec := "topSterile", inPlace := ["math/bits.Add64"], unfollowed := true, recurses := true, apart := false, narrowed := true }
def TopSterileUptoSaid : Prop := topSterileUptoRow.holds Try.pinned (OpenSpec.upto topSterileSpec)

/-- 'cannerytop.TopCredits', WHERE WHAT IT READS IS OF BULK AT MOST 1048576: true; the input reads as it did. -/
def topCreditsUptoRow : OpenClaim := { program := "ytedfajokiblfhaa", sum := "d3e45b32345394a69279e6cee87717f6a40f8a492aa46001652af0166bad86d8", func := "cannery/cannerytop.TopCredits", spec := "topCredits", inPlace := ["math/bits.Add64"], unfollowed := true, recurses := true, apart := false, narrowed := true }
def TopCreditsUptoSaid : Prop := topCreditsUptoRow.holds Try.pinned (OpenSpec.upto topCreditsSpec)

end Rows
end Go.Proofs.Ytedfajokiblfhaa
