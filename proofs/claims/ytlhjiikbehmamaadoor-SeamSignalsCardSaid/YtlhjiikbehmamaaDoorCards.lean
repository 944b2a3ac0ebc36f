/-
  DERIVED. GIVEN WITH THE SEED: THE CARDS: each row of YtlhjiikbehmamaaDoorRows.lean that lists a variable, with what it lists TIED to the program's text (the seventh form; the later family's looks); each row that meets fmt, with fmt's text TOLD by the authors' own Lean function (tested against real Go, not proved from fmt's source: count such statements apart). THE CARD IS WHAT COUNTS. Prove the row's statement (the work); the ties are given (YtlhjiikbehmamaaDoorTie.lean); close each card by the builder's one call (the guide's Derived/Test/ToyasCard.lean, 'card_holds'). Laid BY PROGRAM, IN A SANDBOX (cutbox-door.mjs). By AI agents, Wed Nov 11 2026. No macro, syntax, notation, axiom, sorry.
-/
import Derived.Test.YtlhjiikbehmamaaDoorRows
import GoSem.ClaimSeven
namespace Go.Proofs.YtlhjiikbehmamaaDoor
namespace Rows

/-- THE TIED CARD OF 'cannerylaw05.SeamShifts'. -/
def seamShiftsCard : Claim7 := { stood := { row := seamShiftsRow, standIns := [], harness := (true, "d49bbe38bd49af23af300a2d7b219028a10cce36972af870aa7c5e5edaa183a9"), looks := false }, kinds := [], alts := [], laidByText := true, laidKinds := [.data], laidTests := true, laidLooks := .later }
def SeamShiftsCardSaid : Prop := Claim7.holds Tryd.pinned (.plain (OpenSpec.ofChange seamShiftsSpec)) seamShiftsCard

/-- THE TIED CARD OF 'cannerylaw05.SeamSignals'. -/
def seamSignalsCard : Claim7 := { stood := { row := seamSignalsRow, standIns := [], harness := (true, "d49bbe38bd49af23af300a2d7b219028a10cce36972af870aa7c5e5edaa183a9"), looks := false }, kinds := [], alts := [], laidByText := true, laidKinds := [.data], laidTests := true, laidLooks := .later }
def SeamSignalsCardSaid : Prop := Claim7.holds Tryd.pinned (.plain (OpenSpec.ofChange seamSignalsSpec)) seamSignalsCard

/-- THE SECOND FORM's CARD OF 'cannerylaw05.SeamShifts'. -/
def seamShiftsUptoCard : Claim7 := { stood := { row := seamShiftsUptoRow, standIns := [], harness := (true, "d49bbe38bd49af23af300a2d7b219028a10cce36972af870aa7c5e5edaa183a9"), looks := false }, kinds := [], alts := [], laidByText := true, laidKinds := [.data], laidTests := true, laidLooks := .later }
def SeamShiftsUptoCardSaid : Prop := Claim7.holds Tryd.pinned (.plain (OpenSpec.upto seamShiftsSpec)) seamShiftsUptoCard

/-- THE SECOND FORM's CARD OF 'cannerylaw05.SeamSignals'. -/
def seamSignalsUptoCard : Claim7 := { stood := { row := seamSignalsUptoRow, standIns := [], harness := (true, "d49bbe38bd49af23af300a2d7b219028a10cce36972af870aa7c5e5edaa183a9"), looks := false }, kinds := [], alts := [], laidByText := true, laidKinds := [.data], laidTests := true, laidLooks := .later }
def SeamSignalsUptoCardSaid : Prop := Claim7.holds Tryd.pinned (.plain (OpenSpec.upto seamSignalsSpec)) seamSignalsUptoCard
end Rows
end Go.Proofs.YtlhjiikbehmamaaDoor
