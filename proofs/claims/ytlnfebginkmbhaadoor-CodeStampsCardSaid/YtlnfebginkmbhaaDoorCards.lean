/-
  DERIVED. GIVEN WITH THE SEED: THE CARDS: each row of YtlnfebginkmbhaaDoorRows.lean that lists a variable, with what it lists TIED to the program's text (the seventh form; the later family's looks); each row that meets fmt, with fmt's text TOLD by the authors' own Lean function (tested against real Go, not proved from fmt's source: count such statements apart). THE CARD IS WHAT COUNTS. Prove the row's statement (the work); the ties are given (YtlnfebginkmbhaaDoorTie.lean); close each card by the builder's one call (the guide's Derived/Test/ToyasCard.lean, 'card_holds'). Laid BY PROGRAM, IN A SANDBOX (cutbox-door.mjs). By AI agents, Wed Nov 11 2026. No macro, syntax, notation, axiom, sorry.
-/
import Derived.Test.YtlnfebginkmbhaaDoorRows
import GoSem.ClaimSeven
namespace Go.Proofs.YtlnfebginkmbhaaDoor
namespace Rows

/-- THE TIED CARD OF 'cannerylaw06.CodeDays'. -/
def codeDaysCard : Claim7 := { stood := { row := codeDaysRow, standIns := [], harness := (true, "4c01bfe9e15e44b767862deca4ea9cd0804904f1c5f1f7bb2385df35fa280dac"), looks := false }, kinds := [], alts := [], laidByText := true, laidKinds := [.data], laidTests := true, laidLooks := .later }
def CodeDaysCardSaid : Prop := Claim7.holds Tryd.pinned (.plain (OpenSpec.ofChange codeDaysSpec)) codeDaysCard

/-- THE TIED CARD OF 'cannerylaw06.CodeSigns'. -/
def codeSignsCard : Claim7 := { stood := { row := codeSignsRow, standIns := [], harness := (true, "4c01bfe9e15e44b767862deca4ea9cd0804904f1c5f1f7bb2385df35fa280dac"), looks := false }, kinds := [], alts := [], laidByText := true, laidKinds := [.data], laidTests := true, laidLooks := .later }
def CodeSignsCardSaid : Prop := Claim7.holds Tryd.pinned (.plain (OpenSpec.ofChange codeSignsSpec)) codeSignsCard

/-- THE TIED CARD OF 'cannerylaw06.CodeStamps'. -/
def codeStampsCard : Claim7 := { stood := { row := codeStampsRow, standIns := [], harness := (true, "4c01bfe9e15e44b767862deca4ea9cd0804904f1c5f1f7bb2385df35fa280dac"), looks := false }, kinds := [], alts := [], laidByText := true, laidKinds := [.data], laidTests := true, laidLooks := .later }
def CodeStampsCardSaid : Prop := Claim7.holds Tryd.pinned (.plain (OpenSpec.ofChange codeStampsSpec)) codeStampsCard

/-- THE TIED CARD OF 'cannerylaw06.CodeReads'. -/
def codeReadsCard : Claim7 := { stood := { row := codeReadsRow, standIns := [], harness := (true, "4c01bfe9e15e44b767862deca4ea9cd0804904f1c5f1f7bb2385df35fa280dac"), looks := false }, kinds := [], alts := [], laidByText := true, laidKinds := [.data], laidTests := true, laidLooks := .later }
def CodeReadsCardSaid : Prop := Claim7.holds Tryd.pinned (.plain (OpenSpec.ofChange codeReadsSpec)) codeReadsCard

/-- THE TIED CARD OF 'cannerylaw06.CodeMisread'. -/
def codeMisreadCard : Claim7 := { stood := { row := codeMisreadRow, standIns := [], harness := (true, "4c01bfe9e15e44b767862deca4ea9cd0804904f1c5f1f7bb2385df35fa280dac"), looks := false }, kinds := [], alts := [], laidByText := true, laidKinds := [.data], laidTests := true, laidLooks := .later }
def CodeMisreadCardSaid : Prop := Claim7.holds Tryd.pinned (.plain (OpenSpec.ofChange codeMisreadSpec)) codeMisreadCard

/-- THE SECOND FORM's CARD OF 'cannerylaw06.CodeDays'. -/
def codeDaysUptoCard : Claim7 := { stood := { row := codeDaysUptoRow, standIns := [], harness := (true, "4c01bfe9e15e44b767862deca4ea9cd0804904f1c5f1f7bb2385df35fa280dac"), looks := false }, kinds := [], alts := [], laidByText := true, laidKinds := [.data], laidTests := true, laidLooks := .later }
def CodeDaysUptoCardSaid : Prop := Claim7.holds Tryd.pinned (.plain (OpenSpec.upto codeDaysSpec)) codeDaysUptoCard

/-- THE SECOND FORM's CARD OF 'cannerylaw06.CodeSigns'. -/
def codeSignsUptoCard : Claim7 := { stood := { row := codeSignsUptoRow, standIns := [], harness := (true, "4c01bfe9e15e44b767862deca4ea9cd0804904f1c5f1f7bb2385df35fa280dac"), looks := false }, kinds := [], alts := [], laidByText := true, laidKinds := [.data], laidTests := true, laidLooks := .later }
def CodeSignsUptoCardSaid : Prop := Claim7.holds Tryd.pinned (.plain (OpenSpec.upto codeSignsSpec)) codeSignsUptoCard

/-- THE SECOND FORM's CARD OF 'cannerylaw06.CodeStamps'. -/
def codeStampsUptoCard : Claim7 := { stood := { row := codeStampsUptoRow, standIns := [], harness := (true, "4c01bfe9e15e44b767862deca4ea9cd0804904f1c5f1f7bb2385df35fa280dac"), looks := false }, kinds := [], alts := [], laidByText := true, laidKinds := [.data], laidTests := true, laidLooks := .later }
def CodeStampsUptoCardSaid : Prop := Claim7.holds Tryd.pinned (.plain (OpenSpec.upto codeStampsSpec)) codeStampsUptoCard

/-- THE SECOND FORM's CARD OF 'cannerylaw06.CodeReads'. -/
def codeReadsUptoCard : Claim7 := { stood := { row := codeReadsUptoRow, standIns := [], harness := (true, "4c01bfe9e15e44b767862deca4ea9cd0804904f1c5f1f7bb2385df35fa280dac"), looks := false }, kinds := [], alts := [], laidByText := true, laidKinds := [.data], laidTests := true, laidLooks := .later }
def CodeReadsUptoCardSaid : Prop := Claim7.holds Tryd.pinned (.plain (OpenSpec.upto codeReadsSpec)) codeReadsUptoCard

/-- THE SECOND FORM's CARD OF 'cannerylaw06.CodeMisread'. -/
def codeMisreadUptoCard : Claim7 := { stood := { row := codeMisreadUptoRow, standIns := [], harness := (true, "4c01bfe9e15e44b767862deca4ea9cd0804904f1c5f1f7bb2385df35fa280dac"), looks := false }, kinds := [], alts := [], laidByText := true, laidKinds := [.data], laidTests := true, laidLooks := .later }
def CodeMisreadUptoCardSaid : Prop := Claim7.holds Tryd.pinned (.plain (OpenSpec.upto codeMisreadSpec)) codeMisreadUptoCard
end Rows
end Go.Proofs.YtlnfebginkmbhaaDoor
