/-
  DERIVED. GIVEN WITH THE SEED: THE CARDS: each row of YtmhkgpcnefcjaaaDoorRows.lean that lists a variable, with what it lists TIED to the program's text (the seventh form; the later family's looks); each row that meets fmt, with fmt's text TOLD by the authors' own Lean function (tested against real Go, not proved from fmt's source: count such statements apart). THE CARD IS WHAT COUNTS. Prove the row's statement (the work); the ties are given (YtmhkgpcnefcjaaaDoorTie.lean); close each card by the builder's one call (the guide's Derived/Test/ToyasCard.lean, 'card_holds'). Laid BY PROGRAM, IN A SANDBOX (cutbox-door.mjs). By AI agents, Wed Nov 11 2026. No macro, syntax, notation, axiom, sorry.
-/
import Derived.Test.YtmhkgpcnefcjaaaDoorRows
import GoSem.ClaimSeven
namespace Go.Proofs.YtmhkgpcnefcjaaaDoor
namespace Rows

/-- THE TIED CARD OF 'cannerylaw06.CodeBesides'. -/
def codeBesidesCard : Claim7 := { stood := { row := codeBesidesRow, standIns := [], harness := (true, "0766e46eb331b3aa26152bad08fb662cb70cd3cf567055422a155f8740e17bc0"), looks := false }, kinds := [], alts := [], laidByText := true, laidKinds := [.data], laidTests := true, laidLooks := .later }
def CodeBesidesCardSaid : Prop := Claim7.holds Tryd.pinned (.plain (OpenSpec.ofChange codeBesidesSpec)) codeBesidesCard

/-- THE TIED CARD OF 'cannerylaw06.CodeNear'. -/
def codeNearCard : Claim7 := { stood := { row := codeNearRow, standIns := [], harness := (true, "0766e46eb331b3aa26152bad08fb662cb70cd3cf567055422a155f8740e17bc0"), looks := false }, kinds := [], alts := [], laidByText := true, laidKinds := [.data], laidTests := true, laidLooks := .later }
def CodeNearCardSaid : Prop := Claim7.holds Tryd.pinned (.plain (OpenSpec.ofChange codeNearSpec)) codeNearCard

/-- THE TIED CARD OF 'cannerylaw06.CodeAround'. -/
def codeAroundCard : Claim7 := { stood := { row := codeAroundRow, standIns := [], harness := (true, "0766e46eb331b3aa26152bad08fb662cb70cd3cf567055422a155f8740e17bc0"), looks := false }, kinds := [], alts := [], laidByText := true, laidKinds := [.data], laidTests := true, laidLooks := .later }
def CodeAroundCardSaid : Prop := Claim7.holds Tryd.pinned (.plain (OpenSpec.ofChange codeAroundSpec)) codeAroundCard

/-- THE TIED CARD OF 'cannerytop.TopMisread'. -/
def topMisreadCard : Claim7 := { stood := { row := topMisreadRow, standIns := [], harness := (true, "0766e46eb331b3aa26152bad08fb662cb70cd3cf567055422a155f8740e17bc0"), looks := false }, kinds := [], alts := [], laidByText := true, laidKinds := [.data], laidTests := true, laidLooks := .later }
def TopMisreadCardSaid : Prop := Claim7.holds Tryd.pinned (.plain (OpenSpec.ofChange topMisreadSpec)) topMisreadCard

/-- THE SECOND FORM's CARD OF 'cannerylaw06.CodeBesides'. -/
def codeBesidesUptoCard : Claim7 := { stood := { row := codeBesidesUptoRow, standIns := [], harness := (true, "0766e46eb331b3aa26152bad08fb662cb70cd3cf567055422a155f8740e17bc0"), looks := false }, kinds := [], alts := [], laidByText := true, laidKinds := [.data], laidTests := true, laidLooks := .later }
def CodeBesidesUptoCardSaid : Prop := Claim7.holds Tryd.pinned (.plain (OpenSpec.upto codeBesidesSpec)) codeBesidesUptoCard

/-- THE SECOND FORM's CARD OF 'cannerylaw06.CodeNear'. -/
def codeNearUptoCard : Claim7 := { stood := { row := codeNearUptoRow, standIns := [], harness := (true, "0766e46eb331b3aa26152bad08fb662cb70cd3cf567055422a155f8740e17bc0"), looks := false }, kinds := [], alts := [], laidByText := true, laidKinds := [.data], laidTests := true, laidLooks := .later }
def CodeNearUptoCardSaid : Prop := Claim7.holds Tryd.pinned (.plain (OpenSpec.upto codeNearSpec)) codeNearUptoCard

/-- THE SECOND FORM's CARD OF 'cannerylaw06.CodeAround'. -/
def codeAroundUptoCard : Claim7 := { stood := { row := codeAroundUptoRow, standIns := [], harness := (true, "0766e46eb331b3aa26152bad08fb662cb70cd3cf567055422a155f8740e17bc0"), looks := false }, kinds := [], alts := [], laidByText := true, laidKinds := [.data], laidTests := true, laidLooks := .later }
def CodeAroundUptoCardSaid : Prop := Claim7.holds Tryd.pinned (.plain (OpenSpec.upto codeAroundSpec)) codeAroundUptoCard

/-- THE SECOND FORM's CARD OF 'cannerytop.TopMisread'. -/
def topMisreadUptoCard : Claim7 := { stood := { row := topMisreadUptoRow, standIns := [], harness := (true, "0766e46eb331b3aa26152bad08fb662cb70cd3cf567055422a155f8740e17bc0"), looks := false }, kinds := [], alts := [], laidByText := true, laidKinds := [.data], laidTests := true, laidLooks := .later }
def TopMisreadUptoCardSaid : Prop := Claim7.holds Tryd.pinned (.plain (OpenSpec.upto topMisreadSpec)) topMisreadUptoCard
end Rows
end Go.Proofs.YtmhkgpcnefcjaaaDoor
