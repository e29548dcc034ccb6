/-
  DERIVED. GIVEN WITH THE SEED: THE CARDS: each row of YtafiokabnlmgpaaGreatDoorRows.lean that lists a variable, with what it lists TIED to the program's text (the seventh form; the later family's looks); each row that meets fmt, with fmt's text TOLD by the authors' own Lean function (tested against real Go, not proved from fmt's source: count such statements apart). THE CARD IS WHAT COUNTS. Prove the row's statement (the work); the ties are given (YtafiokabnlmgpaaGreatDoorTie.lean); close each card by the builder's one call (the guide's Derived/Test/ToyasCard.lean, 'card_holds'). Laid BY PROGRAM, IN A SANDBOX (cutbox-door.mjs). By AI agents, Wed Nov 11 2026. No macro, syntax, notation, axiom, sorry.
-/
import Derived.Test.YtafiokabnlmgpaaGreatDoorRows
import GoSem.ClaimSeven
namespace Go.Proofs.YtafiokabnlmgpaaGreatDoor
namespace Rows

/-- THE TIED CARD OF 'argosylaw22.DurablePlays'. -/
def durablePlaysCard : Claim7 := { stood := { row := durablePlaysRow, standIns := [], harness := (true, "efc360b005da1f651f8ae04d552ac2755220da8cbc18a6365873e587081ed389"), looks := false }, kinds := [], alts := [], laidByText := true, laidKinds := [.data], laidTests := true, laidLooks := .later }
def DurablePlaysCardSaid : Prop := Claim7.holds Tryz.pinned (.plain (OpenSpec.ofChange durablePlaysSpec)) durablePlaysCard

/-- THE TIED CARD OF 'argosylaw22.DurableLives'. -/
def durableLivesCard : Claim7 := { stood := { row := durableLivesRow, standIns := [], harness := (true, "efc360b005da1f651f8ae04d552ac2755220da8cbc18a6365873e587081ed389"), looks := false }, kinds := [], alts := [], laidByText := true, laidKinds := [.data], laidTests := true, laidLooks := .later }
def DurableLivesCardSaid : Prop := Claim7.holds Tryz.pinned (.plain (OpenSpec.ofChange durableLivesSpec)) durableLivesCard

/-- THE TIED CARD OF 'argosylaw22.DurableStates'. -/
def durableStatesCard : Claim7 := { stood := { row := durableStatesRow, standIns := [], harness := (true, "efc360b005da1f651f8ae04d552ac2755220da8cbc18a6365873e587081ed389"), looks := false }, kinds := [], alts := [], laidByText := true, laidKinds := [.data], laidTests := true, laidLooks := .later }
def DurableStatesCardSaid : Prop := Claim7.holds Tryz.pinned (.plain (OpenSpec.ofChange durableStatesSpec)) durableStatesCard

/-- THE SECOND FORM's CARD OF 'argosylaw22.DurablePlays'. -/
def durablePlaysUptoCard : Claim7 := { stood := { row := durablePlaysUptoRow, standIns := [], harness := (true, "efc360b005da1f651f8ae04d552ac2755220da8cbc18a6365873e587081ed389"), looks := false }, kinds := [], alts := [], laidByText := true, laidKinds := [.data], laidTests := true, laidLooks := .later }
def DurablePlaysUptoCardSaid : Prop := Claim7.holds Tryz.pinned (.plain (OpenSpec.upto durablePlaysSpec)) durablePlaysUptoCard

/-- THE SECOND FORM's CARD OF 'argosylaw22.DurableLives'. -/
def durableLivesUptoCard : Claim7 := { stood := { row := durableLivesUptoRow, standIns := [], harness := (true, "efc360b005da1f651f8ae04d552ac2755220da8cbc18a6365873e587081ed389"), looks := false }, kinds := [], alts := [], laidByText := true, laidKinds := [.data], laidTests := true, laidLooks := .later }
def DurableLivesUptoCardSaid : Prop := Claim7.holds Tryz.pinned (.plain (OpenSpec.upto durableLivesSpec)) durableLivesUptoCard

/-- THE SECOND FORM's CARD OF 'argosylaw22.DurableStates'. -/
def durableStatesUptoCard : Claim7 := { stood := { row := durableStatesUptoRow, standIns := [], harness := (true, "efc360b005da1f651f8ae04d552ac2755220da8cbc18a6365873e587081ed389"), looks := false }, kinds := [], alts := [], laidByText := true, laidKinds := [.data], laidTests := true, laidLooks := .later }
def DurableStatesUptoCardSaid : Prop := Claim7.holds Tryz.pinned (.plain (OpenSpec.upto durableStatesSpec)) durableStatesUptoCard
end Rows
end Go.Proofs.YtafiokabnlmgpaaGreatDoor
