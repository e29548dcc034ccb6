/-
  DERIVED. GIVEN WITH THE SEED: THE CARDS: each row of YtokonhcphhpogaaDoorRows.lean that lists a variable, with what it lists TIED to the program's text (the seventh form; the later family's looks); each row that meets fmt, with fmt's text TOLD by the authors' own Lean function (tested against real Go, not proved from fmt's source: count such statements apart). THE CARD IS WHAT COUNTS. Prove the row's statement (the work); the ties are given (YtokonhcphhpogaaDoorTie.lean); close each card by the builder's one call (the guide's Derived/Test/ToyasCard.lean, 'card_holds'). Laid BY PROGRAM, IN A SANDBOX (cutbox-door.mjs). By AI agents, Wed Nov 11 2026. No macro, syntax, notation, axiom, sorry.
-/
import Derived.Test.YtokonhcphhpogaaDoorRows
import GoSem.ClaimSeven
namespace Go.Proofs.YtokonhcphhpogaaDoor
namespace Rows

/-- THE TIED CARD OF 'argosylaw08.SnapPacks'. -/
def snapPacksCard : Claim7 := { stood := { row := snapPacksRow, standIns := [], harness := (true, "8bb93da87b5c022df0568a98010fcf760ade8ae7b5b019959acd2a4419182d11"), looks := false }, kinds := [], alts := [], laidByText := true, laidKinds := [.data], laidTests := true, laidLooks := .later }
def SnapPacksCardSaid : Prop := Claim7.holds Tryd.pinned (.plain (OpenSpec.ofChange snapPacksSpec)) snapPacksCard

/-- THE TIED CARD OF 'argosylaw08.SnapPlays'. -/
def snapPlaysCard : Claim7 := { stood := { row := snapPlaysRow, standIns := [], harness := (true, "8bb93da87b5c022df0568a98010fcf760ade8ae7b5b019959acd2a4419182d11"), looks := false }, kinds := [], alts := [], laidByText := true, laidKinds := [.data], laidTests := true, laidLooks := .later }
def SnapPlaysCardSaid : Prop := Claim7.holds Tryd.pinned (.plain (OpenSpec.ofChange snapPlaysSpec)) snapPlaysCard

/-- THE TIED CARD OF 'argosylaw08.SnapAtomic'. -/
def snapAtomicCard : Claim7 := { stood := { row := snapAtomicRow, standIns := [], harness := (true, "8bb93da87b5c022df0568a98010fcf760ade8ae7b5b019959acd2a4419182d11"), looks := false }, kinds := [], alts := [], laidByText := true, laidKinds := [.data], laidTests := true, laidLooks := .later }
def SnapAtomicCardSaid : Prop := Claim7.holds Tryd.pinned (.plain (OpenSpec.ofChange snapAtomicSpec)) snapAtomicCard

/-- THE TIED CARD OF 'argosylaw08.SnapBeside'. -/
def snapBesideCard : Claim7 := { stood := { row := snapBesideRow, standIns := [], harness := (true, "8bb93da87b5c022df0568a98010fcf760ade8ae7b5b019959acd2a4419182d11"), looks := false }, kinds := [], alts := [], laidByText := true, laidKinds := [.data], laidTests := true, laidLooks := .later }
def SnapBesideCardSaid : Prop := Claim7.holds Tryd.pinned (.plain (OpenSpec.ofChange snapBesideSpec)) snapBesideCard

/-- THE TIED CARD OF 'argosylaw08.SnapUnlike'. -/
def snapUnlikeCard : Claim7 := { stood := { row := snapUnlikeRow, standIns := [], harness := (true, "8bb93da87b5c022df0568a98010fcf760ade8ae7b5b019959acd2a4419182d11"), looks := false }, kinds := [], alts := [], laidByText := true, laidKinds := [.data], laidTests := true, laidLooks := .later }
def SnapUnlikeCardSaid : Prop := Claim7.holds Tryd.pinned (.plain (OpenSpec.ofChange snapUnlikeSpec)) snapUnlikeCard

/-- THE SECOND FORM's CARD OF 'argosylaw08.SnapPacks'. -/
def snapPacksUptoCard : Claim7 := { stood := { row := snapPacksUptoRow, standIns := [], harness := (true, "8bb93da87b5c022df0568a98010fcf760ade8ae7b5b019959acd2a4419182d11"), looks := false }, kinds := [], alts := [], laidByText := true, laidKinds := [.data], laidTests := true, laidLooks := .later }
def SnapPacksUptoCardSaid : Prop := Claim7.holds Tryd.pinned (.plain (OpenSpec.upto snapPacksSpec)) snapPacksUptoCard

/-- THE SECOND FORM's CARD OF 'argosylaw08.SnapPlays'. -/
def snapPlaysUptoCard : Claim7 := { stood := { row := snapPlaysUptoRow, standIns := [], harness := (true, "8bb93da87b5c022df0568a98010fcf760ade8ae7b5b019959acd2a4419182d11"), looks := false }, kinds := [], alts := [], laidByText := true, laidKinds := [.data], laidTests := true, laidLooks := .later }
def SnapPlaysUptoCardSaid : Prop := Claim7.holds Tryd.pinned (.plain (OpenSpec.upto snapPlaysSpec)) snapPlaysUptoCard

/-- THE SECOND FORM's CARD OF 'argosylaw08.SnapAtomic'. -/
def snapAtomicUptoCard : Claim7 := { stood := { row := snapAtomicUptoRow, standIns := [], harness := (true, "8bb93da87b5c022df0568a98010fcf760ade8ae7b5b019959acd2a4419182d11"), looks := false }, kinds := [], alts := [], laidByText := true, laidKinds := [.data], laidTests := true, laidLooks := .later }
def SnapAtomicUptoCardSaid : Prop := Claim7.holds Tryd.pinned (.plain (OpenSpec.upto snapAtomicSpec)) snapAtomicUptoCard

/-- THE SECOND FORM's CARD OF 'argosylaw08.SnapBeside'. -/
def snapBesideUptoCard : Claim7 := { stood := { row := snapBesideUptoRow, standIns := [], harness := (true, "8bb93da87b5c022df0568a98010fcf760ade8ae7b5b019959acd2a4419182d11"), looks := false }, kinds := [], alts := [], laidByText := true, laidKinds := [.data], laidTests := true, laidLooks := .later }
def SnapBesideUptoCardSaid : Prop := Claim7.holds Tryd.pinned (.plain (OpenSpec.upto snapBesideSpec)) snapBesideUptoCard

/-- THE SECOND FORM's CARD OF 'argosylaw08.SnapUnlike'. -/
def snapUnlikeUptoCard : Claim7 := { stood := { row := snapUnlikeUptoRow, standIns := [], harness := (true, "8bb93da87b5c022df0568a98010fcf760ade8ae7b5b019959acd2a4419182d11"), looks := false }, kinds := [], alts := [], laidByText := true, laidKinds := [.data], laidTests := true, laidLooks := .later }
def SnapUnlikeUptoCardSaid : Prop := Claim7.holds Tryd.pinned (.plain (OpenSpec.upto snapUnlikeSpec)) snapUnlikeUptoCard
end Rows
end Go.Proofs.YtokonhcphhpogaaDoor
