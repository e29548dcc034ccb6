/-
  DERIVED. GIVEN WITH THE SEED: THE CARDS: each row of YthnaggmafbhdmaaDoorRows.lean that lists a variable, with what it lists TIED to the program's text (the seventh form; the later family's looks); each row that meets fmt, with fmt's text TOLD by the authors' own Lean function (tested against real Go, not proved from fmt's source: count such statements apart). THE CARD IS WHAT COUNTS. Prove the row's statement (the work); the ties are given (YthnaggmafbhdmaaDoorTie.lean); close each card by the builder's one call (the guide's Derived/Test/ToyasCard.lean, 'card_holds'). Laid BY PROGRAM, IN A SANDBOX (cutbox-door.mjs). By AI agents, Wed Nov 11 2026. No macro, syntax, notation, axiom, sorry.
-/
import Derived.Test.YthnaggmafbhdmaaDoorRows
import GoSem.ClaimSeven
namespace Go.Proofs.YthnaggmafbhdmaaDoor
namespace Rows

/-- THE TIED CARD OF 'argosylaw04.WalKeeps'. -/
def walKeepsCard : Claim7 := { stood := { row := walKeepsRow, standIns := [], harness := (true, "8dffc3cf15a9625c7ebb9b504bd09a88ad20dd117a650f99eab85158d019e5dc"), looks := false }, kinds := [], alts := [], laidByText := true, laidKinds := [.data], laidTests := true, laidLooks := .later }
def WalKeepsCardSaid : Prop := Claim7.holds Tryd.pinned (.plain (OpenSpec.ofChange walKeepsSpec)) walKeepsCard

/-- THE TIED CARD OF 'argosylaw04.WalAny'. -/
def walAnyCard : Claim7 := { stood := { row := walAnyRow, standIns := [], harness := (true, "8dffc3cf15a9625c7ebb9b504bd09a88ad20dd117a650f99eab85158d019e5dc"), looks := false }, kinds := [], alts := [], laidByText := true, laidKinds := [.data], laidTests := true, laidLooks := .later }
def WalAnyCardSaid : Prop := Claim7.holds Tryd.pinned (.plain (OpenSpec.ofChange walAnySpec)) walAnyCard

/-- THE TIED CARD OF 'argosylaw04.WalGoesOn'. -/
def walGoesOnCard : Claim7 := { stood := { row := walGoesOnRow, standIns := [], harness := (true, "8dffc3cf15a9625c7ebb9b504bd09a88ad20dd117a650f99eab85158d019e5dc"), looks := false }, kinds := [], alts := [], laidByText := true, laidKinds := [.data], laidTests := true, laidLooks := .later }
def WalGoesOnCardSaid : Prop := Claim7.holds Tryd.pinned (.plain (OpenSpec.ofChange walGoesOnSpec)) walGoesOnCard

/-- THE TIED CARD OF 'argosylaw04.WalBeside'. -/
def walBesideCard : Claim7 := { stood := { row := walBesideRow, standIns := [], harness := (true, "8dffc3cf15a9625c7ebb9b504bd09a88ad20dd117a650f99eab85158d019e5dc"), looks := false }, kinds := [], alts := [], laidByText := true, laidKinds := [.data], laidTests := true, laidLooks := .later }
def WalBesideCardSaid : Prop := Claim7.holds Tryd.pinned (.plain (OpenSpec.ofChange walBesideSpec)) walBesideCard

/-- THE SECOND FORM's CARD OF 'argosylaw04.WalKeeps'. -/
def walKeepsUptoCard : Claim7 := { stood := { row := walKeepsUptoRow, standIns := [], harness := (true, "8dffc3cf15a9625c7ebb9b504bd09a88ad20dd117a650f99eab85158d019e5dc"), looks := false }, kinds := [], alts := [], laidByText := true, laidKinds := [.data], laidTests := true, laidLooks := .later }
def WalKeepsUptoCardSaid : Prop := Claim7.holds Tryd.pinned (.plain (OpenSpec.upto walKeepsSpec)) walKeepsUptoCard

/-- THE SECOND FORM's CARD OF 'argosylaw04.WalAny'. -/
def walAnyUptoCard : Claim7 := { stood := { row := walAnyUptoRow, standIns := [], harness := (true, "8dffc3cf15a9625c7ebb9b504bd09a88ad20dd117a650f99eab85158d019e5dc"), looks := false }, kinds := [], alts := [], laidByText := true, laidKinds := [.data], laidTests := true, laidLooks := .later }
def WalAnyUptoCardSaid : Prop := Claim7.holds Tryd.pinned (.plain (OpenSpec.upto walAnySpec)) walAnyUptoCard

/-- THE SECOND FORM's CARD OF 'argosylaw04.WalGoesOn'. -/
def walGoesOnUptoCard : Claim7 := { stood := { row := walGoesOnUptoRow, standIns := [], harness := (true, "8dffc3cf15a9625c7ebb9b504bd09a88ad20dd117a650f99eab85158d019e5dc"), looks := false }, kinds := [], alts := [], laidByText := true, laidKinds := [.data], laidTests := true, laidLooks := .later }
def WalGoesOnUptoCardSaid : Prop := Claim7.holds Tryd.pinned (.plain (OpenSpec.upto walGoesOnSpec)) walGoesOnUptoCard

/-- THE SECOND FORM's CARD OF 'argosylaw04.WalBeside'. -/
def walBesideUptoCard : Claim7 := { stood := { row := walBesideUptoRow, standIns := [], harness := (true, "8dffc3cf15a9625c7ebb9b504bd09a88ad20dd117a650f99eab85158d019e5dc"), looks := false }, kinds := [], alts := [], laidByText := true, laidKinds := [.data], laidTests := true, laidLooks := .later }
def WalBesideUptoCardSaid : Prop := Claim7.holds Tryd.pinned (.plain (OpenSpec.upto walBesideSpec)) walBesideUptoCard
end Rows
end Go.Proofs.YthnaggmafbhdmaaDoor
