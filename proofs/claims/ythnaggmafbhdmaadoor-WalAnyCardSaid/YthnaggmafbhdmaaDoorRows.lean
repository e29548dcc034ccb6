/-
  NARROWER THAN 'FOR EVERY INPUT', by the rows' own cells (each row's printed sentence says how): WalKeeps: laid · WalAny: laid · WalGoesOn: laid · WalBeside: laid.
  DERIVED. THE GIVEN ROWS OF THIS SEAT. 4 by the template 'for every input the law returns true; each argument reads behind the call as it read before'; 0 by the template 'total and deterministic' (their statements: YthnaggmafbhdmaaDoorTotals.lean).
  GIVEN WITH THE SEED: the statements are not yours to turn. If you find one false, say at which input.
  Laid BY PROGRAM, IN A SANDBOX (cutbox-rows.mjs): the forced cells as the released guide's own fill.sh prints them over the translation 52da3006480c5b46… (all of the seat's roots in one cut). By AI agents, Wed Nov 11 2026. No macro, syntax, notation, axiom, sorry.
-/
import Derived.Test.YthnaggmafbhdmaaDoorChecked
import GoSem.Claim
import GoSem.ClaimJoined
import GoSem.ClaimMapViews
import Derived.JoinedTies
import Derived.KernelRfl
namespace Go.Proofs.YthnaggmafbhdmaaDoor
/- THE CELL 'sum', in the pinned program and in every row, IS THE sha256 OF THE DUMP (.gsa) THAT YthnaggmafbhdmaaDoorProg.lean LOADS. Nothing in Lean hashes anything: it is a label: what it is worth is what the hold of that sum in a sandbox is worth. -/
noncomputable def Tryd.pinned : Pinned := { name := "ythnaggmafbhdmaadoor", sum := "52da3006480c5b46407916f7325bbeab1884c45ff64f5de4e747c8eaa121ef96", checked := Tryd.checked }
namespace Rows
def none {H : Type} : Left H := { results := [], args := [] }

/- WHAT THE LISTED PACKAGE-LEVEL VARIABLES READ AS WHEN THE CALL BEGINS. Each datum BY PROGRAM (the guide's laid-datum.mjs) off the statement by which the dump's own 'gosem.cut.vars' lays the variable. In a bare row this is a premise. The card (YthnaggmafbhdmaaDoorCards.lean) ties it to the program's text. -/
def laid_argosy_code_rests {H : Type} : DataW H := .agg [.lit (.int .u32 0), .lit (.int .u32 274646895), .lit (.int .u32 549293790), .lit (.int .u32 820201905), .lit (.int .u32 1098587580), .lit (.int .u32 1361435347), .lit (.int .u32 1640403810), .lit (.int .u32 1905808397), .lit (.int .u32 2197175160), .lit (.int .u32 2460548119), .lit (.int .u32 2722870694), .lit (.int .u32 2987750089), .lit (.int .u32 3280807620), .lit (.int .u32 3553878443), .lit (.int .u32 3811616794), .lit (.int .u32 4084100981)]

/-- 'argosylaw04.WalKeeps': WHATEVER THE INPUT: true; the input reads as it did. -/
def walKeepsSpec : ChangeSpec := { name := "walKeeps", fn := fun _ => fun
  | [d1, d2] => { results := [.lit (.bool true)], args := [d1, d2] }
  | _ => none }
def walKeepsRow : OpenClaim := { program := "ythnaggmafbhdmaadoor", sum := "52da3006480c5b46407916f7325bbeab1884c45ff64f5de4e747c8eaa121ef96", func := "argosy/argosylaw04.WalKeeps", spec := "walKeeps", unfollowed := true, recurses := true, named := ["argosy/code.rests"], apart := false, laid := [("argosy/code.rests", laid_argosy_code_rests)] }
def WalKeepsSaid : Prop := walKeepsRow.holds Tryd.pinned (OpenSpec.ofChange walKeepsSpec)

/-- ITS FALSE NEIGHBOUR: 'it returns false'. Refute it at one input. -/
def walKeepsWrong : ChangeSpec := { name := "walKeeps", fn := fun _ => fun
  | [d1, d2] => { results := [.lit (.bool false)], args := [d1, d2] }
  | _ => none }
def WalKeepsWrongFalsely : Prop := walKeepsRow.holds Tryd.pinned (OpenSpec.ofChange walKeepsWrong)

/-- 'argosylaw04.WalAny': WHATEVER THE INPUT: true; the input reads as it did. -/
def walAnySpec : ChangeSpec := { name := "walAny", fn := fun _ => fun
  | [d] => { results := [.lit (.bool true)], args := [d] }
  | _ => none }
def walAnyRow : OpenClaim := { program := "ythnaggmafbhdmaadoor", sum := "52da3006480c5b46407916f7325bbeab1884c45ff64f5de4e747c8eaa121ef96", func := "argosy/argosylaw04.WalAny", spec := "walAny", unfollowed := true, recurses := true, named := ["argosy/code.rests"], apart := false, laid := [("argosy/code.rests", laid_argosy_code_rests)] }
def WalAnySaid : Prop := walAnyRow.holds Tryd.pinned (OpenSpec.ofChange walAnySpec)

/-- ITS FALSE NEIGHBOUR: 'it returns false'. Refute it at one input. -/
def walAnyWrong : ChangeSpec := { name := "walAny", fn := fun _ => fun
  | [d] => { results := [.lit (.bool false)], args := [d] }
  | _ => none }
def WalAnyWrongFalsely : Prop := walAnyRow.holds Tryd.pinned (OpenSpec.ofChange walAnyWrong)

/-- 'argosylaw04.WalGoesOn': WHATEVER THE INPUT: true; the input reads as it did. -/
def walGoesOnSpec : ChangeSpec := { name := "walGoesOn", fn := fun _ => fun
  | [d1, d2, d3] => { results := [.lit (.bool true)], args := [d1, d2, d3] }
  | _ => none }
def walGoesOnRow : OpenClaim := { program := "ythnaggmafbhdmaadoor", sum := "52da3006480c5b46407916f7325bbeab1884c45ff64f5de4e747c8eaa121ef96", func := "argosy/argosylaw04.WalGoesOn", spec := "walGoesOn", unfollowed := true, recurses := true, named := ["argosy/code.rests"], apart := false, laid := [("argosy/code.rests", laid_argosy_code_rests)] }
def WalGoesOnSaid : Prop := walGoesOnRow.holds Tryd.pinned (OpenSpec.ofChange walGoesOnSpec)

/-- ITS FALSE NEIGHBOUR: 'it returns false'. Refute it at one input. -/
def walGoesOnWrong : ChangeSpec := { name := "walGoesOn", fn := fun _ => fun
  | [d1, d2, d3] => { results := [.lit (.bool false)], args := [d1, d2, d3] }
  | _ => none }
def WalGoesOnWrongFalsely : Prop := walGoesOnRow.holds Tryd.pinned (OpenSpec.ofChange walGoesOnWrong)

/-- 'argosylaw04.WalBeside': WHATEVER THE INPUT: true; the input reads as it did. -/
def walBesideSpec : ChangeSpec := { name := "walBeside", fn := fun _ => fun
  | [d1, d2] => { results := [.lit (.bool true)], args := [d1, d2] }
  | _ => none }
def walBesideRow : OpenClaim := { program := "ythnaggmafbhdmaadoor", sum := "52da3006480c5b46407916f7325bbeab1884c45ff64f5de4e747c8eaa121ef96", func := "argosy/argosylaw04.WalBeside", spec := "walBeside", unfollowed := true, recurses := true, named := ["argosy/code.rests"], apart := false, laid := [("argosy/code.rests", laid_argosy_code_rests)] }
def WalBesideSaid : Prop := walBesideRow.holds Tryd.pinned (OpenSpec.ofChange walBesideSpec)

/-- ITS FALSE NEIGHBOUR: 'it returns false'. Refute it at one input. -/
def walBesideWrong : ChangeSpec := { name := "walBeside", fn := fun _ => fun
  | [d1, d2] => { results := [.lit (.bool false)], args := [d1, d2] }
  | _ => none }
def WalBesideWrongFalsely : Prop := walBesideRow.holds Tryd.pinned (OpenSpec.ofChange walBesideWrong)

/- THE SECOND FORM. 'bulk': how many values and letters a reading holds, each counted each time it is reached (what is shared counts as often as it is met; a slice's spare places count too). A statement '..UptoSaid' is the law's where the arguments, and the package variables that the reading takes, are together of bulk at most 1048576: NARROWER than '..Said'. Prove '..Said' where nothing that the law and all that it calls make is longer than what came in: it says more and counts as full. Else prove '..UptoSaid'. A law counts once. -/
mutual
def uptoBulk {H : Type} : DataW H → Nat
  | .lit (.string bytes) => bytes.length + 1
  | .lit _ => 1
  | .nil => 1
  | .ptr d => uptoBulk d + 1
  | .slice elems spare => uptoBulkAll elems + uptoBulkAll spare + 1
  | .agg parts => uptoBulkAll parts + 1
  | .iface _ d => uptoBulk d + 1
  | .map entries => uptoBulkEntries entries + 1
  | .held _ => 1
def uptoBulkAll {H : Type} : List (DataW H) → Nat
  | [] => 0
  | d :: r => uptoBulk d + uptoBulkAll r
def uptoBulkEntries {H : Type} : List (Lit × DataW H) → Nat
  | [] => 0
  | x :: r => uptoBulkEntry x + uptoBulkEntries r
def uptoBulkEntry {H : Type} : Lit × DataW H → Nat
  | (.string bytes, d) => bytes.length + uptoBulk d + 1
  | (_, d) => uptoBulk d + 1
 end
def uptoSmall : (H : Type) → List (DataW H) → Bool := fun _ ds => decide (uptoBulkAll ds ≤ 1048576)
def OpenSpec.upto (s : _root_.Go.ChangeSpec) : _root_.Go.OpenSpec := { _root_.Go.OpenSpec.ofChange s with cond := some uptoSmall }

/-- 'argosylaw04.WalKeeps', WHERE WHAT IT READS IS OF BULK AT MOST 1048576: true; the input reads as it did. -/
def walKeepsUptoRow : OpenClaim := { program := "ythnaggmafbhdmaadoor", sum := "52da3006480c5b46407916f7325bbeab1884c45ff64f5de4e747c8eaa121ef96", func := "argosy/argosylaw04.WalKeeps", spec := "walKeeps", unfollowed := true, recurses := true, named := ["argosy/code.rests"], apart := false, laid := [("argosy/code.rests", laid_argosy_code_rests)], narrowed := true }
def WalKeepsUptoSaid : Prop := walKeepsUptoRow.holds Tryd.pinned (OpenSpec.upto walKeepsSpec)

/-- 'argosylaw04.WalAny', WHERE WHAT IT READS IS OF BULK AT MOST 1048576: true; the input reads as it did. -/
def walAnyUptoRow : OpenClaim := { program := "ythnaggmafbhdmaadoor", sum := "52da3006480c5b46407916f7325bbeab1884c45ff64f5de4e747c8eaa121ef96", func := "argosy/argosylaw04.WalAny", spec := "walAny", unfollowed := true, recurses := true, named := ["argosy/code.rests"], apart := false, laid := [("argosy/code.rests", laid_argosy_code_rests)], narrowed := true }
def WalAnyUptoSaid : Prop := walAnyUptoRow.holds Tryd.pinned (OpenSpec.upto walAnySpec)

/-- 'argosylaw04.WalGoesOn', WHERE WHAT IT READS IS OF BULK AT MOST 1048576: true; the input reads as it did. -/
def walGoesOnUptoRow : OpenClaim := { program := "ythnaggmafbhdmaadoor", sum := "52da3006480c5b46407916f7325bbeab1884c45ff64f5de4e747c8eaa121ef96", func := "argosy/argosylaw04.WalGoesOn", spec := "walGoesOn", unfollowed := true, recurses := true, named := ["argosy/code.rests"], apart := false, laid := [("argosy/code.rests", laid_argosy_code_rests)], narrowed := true }
def WalGoesOnUptoSaid : Prop := walGoesOnUptoRow.holds Tryd.pinned (OpenSpec.upto walGoesOnSpec)

/-- 'argosylaw04.WalBeside', WHERE WHAT IT READS IS OF BULK AT MOST 1048576: true; the input reads as it did. -/
def walBesideUptoRow : OpenClaim := { program := "ythnaggmafbhdmaadoor", sum := "52da3006480c5b46407916f7325bbeab1884c45ff64f5de4e747c8eaa121ef96", func := "argosy/argosylaw04.WalBeside", spec := "walBeside", unfollowed := true, recurses := true, named := ["argosy/code.rests"], apart := false, laid := [("argosy/code.rests", laid_argosy_code_rests)], narrowed := true }
def WalBesideUptoSaid : Prop := walBesideUptoRow.holds Tryd.pinned (OpenSpec.upto walBesideSpec)

end Rows
end Go.Proofs.YthnaggmafbhdmaaDoor
