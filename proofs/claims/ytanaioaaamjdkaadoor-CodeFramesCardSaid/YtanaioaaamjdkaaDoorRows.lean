/-
  NARROWER THAN 'FOR EVERY INPUT', by the rows' own cells (each row's printed sentence says how): CodeNames: laid · CodeWrites: laid · CodeReads: laid · CodeBack: laid · CodeFrames: laid · CodeBursts: laid · CodeOrder: laid · CodeCuts: laid · CodeRows: laid.
  DERIVED. THE GIVEN ROWS OF THIS SEAT. 9 by the template 'for every input the law returns true; each argument reads behind the call as it read before'; 0 by the template 'total and deterministic' (their statements: YtanaioaaamjdkaaDoorTotals.lean).
  GIVEN WITH THE SEED: the statements are not yours to turn. If you find one false, say at which input.
  Laid BY PROGRAM, IN A SANDBOX (cutbox-rows.mjs): the forced cells as the released guide's own fill.sh prints them over the translation 2a2d4e2fe31c7075… (all of the seat's roots in one cut). By AI agents, Wed Nov 11 2026. No macro, syntax, notation, axiom, sorry.
-/
import Derived.Test.YtanaioaaamjdkaaDoorChecked
import GoSem.Claim
import GoSem.ClaimJoined
import GoSem.ClaimMapViews
import Derived.JoinedTies
import Derived.KernelRfl
namespace Go.Proofs.YtanaioaaamjdkaaDoor
/- THE CELL 'sum', in the pinned program and in every row, IS THE sha256 OF THE DUMP (.gsa) THAT YtanaioaaamjdkaaDoorProg.lean LOADS. Nothing in Lean hashes anything: it is a label: what it is worth is what the hold of that sum in a sandbox is worth. -/
noncomputable def Tryd.pinned : Pinned := { name := "ytanaioaaamjdkaadoor", sum := "2a2d4e2fe31c70756a636751185620745e8730df10cb5aef51c7dac7a4f6fb83", checked := Tryd.checked }
namespace Rows
def none {H : Type} : Left H := { results := [], args := [] }

/- WHAT THE LISTED PACKAGE-LEVEL VARIABLES READ AS WHEN THE CALL BEGINS. Each datum BY PROGRAM (the guide's laid-datum.mjs) off the statement by which the dump's own 'gosem.cut.vars' lays the variable. In a bare row this is a premise. The card (YtanaioaaamjdkaaDoorCards.lean) ties it to the program's text. -/
def laid_argosy_code_rests {H : Type} : DataW H := .agg [.lit (.int .u32 0), .lit (.int .u32 274646895), .lit (.int .u32 549293790), .lit (.int .u32 820201905), .lit (.int .u32 1098587580), .lit (.int .u32 1361435347), .lit (.int .u32 1640403810), .lit (.int .u32 1905808397), .lit (.int .u32 2197175160), .lit (.int .u32 2460548119), .lit (.int .u32 2722870694), .lit (.int .u32 2987750089), .lit (.int .u32 3280807620), .lit (.int .u32 3553878443), .lit (.int .u32 3811616794), .lit (.int .u32 4084100981)]

/-- 'argosylaw01.CodeNames': WHATEVER THE INPUT: true; the input reads as it did. -/
def codeNamesSpec : ChangeSpec := { name := "codeNames", fn := fun _ => fun
  | [] => { results := [.lit (.bool true)], args := [] }
  | _ => none }
def codeNamesRow : OpenClaim := { program := "ytanaioaaamjdkaadoor", sum := "2a2d4e2fe31c70756a636751185620745e8730df10cb5aef51c7dac7a4f6fb83", func := "argosy/argosylaw01.CodeNames", spec := "codeNames", named := ["argosy/code.rests"], apart := false, laid := [("argosy/code.rests", laid_argosy_code_rests)] }
def CodeNamesSaid : Prop := codeNamesRow.holds Tryd.pinned (OpenSpec.ofChange codeNamesSpec)

/-- ITS FALSE NEIGHBOUR: 'it returns false'. Refute it at one input. -/
def codeNamesWrong : ChangeSpec := { name := "codeNames", fn := fun _ => fun
  | [] => { results := [.lit (.bool false)], args := [] }
  | _ => none }
def CodeNamesWrongFalsely : Prop := codeNamesRow.holds Tryd.pinned (OpenSpec.ofChange codeNamesWrong)

/-- 'argosylaw01.CodeWrites': WHATEVER THE INPUT: true; the input reads as it did. -/
def codeWritesSpec : ChangeSpec := { name := "codeWrites", fn := fun _ => fun
  | [d] => { results := [.lit (.bool true)], args := [d] }
  | _ => none }
def codeWritesRow : OpenClaim := { program := "ytanaioaaamjdkaadoor", sum := "2a2d4e2fe31c70756a636751185620745e8730df10cb5aef51c7dac7a4f6fb83", func := "argosy/argosylaw01.CodeWrites", spec := "codeWrites", named := ["argosy/code.rests"], apart := false, laid := [("argosy/code.rests", laid_argosy_code_rests)] }
def CodeWritesSaid : Prop := codeWritesRow.holds Tryd.pinned (OpenSpec.ofChange codeWritesSpec)

/-- ITS FALSE NEIGHBOUR: 'it returns false'. Refute it at one input. -/
def codeWritesWrong : ChangeSpec := { name := "codeWrites", fn := fun _ => fun
  | [d] => { results := [.lit (.bool false)], args := [d] }
  | _ => none }
def CodeWritesWrongFalsely : Prop := codeWritesRow.holds Tryd.pinned (OpenSpec.ofChange codeWritesWrong)

/-- 'argosylaw01.CodeReads': WHATEVER THE INPUT: true; the input reads as it did. -/
def codeReadsSpec : ChangeSpec := { name := "codeReads", fn := fun _ => fun
  | [d1, d2] => { results := [.lit (.bool true)], args := [d1, d2] }
  | _ => none }
def codeReadsRow : OpenClaim := { program := "ytanaioaaamjdkaadoor", sum := "2a2d4e2fe31c70756a636751185620745e8730df10cb5aef51c7dac7a4f6fb83", func := "argosy/argosylaw01.CodeReads", spec := "codeReads", named := ["argosy/code.rests"], apart := false, laid := [("argosy/code.rests", laid_argosy_code_rests)] }
def CodeReadsSaid : Prop := codeReadsRow.holds Tryd.pinned (OpenSpec.ofChange codeReadsSpec)

/-- ITS FALSE NEIGHBOUR: 'it returns false'. Refute it at one input. -/
def codeReadsWrong : ChangeSpec := { name := "codeReads", fn := fun _ => fun
  | [d1, d2] => { results := [.lit (.bool false)], args := [d1, d2] }
  | _ => none }
def CodeReadsWrongFalsely : Prop := codeReadsRow.holds Tryd.pinned (OpenSpec.ofChange codeReadsWrong)

/-- 'argosylaw01.CodeBack': WHATEVER THE INPUT: true; the input reads as it did. -/
def codeBackSpec : ChangeSpec := { name := "codeBack", fn := fun _ => fun
  | [d1, d2] => { results := [.lit (.bool true)], args := [d1, d2] }
  | _ => none }
def codeBackRow : OpenClaim := { program := "ytanaioaaamjdkaadoor", sum := "2a2d4e2fe31c70756a636751185620745e8730df10cb5aef51c7dac7a4f6fb83", func := "argosy/argosylaw01.CodeBack", spec := "codeBack", named := ["argosy/code.rests"], apart := false, laid := [("argosy/code.rests", laid_argosy_code_rests)] }
def CodeBackSaid : Prop := codeBackRow.holds Tryd.pinned (OpenSpec.ofChange codeBackSpec)

/-- ITS FALSE NEIGHBOUR: 'it returns false'. Refute it at one input. -/
def codeBackWrong : ChangeSpec := { name := "codeBack", fn := fun _ => fun
  | [d1, d2] => { results := [.lit (.bool false)], args := [d1, d2] }
  | _ => none }
def CodeBackWrongFalsely : Prop := codeBackRow.holds Tryd.pinned (OpenSpec.ofChange codeBackWrong)

/-- 'argosylaw01.CodeFrames': WHATEVER THE INPUT: true; the input reads as it did. -/
def codeFramesSpec : ChangeSpec := { name := "codeFrames", fn := fun _ => fun
  | [d1, d2] => { results := [.lit (.bool true)], args := [d1, d2] }
  | _ => none }
def codeFramesRow : OpenClaim := { program := "ytanaioaaamjdkaadoor", sum := "2a2d4e2fe31c70756a636751185620745e8730df10cb5aef51c7dac7a4f6fb83", func := "argosy/argosylaw01.CodeFrames", spec := "codeFrames", named := ["argosy/code.rests"], apart := false, laid := [("argosy/code.rests", laid_argosy_code_rests)] }
def CodeFramesSaid : Prop := codeFramesRow.holds Tryd.pinned (OpenSpec.ofChange codeFramesSpec)

/-- ITS FALSE NEIGHBOUR: 'it returns false'. Refute it at one input. -/
def codeFramesWrong : ChangeSpec := { name := "codeFrames", fn := fun _ => fun
  | [d1, d2] => { results := [.lit (.bool false)], args := [d1, d2] }
  | _ => none }
def CodeFramesWrongFalsely : Prop := codeFramesRow.holds Tryd.pinned (OpenSpec.ofChange codeFramesWrong)

/-- 'argosylaw01.CodeBursts': WHATEVER THE INPUT: true; the input reads as it did. -/
def codeBurstsSpec : ChangeSpec := { name := "codeBursts", fn := fun _ => fun
  | [d1, d2, d3] => { results := [.lit (.bool true)], args := [d1, d2, d3] }
  | _ => none }
def codeBurstsRow : OpenClaim := { program := "ytanaioaaamjdkaadoor", sum := "2a2d4e2fe31c70756a636751185620745e8730df10cb5aef51c7dac7a4f6fb83", func := "argosy/argosylaw01.CodeBursts", spec := "codeBursts", named := ["argosy/code.rests"], apart := false, laid := [("argosy/code.rests", laid_argosy_code_rests)] }
def CodeBurstsSaid : Prop := codeBurstsRow.holds Tryd.pinned (OpenSpec.ofChange codeBurstsSpec)

/-- ITS FALSE NEIGHBOUR: 'it returns false'. Refute it at one input. -/
def codeBurstsWrong : ChangeSpec := { name := "codeBursts", fn := fun _ => fun
  | [d1, d2, d3] => { results := [.lit (.bool false)], args := [d1, d2, d3] }
  | _ => none }
def CodeBurstsWrongFalsely : Prop := codeBurstsRow.holds Tryd.pinned (OpenSpec.ofChange codeBurstsWrong)

/-- 'argosylaw01.CodeOrder': WHATEVER THE INPUT: true; the input reads as it did. -/
def codeOrderSpec : ChangeSpec := { name := "codeOrder", fn := fun _ => fun
  | [d1, d2] => { results := [.lit (.bool true)], args := [d1, d2] }
  | _ => none }
def codeOrderRow : OpenClaim := { program := "ytanaioaaamjdkaadoor", sum := "2a2d4e2fe31c70756a636751185620745e8730df10cb5aef51c7dac7a4f6fb83", func := "argosy/argosylaw01.CodeOrder", spec := "codeOrder", named := ["argosy/code.rests"], apart := false, laid := [("argosy/code.rests", laid_argosy_code_rests)] }
def CodeOrderSaid : Prop := codeOrderRow.holds Tryd.pinned (OpenSpec.ofChange codeOrderSpec)

/-- ITS FALSE NEIGHBOUR: 'it returns false'. Refute it at one input. -/
def codeOrderWrong : ChangeSpec := { name := "codeOrder", fn := fun _ => fun
  | [d1, d2] => { results := [.lit (.bool false)], args := [d1, d2] }
  | _ => none }
def CodeOrderWrongFalsely : Prop := codeOrderRow.holds Tryd.pinned (OpenSpec.ofChange codeOrderWrong)

/-- 'argosylaw01.CodeCuts': WHATEVER THE INPUT: true; the input reads as it did. -/
def codeCutsSpec : ChangeSpec := { name := "codeCuts", fn := fun _ => fun
  | [d1, d2] => { results := [.lit (.bool true)], args := [d1, d2] }
  | _ => none }
def codeCutsRow : OpenClaim := { program := "ytanaioaaamjdkaadoor", sum := "2a2d4e2fe31c70756a636751185620745e8730df10cb5aef51c7dac7a4f6fb83", func := "argosy/argosylaw01.CodeCuts", spec := "codeCuts", named := ["argosy/code.rests"], apart := false, laid := [("argosy/code.rests", laid_argosy_code_rests)] }
def CodeCutsSaid : Prop := codeCutsRow.holds Tryd.pinned (OpenSpec.ofChange codeCutsSpec)

/-- ITS FALSE NEIGHBOUR: 'it returns false'. Refute it at one input. -/
def codeCutsWrong : ChangeSpec := { name := "codeCuts", fn := fun _ => fun
  | [d1, d2] => { results := [.lit (.bool false)], args := [d1, d2] }
  | _ => none }
def CodeCutsWrongFalsely : Prop := codeCutsRow.holds Tryd.pinned (OpenSpec.ofChange codeCutsWrong)

/-- 'argosylaw01.CodeRows': WHATEVER THE INPUT: true; the input reads as it did. -/
def codeRowsSpec : ChangeSpec := { name := "codeRows", fn := fun _ => fun
  | [d1, d2] => { results := [.lit (.bool true)], args := [d1, d2] }
  | _ => none }
def codeRowsRow : OpenClaim := { program := "ytanaioaaamjdkaadoor", sum := "2a2d4e2fe31c70756a636751185620745e8730df10cb5aef51c7dac7a4f6fb83", func := "argosy/argosylaw01.CodeRows", spec := "codeRows", named := ["argosy/code.rests"], apart := false, laid := [("argosy/code.rests", laid_argosy_code_rests)] }
def CodeRowsSaid : Prop := codeRowsRow.holds Tryd.pinned (OpenSpec.ofChange codeRowsSpec)

/-- ITS FALSE NEIGHBOUR: 'it returns false'. Refute it at one input. -/
def codeRowsWrong : ChangeSpec := { name := "codeRows", fn := fun _ => fun
  | [d1, d2] => { results := [.lit (.bool false)], args := [d1, d2] }
  | _ => none }
def CodeRowsWrongFalsely : Prop := codeRowsRow.holds Tryd.pinned (OpenSpec.ofChange codeRowsWrong)

/- THE SECOND FORM. 'bulk': how many values and letters a reading holds, each counted each time it is reached (what is shared counts as often as it is met; a slice's spare places count too). A statement '..UptoSaid' is the law's where the arguments, and the package variables that the reading takes, are together of bulk at most 1048576: NARROWER than '..Said'. Prove '..Said' where nothing that the law and all that it calls make is longer than what came in: it says more and counts as full. Else prove '..UptoSaid'. A law counts once. -/
mutual
def uptoBulk {H : Type} : DataW H → Nat
  | .lit (.string bytes) => bytes.length + 1
  | .lit _ => 1
  | .nil => 1
  | .ptr d => uptoBulk d + 1
  | .slice elems spare => uptoBulkAll elems + uptoBulkAll spare + 1
  | .agg parts => uptoBulkAll parts + 1
  | .iface _ d => uptoBulk d + 1
  | .map entries => uptoBulkEntries entries + 1
  | .held _ => 1
def uptoBulkAll {H : Type} : List (DataW H) → Nat
  | [] => 0
  | d :: r => uptoBulk d + uptoBulkAll r
def uptoBulkEntries {H : Type} : List (Lit × DataW H) → Nat
  | [] => 0
  | x :: r => uptoBulkEntry x + uptoBulkEntries r
def uptoBulkEntry {H : Type} : Lit × DataW H → Nat
  | (.string bytes, d) => bytes.length + uptoBulk d + 1
  | (_, d) => uptoBulk d + 1
 end
def uptoSmall : (H : Type) → List (DataW H) → Bool := fun _ ds => decide (uptoBulkAll ds ≤ 1048576)
def OpenSpec.upto (s : _root_.Go.ChangeSpec) : _root_.Go.OpenSpec := { _root_.Go.OpenSpec.ofChange s with cond := some uptoSmall }

/-- 'argosylaw01.CodeNames', WHERE WHAT IT READS IS OF BULK AT MOST 1048576: true; the input reads as it did. -/
def codeNamesUptoRow : OpenClaim := { program := "ytanaioaaamjdkaadoor", sum := "2a2d4e2fe31c70756a636751185620745e8730df10cb5aef51c7dac7a4f6fb83", func := "argosy/argosylaw01.CodeNames", spec := "codeNames", named := ["argosy/code.rests"], apart := false, laid := [("argosy/code.rests", laid_argosy_code_rests)], narrowed := true }
def CodeNamesUptoSaid : Prop := codeNamesUptoRow.holds Tryd.pinned (OpenSpec.upto codeNamesSpec)

/-- 'argosylaw01.CodeWrites', WHERE WHAT IT READS IS OF BULK AT MOST 1048576: true; the input reads as it did. -/
def codeWritesUptoRow : OpenClaim := { program := "ytanaioaaamjdkaadoor", sum := "2a2d4e2fe31c70756a636751185620745e8730df10cb5aef51c7dac7a4f6fb83", func := "argosy/argosylaw01.CodeWrites", spec := "codeWrites", named := ["argosy/code.rests"], apart := false, laid := [("argosy/code.rests", laid_argosy_code_rests)], narrowed := true }
def CodeWritesUptoSaid : Prop := codeWritesUptoRow.holds Tryd.pinned (OpenSpec.upto codeWritesSpec)

/-- 'argosylaw01.CodeReads', WHERE WHAT IT READS IS OF BULK AT MOST 1048576: true; the input reads as it did. -/
def codeReadsUptoRow : OpenClaim := { program := "ytanaioaaamjdkaadoor", sum := "2a2d4e2fe31c70756a636751185620745e8730df10cb5aef51c7dac7a4f6fb83", func := "argosy/argosylaw01.CodeReads", spec := "codeReads", named := ["argosy/code.rests"], apart := false, laid := [("argosy/code.rests", laid_argosy_code_rests)], narrowed := true }
def CodeReadsUptoSaid : Prop := codeReadsUptoRow.holds Tryd.pinned (OpenSpec.upto codeReadsSpec)

/-- 'argosylaw01.CodeBack', WHERE WHAT IT READS IS OF BULK AT MOST 1048576: true; the input reads as it did. -/
def codeBackUptoRow : OpenClaim := { program := "ytanaioaaamjdkaadoor", sum := "2a2d4e2fe31c70756a636751185620745e8730df10cb5aef51c7dac7a4f6fb83", func := "argosy/argosylaw01.CodeBack", spec := "codeBack", named := ["argosy/code.rests"], apart := false, laid := [("argosy/code.rests", laid_argosy_code_rests)], narrowed := true }
def CodeBackUptoSaid : Prop := codeBackUptoRow.holds Tryd.pinned (OpenSpec.upto codeBackSpec)

/-- 'argosylaw01.CodeFrames', WHERE WHAT IT READS IS OF BULK AT MOST 1048576: true; the input reads as it did. -/
def codeFramesUptoRow : OpenClaim := { program := "ytanaioaaamjdkaadoor", sum := "2a2d4e2fe31c70756a636751185620745e8730df10cb5aef51c7dac7a4f6fb83", func := "argosy/argosylaw01.CodeFrames", spec := "codeFrames", named := ["argosy/code.rests"], apart := false, laid := [("argosy/code.rests", laid_argosy_code_rests)], narrowed := true }
def CodeFramesUptoSaid : Prop := codeFramesUptoRow.holds Tryd.pinned (OpenSpec.upto codeFramesSpec)

/-- 'argosylaw01.CodeBursts', WHERE WHAT IT READS IS OF BULK AT MOST 1048576: true; the input reads as it did. -/
def codeBurstsUptoRow : OpenClaim := { program := "ytanaioaaamjdkaadoor", sum := "2a2d4e2fe31c70756a636751185620745e8730df10cb5aef51c7dac7a4f6fb83", func := "argosy/argosylaw01.CodeBursts", spec := "codeBursts", named := ["argosy/code.rests"], apart := false, laid := [("argosy/code.rests", laid_argosy_code_rests)], narrowed := true }
def CodeBurstsUptoSaid : Prop := codeBurstsUptoRow.holds Tryd.pinned (OpenSpec.upto codeBurstsSpec)

/-- 'argosylaw01.CodeOrder', WHERE WHAT IT READS IS OF BULK AT MOST 1048576: true; the input reads as it did. -/
def codeOrderUptoRow : OpenClaim := { program := "ytanaioaaamjdkaadoor", sum := "2a2d4e2fe31c70756a636751185620745e8730df10cb5aef51c7dac7a4f6fb83", func := "argosy/argosylaw01.CodeOrder", spec := "codeOrder", named := ["argosy/code.rests"], apart := false, laid := [("argosy/code.rests", laid_argosy_code_rests)], narrowed := true }
def CodeOrderUptoSaid : Prop := codeOrderUptoRow.holds Tryd.pinned (OpenSpec.upto codeOrderSpec)

/-- 'argosylaw01.CodeCuts', WHERE WHAT IT READS IS OF BULK AT MOST 1048576: true; the input reads as it did. -/
def codeCutsUptoRow : OpenClaim := { program := "ytanaioaaamjdkaadoor", sum := "2a2d4e2fe31c70756a636751185620745e8730df10cb5aef51c7dac7a4f6fb83", func := "argosy/argosylaw01.CodeCuts", spec := "codeCuts", named := ["argosy/code.rests"], apart := false, laid := [("argosy/code.rests", laid_argosy_code_rests)], narrowed := true }
def CodeCutsUptoSaid : Prop := codeCutsUptoRow.holds Tryd.pinned (OpenSpec.upto codeCutsSpec)

/-- 'argosylaw01.CodeRows', WHERE WHAT IT READS IS OF BULK AT MOST 1048576: true; the input reads as it did. -/
def codeRowsUptoRow : OpenClaim := { program := "ytanaioaaamjdkaadoor", sum := "2a2d4e2fe31c70756a636751185620745e8730df10cb5aef51c7dac7a4f6fb83", func := "argosy/argosylaw01.CodeRows", spec := "codeRows", named := ["argosy/code.rests"], apart := false, laid := [("argosy/code.rests", laid_argosy_code_rests)], narrowed := true }
def CodeRowsUptoSaid : Prop := codeRowsUptoRow.holds Tryd.pinned (OpenSpec.upto codeRowsSpec)

end Rows
end Go.Proofs.YtanaioaaamjdkaaDoor
