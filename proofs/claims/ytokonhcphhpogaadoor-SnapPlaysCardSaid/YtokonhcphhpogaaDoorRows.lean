/-
  NARROWER THAN 'FOR EVERY INPUT', by the rows' own cells (each row's printed sentence says how): SnapPacks: laid · SnapPlays: laid · SnapAtomic: laid · SnapBeside: laid · SnapUnlike: laid.
  DERIVED. THE GIVEN ROWS OF THIS SEAT. 5 by the template 'for every input the law returns true; each argument reads behind the call as it read before'; 0 by the template 'total and deterministic' (their statements: YtokonhcphhpogaaDoorTotals.lean).
  GIVEN WITH THE SEED: the statements are not yours to turn. If you find one false, say at which input.
  Laid BY PROGRAM, IN A SANDBOX (cutbox-rows.mjs): the forced cells as the released guide's own fill.sh prints them over the translation a5fa34fd0c3b3d58… (all of the seat's roots in one cut). By AI agents, Wed Nov 11 2026. No macro, syntax, notation, axiom, sorry.
-/
import Derived.Test.YtokonhcphhpogaaDoorChecked
import GoSem.Claim
import GoSem.ClaimJoined
import GoSem.ClaimMapViews
import Derived.JoinedTies
import Derived.KernelRfl
namespace Go.Proofs.YtokonhcphhpogaaDoor
/- THE CELL 'sum', in the pinned program and in every row, IS THE sha256 OF THE DUMP (.gsa) THAT YtokonhcphhpogaaDoorProg.lean LOADS. Nothing in Lean hashes anything: it is a label: what it is worth is what the hold of that sum in a sandbox is worth. -/
noncomputable def Tryd.pinned : Pinned := { name := "ytokonhcphhpogaadoor", sum := "a5fa34fd0c3b3d584a7ffce36d0bc4ac812b8680d5eec6a8f406cc4fd2e73e62", checked := Tryd.checked }
namespace Rows
def none {H : Type} : Left H := { results := [], args := [] }

/- WHAT THE LISTED PACKAGE-LEVEL VARIABLES READ AS WHEN THE CALL BEGINS. Each datum BY PROGRAM (the guide's laid-datum.mjs) off the statement by which the dump's own 'gosem.cut.vars' lays the variable. In a bare row this is a premise. The card (YtokonhcphhpogaaDoorCards.lean) ties it to the program's text. -/
def laid_argosy_code_rests {H : Type} : DataW H := .agg [.lit (.int .u32 0), .lit (.int .u32 274646895), .lit (.int .u32 549293790), .lit (.int .u32 820201905), .lit (.int .u32 1098587580), .lit (.int .u32 1361435347), .lit (.int .u32 1640403810), .lit (.int .u32 1905808397), .lit (.int .u32 2197175160), .lit (.int .u32 2460548119), .lit (.int .u32 2722870694), .lit (.int .u32 2987750089), .lit (.int .u32 3280807620), .lit (.int .u32 3553878443), .lit (.int .u32 3811616794), .lit (.int .u32 4084100981)]

/-- 'argosylaw08.SnapPacks': WHATEVER THE INPUT: true; the input reads as it did. -/
def snapPacksSpec : ChangeSpec := { name := "snapPacks", fn := fun _ => fun
  | [d1, d2] => { results := [.lit (.bool true)], args := [d1, d2] }
  | _ => none }
def snapPacksRow : OpenClaim := { program := "ytokonhcphhpogaadoor", sum := "a5fa34fd0c3b3d584a7ffce36d0bc4ac812b8680d5eec6a8f406cc4fd2e73e62", func := "argosy/argosylaw08.SnapPacks", spec := "snapPacks", unfollowed := true, recurses := true, named := ["argosy/code.rests"], apart := false, laid := [("argosy/code.rests", laid_argosy_code_rests)] }
def SnapPacksSaid : Prop := snapPacksRow.holds Tryd.pinned (OpenSpec.ofChange snapPacksSpec)

/-- ITS FALSE NEIGHBOUR: 'it returns false'. Refute it at one input. -/
def snapPacksWrong : ChangeSpec := { name := "snapPacks", fn := fun _ => fun
  | [d1, d2] => { results := [.lit (.bool false)], args := [d1, d2] }
  | _ => none }
def SnapPacksWrongFalsely : Prop := snapPacksRow.holds Tryd.pinned (OpenSpec.ofChange snapPacksWrong)

/-- 'argosylaw08.SnapPlays': WHATEVER THE INPUT: true; the input reads as it did. -/
def snapPlaysSpec : ChangeSpec := { name := "snapPlays", fn := fun _ => fun
  | [d1, d2] => { results := [.lit (.bool true)], args := [d1, d2] }
  | _ => none }
def snapPlaysRow : OpenClaim := { program := "ytokonhcphhpogaadoor", sum := "a5fa34fd0c3b3d584a7ffce36d0bc4ac812b8680d5eec6a8f406cc4fd2e73e62", func := "argosy/argosylaw08.SnapPlays", spec := "snapPlays", unfollowed := true, recurses := true, named := ["argosy/code.rests"], apart := false, laid := [("argosy/code.rests", laid_argosy_code_rests)] }
def SnapPlaysSaid : Prop := snapPlaysRow.holds Tryd.pinned (OpenSpec.ofChange snapPlaysSpec)

/-- ITS FALSE NEIGHBOUR: 'it returns false'. Refute it at one input. -/
def snapPlaysWrong : ChangeSpec := { name := "snapPlays", fn := fun _ => fun
  | [d1, d2] => { results := [.lit (.bool false)], args := [d1, d2] }
  | _ => none }
def SnapPlaysWrongFalsely : Prop := snapPlaysRow.holds Tryd.pinned (OpenSpec.ofChange snapPlaysWrong)

/-- 'argosylaw08.SnapAtomic': WHATEVER THE INPUT: true; the input reads as it did. -/
def snapAtomicSpec : ChangeSpec := { name := "snapAtomic", fn := fun _ => fun
  | [d1, d2, d3] => { results := [.lit (.bool true)], args := [d1, d2, d3] }
  | _ => none }
def snapAtomicRow : OpenClaim := { program := "ytokonhcphhpogaadoor", sum := "a5fa34fd0c3b3d584a7ffce36d0bc4ac812b8680d5eec6a8f406cc4fd2e73e62", func := "argosy/argosylaw08.SnapAtomic", spec := "snapAtomic", unfollowed := true, recurses := true, named := ["argosy/code.rests"], apart := false, laid := [("argosy/code.rests", laid_argosy_code_rests)] }
def SnapAtomicSaid : Prop := snapAtomicRow.holds Tryd.pinned (OpenSpec.ofChange snapAtomicSpec)

/-- ITS FALSE NEIGHBOUR: 'it returns false'. Refute it at one input. -/
def snapAtomicWrong : ChangeSpec := { name := "snapAtomic", fn := fun _ => fun
  | [d1, d2, d3] => { results := [.lit (.bool false)], args := [d1, d2, d3] }
  | _ => none }
def SnapAtomicWrongFalsely : Prop := snapAtomicRow.holds Tryd.pinned (OpenSpec.ofChange snapAtomicWrong)

/-- 'argosylaw08.SnapBeside': WHATEVER THE INPUT: true; the input reads as it did. -/
def snapBesideSpec : ChangeSpec := { name := "snapBeside", fn := fun _ => fun
  | [d1, d2] => { results := [.lit (.bool true)], args := [d1, d2] }
  | _ => none }
def snapBesideRow : OpenClaim := { program := "ytokonhcphhpogaadoor", sum := "a5fa34fd0c3b3d584a7ffce36d0bc4ac812b8680d5eec6a8f406cc4fd2e73e62", func := "argosy/argosylaw08.SnapBeside", spec := "snapBeside", unfollowed := true, recurses := true, named := ["argosy/code.rests"], apart := false, laid := [("argosy/code.rests", laid_argosy_code_rests)] }
def SnapBesideSaid : Prop := snapBesideRow.holds Tryd.pinned (OpenSpec.ofChange snapBesideSpec)

/-- ITS FALSE NEIGHBOUR: 'it returns false'. Refute it at one input. -/
def snapBesideWrong : ChangeSpec := { name := "snapBeside", fn := fun _ => fun
  | [d1, d2] => { results := [.lit (.bool false)], args := [d1, d2] }
  | _ => none }
def SnapBesideWrongFalsely : Prop := snapBesideRow.holds Tryd.pinned (OpenSpec.ofChange snapBesideWrong)

/-- 'argosylaw08.SnapUnlike': WHATEVER THE INPUT: true; the input reads as it did. -/
def snapUnlikeSpec : ChangeSpec := { name := "snapUnlike", fn := fun _ => fun
  | [d1, d2, d3] => { results := [.lit (.bool true)], args := [d1, d2, d3] }
  | _ => none }
def snapUnlikeRow : OpenClaim := { program := "ytokonhcphhpogaadoor", sum := "a5fa34fd0c3b3d584a7ffce36d0bc4ac812b8680d5eec6a8f406cc4fd2e73e62", func := "argosy/argosylaw08.SnapUnlike", spec := "snapUnlike", unfollowed := true, recurses := true, named := ["argosy/code.rests"], apart := false, laid := [("argosy/code.rests", laid_argosy_code_rests)] }
def SnapUnlikeSaid : Prop := snapUnlikeRow.holds Tryd.pinned (OpenSpec.ofChange snapUnlikeSpec)

/-- ITS FALSE NEIGHBOUR: 'it returns false'. Refute it at one input. -/
def snapUnlikeWrong : ChangeSpec := { name := "snapUnlike", fn := fun _ => fun
  | [d1, d2, d3] => { results := [.lit (.bool false)], args := [d1, d2, d3] }
  | _ => none }
def SnapUnlikeWrongFalsely : Prop := snapUnlikeRow.holds Tryd.pinned (OpenSpec.ofChange snapUnlikeWrong)

/- THE SECOND FORM. 'bulk': how many values and letters a reading holds, each counted each time it is reached (what is shared counts as often as it is met; a slice's spare places count too). A statement '..UptoSaid' is the law's where the arguments, and the package variables that the reading takes, are together of bulk at most 1048576: NARROWER than '..Said'. Prove '..Said' where nothing that the law and all that it calls make is longer than what came in: it says more and counts as full. Else prove '..UptoSaid'. A law counts once. -/
mutual
def uptoBulk {H : Type} : DataW H → Nat
  | .lit (.string bytes) => bytes.length + 1
  | .lit _ => 1
  | .nil => 1
  | .ptr d => uptoBulk d + 1
  | .slice elems spare => uptoBulkAll elems + uptoBulkAll spare + 1
  | .agg parts => uptoBulkAll parts + 1
  | .iface _ d => uptoBulk d + 1
  | .map entries => uptoBulkEntries entries + 1
  | .held _ => 1
def uptoBulkAll {H : Type} : List (DataW H) → Nat
  | [] => 0
  | d :: r => uptoBulk d + uptoBulkAll r
def uptoBulkEntries {H : Type} : List (Lit × DataW H) → Nat
  | [] => 0
  | x :: r => uptoBulkEntry x + uptoBulkEntries r
def uptoBulkEntry {H : Type} : Lit × DataW H → Nat
  | (.string bytes, d) => bytes.length + uptoBulk d + 1
  | (_, d) => uptoBulk d + 1
 end
def uptoSmall : (H : Type) → List (DataW H) → Bool := fun _ ds => decide (uptoBulkAll ds ≤ 1048576)
def OpenSpec.upto (s : _root_.Go.ChangeSpec) : _root_.Go.OpenSpec := { _root_.Go.OpenSpec.ofChange s with cond := some uptoSmall }

/-- 'argosylaw08.SnapPacks', WHERE WHAT IT READS IS OF BULK AT MOST 1048576: true; the input reads as it did. -/
def snapPacksUptoRow : OpenClaim := { program := "ytokonhcphhpogaadoor", sum := "a5fa34fd0c3b3d584a7ffce36d0bc4ac812b8680d5eec6a8f406cc4fd2e73e62", func := "argosy/argosylaw08.SnapPacks", spec := "snapPacks", unfollowed := true, recurses := true, named := ["argosy/code.rests"], apart := false, laid := [("argosy/code.rests", laid_argosy_code_rests)], narrowed := true }
def SnapPacksUptoSaid : Prop := snapPacksUptoRow.holds Tryd.pinned (OpenSpec.upto snapPacksSpec)

/-- 'argosylaw08.SnapPlays', WHERE WHAT IT READS IS OF BULK AT MOST 1048576: true; the input reads as it did. -/
def snapPlaysUptoRow : OpenClaim := { program := "ytokonhcphhpogaadoor", sum := "a5fa34fd0c3b3d584a7ffce36d0bc4ac812b8680d5eec6a8f406cc4fd2e73e62", func := "argosy/argosylaw08.SnapPlays", spec := "snapPlays", unfollowed := true, recurses := true, named := ["argosy/code.rests"], apart := false, laid := [("argosy/code.rests", laid_argosy_code_rests)], narrowed := true }
def SnapPlaysUptoSaid : Prop := snapPlaysUptoRow.holds Tryd.pinned (OpenSpec.upto snapPlaysSpec)

/-- 'argosylaw08.SnapAtomic', WHERE WHAT IT READS IS OF BULK AT MOST 1048576: true; the input reads as it did. -/
def snapAtomicUptoRow : OpenClaim := { program := "ytokonhcphhpogaadoor", sum := "a5fa34fd0c3b3d584a7ffce36d0bc4ac812b8680d5eec6a8f406cc4fd2e73e62", func := "argosy/argosylaw08.SnapAtomic", spec := "snapAtomic", unfollowed := true, recurses := true, named := ["argosy/code.rests"], apart := false, laid := [("argosy/code.rests", laid_argosy_code_rests)], narrowed := true }
def SnapAtomicUptoSaid : Prop := snapAtomicUptoRow.holds Tryd.pinned (OpenSpec.upto snapAtomicSpec)

/-- 'argosylaw08.SnapBeside', WHERE WHAT IT READS IS OF BULK AT MOST 1048576: true; the input reads as it did. -/
def snapBesideUptoRow : OpenClaim := { program := "ytokonhcphhpogaadoor", sum := "a5fa34fd0c3b3d584a7ffce36d0bc4ac812b8680d5eec6a8f406cc4fd2e73e62", func := "argosy/argosylaw08.SnapBeside", spec := "snapBeside", unfollowed := true, recurses := true, named := ["argosy/code.rests"], apart := false, laid := [("argosy/code.rests", laid_argosy_code_rests)], narrowed := true }
def SnapBesideUptoSaid : Prop := snapBesideUptoRow.holds Tryd.pinned (OpenSpec.upto snapBesideSpec)

/-- 'argosylaw08.SnapUnlike', WHERE WHAT IT READS IS OF BULK AT MOST 1048576: true; the input reads as it did. -/
def snapUnlikeUptoRow : OpenClaim := { program := "ytokonhcphhpogaadoor", sum := "a5fa34fd0c3b3d584a7ffce36d0bc4ac812b8680d5eec6a8f406cc4fd2e73e62", func := "argosy/argosylaw08.SnapUnlike", spec := "snapUnlike", unfollowed := true, recurses := true, named := ["argosy/code.rests"], apart := false, laid := [("argosy/code.rests", laid_argosy_code_rests)], narrowed := true }
def SnapUnlikeUptoSaid : Prop := snapUnlikeUptoRow.holds Tryd.pinned (OpenSpec.upto snapUnlikeSpec)

end Rows
end Go.Proofs.YtokonhcphhpogaaDoor
