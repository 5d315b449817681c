/-
  No cell of these rows narrows 'for every input' (looked for: loops, veiled, ifaces, maps, wideKeys, modest, calm, conditions, laid).
  DERIVED. THE GIVEN ROWS OF THIS SEAT. 10 by the template 'for every input the law returns true; each argument reads behind the call as it read before'; 0 by the template 'total and deterministic' (their statements: YtkjjjphpbkcebaaTotals.lean).
  GIVEN WITH THE SEED: the statements are not yours to turn. If you find one false, say at which input.
  Laid BY PROGRAM, IN A SANDBOX (cutbox-rows.mjs): the forced cells as the released guide's own fill.sh prints them over the translation ba367fc5bf0083b9… (all of the seat's roots in one cut). By AI agents, Wed Nov 11 2026. No macro, syntax, notation, axiom, sorry.
-/
import Derived.Test.YtkjjjphpbkcebaaChecked
import GoSem.Claim
import GoSem.ClaimJoined
import GoSem.ClaimMapViews
import Derived.JoinedTies
import Derived.KernelRfl
namespace Go.Proofs.Ytkjjjphpbkcebaa
/- THE CELL 'sum', in the pinned program and in every row, IS THE sha256 OF THE DUMP (.gsa) THAT YtkjjjphpbkcebaaProg.lean LOADS. Nothing in Lean hashes anything: it is a label: what it is worth is what the hold of that sum in a sandbox is worth. -/
noncomputable def Try.pinned : Pinned := { name := "ytkjjjphpbkcebaa", sum := "ba367fc5bf0083b90b3bdc084c6621b1d6272ee9e37757c326b2ff8c78ab09d8", checked := Try.checked }
namespace Rows
def none {H : Type} : Left H := { results := [], args := [] }

/-- 'baseboardlaw04.ConvertValues': WHATEVER THE INPUT: true; the input reads as it did. -/
def convertValuesSpec : ChangeSpec := { name := "convertValues", fn := fun _ => fun
  | [d1, d2, d3] => { results := [.lit (.bool true)], args := [d1, d2, d3] }
  | _ => none }
def convertValuesRow : OpenClaim := { program := "ytkjjjphpbkcebaa", sum := "ba367fc5bf0083b90b3bdc084c6621b1d6272ee9e37757c326b2ff8c78ab09d8", func := "baseboard/baseboardlaw04.ConvertValues", spec := "convertValues", apart := false }
def ConvertValuesSaid : Prop := convertValuesRow.holds Try.pinned (OpenSpec.ofChange convertValuesSpec)

/-- ITS FALSE NEIGHBOUR: 'it returns false'. Refute it at one input. -/
def convertValuesWrong : ChangeSpec := { name := "convertValues", fn := fun _ => fun
  | [d1, d2, d3] => { results := [.lit (.bool false)], args := [d1, d2, d3] }
  | _ => none }
def ConvertValuesWrongFalsely : Prop := convertValuesRow.holds Try.pinned (OpenSpec.ofChange convertValuesWrong)

/-- 'baseboardlaw04.ConvertNearest': WHATEVER THE INPUT: true; the input reads as it did. -/
def convertNearestSpec : ChangeSpec := { name := "convertNearest", fn := fun _ => fun
  | [d1, d2] => { results := [.lit (.bool true)], args := [d1, d2] }
  | _ => none }
def convertNearestRow : OpenClaim := { program := "ytkjjjphpbkcebaa", sum := "ba367fc5bf0083b90b3bdc084c6621b1d6272ee9e37757c326b2ff8c78ab09d8", func := "baseboard/baseboardlaw04.ConvertNearest", spec := "convertNearest", unfollowed := true, recurses := true, apart := false }
def ConvertNearestSaid : Prop := convertNearestRow.holds Try.pinned (OpenSpec.ofChange convertNearestSpec)

/-- ITS FALSE NEIGHBOUR: 'it returns false'. Refute it at one input. -/
def convertNearestWrong : ChangeSpec := { name := "convertNearest", fn := fun _ => fun
  | [d1, d2] => { results := [.lit (.bool false)], args := [d1, d2] }
  | _ => none }
def ConvertNearestWrongFalsely : Prop := convertNearestRow.holds Try.pinned (OpenSpec.ofChange convertNearestWrong)

/-- 'baseboardlaw04.ConvertDirections': WHATEVER THE INPUT: true; the input reads as it did. -/
def convertDirectionsSpec : ChangeSpec := { name := "convertDirections", fn := fun _ => fun
  | [d] => { results := [.lit (.bool true)], args := [d] }
  | _ => none }
def convertDirectionsRow : OpenClaim := { program := "ytkjjjphpbkcebaa", sum := "ba367fc5bf0083b90b3bdc084c6621b1d6272ee9e37757c326b2ff8c78ab09d8", func := "baseboard/baseboardlaw04.ConvertDirections", spec := "convertDirections", unfollowed := true, recurses := true, apart := false }
def ConvertDirectionsSaid : Prop := convertDirectionsRow.holds Try.pinned (OpenSpec.ofChange convertDirectionsSpec)

/-- ITS FALSE NEIGHBOUR: 'it returns false'. Refute it at one input. -/
def convertDirectionsWrong : ChangeSpec := { name := "convertDirections", fn := fun _ => fun
  | [d] => { results := [.lit (.bool false)], args := [d] }
  | _ => none }
def ConvertDirectionsWrongFalsely : Prop := convertDirectionsRow.holds Try.pinned (OpenSpec.ofChange convertDirectionsWrong)

/-- 'baseboardlaw04.ConvertBytes': WHATEVER THE INPUT: true; the input reads as it did. -/
def convertBytesSpec : ChangeSpec := { name := "convertBytes", fn := fun _ => fun
  | [d1, d2, d3, d4] => { results := [.lit (.bool true)], args := [d1, d2, d3, d4] }
  | _ => none }
def convertBytesRow : OpenClaim := { program := "ytkjjjphpbkcebaa", sum := "ba367fc5bf0083b90b3bdc084c6621b1d6272ee9e37757c326b2ff8c78ab09d8", func := "baseboard/baseboardlaw04.ConvertBytes", spec := "convertBytes", apart := false }
def ConvertBytesSaid : Prop := convertBytesRow.holds Try.pinned (OpenSpec.ofChange convertBytesSpec)

/-- ITS FALSE NEIGHBOUR: 'it returns false'. Refute it at one input. -/
def convertBytesWrong : ChangeSpec := { name := "convertBytes", fn := fun _ => fun
  | [d1, d2, d3, d4] => { results := [.lit (.bool false)], args := [d1, d2, d3, d4] }
  | _ => none }
def ConvertBytesWrongFalsely : Prop := convertBytesRow.holds Try.pinned (OpenSpec.ofChange convertBytesWrong)

/-- 'baseboardlaw04.ConvertReturns': WHATEVER THE INPUT: true; the input reads as it did. -/
def convertReturnsSpec : ChangeSpec := { name := "convertReturns", fn := fun _ => fun
  | [d1, d2, d3] => { results := [.lit (.bool true)], args := [d1, d2, d3] }
  | _ => none }
def convertReturnsRow : OpenClaim := { program := "ytkjjjphpbkcebaa", sum := "ba367fc5bf0083b90b3bdc084c6621b1d6272ee9e37757c326b2ff8c78ab09d8", func := "baseboard/baseboardlaw04.ConvertReturns", spec := "convertReturns", apart := false }
def ConvertReturnsSaid : Prop := convertReturnsRow.holds Try.pinned (OpenSpec.ofChange convertReturnsSpec)

/-- ITS FALSE NEIGHBOUR: 'it returns false'. Refute it at one input. -/
def convertReturnsWrong : ChangeSpec := { name := "convertReturns", fn := fun _ => fun
  | [d1, d2, d3] => { results := [.lit (.bool false)], args := [d1, d2, d3] }
  | _ => none }
def ConvertReturnsWrongFalsely : Prop := convertReturnsRow.holds Try.pinned (OpenSpec.ofChange convertReturnsWrong)

/-- 'baseboardlaw04.ConvertSteps': WHATEVER THE INPUT: true; the input reads as it did. -/
def convertStepsSpec : ChangeSpec := { name := "convertSteps", fn := fun _ => fun
  | [d1, d2] => { results := [.lit (.bool true)], args := [d1, d2] }
  | _ => none }
def convertStepsRow : OpenClaim := { program := "ytkjjjphpbkcebaa", sum := "ba367fc5bf0083b90b3bdc084c6621b1d6272ee9e37757c326b2ff8c78ab09d8", func := "baseboard/baseboardlaw04.ConvertSteps", spec := "convertSteps", apart := false }
def ConvertStepsSaid : Prop := convertStepsRow.holds Try.pinned (OpenSpec.ofChange convertStepsSpec)

/-- ITS FALSE NEIGHBOUR: 'it returns false'. Refute it at one input. -/
def convertStepsWrong : ChangeSpec := { name := "convertSteps", fn := fun _ => fun
  | [d1, d2] => { results := [.lit (.bool false)], args := [d1, d2] }
  | _ => none }
def ConvertStepsWrongFalsely : Prop := convertStepsRow.holds Try.pinned (OpenSpec.ofChange convertStepsWrong)

/-- 'baseboardlaw04.ConvertBetween': WHATEVER THE INPUT: true; the input reads as it did. -/
def convertBetweenSpec : ChangeSpec := { name := "convertBetween", fn := fun _ => fun
  | [d1, d2, d3] => { results := [.lit (.bool true)], args := [d1, d2, d3] }
  | _ => none }
def convertBetweenRow : OpenClaim := { program := "ytkjjjphpbkcebaa", sum := "ba367fc5bf0083b90b3bdc084c6621b1d6272ee9e37757c326b2ff8c78ab09d8", func := "baseboard/baseboardlaw04.ConvertBetween", spec := "convertBetween", apart := false }
def ConvertBetweenSaid : Prop := convertBetweenRow.holds Try.pinned (OpenSpec.ofChange convertBetweenSpec)

/-- ITS FALSE NEIGHBOUR: 'it returns false'. Refute it at one input. -/
def convertBetweenWrong : ChangeSpec := { name := "convertBetween", fn := fun _ => fun
  | [d1, d2, d3] => { results := [.lit (.bool false)], args := [d1, d2, d3] }
  | _ => none }
def ConvertBetweenWrongFalsely : Prop := convertBetweenRow.holds Try.pinned (OpenSpec.ofChange convertBetweenWrong)

/-- 'baseboardlaw04.ConvertNear': WHATEVER THE INPUT: true; the input reads as it did. -/
def convertNearSpec : ChangeSpec := { name := "convertNear", fn := fun _ => fun
  | [d1, d2, d3] => { results := [.lit (.bool true)], args := [d1, d2, d3] }
  | _ => none }
def convertNearRow : OpenClaim := { program := "ytkjjjphpbkcebaa", sum := "ba367fc5bf0083b90b3bdc084c6621b1d6272ee9e37757c326b2ff8c78ab09d8", func := "baseboard/baseboardlaw04.ConvertNear", spec := "convertNear", unfollowed := true, recurses := true, apart := false }
def ConvertNearSaid : Prop := convertNearRow.holds Try.pinned (OpenSpec.ofChange convertNearSpec)

/-- ITS FALSE NEIGHBOUR: 'it returns false'. Refute it at one input. -/
def convertNearWrong : ChangeSpec := { name := "convertNear", fn := fun _ => fun
  | [d1, d2, d3] => { results := [.lit (.bool false)], args := [d1, d2, d3] }
  | _ => none }
def ConvertNearWrongFalsely : Prop := convertNearRow.holds Try.pinned (OpenSpec.ofChange convertNearWrong)

/-- 'baseboardlaw04.ConvertMonotone': WHATEVER THE INPUT: true; the input reads as it did. -/
def convertMonotoneSpec : ChangeSpec := { name := "convertMonotone", fn := fun _ => fun
  | [d1, d2, d3] => { results := [.lit (.bool true)], args := [d1, d2, d3] }
  | _ => none }
def convertMonotoneRow : OpenClaim := { program := "ytkjjjphpbkcebaa", sum := "ba367fc5bf0083b90b3bdc084c6621b1d6272ee9e37757c326b2ff8c78ab09d8", func := "baseboard/baseboardlaw04.ConvertMonotone", spec := "convertMonotone", unfollowed := true, recurses := true, apart := false }
def ConvertMonotoneSaid : Prop := convertMonotoneRow.holds Try.pinned (OpenSpec.ofChange convertMonotoneSpec)

/-- ITS FALSE NEIGHBOUR: 'it returns false'. Refute it at one input. -/
def convertMonotoneWrong : ChangeSpec := { name := "convertMonotone", fn := fun _ => fun
  | [d1, d2, d3] => { results := [.lit (.bool false)], args := [d1, d2, d3] }
  | _ => none }
def ConvertMonotoneWrongFalsely : Prop := convertMonotoneRow.holds Try.pinned (OpenSpec.ofChange convertMonotoneWrong)

/-- 'baseboardlaw04.ConvertForms': WHATEVER THE INPUT: true; the input reads as it did. -/
def convertFormsSpec : ChangeSpec := { name := "convertForms", fn := fun _ => fun
  | [d1, d2] => { results := [.lit (.bool true)], args := [d1, d2] }
  | _ => none }
def convertFormsRow : OpenClaim := { program := "ytkjjjphpbkcebaa", sum := "ba367fc5bf0083b90b3bdc084c6621b1d6272ee9e37757c326b2ff8c78ab09d8", func := "baseboard/baseboardlaw04.ConvertForms", spec := "convertForms", apart := false }
def ConvertFormsSaid : Prop := convertFormsRow.holds Try.pinned (OpenSpec.ofChange convertFormsSpec)

/-- ITS FALSE NEIGHBOUR: 'it returns false'. Refute it at one input. -/
def convertFormsWrong : ChangeSpec := { name := "convertForms", fn := fun _ => fun
  | [d1, d2] => { results := [.lit (.bool false)], args := [d1, d2] }
  | _ => none }
def ConvertFormsWrongFalsely : Prop := convertFormsRow.holds Try.pinned (OpenSpec.ofChange convertFormsWrong)

/- THE SECOND FORM. 'bulk': how many values and letters a reading holds, each counted each time it is reached (what is shared counts as often as it is met; a slice's spare places count too). A statement '..UptoSaid' is the law's where the arguments, and the package variables that the reading takes, are together of bulk at most 1048576: NARROWER than '..Said'. Prove '..Said' where nothing that the law and all that it calls make is longer than what came in: it says more and counts as full. Else prove '..UptoSaid'. A law counts once. -/
mutual
def uptoBulk {H : Type} : DataW H → Nat
  | .lit (.string bytes) => bytes.length + 1
  | .lit _ => 1
  | .nil => 1
  | .ptr d => uptoBulk d + 1
  | .slice elems spare => uptoBulkAll elems + uptoBulkAll spare + 1
  | .agg parts => uptoBulkAll parts + 1
  | .iface _ d => uptoBulk d + 1
  | .map entries => uptoBulkEntries entries + 1
  | .held _ => 1
def uptoBulkAll {H : Type} : List (DataW H) → Nat
  | [] => 0
  | d :: r => uptoBulk d + uptoBulkAll r
def uptoBulkEntries {H : Type} : List (Lit × DataW H) → Nat
  | [] => 0
  | x :: r => uptoBulkEntry x + uptoBulkEntries r
def uptoBulkEntry {H : Type} : Lit × DataW H → Nat
  | (.string bytes, d) => bytes.length + uptoBulk d + 1
  | (_, d) => uptoBulk d + 1
 end
def uptoSmall : (H : Type) → List (DataW H) → Bool := fun _ ds => decide (uptoBulkAll ds ≤ 1048576)
def OpenSpec.upto (s : _root_.Go.ChangeSpec) : _root_.Go.OpenSpec := { _root_.Go.OpenSpec.ofChange s with cond := some uptoSmall }

/-- 'baseboardlaw04.ConvertValues', WHERE WHAT IT READS IS OF BULK AT MOST 1048576: true; the input reads as it did. -/
def convertValuesUptoRow : OpenClaim := { program := "ytkjjjphpbkcebaa", sum := "ba367fc5bf0083b90b3bdc084c6621b1d6272ee9e37757c326b2ff8c78ab09d8", func := "baseboard/baseboardlaw04.ConvertValues", spec := "convertValues", apart := false, narrowed := true }
def ConvertValuesUptoSaid : Prop := convertValuesUptoRow.holds Try.pinned (OpenSpec.upto convertValuesSpec)

/-- 'baseboardlaw04.ConvertNearest', WHERE WHAT IT READS IS OF BULK AT MOST 1048576: true; the input reads as it did. -/
def convertNearestUptoRow : OpenClaim := { program := "ytkjjjphpbkcebaa", sum := "ba367fc5bf0083b90b3bdc084c6621b1d6272ee9e37757c326b2ff8c78ab09d8", func := "baseboard/baseboardlaw04.ConvertNearest", spec := "convertNearest", unfollowed := true, recurses := true, apart := false, narrowed := true }
def ConvertNearestUptoSaid : Prop := convertNearestUptoRow.holds Try.pinned (OpenSpec.upto convertNearestSpec)

/-- 'baseboardlaw04.ConvertDirections', WHERE WHAT IT READS IS OF BULK AT MOST 1048576: true; the input reads as it did. -/
def convertDirectionsUptoRow : OpenClaim := { program := "ytkjjjphpbkcebaa", sum := "ba367fc5bf0083b90b3bdc084c6621b1d6272ee9e37757c326b2ff8c78ab09d8", func := "baseboard/baseboardlaw04.ConvertDirections", spec := "convertDirections", unfollowed := true, recurses := true, apart := false, narrowed := true }
def ConvertDirectionsUptoSaid : Prop := convertDirectionsUptoRow.holds Try.pinned (OpenSpec.upto convertDirectionsSpec)

/-- 'baseboardlaw04.ConvertBytes', WHERE WHAT IT READS IS OF BULK AT MOST 1048576: true; the input reads as it did. -/
def convertBytesUptoRow : OpenClaim := { program := "ytkjjjphpbkcebaa", sum := "ba367fc5bf0083b90b3bdc084c6621b1d6272ee9e37757c326b2ff8c78ab09d8", func := "baseboard/baseboardlaw04.ConvertBytes", spec := "convertBytes", apart := false, narrowed := true }
def ConvertBytesUptoSaid : Prop := convertBytesUptoRow.holds Try.pinned (OpenSpec.upto convertBytesSpec)

/-- 'baseboardlaw04.ConvertReturns', WHERE WHAT IT READS IS OF BULK AT MOST 1048576: true; the input reads as it did. -/
def convertReturnsUptoRow : OpenClaim := { program := "ytkjjjphpbkcebaa", sum := "ba367fc5bf0083b90b3bdc084c6621b1d6272ee9e37757c326b2ff8c78ab09d8", func := "baseboard/baseboardlaw04.ConvertReturns", spec := "convertReturns", apart := false, narrowed := true }
def ConvertReturnsUptoSaid : Prop := convertReturnsUptoRow.holds Try.pinned (OpenSpec.upto convertReturnsSpec)

/-- 'baseboardlaw04.ConvertSteps', WHERE WHAT IT READS IS OF BULK AT MOST 1048576: true; the input reads as it did. -/
def convertStepsUptoRow : OpenClaim := { program := "ytkjjjphpbkcebaa", sum := "ba367fc5bf0083b90b3bdc084c6621b1d6272ee9e37757c326b2ff8c78ab09d8", func := "baseboard/baseboardlaw04.ConvertSteps", spec := "convertSteps", apart := false, narrowed := true }
def ConvertStepsUptoSaid : Prop := convertStepsUptoRow.holds Try.pinned (OpenSpec.upto convertStepsSpec)

/-- 'baseboardlaw04.ConvertBetween', WHERE WHAT IT READS IS OF BULK AT MOST 1048576: true; the input reads as it did. -/
def convertBetweenUptoRow : OpenClaim := { program := "ytkjjjphpbkcebaa", sum := "ba367fc5bf0083b90b3bdc084c6621b1d6272ee9e37757c326b2ff8c78ab09d8", func := "baseboard/baseboardlaw04.ConvertBetween", spec := "convertBetween", apart := false, narrowed := true }
def ConvertBetweenUptoSaid : Prop := convertBetweenUptoRow.holds Try.pinned (OpenSpec.upto convertBetweenSpec)

/-- 'baseboardlaw04.ConvertNear', WHERE WHAT IT READS IS OF BULK AT MOST 1048576: true; the input reads as it did. -/
def convertNearUptoRow : OpenClaim := { program := "ytkjjjphpbkcebaa", sum := "ba367fc5bf0083b90b3bdc084c6621b1d6272ee9e37757c326b2ff8c78ab09d8", func := "baseboard/baseboardlaw04.ConvertNear", spec := "convertNear", unfollowed := true, recurses := true, apart := false, narrowed := true }
def ConvertNearUptoSaid : Prop := convertNearUptoRow.holds Try.pinned (OpenSpec.upto convertNearSpec)

/-- 'baseboardlaw04.ConvertMonotone', WHERE WHAT IT READS IS OF BULK AT MOST 1048576: true; the input reads as it did. -/
def convertMonotoneUptoRow : OpenClaim := { program := "ytkjjjphpbkcebaa", sum := "ba367fc5bf0083b90b3bdc084c6621b1d6272ee9e37757c326b2ff8c78ab09d8", func := "baseboard/baseboardlaw04.ConvertMonotone", spec := "convertMonotone", unfollowed := true, recurses := true, apart := false, narrowed := true }
def ConvertMonotoneUptoSaid : Prop := convertMonotoneUptoRow.holds Try.pinned (OpenSpec.upto convertMonotoneSpec)

/-- 'baseboardlaw04.ConvertForms', WHERE WHAT IT READS IS OF BULK AT MOST 1048576: true; the input reads as it did. -/
def convertFormsUptoRow : OpenClaim := { program := "ytkjjjphpbkcebaa", sum := "ba367fc5bf0083b90b3bdc084c6621b1d6272ee9e37757c326b2ff8c78ab09d8", func := "baseboard/baseboardlaw04.ConvertForms", spec := "convertForms", apart := false, narrowed := true }
def ConvertFormsUptoSaid : Prop := convertFormsUptoRow.holds Try.pinned (OpenSpec.upto convertFormsSpec)

end Rows
end Go.Proofs.Ytkjjjphpbkcebaa
