/-
  No cell of these rows narrows 'for every input' (looked for: loops, veiled, ifaces, maps, wideKeys, modest, calm, conditions, laid).
  DERIVED. THE GIVEN ROWS OF THIS SEAT. 7 by the template 'for every input the law returns true; each argument reads behind the call as it read before'; 0 by the template 'total and deterministic' (their statements: YtekhpcfggbegaaaTotals.lean).
  GIVEN WITH THE SEED: the statements are not yours to turn. If you find one false, say at which input.
  Laid BY PROGRAM, IN A SANDBOX (cutbox-rows.mjs): the forced cells as the released guide's own fill.sh prints them over the translation 847b0a45327a2693… (all of the seat's roots in one cut). By AI agents, Wed Nov 11 2026. No macro, syntax, notation, axiom, sorry.
-/
import Derived.Test.YtekhpcfggbegaaaChecked
import GoSem.Claim
import GoSem.ClaimJoined
import GoSem.ClaimMapViews
import Derived.JoinedTies
import Derived.KernelRfl
namespace Go.Proofs.Ytekhpcfggbegaaa
/- THE CELL 'sum', in the pinned program and in every row, IS THE sha256 OF THE DUMP (.gsa) THAT YtekhpcfggbegaaaProg.lean LOADS. Nothing in Lean hashes anything: it is a label: what it is worth is what the hold of that sum in a sandbox is worth. -/
noncomputable def Try.pinned : Pinned := { name := "ytekhpcfggbegaaa", sum := "847b0a45327a26938798fd4510908772cf1f038c85399198150823099e4b1018", checked := Try.checked }
namespace Rows
def none {H : Type} : Left H := { results := [], args := [] }

/-- 'baseboardlaw14.SamplingSteps': WHATEVER THE INPUT: true; the input reads as it did. -/
def samplingStepsSpec : ChangeSpec := { name := "samplingSteps", fn := fun _ => fun
  | [d1, d2, d3, d4, d5] => { results := [.lit (.bool true)], args := [d1, d2, d3, d4, d5] }
  | _ => none }
def samplingStepsRow : OpenClaim := { program := "ytekhpcfggbegaaa", sum := "847b0a45327a26938798fd4510908772cf1f038c85399198150823099e4b1018", func := "baseboard/baseboardlaw14.SamplingSteps", spec := "samplingSteps", unfollowed := true, recurses := true, apart := false }
def SamplingStepsSaid : Prop := samplingStepsRow.holds Try.pinned (OpenSpec.ofChange samplingStepsSpec)

/-- ITS FALSE NEIGHBOUR: 'it returns false'. Refute it at one input. -/
def samplingStepsWrong : ChangeSpec := { name := "samplingSteps", fn := fun _ => fun
  | [d1, d2, d3, d4, d5] => { results := [.lit (.bool false)], args := [d1, d2, d3, d4, d5] }
  | _ => none }
def SamplingStepsWrongFalsely : Prop := samplingStepsRow.holds Try.pinned (OpenSpec.ofChange samplingStepsWrong)

/-- 'baseboardlaw14.SamplingMedian': WHATEVER THE INPUT: true; the input reads as it did. -/
def samplingMedianSpec : ChangeSpec := { name := "samplingMedian", fn := fun _ => fun
  | [d1, d2] => { results := [.lit (.bool true)], args := [d1, d2] }
  | _ => none }
def samplingMedianRow : OpenClaim := { program := "ytekhpcfggbegaaa", sum := "847b0a45327a26938798fd4510908772cf1f038c85399198150823099e4b1018", func := "baseboard/baseboardlaw14.SamplingMedian", spec := "samplingMedian", unfollowed := true, recurses := true, apart := false }
def SamplingMedianSaid : Prop := samplingMedianRow.holds Try.pinned (OpenSpec.ofChange samplingMedianSpec)

/-- ITS FALSE NEIGHBOUR: 'it returns false'. Refute it at one input. -/
def samplingMedianWrong : ChangeSpec := { name := "samplingMedian", fn := fun _ => fun
  | [d1, d2] => { results := [.lit (.bool false)], args := [d1, d2] }
  | _ => none }
def SamplingMedianWrongFalsely : Prop := samplingMedianRow.holds Try.pinned (OpenSpec.ofChange samplingMedianWrong)

/-- 'baseboardlaw14.SamplingOutliers': WHATEVER THE INPUT: true; the input reads as it did. -/
def samplingOutliersSpec : ChangeSpec := { name := "samplingOutliers", fn := fun _ => fun
  | [d1, d2, d3] => { results := [.lit (.bool true)], args := [d1, d2, d3] }
  | _ => none }
def samplingOutliersRow : OpenClaim := { program := "ytekhpcfggbegaaa", sum := "847b0a45327a26938798fd4510908772cf1f038c85399198150823099e4b1018", func := "baseboard/baseboardlaw14.SamplingOutliers", spec := "samplingOutliers", unfollowed := true, recurses := true, apart := false }
def SamplingOutliersSaid : Prop := samplingOutliersRow.holds Try.pinned (OpenSpec.ofChange samplingOutliersSpec)

/-- ITS FALSE NEIGHBOUR: 'it returns false'. Refute it at one input. -/
def samplingOutliersWrong : ChangeSpec := { name := "samplingOutliers", fn := fun _ => fun
  | [d1, d2, d3] => { results := [.lit (.bool false)], args := [d1, d2, d3] }
  | _ => none }
def SamplingOutliersWrongFalsely : Prop := samplingOutliersRow.holds Try.pinned (OpenSpec.ofChange samplingOutliersWrong)

/-- 'baseboardlaw14.SamplingForgets': WHATEVER THE INPUT: true; the input reads as it did. -/
def samplingForgetsSpec : ChangeSpec := { name := "samplingForgets", fn := fun _ => fun
  | [d1, d2, d3, d4] => { results := [.lit (.bool true)], args := [d1, d2, d3, d4] }
  | _ => none }
def samplingForgetsRow : OpenClaim := { program := "ytekhpcfggbegaaa", sum := "847b0a45327a26938798fd4510908772cf1f038c85399198150823099e4b1018", func := "baseboard/baseboardlaw14.SamplingForgets", spec := "samplingForgets", unfollowed := true, recurses := true, apart := false }
def SamplingForgetsSaid : Prop := samplingForgetsRow.holds Try.pinned (OpenSpec.ofChange samplingForgetsSpec)

/-- ITS FALSE NEIGHBOUR: 'it returns false'. Refute it at one input. -/
def samplingForgetsWrong : ChangeSpec := { name := "samplingForgets", fn := fun _ => fun
  | [d1, d2, d3, d4] => { results := [.lit (.bool false)], args := [d1, d2, d3, d4] }
  | _ => none }
def SamplingForgetsWrongFalsely : Prop := samplingForgetsRow.holds Try.pinned (OpenSpec.ofChange samplingForgetsWrong)

/-- 'baseboardlaw10.SensorBytes': WHATEVER THE INPUT: true; the input reads as it did. -/
def sensorBytesSpec : ChangeSpec := { name := "sensorBytes", fn := fun _ => fun
  | [d1, d2, d3] => { results := [.lit (.bool true)], args := [d1, d2, d3] }
  | _ => none }
def sensorBytesRow : OpenClaim := { program := "ytekhpcfggbegaaa", sum := "847b0a45327a26938798fd4510908772cf1f038c85399198150823099e4b1018", func := "baseboard/baseboardlaw10.SensorBytes", spec := "sensorBytes", apart := false }
def SensorBytesSaid : Prop := sensorBytesRow.holds Try.pinned (OpenSpec.ofChange sensorBytesSpec)

/-- ITS FALSE NEIGHBOUR: 'it returns false'. Refute it at one input. -/
def sensorBytesWrong : ChangeSpec := { name := "sensorBytes", fn := fun _ => fun
  | [d1, d2, d3] => { results := [.lit (.bool false)], args := [d1, d2, d3] }
  | _ => none }
def SensorBytesWrongFalsely : Prop := sensorBytesRow.holds Try.pinned (OpenSpec.ofChange sensorBytesWrong)

/-- 'baseboardlaw09.EventlogOrder': WHATEVER THE INPUT: true; the input reads as it did. -/
def eventlogOrderSpec : ChangeSpec := { name := "eventlogOrder", fn := fun _ => fun
  | [d1, d2, d3, d4, d5] => { results := [.lit (.bool true)], args := [d1, d2, d3, d4, d5] }
  | _ => none }
def eventlogOrderRow : OpenClaim := { program := "ytekhpcfggbegaaa", sum := "847b0a45327a26938798fd4510908772cf1f038c85399198150823099e4b1018", func := "baseboard/baseboardlaw09.EventlogOrder", spec := "eventlogOrder", unfollowed := true, recurses := true, apart := false }
def EventlogOrderSaid : Prop := eventlogOrderRow.holds Try.pinned (OpenSpec.ofChange eventlogOrderSpec)

/-- ITS FALSE NEIGHBOUR: 'it returns false'. Refute it at one input. -/
def eventlogOrderWrong : ChangeSpec := { name := "eventlogOrder", fn := fun _ => fun
  | [d1, d2, d3, d4, d5] => { results := [.lit (.bool false)], args := [d1, d2, d3, d4, d5] }
  | _ => none }
def EventlogOrderWrongFalsely : Prop := eventlogOrderRow.holds Try.pinned (OpenSpec.ofChange eventlogOrderWrong)

/-- 'baseboardlaw09.EventlogWalks': WHATEVER THE INPUT: true; the input reads as it did. -/
def eventlogWalksSpec : ChangeSpec := { name := "eventlogWalks", fn := fun _ => fun
  | [d1, d2, d3, d4, d5, d6] => { results := [.lit (.bool true)], args := [d1, d2, d3, d4, d5, d6] }
  | _ => none }
def eventlogWalksRow : OpenClaim := { program := "ytekhpcfggbegaaa", sum := "847b0a45327a26938798fd4510908772cf1f038c85399198150823099e4b1018", func := "baseboard/baseboardlaw09.EventlogWalks", spec := "eventlogWalks", unfollowed := true, recurses := true, apart := false }
def EventlogWalksSaid : Prop := eventlogWalksRow.holds Try.pinned (OpenSpec.ofChange eventlogWalksSpec)

/-- ITS FALSE NEIGHBOUR: 'it returns false'. Refute it at one input. -/
def eventlogWalksWrong : ChangeSpec := { name := "eventlogWalks", fn := fun _ => fun
  | [d1, d2, d3, d4, d5, d6] => { results := [.lit (.bool false)], args := [d1, d2, d3, d4, d5, d6] }
  | _ => none }
def EventlogWalksWrongFalsely : Prop := eventlogWalksRow.holds Try.pinned (OpenSpec.ofChange eventlogWalksWrong)

/- THE SECOND FORM. 'bulk': how many values and letters a reading holds, each counted each time it is reached (what is shared counts as often as it is met; a slice's spare places count too). A statement '..UptoSaid' is the law's where the arguments, and the package variables that the reading takes, are together of bulk at most 1048576: NARROWER than '..Said'. Prove '..Said' where nothing that the law and all that it calls make is longer than what came in: it says more and counts as full. Else prove '..UptoSaid'. A law counts once. -/
mutual
def uptoBulk {H : Type} : DataW H → Nat
  | .lit (.string bytes) => bytes.length + 1
  | .lit _ => 1
  | .nil => 1
  | .ptr d => uptoBulk d + 1
  | .slice elems spare => uptoBulkAll elems + uptoBulkAll spare + 1
  | .agg parts => uptoBulkAll parts + 1
  | .iface _ d => uptoBulk d + 1
  | .map entries => uptoBulkEntries entries + 1
  | .held _ => 1
def uptoBulkAll {H : Type} : List (DataW H) → Nat
  | [] => 0
  | d :: r => uptoBulk d + uptoBulkAll r
def uptoBulkEntries {H : Type} : List (Lit × DataW H) → Nat
  | [] => 0
  | x :: r => uptoBulkEntry x + uptoBulkEntries r
def uptoBulkEntry {H : Type} : Lit × DataW H → Nat
  | (.string bytes, d) => bytes.length + uptoBulk d + 1
  | (_, d) => uptoBulk d + 1
 end
def uptoSmall : (H : Type) → List (DataW H) → Bool := fun _ ds => decide (uptoBulkAll ds ≤ 1048576)
def OpenSpec.upto (s : _root_.Go.ChangeSpec) : _root_.Go.OpenSpec := { _root_.Go.OpenSpec.ofChange s with cond := some uptoSmall }

/-- 'baseboardlaw14.SamplingSteps', WHERE WHAT IT READS IS OF BULK AT MOST 1048576: true; the input reads as it did. -/
def samplingStepsUptoRow : OpenClaim := { program := "ytekhpcfggbegaaa", sum := "847b0a45327a26938798fd4510908772cf1f038c85399198150823099e4b1018", func := "baseboard/baseboardlaw14.SamplingSteps", spec := "samplingSteps", unfollowed := true, recurses := true, apart := false, narrowed := true }
def SamplingStepsUptoSaid : Prop := samplingStepsUptoRow.holds Try.pinned (OpenSpec.upto samplingStepsSpec)

/-- 'baseboardlaw14.SamplingMedian', WHERE WHAT IT READS IS OF BULK AT MOST 1048576: true; the input reads as it did. -/
def samplingMedianUptoRow : OpenClaim := { program := "ytekhpcfggbegaaa", sum := "847b0a45327a26938798fd4510908772cf1f038c85399198150823099e4b1018", func := "baseboard/baseboardlaw14.SamplingMedian", spec := "samplingMedian", unfollowed := true, recurses := true, apart := false, narrowed := true }
def SamplingMedianUptoSaid : Prop := samplingMedianUptoRow.holds Try.pinned (OpenSpec.upto samplingMedianSpec)

/-- 'baseboardlaw14.SamplingOutliers', WHERE WHAT IT READS IS OF BULK AT MOST 1048576: true; the input reads as it did. -/
def samplingOutliersUptoRow : OpenClaim := { program := "ytekhpcfggbegaaa", sum := "847b0a45327a26938798fd4510908772cf1f038c85399198150823099e4b1018", func := "baseboard/baseboardlaw14.SamplingOutliers", spec := "samplingOutliers", unfollowed := true, recurses := true, apart := false, narrowed := true }
def SamplingOutliersUptoSaid : Prop := samplingOutliersUptoRow.holds Try.pinned (OpenSpec.upto samplingOutliersSpec)

/-- 'baseboardlaw14.SamplingForgets', WHERE WHAT IT READS IS OF BULK AT MOST 1048576: true; the input reads as it did. -/
def samplingForgetsUptoRow : OpenClaim := { program := "ytekhpcfggbegaaa", sum := "847b0a45327a26938798fd4510908772cf1f038c85399198150823099e4b1018", func := "baseboard/baseboardlaw14.SamplingForgets", spec := "samplingForgets", unfollowed := true, recurses := true, apart := false, narrowed := true }
def SamplingForgetsUptoSaid : Prop := samplingForgetsUptoRow.holds Try.pinned (OpenSpec.upto samplingForgetsSpec)

/-- 'baseboardlaw10.SensorBytes', WHERE WHAT IT READS IS OF BULK AT MOST 1048576: true; the input reads as it did. -/
def sensorBytesUptoRow : OpenClaim := { program := "ytekhpcfggbegaaa", sum := "847b0a45327a26938798fd4510908772cf1f038c85399198150823099e4b1018", func := "baseboard/baseboardlaw10.SensorBytes", spec := "sensorBytes", apart := false, narrowed := true }
def SensorBytesUptoSaid : Prop := sensorBytesUptoRow.holds Try.pinned (OpenSpec.upto sensorBytesSpec)

/-- 'baseboardlaw09.EventlogOrder', WHERE WHAT IT READS IS OF BULK AT MOST 1048576: true; the input reads as it did. -/
def eventlogOrderUptoRow : OpenClaim := { program := "ytekhpcfggbegaaa", sum := "847b0a45327a26938798fd4510908772cf1f038c85399198150823099e4b1018", func := "baseboard/baseboardlaw09.EventlogOrder", spec := "eventlogOrder", unfollowed := true, recurses := true, apart := false, narrowed := true }
def EventlogOrderUptoSaid : Prop := eventlogOrderUptoRow.holds Try.pinned (OpenSpec.upto eventlogOrderSpec)

/-- 'baseboardlaw09.EventlogWalks', WHERE WHAT IT READS IS OF BULK AT MOST 1048576: true; the input reads as it did. -/
def eventlogWalksUptoRow : OpenClaim := { program := "ytekhpcfggbegaaa", sum := "847b0a45327a26938798fd4510908772cf1f038c85399198150823099e4b1018", func := "baseboard/baseboardlaw09.EventlogWalks", spec := "eventlogWalks", unfollowed := true, recurses := true, apart := false, narrowed := true }
def EventlogWalksUptoSaid : Prop := eventlogWalksUptoRow.holds Try.pinned (OpenSpec.upto eventlogWalksSpec)

end Rows
end Go.Proofs.Ytekhpcfggbegaaa
