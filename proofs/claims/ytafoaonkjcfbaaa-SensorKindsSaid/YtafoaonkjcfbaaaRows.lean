/-
  No cell of these rows narrows 'for every input' (looked for: loops, veiled, ifaces, maps, wideKeys, modest, calm, conditions, laid).
  DERIVED. THE GIVEN ROWS OF THIS SEAT. 9 by the template 'for every input the law returns true; each argument reads behind the call as it read before'; 0 by the template 'total and deterministic' (their statements: YtafoaonkjcfbaaaTotals.lean).
  GIVEN WITH THE SEED: the statements are not yours to turn. If you find one false, say at which input.
  Laid BY PROGRAM, IN A SANDBOX (cutbox-rows.mjs): the forced cells as the released guide's own fill.sh prints them over the translation 198830dd9cde5fd0… (all of the seat's roots in one cut). By AI agents, Wed Nov 11 2026. No macro, syntax, notation, axiom, sorry.
-/
import Derived.Test.YtafoaonkjcfbaaaChecked
import GoSem.Claim
import GoSem.ClaimJoined
import GoSem.ClaimMapViews
import Derived.JoinedTies
import Derived.KernelRfl
namespace Go.Proofs.Ytafoaonkjcfbaaa
/- THE CELL 'sum', in the pinned program and in every row, IS THE sha256 OF THE DUMP (.gsa) THAT YtafoaonkjcfbaaaProg.lean LOADS. Nothing in Lean hashes anything: it is a label: what it is worth is what the hold of that sum in a sandbox is worth. -/
noncomputable def Try.pinned : Pinned := { name := "ytafoaonkjcfbaaa", sum := "198830dd9cde5fd0d7b698f34b583bc5edb7cd1bdfc62f545a5b7d22c3af3e09", checked := Try.checked }
namespace Rows
def none {H : Type} : Left H := { results := [], args := [] }

/-- 'baseboardlaw09.EventlogOrder': WHATEVER THE INPUT: true; the input reads as it did. -/
def eventlogOrderSpec : ChangeSpec := { name := "eventlogOrder", fn := fun _ => fun
  | [d1, d2, d3, d4, d5] => { results := [.lit (.bool true)], args := [d1, d2, d3, d4, d5] }
  | _ => none }
def eventlogOrderRow : OpenClaim := { program := "ytafoaonkjcfbaaa", sum := "198830dd9cde5fd0d7b698f34b583bc5edb7cd1bdfc62f545a5b7d22c3af3e09", func := "baseboard/baseboardlaw09.EventlogOrder", spec := "eventlogOrder", unfollowed := true, recurses := true, apart := false }
def EventlogOrderSaid : Prop := eventlogOrderRow.holds Try.pinned (OpenSpec.ofChange eventlogOrderSpec)

/-- ITS FALSE NEIGHBOUR: 'it returns false'. Refute it at one input. -/
def eventlogOrderWrong : ChangeSpec := { name := "eventlogOrder", fn := fun _ => fun
  | [d1, d2, d3, d4, d5] => { results := [.lit (.bool false)], args := [d1, d2, d3, d4, d5] }
  | _ => none }
def EventlogOrderWrongFalsely : Prop := eventlogOrderRow.holds Try.pinned (OpenSpec.ofChange eventlogOrderWrong)

/-- 'baseboardlaw09.EventlogWalks': WHATEVER THE INPUT: true; the input reads as it did. -/
def eventlogWalksSpec : ChangeSpec := { name := "eventlogWalks", fn := fun _ => fun
  | [d1, d2, d3, d4, d5, d6] => { results := [.lit (.bool true)], args := [d1, d2, d3, d4, d5, d6] }
  | _ => none }
def eventlogWalksRow : OpenClaim := { program := "ytafoaonkjcfbaaa", sum := "198830dd9cde5fd0d7b698f34b583bc5edb7cd1bdfc62f545a5b7d22c3af3e09", func := "baseboard/baseboardlaw09.EventlogWalks", spec := "eventlogWalks", unfollowed := true, recurses := true, apart := false }
def EventlogWalksSaid : Prop := eventlogWalksRow.holds Try.pinned (OpenSpec.ofChange eventlogWalksSpec)

/-- ITS FALSE NEIGHBOUR: 'it returns false'. Refute it at one input. -/
def eventlogWalksWrong : ChangeSpec := { name := "eventlogWalks", fn := fun _ => fun
  | [d1, d2, d3, d4, d5, d6] => { results := [.lit (.bool false)], args := [d1, d2, d3, d4, d5, d6] }
  | _ => none }
def EventlogWalksWrongFalsely : Prop := eventlogWalksRow.holds Try.pinned (OpenSpec.ofChange eventlogWalksWrong)

/-- 'baseboardlaw10.SensorBytes': WHATEVER THE INPUT: true; the input reads as it did. -/
def sensorBytesSpec : ChangeSpec := { name := "sensorBytes", fn := fun _ => fun
  | [d1, d2, d3] => { results := [.lit (.bool true)], args := [d1, d2, d3] }
  | _ => none }
def sensorBytesRow : OpenClaim := { program := "ytafoaonkjcfbaaa", sum := "198830dd9cde5fd0d7b698f34b583bc5edb7cd1bdfc62f545a5b7d22c3af3e09", func := "baseboard/baseboardlaw10.SensorBytes", spec := "sensorBytes", apart := false }
def SensorBytesSaid : Prop := sensorBytesRow.holds Try.pinned (OpenSpec.ofChange sensorBytesSpec)

/-- ITS FALSE NEIGHBOUR: 'it returns false'. Refute it at one input. -/
def sensorBytesWrong : ChangeSpec := { name := "sensorBytes", fn := fun _ => fun
  | [d1, d2, d3] => { results := [.lit (.bool false)], args := [d1, d2, d3] }
  | _ => none }
def SensorBytesWrongFalsely : Prop := sensorBytesRow.holds Try.pinned (OpenSpec.ofChange sensorBytesWrong)

/-- 'baseboardlaw10.SensorDecoded': WHATEVER THE INPUT: true; the input reads as it did. -/
def sensorDecodedSpec : ChangeSpec := { name := "sensorDecoded", fn := fun _ => fun
  | [d1, d2] => { results := [.lit (.bool true)], args := [d1, d2] }
  | _ => none }
def sensorDecodedRow : OpenClaim := { program := "ytafoaonkjcfbaaa", sum := "198830dd9cde5fd0d7b698f34b583bc5edb7cd1bdfc62f545a5b7d22c3af3e09", func := "baseboard/baseboardlaw10.SensorDecoded", spec := "sensorDecoded", apart := false }
def SensorDecodedSaid : Prop := sensorDecodedRow.holds Try.pinned (OpenSpec.ofChange sensorDecodedSpec)

/-- ITS FALSE NEIGHBOUR: 'it returns false'. Refute it at one input. -/
def sensorDecodedWrong : ChangeSpec := { name := "sensorDecoded", fn := fun _ => fun
  | [d1, d2] => { results := [.lit (.bool false)], args := [d1, d2] }
  | _ => none }
def SensorDecodedWrongFalsely : Prop := sensorDecodedRow.holds Try.pinned (OpenSpec.ofChange sensorDecodedWrong)

/-- 'baseboardlaw10.SensorKinds': WHATEVER THE INPUT: true; the input reads as it did. -/
def sensorKindsSpec : ChangeSpec := { name := "sensorKinds", fn := fun _ => fun
  | [d1, d2, d3] => { results := [.lit (.bool true)], args := [d1, d2, d3] }
  | _ => none }
def sensorKindsRow : OpenClaim := { program := "ytafoaonkjcfbaaa", sum := "198830dd9cde5fd0d7b698f34b583bc5edb7cd1bdfc62f545a5b7d22c3af3e09", func := "baseboard/baseboardlaw10.SensorKinds", spec := "sensorKinds", apart := false }
def SensorKindsSaid : Prop := sensorKindsRow.holds Try.pinned (OpenSpec.ofChange sensorKindsSpec)

/-- ITS FALSE NEIGHBOUR: 'it returns false'. Refute it at one input. -/
def sensorKindsWrong : ChangeSpec := { name := "sensorKinds", fn := fun _ => fun
  | [d1, d2, d3] => { results := [.lit (.bool false)], args := [d1, d2, d3] }
  | _ => none }
def SensorKindsWrongFalsely : Prop := sensorKindsRow.holds Try.pinned (OpenSpec.ofChange sensorKindsWrong)

/-- 'baseboardlaw13.DiscreteSteps': WHATEVER THE INPUT: true; the input reads as it did. -/
def discreteStepsSpec : ChangeSpec := { name := "discreteSteps", fn := fun _ => fun
  | [d1, d2, d3, d4] => { results := [.lit (.bool true)], args := [d1, d2, d3, d4] }
  | _ => none }
def discreteStepsRow : OpenClaim := { program := "ytafoaonkjcfbaaa", sum := "198830dd9cde5fd0d7b698f34b583bc5edb7cd1bdfc62f545a5b7d22c3af3e09", func := "baseboard/baseboardlaw13.DiscreteSteps", spec := "discreteSteps", apart := false }
def DiscreteStepsSaid : Prop := discreteStepsRow.holds Try.pinned (OpenSpec.ofChange discreteStepsSpec)

/-- ITS FALSE NEIGHBOUR: 'it returns false'. Refute it at one input. -/
def discreteStepsWrong : ChangeSpec := { name := "discreteSteps", fn := fun _ => fun
  | [d1, d2, d3, d4] => { results := [.lit (.bool false)], args := [d1, d2, d3, d4] }
  | _ => none }
def DiscreteStepsWrongFalsely : Prop := discreteStepsRow.holds Try.pinned (OpenSpec.ofChange discreteStepsWrong)

/-- 'baseboardlaw13.DiscreteApplies': WHATEVER THE INPUT: true; the input reads as it did. -/
def discreteAppliesSpec : ChangeSpec := { name := "discreteApplies", fn := fun _ => fun
  | [d1, d2, d3] => { results := [.lit (.bool true)], args := [d1, d2, d3] }
  | _ => none }
def discreteAppliesRow : OpenClaim := { program := "ytafoaonkjcfbaaa", sum := "198830dd9cde5fd0d7b698f34b583bc5edb7cd1bdfc62f545a5b7d22c3af3e09", func := "baseboard/baseboardlaw13.DiscreteApplies", spec := "discreteApplies", apart := false }
def DiscreteAppliesSaid : Prop := discreteAppliesRow.holds Try.pinned (OpenSpec.ofChange discreteAppliesSpec)

/-- ITS FALSE NEIGHBOUR: 'it returns false'. Refute it at one input. -/
def discreteAppliesWrong : ChangeSpec := { name := "discreteApplies", fn := fun _ => fun
  | [d1, d2, d3] => { results := [.lit (.bool false)], args := [d1, d2, d3] }
  | _ => none }
def DiscreteAppliesWrongFalsely : Prop := discreteAppliesRow.holds Try.pinned (OpenSpec.ofChange discreteAppliesWrong)

/-- 'baseboardlaw13.DiscreteReturns': WHATEVER THE INPUT: true; the input reads as it did. -/
def discreteReturnsSpec : ChangeSpec := { name := "discreteReturns", fn := fun _ => fun
  | [d1, d2, d3, d4] => { results := [.lit (.bool true)], args := [d1, d2, d3, d4] }
  | _ => none }
def discreteReturnsRow : OpenClaim := { program := "ytafoaonkjcfbaaa", sum := "198830dd9cde5fd0d7b698f34b583bc5edb7cd1bdfc62f545a5b7d22c3af3e09", func := "baseboard/baseboardlaw13.DiscreteReturns", spec := "discreteReturns", apart := false }
def DiscreteReturnsSaid : Prop := discreteReturnsRow.holds Try.pinned (OpenSpec.ofChange discreteReturnsSpec)

/-- ITS FALSE NEIGHBOUR: 'it returns false'. Refute it at one input. -/
def discreteReturnsWrong : ChangeSpec := { name := "discreteReturns", fn := fun _ => fun
  | [d1, d2, d3, d4] => { results := [.lit (.bool false)], args := [d1, d2, d3, d4] }
  | _ => none }
def DiscreteReturnsWrongFalsely : Prop := discreteReturnsRow.holds Try.pinned (OpenSpec.ofChange discreteReturnsWrong)

/-- 'baseboardlaw13.DiscreteWay': WHATEVER THE INPUT: true; the input reads as it did. -/
def discreteWaySpec : ChangeSpec := { name := "discreteWay", fn := fun _ => fun
  | [d1, d2, d3, d4] => { results := [.lit (.bool true)], args := [d1, d2, d3, d4] }
  | _ => none }
def discreteWayRow : OpenClaim := { program := "ytafoaonkjcfbaaa", sum := "198830dd9cde5fd0d7b698f34b583bc5edb7cd1bdfc62f545a5b7d22c3af3e09", func := "baseboard/baseboardlaw13.DiscreteWay", spec := "discreteWay", apart := false }
def DiscreteWaySaid : Prop := discreteWayRow.holds Try.pinned (OpenSpec.ofChange discreteWaySpec)

/-- ITS FALSE NEIGHBOUR: 'it returns false'. Refute it at one input. -/
def discreteWayWrong : ChangeSpec := { name := "discreteWay", fn := fun _ => fun
  | [d1, d2, d3, d4] => { results := [.lit (.bool false)], args := [d1, d2, d3, d4] }
  | _ => none }
def DiscreteWayWrongFalsely : Prop := discreteWayRow.holds Try.pinned (OpenSpec.ofChange discreteWayWrong)

/- THE SECOND FORM. 'bulk': how many values and letters a reading holds, each counted each time it is reached (what is shared counts as often as it is met; a slice's spare places count too). A statement '..UptoSaid' is the law's where the arguments, and the package variables that the reading takes, are together of bulk at most 1048576: NARROWER than '..Said'. Prove '..Said' where nothing that the law and all that it calls make is longer than what came in: it says more and counts as full. Else prove '..UptoSaid'. A law counts once. -/
mutual
def uptoBulk {H : Type} : DataW H → Nat
  | .lit (.string bytes) => bytes.length + 1
  | .lit _ => 1
  | .nil => 1
  | .ptr d => uptoBulk d + 1
  | .slice elems spare => uptoBulkAll elems + uptoBulkAll spare + 1
  | .agg parts => uptoBulkAll parts + 1
  | .iface _ d => uptoBulk d + 1
  | .map entries => uptoBulkEntries entries + 1
  | .held _ => 1
def uptoBulkAll {H : Type} : List (DataW H) → Nat
  | [] => 0
  | d :: r => uptoBulk d + uptoBulkAll r
def uptoBulkEntries {H : Type} : List (Lit × DataW H) → Nat
  | [] => 0
  | x :: r => uptoBulkEntry x + uptoBulkEntries r
def uptoBulkEntry {H : Type} : Lit × DataW H → Nat
  | (.string bytes, d) => bytes.length + uptoBulk d + 1
  | (_, d) => uptoBulk d + 1
 end
def uptoSmall : (H : Type) → List (DataW H) → Bool := fun _ ds => decide (uptoBulkAll ds ≤ 1048576)
def OpenSpec.upto (s : _root_.Go.ChangeSpec) : _root_.Go.OpenSpec := { _root_.Go.OpenSpec.ofChange s with cond := some uptoSmall }

/-- 'baseboardlaw09.EventlogOrder', WHERE WHAT IT READS IS OF BULK AT MOST 1048576: true; the input reads as it did. -/
def eventlogOrderUptoRow : OpenClaim := { program := "ytafoaonkjcfbaaa", sum := "198830dd9cde5fd0d7b698f34b583bc5edb7cd1bdfc62f545a5b7d22c3af3e09", func := "baseboard/baseboardlaw09.EventlogOrder", spec := "eventlogOrder", unfollowed := true, recurses := true, apart := false, narrowed := true }
def EventlogOrderUptoSaid : Prop := eventlogOrderUptoRow.holds Try.pinned (OpenSpec.upto eventlogOrderSpec)

/-- 'baseboardlaw09.EventlogWalks', WHERE WHAT IT READS IS OF BULK AT MOST 1048576: true; the input reads as it did. -/
def eventlogWalksUptoRow : OpenClaim := { program := "ytafoaonkjcfbaaa", sum := "198830dd9cde5fd0d7b698f34b583bc5edb7cd1bdfc62f545a5b7d22c3af3e09", func := "baseboard/baseboardlaw09.EventlogWalks", spec := "eventlogWalks", unfollowed := true, recurses := true, apart := false, narrowed := true }
def EventlogWalksUptoSaid : Prop := eventlogWalksUptoRow.holds Try.pinned (OpenSpec.upto eventlogWalksSpec)

/-- 'baseboardlaw10.SensorBytes', WHERE WHAT IT READS IS OF BULK AT MOST 1048576: true; the input reads as it did. -/
def sensorBytesUptoRow : OpenClaim := { program := "ytafoaonkjcfbaaa", sum := "198830dd9cde5fd0d7b698f34b583bc5edb7cd1bdfc62f545a5b7d22c3af3e09", func := "baseboard/baseboardlaw10.SensorBytes", spec := "sensorBytes", apart := false, narrowed := true }
def SensorBytesUptoSaid : Prop := sensorBytesUptoRow.holds Try.pinned (OpenSpec.upto sensorBytesSpec)

/-- 'baseboardlaw10.SensorDecoded', WHERE WHAT IT READS IS OF BULK AT MOST 1048576: true; the input reads as it did. -/
def sensorDecodedUptoRow : OpenClaim := { program := "ytafoaonkjcfbaaa", sum := "198830dd9cde5fd0d7b698f34b583bc5edb7cd1bdfc62f545a5b7d22c3af3e09", func := "baseboard/baseboardlaw10.SensorDecoded", spec := "sensorDecoded", apart := false, narrowed := true }
def SensorDecodedUptoSaid : Prop := sensorDecodedUptoRow.holds Try.pinned (OpenSpec.upto sensorDecodedSpec)

/-- 'baseboardlaw10.SensorKinds', WHERE WHAT IT READS IS OF BULK AT MOST 1048576: true; the input reads as it did. -/
def sensorKindsUptoRow : OpenClaim := { program := "ytafoaonkjcfbaaa", sum := "198830dd9cde5fd0d7b698f34b583bc5edb7cd1bdfc62f545a5b7d22c3af3e09", func := "baseboard/baseboardlaw10.SensorKinds", spec := "sensorKinds", apart := false, narrowed := true }
def SensorKindsUptoSaid : Prop := sensorKindsUptoRow.holds Try.pinned (OpenSpec.upto sensorKindsSpec)

/-- 'baseboardlaw13.DiscreteSteps', WHERE WHAT IT READS IS OF BULK AT MOST 1048576: true; the input reads as it did. -/
def discreteStepsUptoRow : OpenClaim := { program := "ytafoaonkjcfbaaa", sum := "198830dd9cde5fd0d7b698f34b583bc5edb7cd1bdfc62f545a5b7d22c3af3e09", func := "baseboard/baseboardlaw13.DiscreteSteps", spec := "discreteSteps", apart := false, narrowed := true }
def DiscreteStepsUptoSaid : Prop := discreteStepsUptoRow.holds Try.pinned (OpenSpec.upto discreteStepsSpec)

/-- 'baseboardlaw13.DiscreteApplies', WHERE WHAT IT READS IS OF BULK AT MOST 1048576: true; the input reads as it did. -/
def discreteAppliesUptoRow : OpenClaim := { program := "ytafoaonkjcfbaaa", sum := "198830dd9cde5fd0d7b698f34b583bc5edb7cd1bdfc62f545a5b7d22c3af3e09", func := "baseboard/baseboardlaw13.DiscreteApplies", spec := "discreteApplies", apart := false, narrowed := true }
def DiscreteAppliesUptoSaid : Prop := discreteAppliesUptoRow.holds Try.pinned (OpenSpec.upto discreteAppliesSpec)

/-- 'baseboardlaw13.DiscreteReturns', WHERE WHAT IT READS IS OF BULK AT MOST 1048576: true; the input reads as it did. -/
def discreteReturnsUptoRow : OpenClaim := { program := "ytafoaonkjcfbaaa", sum := "198830dd9cde5fd0d7b698f34b583bc5edb7cd1bdfc62f545a5b7d22c3af3e09", func := "baseboard/baseboardlaw13.DiscreteReturns", spec := "discreteReturns", apart := false, narrowed := true }
def DiscreteReturnsUptoSaid : Prop := discreteReturnsUptoRow.holds Try.pinned (OpenSpec.upto discreteReturnsSpec)

/-- 'baseboardlaw13.DiscreteWay', WHERE WHAT IT READS IS OF BULK AT MOST 1048576: true; the input reads as it did. -/
def discreteWayUptoRow : OpenClaim := { program := "ytafoaonkjcfbaaa", sum := "198830dd9cde5fd0d7b698f34b583bc5edb7cd1bdfc62f545a5b7d22c3af3e09", func := "baseboard/baseboardlaw13.DiscreteWay", spec := "discreteWay", apart := false, narrowed := true }
def DiscreteWayUptoSaid : Prop := discreteWayUptoRow.holds Try.pinned (OpenSpec.upto discreteWaySpec)

end Rows
end Go.Proofs.Ytafoaonkjcfbaaa
