/-
  No cell of these rows narrows 'for every input' (looked for: loops, veiled, ifaces, maps, wideKeys, modest, calm, conditions, laid).
  DERIVED. THE GIVEN ROWS OF THIS SEAT. 12 by the template 'for every input the law returns true; each argument reads behind the call as it read before'; 0 by the template 'total and deterministic' (their statements: YtcnkiecdagjgmaaTotals.lean).
  GIVEN WITH THE SEED: the statements are not yours to turn. If you find one false, say at which input.
  Laid BY PROGRAM, IN A SANDBOX (cutbox-rows.mjs): the forced cells as the released guide's own fill.sh prints them over the translation a3d8957656df6b58… (all of the seat's roots in one cut). By AI agents, Wed Nov 11 2026. No macro, syntax, notation, axiom, sorry.
-/
import Derived.Test.YtcnkiecdagjgmaaChecked
import GoSem.Claim
import GoSem.ClaimJoined
import GoSem.ClaimMapViews
import Derived.JoinedTies
import Derived.KernelRfl
namespace Go.Proofs.Ytcnkiecdagjgmaa
/- THE CELL 'sum', in the pinned program and in every row, IS THE sha256 OF THE DUMP (.gsa) THAT YtcnkiecdagjgmaaProg.lean LOADS. Nothing in Lean hashes anything: it is a label: what it is worth is what the hold of that sum in a sandbox is worth. -/
noncomputable def Try.pinned : Pinned := { name := "ytcnkiecdagjgmaa", sum := "a3d8957656df6b5862a2f5efcd6fd9f7ba100840b353af357b4360598fc7ce1c", checked := Try.checked }
namespace Rows
def none {H : Type} : Left H := { results := [], args := [] }

/-- 'baseboardlaw12.ThresholdSteps': WHATEVER THE INPUT: true; the input reads as it did. -/
def thresholdStepsSpec : ChangeSpec := { name := "thresholdSteps", fn := fun _ => fun
  | [d1, d2, d3, d4] => { results := [.lit (.bool true)], args := [d1, d2, d3, d4] }
  | _ => none }
def thresholdStepsRow : OpenClaim := { program := "ytcnkiecdagjgmaa", sum := "a3d8957656df6b5862a2f5efcd6fd9f7ba100840b353af357b4360598fc7ce1c", func := "baseboard/baseboardlaw12.ThresholdSteps", spec := "thresholdSteps", apart := false }
def ThresholdStepsSaid : Prop := thresholdStepsRow.holds Try.pinned (OpenSpec.ofChange thresholdStepsSpec)

/-- ITS FALSE NEIGHBOUR: 'it returns false'. Refute it at one input. -/
def thresholdStepsWrong : ChangeSpec := { name := "thresholdSteps", fn := fun _ => fun
  | [d1, d2, d3, d4] => { results := [.lit (.bool false)], args := [d1, d2, d3, d4] }
  | _ => none }
def ThresholdStepsWrongFalsely : Prop := thresholdStepsRow.holds Try.pinned (OpenSpec.ofChange thresholdStepsWrong)

/-- 'baseboardlaw12.ThresholdStays': WHATEVER THE INPUT: true; the input reads as it did. -/
def thresholdStaysSpec : ChangeSpec := { name := "thresholdStays", fn := fun _ => fun
  | [d1, d2] => { results := [.lit (.bool true)], args := [d1, d2] }
  | _ => none }
def thresholdStaysRow : OpenClaim := { program := "ytcnkiecdagjgmaa", sum := "a3d8957656df6b5862a2f5efcd6fd9f7ba100840b353af357b4360598fc7ce1c", func := "baseboard/baseboardlaw12.ThresholdStays", spec := "thresholdStays", apart := false }
def ThresholdStaysSaid : Prop := thresholdStaysRow.holds Try.pinned (OpenSpec.ofChange thresholdStaysSpec)

/-- ITS FALSE NEIGHBOUR: 'it returns false'. Refute it at one input. -/
def thresholdStaysWrong : ChangeSpec := { name := "thresholdStays", fn := fun _ => fun
  | [d1, d2] => { results := [.lit (.bool false)], args := [d1, d2] }
  | _ => none }
def ThresholdStaysWrongFalsely : Prop := thresholdStaysRow.holds Try.pinned (OpenSpec.ofChange thresholdStaysWrong)

/-- 'baseboardlaw12.ThresholdNested': WHATEVER THE INPUT: true; the input reads as it did. -/
def thresholdNestedSpec : ChangeSpec := { name := "thresholdNested", fn := fun _ => fun
  | [d1, d2] => { results := [.lit (.bool true)], args := [d1, d2] }
  | _ => none }
def thresholdNestedRow : OpenClaim := { program := "ytcnkiecdagjgmaa", sum := "a3d8957656df6b5862a2f5efcd6fd9f7ba100840b353af357b4360598fc7ce1c", func := "baseboard/baseboardlaw12.ThresholdNested", spec := "thresholdNested", apart := false }
def ThresholdNestedSaid : Prop := thresholdNestedRow.holds Try.pinned (OpenSpec.ofChange thresholdNestedSpec)

/-- ITS FALSE NEIGHBOUR: 'it returns false'. Refute it at one input. -/
def thresholdNestedWrong : ChangeSpec := { name := "thresholdNested", fn := fun _ => fun
  | [d1, d2] => { results := [.lit (.bool false)], args := [d1, d2] }
  | _ => none }
def ThresholdNestedWrongFalsely : Prop := thresholdNestedRow.holds Try.pinned (OpenSpec.ofChange thresholdNestedWrong)

/-- 'baseboardlaw12.ThresholdFlaps': WHATEVER THE INPUT: true; the input reads as it did. -/
def thresholdFlapsSpec : ChangeSpec := { name := "thresholdFlaps", fn := fun _ => fun
  | [d1, d2] => { results := [.lit (.bool true)], args := [d1, d2] }
  | _ => none }
def thresholdFlapsRow : OpenClaim := { program := "ytcnkiecdagjgmaa", sum := "a3d8957656df6b5862a2f5efcd6fd9f7ba100840b353af357b4360598fc7ce1c", func := "baseboard/baseboardlaw12.ThresholdFlaps", spec := "thresholdFlaps", apart := false }
def ThresholdFlapsSaid : Prop := thresholdFlapsRow.holds Try.pinned (OpenSpec.ofChange thresholdFlapsSpec)

/-- ITS FALSE NEIGHBOUR: 'it returns false'. Refute it at one input. -/
def thresholdFlapsWrong : ChangeSpec := { name := "thresholdFlaps", fn := fun _ => fun
  | [d1, d2] => { results := [.lit (.bool false)], args := [d1, d2] }
  | _ => none }
def ThresholdFlapsWrongFalsely : Prop := thresholdFlapsRow.holds Try.pinned (OpenSpec.ofChange thresholdFlapsWrong)

/-- 'baseboardlaw12.ThresholdPlain': WHATEVER THE INPUT: true; the input reads as it did. -/
def thresholdPlainSpec : ChangeSpec := { name := "thresholdPlain", fn := fun _ => fun
  | [d1, d2] => { results := [.lit (.bool true)], args := [d1, d2] }
  | _ => none }
def thresholdPlainRow : OpenClaim := { program := "ytcnkiecdagjgmaa", sum := "a3d8957656df6b5862a2f5efcd6fd9f7ba100840b353af357b4360598fc7ce1c", func := "baseboard/baseboardlaw12.ThresholdPlain", spec := "thresholdPlain", apart := false }
def ThresholdPlainSaid : Prop := thresholdPlainRow.holds Try.pinned (OpenSpec.ofChange thresholdPlainSpec)

/-- ITS FALSE NEIGHBOUR: 'it returns false'. Refute it at one input. -/
def thresholdPlainWrong : ChangeSpec := { name := "thresholdPlain", fn := fun _ => fun
  | [d1, d2] => { results := [.lit (.bool false)], args := [d1, d2] }
  | _ => none }
def ThresholdPlainWrongFalsely : Prop := thresholdPlainRow.holds Try.pinned (OpenSpec.ofChange thresholdPlainWrong)

/-- 'baseboardlaw12.ThresholdSeverity': WHATEVER THE INPUT: true; the input reads as it did. -/
def thresholdSeveritySpec : ChangeSpec := { name := "thresholdSeverity", fn := fun _ => fun
  | [d1, d2] => { results := [.lit (.bool true)], args := [d1, d2] }
  | _ => none }
def thresholdSeverityRow : OpenClaim := { program := "ytcnkiecdagjgmaa", sum := "a3d8957656df6b5862a2f5efcd6fd9f7ba100840b353af357b4360598fc7ce1c", func := "baseboard/baseboardlaw12.ThresholdSeverity", spec := "thresholdSeverity", apart := false }
def ThresholdSeveritySaid : Prop := thresholdSeverityRow.holds Try.pinned (OpenSpec.ofChange thresholdSeveritySpec)

/-- ITS FALSE NEIGHBOUR: 'it returns false'. Refute it at one input. -/
def thresholdSeverityWrong : ChangeSpec := { name := "thresholdSeverity", fn := fun _ => fun
  | [d1, d2] => { results := [.lit (.bool false)], args := [d1, d2] }
  | _ => none }
def ThresholdSeverityWrongFalsely : Prop := thresholdSeverityRow.holds Try.pinned (OpenSpec.ofChange thresholdSeverityWrong)

/-- 'baseboardlaw12.ThresholdOrdered': WHATEVER THE INPUT: true; the input reads as it did. -/
def thresholdOrderedSpec : ChangeSpec := { name := "thresholdOrdered", fn := fun _ => fun
  | [d1, d2, d3] => { results := [.lit (.bool true)], args := [d1, d2, d3] }
  | _ => none }
def thresholdOrderedRow : OpenClaim := { program := "ytcnkiecdagjgmaa", sum := "a3d8957656df6b5862a2f5efcd6fd9f7ba100840b353af357b4360598fc7ce1c", func := "baseboard/baseboardlaw12.ThresholdOrdered", spec := "thresholdOrdered", apart := false }
def ThresholdOrderedSaid : Prop := thresholdOrderedRow.holds Try.pinned (OpenSpec.ofChange thresholdOrderedSpec)

/-- ITS FALSE NEIGHBOUR: 'it returns false'. Refute it at one input. -/
def thresholdOrderedWrong : ChangeSpec := { name := "thresholdOrdered", fn := fun _ => fun
  | [d1, d2, d3] => { results := [.lit (.bool false)], args := [d1, d2, d3] }
  | _ => none }
def ThresholdOrderedWrongFalsely : Prop := thresholdOrderedRow.holds Try.pinned (OpenSpec.ofChange thresholdOrderedWrong)

/-- 'baseboardlaw10.SensorValid': WHATEVER THE INPUT: true; the input reads as it did. -/
def sensorValidSpec : ChangeSpec := { name := "sensorValid", fn := fun _ => fun
  | [d1, d2] => { results := [.lit (.bool true)], args := [d1, d2] }
  | _ => none }
def sensorValidRow : OpenClaim := { program := "ytcnkiecdagjgmaa", sum := "a3d8957656df6b5862a2f5efcd6fd9f7ba100840b353af357b4360598fc7ce1c", func := "baseboard/baseboardlaw10.SensorValid", spec := "sensorValid", apart := false }
def SensorValidSaid : Prop := sensorValidRow.holds Try.pinned (OpenSpec.ofChange sensorValidSpec)

/-- ITS FALSE NEIGHBOUR: 'it returns false'. Refute it at one input. -/
def sensorValidWrong : ChangeSpec := { name := "sensorValid", fn := fun _ => fun
  | [d1, d2] => { results := [.lit (.bool false)], args := [d1, d2] }
  | _ => none }
def SensorValidWrongFalsely : Prop := sensorValidRow.holds Try.pinned (OpenSpec.ofChange sensorValidWrong)

/-- 'baseboardlaw10.SensorBytes': WHATEVER THE INPUT: true; the input reads as it did. -/
def sensorBytesSpec : ChangeSpec := { name := "sensorBytes", fn := fun _ => fun
  | [d1, d2, d3] => { results := [.lit (.bool true)], args := [d1, d2, d3] }
  | _ => none }
def sensorBytesRow : OpenClaim := { program := "ytcnkiecdagjgmaa", sum := "a3d8957656df6b5862a2f5efcd6fd9f7ba100840b353af357b4360598fc7ce1c", func := "baseboard/baseboardlaw10.SensorBytes", spec := "sensorBytes", apart := false }
def SensorBytesSaid : Prop := sensorBytesRow.holds Try.pinned (OpenSpec.ofChange sensorBytesSpec)

/-- ITS FALSE NEIGHBOUR: 'it returns false'. Refute it at one input. -/
def sensorBytesWrong : ChangeSpec := { name := "sensorBytes", fn := fun _ => fun
  | [d1, d2, d3] => { results := [.lit (.bool false)], args := [d1, d2, d3] }
  | _ => none }
def SensorBytesWrongFalsely : Prop := sensorBytesRow.holds Try.pinned (OpenSpec.ofChange sensorBytesWrong)

/-- 'baseboardlaw10.SensorDecoded': WHATEVER THE INPUT: true; the input reads as it did. -/
def sensorDecodedSpec : ChangeSpec := { name := "sensorDecoded", fn := fun _ => fun
  | [d1, d2] => { results := [.lit (.bool true)], args := [d1, d2] }
  | _ => none }
def sensorDecodedRow : OpenClaim := { program := "ytcnkiecdagjgmaa", sum := "a3d8957656df6b5862a2f5efcd6fd9f7ba100840b353af357b4360598fc7ce1c", func := "baseboard/baseboardlaw10.SensorDecoded", spec := "sensorDecoded", apart := false }
def SensorDecodedSaid : Prop := sensorDecodedRow.holds Try.pinned (OpenSpec.ofChange sensorDecodedSpec)

/-- ITS FALSE NEIGHBOUR: 'it returns false'. Refute it at one input. -/
def sensorDecodedWrong : ChangeSpec := { name := "sensorDecoded", fn := fun _ => fun
  | [d1, d2] => { results := [.lit (.bool false)], args := [d1, d2] }
  | _ => none }
def SensorDecodedWrongFalsely : Prop := sensorDecodedRow.holds Try.pinned (OpenSpec.ofChange sensorDecodedWrong)

/-- 'baseboardlaw10.SensorKinds': WHATEVER THE INPUT: true; the input reads as it did. -/
def sensorKindsSpec : ChangeSpec := { name := "sensorKinds", fn := fun _ => fun
  | [d1, d2, d3] => { results := [.lit (.bool true)], args := [d1, d2, d3] }
  | _ => none }
def sensorKindsRow : OpenClaim := { program := "ytcnkiecdagjgmaa", sum := "a3d8957656df6b5862a2f5efcd6fd9f7ba100840b353af357b4360598fc7ce1c", func := "baseboard/baseboardlaw10.SensorKinds", spec := "sensorKinds", apart := false }
def SensorKindsSaid : Prop := sensorKindsRow.holds Try.pinned (OpenSpec.ofChange sensorKindsSpec)

/-- ITS FALSE NEIGHBOUR: 'it returns false'. Refute it at one input. -/
def sensorKindsWrong : ChangeSpec := { name := "sensorKinds", fn := fun _ => fun
  | [d1, d2, d3] => { results := [.lit (.bool false)], args := [d1, d2, d3] }
  | _ => none }
def SensorKindsWrongFalsely : Prop := sensorKindsRow.holds Try.pinned (OpenSpec.ofChange sensorKindsWrong)

/-- 'baseboardlaw11.RepositoryPlays': WHATEVER THE INPUT: true; the input reads as it did. -/
def repositoryPlaysSpec : ChangeSpec := { name := "repositoryPlays", fn := fun _ => fun
  | [d1, d2] => { results := [.lit (.bool true)], args := [d1, d2] }
  | _ => none }
def repositoryPlaysRow : OpenClaim := { program := "ytcnkiecdagjgmaa", sum := "a3d8957656df6b5862a2f5efcd6fd9f7ba100840b353af357b4360598fc7ce1c", func := "baseboard/baseboardlaw11.RepositoryPlays", spec := "repositoryPlays", unfollowed := true, recurses := true, apart := false }
def RepositoryPlaysSaid : Prop := repositoryPlaysRow.holds Try.pinned (OpenSpec.ofChange repositoryPlaysSpec)

/-- ITS FALSE NEIGHBOUR: 'it returns false'. Refute it at one input. -/
def repositoryPlaysWrong : ChangeSpec := { name := "repositoryPlays", fn := fun _ => fun
  | [d1, d2] => { results := [.lit (.bool false)], args := [d1, d2] }
  | _ => none }
def RepositoryPlaysWrongFalsely : Prop := repositoryPlaysRow.holds Try.pinned (OpenSpec.ofChange repositoryPlaysWrong)

/- THE SECOND FORM. 'bulk': how many values and letters a reading holds, each counted each time it is reached (what is shared counts as often as it is met; a slice's spare places count too). A statement '..UptoSaid' is the law's where the arguments, and the package variables that the reading takes, are together of bulk at most 1048576: NARROWER than '..Said'. Prove '..Said' where nothing that the law and all that it calls make is longer than what came in: it says more and counts as full. Else prove '..UptoSaid'. A law counts once. -/
mutual
def uptoBulk {H : Type} : DataW H → Nat
  | .lit (.string bytes) => bytes.length + 1
  | .lit _ => 1
  | .nil => 1
  | .ptr d => uptoBulk d + 1
  | .slice elems spare => uptoBulkAll elems + uptoBulkAll spare + 1
  | .agg parts => uptoBulkAll parts + 1
  | .iface _ d => uptoBulk d + 1
  | .map entries => uptoBulkEntries entries + 1
  | .held _ => 1
def uptoBulkAll {H : Type} : List (DataW H) → Nat
  | [] => 0
  | d :: r => uptoBulk d + uptoBulkAll r
def uptoBulkEntries {H : Type} : List (Lit × DataW H) → Nat
  | [] => 0
  | x :: r => uptoBulkEntry x + uptoBulkEntries r
def uptoBulkEntry {H : Type} : Lit × DataW H → Nat
  | (.string bytes, d) => bytes.length + uptoBulk d + 1
  | (_, d) => uptoBulk d + 1
 end
def uptoSmall : (H : Type) → List (DataW H) → Bool := fun _ ds => decide (uptoBulkAll ds ≤ 1048576)
def OpenSpec.upto (s : _root_.Go.ChangeSpec) : _root_.Go.OpenSpec := { _root_.Go.OpenSpec.ofChange s with cond := some uptoSmall }

/-- 'baseboardlaw12.ThresholdSteps', WHERE WHAT IT READS IS OF BULK AT MOST 1048576: true; the input reads as it did. -/
def thresholdStepsUptoRow : OpenClaim := { program := "ytcnkiecdagjgmaa", sum := "a3d8957656df6b5862a2f5efcd6fd9f7ba100840b353af357b4360598fc7ce1c", func := "baseboard/baseboardlaw12.ThresholdSteps", spec := "thresholdSteps", apart := false, narrowed := true }
def ThresholdStepsUptoSaid : Prop := thresholdStepsUptoRow.holds Try.pinned (OpenSpec.upto thresholdStepsSpec)

/-- 'baseboardlaw12.ThresholdStays', WHERE WHAT IT READS IS OF BULK AT MOST 1048576: true; the input reads as it did. -/
def thresholdStaysUptoRow : OpenClaim := { program := "ytcnkiecdagjgmaa", sum := "a3d8957656df6b5862a2f5efcd6fd9f7ba100840b353af357b4360598fc7ce1c", func := "baseboard/baseboardlaw12.ThresholdStays", spec := "thresholdStays", apart := false, narrowed := true }
def ThresholdStaysUptoSaid : Prop := thresholdStaysUptoRow.holds Try.pinned (OpenSpec.upto thresholdStaysSpec)

/-- 'baseboardlaw12.ThresholdNested', WHERE WHAT IT READS IS OF BULK AT MOST 1048576: true; the input reads as it did. -/
def thresholdNestedUptoRow : OpenClaim := { program := "ytcnkiecdagjgmaa", sum := "a3d8957656df6b5862a2f5efcd6fd9f7ba100840b353af357b4360598fc7ce1c", func := "baseboard/baseboardlaw12.ThresholdNested", spec := "thresholdNested", apart := false, narrowed := true }
def ThresholdNestedUptoSaid : Prop := thresholdNestedUptoRow.holds Try.pinned (OpenSpec.upto thresholdNestedSpec)

/-- 'baseboardlaw12.ThresholdFlaps', WHERE WHAT IT READS IS OF BULK AT MOST 1048576: true; the input reads as it did. -/
def thresholdFlapsUptoRow : OpenClaim := { program := "ytcnkiecdagjgmaa", sum := "a3d8957656df6b5862a2f5efcd6fd9f7ba100840b353af357b4360598fc7ce1c", func := "baseboard/baseboardlaw12.ThresholdFlaps", spec := "thresholdFlaps", apart := false, narrowed := true }
def ThresholdFlapsUptoSaid : Prop := thresholdFlapsUptoRow.holds Try.pinned (OpenSpec.upto thresholdFlapsSpec)

/-- 'baseboardlaw12.ThresholdPlain', WHERE WHAT IT READS IS OF BULK AT MOST 1048576: true; the input reads as it did. -/
def thresholdPlainUptoRow : OpenClaim := { program := "ytcnkiecdagjgmaa", sum := "a3d8957656df6b5862a2f5efcd6fd9f7ba100840b353af357b4360598fc7ce1c", func := "baseboard/baseboardlaw12.ThresholdPlain", spec := "thresholdPlain", apart := false, narrowed := true }
def ThresholdPlainUptoSaid : Prop := thresholdPlainUptoRow.holds Try.pinned (OpenSpec.upto thresholdPlainSpec)

/-- 'baseboardlaw12.ThresholdSeverity', WHERE WHAT IT READS IS OF BULK AT MOST 1048576: true; the input reads as it did. -/
def thresholdSeverityUptoRow : OpenClaim := { program := "ytcnkiecdagjgmaa", sum := "a3d8957656df6b5862a2f5efcd6fd9f7ba100840b353af357b4360598fc7ce1c", func := "baseboard/baseboardlaw12.ThresholdSeverity", spec := "thresholdSeverity", apart := false, narrowed := true }
def ThresholdSeverityUptoSaid : Prop := thresholdSeverityUptoRow.holds Try.pinned (OpenSpec.upto thresholdSeveritySpec)

/-- 'baseboardlaw12.ThresholdOrdered', WHERE WHAT IT READS IS OF BULK AT MOST 1048576: true; the input reads as it did. -/
def thresholdOrderedUptoRow : OpenClaim := { program := "ytcnkiecdagjgmaa", sum := "a3d8957656df6b5862a2f5efcd6fd9f7ba100840b353af357b4360598fc7ce1c", func := "baseboard/baseboardlaw12.ThresholdOrdered", spec := "thresholdOrdered", apart := false, narrowed := true }
def ThresholdOrderedUptoSaid : Prop := thresholdOrderedUptoRow.holds Try.pinned (OpenSpec.upto thresholdOrderedSpec)

/-- 'baseboardlaw10.SensorValid', WHERE WHAT IT READS IS OF BULK AT MOST 1048576: true; the input reads as it did. -/
def sensorValidUptoRow : OpenClaim := { program := "ytcnkiecdagjgmaa", sum := "a3d8957656df6b5862a2f5efcd6fd9f7ba100840b353af357b4360598fc7ce1c", func := "baseboard/baseboardlaw10.SensorValid", spec := "sensorValid", apart := false, narrowed := true }
def SensorValidUptoSaid : Prop := sensorValidUptoRow.holds Try.pinned (OpenSpec.upto sensorValidSpec)

/-- 'baseboardlaw10.SensorBytes', WHERE WHAT IT READS IS OF BULK AT MOST 1048576: true; the input reads as it did. -/
def sensorBytesUptoRow : OpenClaim := { program := "ytcnkiecdagjgmaa", sum := "a3d8957656df6b5862a2f5efcd6fd9f7ba100840b353af357b4360598fc7ce1c", func := "baseboard/baseboardlaw10.SensorBytes", spec := "sensorBytes", apart := false, narrowed := true }
def SensorBytesUptoSaid : Prop := sensorBytesUptoRow.holds Try.pinned (OpenSpec.upto sensorBytesSpec)

/-- 'baseboardlaw10.SensorDecoded', WHERE WHAT IT READS IS OF BULK AT MOST 1048576: true; the input reads as it did. -/
def sensorDecodedUptoRow : OpenClaim := { program := "ytcnkiecdagjgmaa", sum := "a3d8957656df6b5862a2f5efcd6fd9f7ba100840b353af357b4360598fc7ce1c", func := "baseboard/baseboardlaw10.SensorDecoded", spec := "sensorDecoded", apart := false, narrowed := true }
def SensorDecodedUptoSaid : Prop := sensorDecodedUptoRow.holds Try.pinned (OpenSpec.upto sensorDecodedSpec)

/-- 'baseboardlaw10.SensorKinds', WHERE WHAT IT READS IS OF BULK AT MOST 1048576: true; the input reads as it did. -/
def sensorKindsUptoRow : OpenClaim := { program := "ytcnkiecdagjgmaa", sum := "a3d8957656df6b5862a2f5efcd6fd9f7ba100840b353af357b4360598fc7ce1c", func := "baseboard/baseboardlaw10.SensorKinds", spec := "sensorKinds", apart := false, narrowed := true }
def SensorKindsUptoSaid : Prop := sensorKindsUptoRow.holds Try.pinned (OpenSpec.upto sensorKindsSpec)

/-- 'baseboardlaw11.RepositoryPlays', WHERE WHAT IT READS IS OF BULK AT MOST 1048576: true; the input reads as it did. -/
def repositoryPlaysUptoRow : OpenClaim := { program := "ytcnkiecdagjgmaa", sum := "a3d8957656df6b5862a2f5efcd6fd9f7ba100840b353af357b4360598fc7ce1c", func := "baseboard/baseboardlaw11.RepositoryPlays", spec := "repositoryPlays", unfollowed := true, recurses := true, apart := false, narrowed := true }
def RepositoryPlaysUptoSaid : Prop := repositoryPlaysUptoRow.holds Try.pinned (OpenSpec.upto repositoryPlaysSpec)

end Rows
end Go.Proofs.Ytcnkiecdagjgmaa
