/-
  No cell of these rows narrows 'for every input' (looked for: loops, veiled, ifaces, maps, wideKeys, modest, calm, conditions, laid).
  DERIVED. THE GIVEN ROWS OF THIS SEAT. 6 by the template 'for every input the law returns true; each argument reads behind the call as it read before'; 0 by the template 'total and deterministic' (their statements: YtigooekimkkhaaaTotals.lean).
  GIVEN WITH THE SEED: the statements are not yours to turn. If you find one false, say at which input.
  Laid BY PROGRAM, IN A SANDBOX (cutbox-rows.mjs): the forced cells as the released guide's own fill.sh prints them over the translation 3031351e13954ef7… (all of the seat's roots in one cut). By AI agents, Wed Nov 11 2026. No macro, syntax, notation, axiom, sorry.
-/
import Derived.Test.YtigooekimkkhaaaChecked
import GoSem.Claim
import GoSem.ClaimJoined
import GoSem.ClaimMapViews
import Derived.JoinedTies
import Derived.KernelRfl
namespace Go.Proofs.Ytigooekimkkhaaa
/- THE CELL 'sum', in the pinned program and in every row, IS THE sha256 OF THE DUMP (.gsa) THAT YtigooekimkkhaaaProg.lean LOADS. Nothing in Lean hashes anything: it is a label: what it is worth is what the hold of that sum in a sandbox is worth. -/
noncomputable def Try.pinned : Pinned := { name := "ytigooekimkkhaaa", sum := "3031351e13954ef73173607fbac6e019d1b5809fbcc4121470f59f3d546adfe3", checked := Try.checked }
namespace Rows
def none {H : Type} : Left H := { results := [], args := [] }

/-- 'baseboardlaw10.SensorValid': WHATEVER THE INPUT: true; the input reads as it did. -/
def sensorValidSpec : ChangeSpec := { name := "sensorValid", fn := fun _ => fun
  | [d1, d2] => { results := [.lit (.bool true)], args := [d1, d2] }
  | _ => none }
def sensorValidRow : OpenClaim := { program := "ytigooekimkkhaaa", sum := "3031351e13954ef73173607fbac6e019d1b5809fbcc4121470f59f3d546adfe3", func := "baseboard/baseboardlaw10.SensorValid", spec := "sensorValid", apart := false }
def SensorValidSaid : Prop := sensorValidRow.holds Try.pinned (OpenSpec.ofChange sensorValidSpec)

/-- ITS FALSE NEIGHBOUR: 'it returns false'. Refute it at one input. -/
def sensorValidWrong : ChangeSpec := { name := "sensorValid", fn := fun _ => fun
  | [d1, d2] => { results := [.lit (.bool false)], args := [d1, d2] }
  | _ => none }
def SensorValidWrongFalsely : Prop := sensorValidRow.holds Try.pinned (OpenSpec.ofChange sensorValidWrong)

/-- 'baseboardlaw10.SensorBytes': WHATEVER THE INPUT: true; the input reads as it did. -/
def sensorBytesSpec : ChangeSpec := { name := "sensorBytes", fn := fun _ => fun
  | [d1, d2, d3] => { results := [.lit (.bool true)], args := [d1, d2, d3] }
  | _ => none }
def sensorBytesRow : OpenClaim := { program := "ytigooekimkkhaaa", sum := "3031351e13954ef73173607fbac6e019d1b5809fbcc4121470f59f3d546adfe3", func := "baseboard/baseboardlaw10.SensorBytes", spec := "sensorBytes", apart := false }
def SensorBytesSaid : Prop := sensorBytesRow.holds Try.pinned (OpenSpec.ofChange sensorBytesSpec)

/-- ITS FALSE NEIGHBOUR: 'it returns false'. Refute it at one input. -/
def sensorBytesWrong : ChangeSpec := { name := "sensorBytes", fn := fun _ => fun
  | [d1, d2, d3] => { results := [.lit (.bool false)], args := [d1, d2, d3] }
  | _ => none }
def SensorBytesWrongFalsely : Prop := sensorBytesRow.holds Try.pinned (OpenSpec.ofChange sensorBytesWrong)

/-- 'baseboardlaw10.SensorReturns': WHATEVER THE INPUT: true; the input reads as it did. -/
def sensorReturnsSpec : ChangeSpec := { name := "sensorReturns", fn := fun _ => fun
  | [d1, d2, d3, d4] => { results := [.lit (.bool true)], args := [d1, d2, d3, d4] }
  | _ => none }
def sensorReturnsRow : OpenClaim := { program := "ytigooekimkkhaaa", sum := "3031351e13954ef73173607fbac6e019d1b5809fbcc4121470f59f3d546adfe3", func := "baseboard/baseboardlaw10.SensorReturns", spec := "sensorReturns", apart := false }
def SensorReturnsSaid : Prop := sensorReturnsRow.holds Try.pinned (OpenSpec.ofChange sensorReturnsSpec)

/-- ITS FALSE NEIGHBOUR: 'it returns false'. Refute it at one input. -/
def sensorReturnsWrong : ChangeSpec := { name := "sensorReturns", fn := fun _ => fun
  | [d1, d2, d3, d4] => { results := [.lit (.bool false)], args := [d1, d2, d3, d4] }
  | _ => none }
def SensorReturnsWrongFalsely : Prop := sensorReturnsRow.holds Try.pinned (OpenSpec.ofChange sensorReturnsWrong)

/-- 'baseboardlaw10.SensorDecoded': WHATEVER THE INPUT: true; the input reads as it did. -/
def sensorDecodedSpec : ChangeSpec := { name := "sensorDecoded", fn := fun _ => fun
  | [d1, d2] => { results := [.lit (.bool true)], args := [d1, d2] }
  | _ => none }
def sensorDecodedRow : OpenClaim := { program := "ytigooekimkkhaaa", sum := "3031351e13954ef73173607fbac6e019d1b5809fbcc4121470f59f3d546adfe3", func := "baseboard/baseboardlaw10.SensorDecoded", spec := "sensorDecoded", apart := false }
def SensorDecodedSaid : Prop := sensorDecodedRow.holds Try.pinned (OpenSpec.ofChange sensorDecodedSpec)

/-- ITS FALSE NEIGHBOUR: 'it returns false'. Refute it at one input. -/
def sensorDecodedWrong : ChangeSpec := { name := "sensorDecoded", fn := fun _ => fun
  | [d1, d2] => { results := [.lit (.bool false)], args := [d1, d2] }
  | _ => none }
def SensorDecodedWrongFalsely : Prop := sensorDecodedRow.holds Try.pinned (OpenSpec.ofChange sensorDecodedWrong)

/-- 'baseboardlaw10.SensorLimits': WHATEVER THE INPUT: true; the input reads as it did. -/
def sensorLimitsSpec : ChangeSpec := { name := "sensorLimits", fn := fun _ => fun
  | [d1, d2] => { results := [.lit (.bool true)], args := [d1, d2] }
  | _ => none }
def sensorLimitsRow : OpenClaim := { program := "ytigooekimkkhaaa", sum := "3031351e13954ef73173607fbac6e019d1b5809fbcc4121470f59f3d546adfe3", func := "baseboard/baseboardlaw10.SensorLimits", spec := "sensorLimits", apart := false }
def SensorLimitsSaid : Prop := sensorLimitsRow.holds Try.pinned (OpenSpec.ofChange sensorLimitsSpec)

/-- ITS FALSE NEIGHBOUR: 'it returns false'. Refute it at one input. -/
def sensorLimitsWrong : ChangeSpec := { name := "sensorLimits", fn := fun _ => fun
  | [d1, d2] => { results := [.lit (.bool false)], args := [d1, d2] }
  | _ => none }
def SensorLimitsWrongFalsely : Prop := sensorLimitsRow.holds Try.pinned (OpenSpec.ofChange sensorLimitsWrong)

/-- 'baseboardlaw10.SensorKinds': WHATEVER THE INPUT: true; the input reads as it did. -/
def sensorKindsSpec : ChangeSpec := { name := "sensorKinds", fn := fun _ => fun
  | [d1, d2, d3] => { results := [.lit (.bool true)], args := [d1, d2, d3] }
  | _ => none }
def sensorKindsRow : OpenClaim := { program := "ytigooekimkkhaaa", sum := "3031351e13954ef73173607fbac6e019d1b5809fbcc4121470f59f3d546adfe3", func := "baseboard/baseboardlaw10.SensorKinds", spec := "sensorKinds", apart := false }
def SensorKindsSaid : Prop := sensorKindsRow.holds Try.pinned (OpenSpec.ofChange sensorKindsSpec)

/-- ITS FALSE NEIGHBOUR: 'it returns false'. Refute it at one input. -/
def sensorKindsWrong : ChangeSpec := { name := "sensorKinds", fn := fun _ => fun
  | [d1, d2, d3] => { results := [.lit (.bool false)], args := [d1, d2, d3] }
  | _ => none }
def SensorKindsWrongFalsely : Prop := sensorKindsRow.holds Try.pinned (OpenSpec.ofChange sensorKindsWrong)

/- THE SECOND FORM. 'bulk': how many values and letters a reading holds, each counted each time it is reached (what is shared counts as often as it is met; a slice's spare places count too). A statement '..UptoSaid' is the law's where the arguments, and the package variables that the reading takes, are together of bulk at most 1048576: NARROWER than '..Said'. Prove '..Said' where nothing that the law and all that it calls make is longer than what came in: it says more and counts as full. Else prove '..UptoSaid'. A law counts once. -/
mutual
def uptoBulk {H : Type} : DataW H → Nat
  | .lit (.string bytes) => bytes.length + 1
  | .lit _ => 1
  | .nil => 1
  | .ptr d => uptoBulk d + 1
  | .slice elems spare => uptoBulkAll elems + uptoBulkAll spare + 1
  | .agg parts => uptoBulkAll parts + 1
  | .iface _ d => uptoBulk d + 1
  | .map entries => uptoBulkEntries entries + 1
  | .held _ => 1
def uptoBulkAll {H : Type} : List (DataW H) → Nat
  | [] => 0
  | d :: r => uptoBulk d + uptoBulkAll r
def uptoBulkEntries {H : Type} : List (Lit × DataW H) → Nat
  | [] => 0
  | x :: r => uptoBulkEntry x + uptoBulkEntries r
def uptoBulkEntry {H : Type} : Lit × DataW H → Nat
  | (.string bytes, d) => bytes.length + uptoBulk d + 1
  | (_, d) => uptoBulk d + 1
 end
def uptoSmall : (H : Type) → List (DataW H) → Bool := fun _ ds => decide (uptoBulkAll ds ≤ 1048576)
def OpenSpec.upto (s : _root_.Go.ChangeSpec) : _root_.Go.OpenSpec := { _root_.Go.OpenSpec.ofChange s with cond := some uptoSmall }

/-- 'baseboardlaw10.SensorValid', WHERE WHAT IT READS IS OF BULK AT MOST 1048576: true; the input reads as it did. -/
def sensorValidUptoRow : OpenClaim := { program := "ytigooekimkkhaaa", sum := "3031351e13954ef73173607fbac6e019d1b5809fbcc4121470f59f3d546adfe3", func := "baseboard/baseboardlaw10.SensorValid", spec := "sensorValid", apart := false, narrowed := true }
def SensorValidUptoSaid : Prop := sensorValidUptoRow.holds Try.pinned (OpenSpec.upto sensorValidSpec)

/-- 'baseboardlaw10.SensorBytes', WHERE WHAT IT READS IS OF BULK AT MOST 1048576: true; the input reads as it did. -/
def sensorBytesUptoRow : OpenClaim := { program := "ytigooekimkkhaaa", sum := "3031351e13954ef73173607fbac6e019d1b5809fbcc4121470f59f3d546adfe3", func := "baseboard/baseboardlaw10.SensorBytes", spec := "sensorBytes", apart := false, narrowed := true }
def SensorBytesUptoSaid : Prop := sensorBytesUptoRow.holds Try.pinned (OpenSpec.upto sensorBytesSpec)

/-- 'baseboardlaw10.SensorReturns', WHERE WHAT IT READS IS OF BULK AT MOST 1048576: true; the input reads as it did. -/
def sensorReturnsUptoRow : OpenClaim := { program := "ytigooekimkkhaaa", sum := "3031351e13954ef73173607fbac6e019d1b5809fbcc4121470f59f3d546adfe3", func := "baseboard/baseboardlaw10.SensorReturns", spec := "sensorReturns", apart := false, narrowed := true }
def SensorReturnsUptoSaid : Prop := sensorReturnsUptoRow.holds Try.pinned (OpenSpec.upto sensorReturnsSpec)

/-- 'baseboardlaw10.SensorDecoded', WHERE WHAT IT READS IS OF BULK AT MOST 1048576: true; the input reads as it did. -/
def sensorDecodedUptoRow : OpenClaim := { program := "ytigooekimkkhaaa", sum := "3031351e13954ef73173607fbac6e019d1b5809fbcc4121470f59f3d546adfe3", func := "baseboard/baseboardlaw10.SensorDecoded", spec := "sensorDecoded", apart := false, narrowed := true }
def SensorDecodedUptoSaid : Prop := sensorDecodedUptoRow.holds Try.pinned (OpenSpec.upto sensorDecodedSpec)

/-- 'baseboardlaw10.SensorLimits', WHERE WHAT IT READS IS OF BULK AT MOST 1048576: true; the input reads as it did. -/
def sensorLimitsUptoRow : OpenClaim := { program := "ytigooekimkkhaaa", sum := "3031351e13954ef73173607fbac6e019d1b5809fbcc4121470f59f3d546adfe3", func := "baseboard/baseboardlaw10.SensorLimits", spec := "sensorLimits", apart := false, narrowed := true }
def SensorLimitsUptoSaid : Prop := sensorLimitsUptoRow.holds Try.pinned (OpenSpec.upto sensorLimitsSpec)

/-- 'baseboardlaw10.SensorKinds', WHERE WHAT IT READS IS OF BULK AT MOST 1048576: true; the input reads as it did. -/
def sensorKindsUptoRow : OpenClaim := { program := "ytigooekimkkhaaa", sum := "3031351e13954ef73173607fbac6e019d1b5809fbcc4121470f59f3d546adfe3", func := "baseboard/baseboardlaw10.SensorKinds", spec := "sensorKinds", apart := false, narrowed := true }
def SensorKindsUptoSaid : Prop := sensorKindsUptoRow.holds Try.pinned (OpenSpec.upto sensorKindsSpec)

end Rows
end Go.Proofs.Ytigooekimkkhaaa
