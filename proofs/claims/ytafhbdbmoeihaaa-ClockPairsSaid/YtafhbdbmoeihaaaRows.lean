/-
  No cell of these rows narrows 'for every input' (looked for: loops, veiled, ifaces, maps, wideKeys, modest, calm, conditions, laid).
  DERIVED. THE GIVEN ROWS OF THIS SEAT. 6 by the template 'for every input the law returns true; each argument reads behind the call as it read before'; 0 by the template 'total and deterministic' (their statements: YtafhbdbmoeihaaaTotals.lean).
  GIVEN WITH THE SEED: the statements are not yours to turn. If you find one false, say at which input.
  Laid BY PROGRAM, IN A SANDBOX (cutbox-rows.mjs): the forced cells as the released guide's own fill.sh prints them over the translation 1cfecee3b1c12479… (all of the seat's roots in one cut). By AI agents, Wed Nov 11 2026. No macro, syntax, notation, axiom, sorry.
-/
import Derived.Test.YtafhbdbmoeihaaaChecked
import GoSem.Claim
import GoSem.ClaimJoined
import GoSem.ClaimMapViews
import Derived.JoinedTies
import Derived.KernelRfl
namespace Go.Proofs.Ytafhbdbmoeihaaa
/- THE CELL 'sum', in the pinned program and in every row, IS THE sha256 OF THE DUMP (.gsa) THAT YtafhbdbmoeihaaaProg.lean LOADS. Nothing in Lean hashes anything: it is a label: what it is worth is what the hold of that sum in a sandbox is worth. -/
noncomputable def Try.pinned : Pinned := { name := "ytafhbdbmoeihaaa", sum := "1cfecee3b1c1247983e191e32802cf521a8b1a04877f54dd59d2b335ddeb061e", checked := Try.checked }
namespace Rows
def none {H : Type} : Left H := { results := [], args := [] }

/-- 'baseboardlaw08.ClockAdvances': WHATEVER THE INPUT: true; the input reads as it did. -/
def clockAdvancesSpec : ChangeSpec := { name := "clockAdvances", fn := fun _ => fun
  | [d1, d2, d3, d4, d5, d6] => { results := [.lit (.bool true)], args := [d1, d2, d3, d4, d5, d6] }
  | _ => none }
def clockAdvancesRow : OpenClaim := { program := "ytafhbdbmoeihaaa", sum := "1cfecee3b1c1247983e191e32802cf521a8b1a04877f54dd59d2b335ddeb061e", func := "baseboard/baseboardlaw08.ClockAdvances", spec := "clockAdvances", apart := false }
def ClockAdvancesSaid : Prop := clockAdvancesRow.holds Try.pinned (OpenSpec.ofChange clockAdvancesSpec)

/-- ITS FALSE NEIGHBOUR: 'it returns false'. Refute it at one input. -/
def clockAdvancesWrong : ChangeSpec := { name := "clockAdvances", fn := fun _ => fun
  | [d1, d2, d3, d4, d5, d6] => { results := [.lit (.bool false)], args := [d1, d2, d3, d4, d5, d6] }
  | _ => none }
def ClockAdvancesWrongFalsely : Prop := clockAdvancesRow.holds Try.pinned (OpenSpec.ofChange clockAdvancesWrong)

/-- 'baseboardlaw08.ClockAdjusts': WHATEVER THE INPUT: true; the input reads as it did. -/
def clockAdjustsSpec : ChangeSpec := { name := "clockAdjusts", fn := fun _ => fun
  | [d1, d2, d3, d4, d5] => { results := [.lit (.bool true)], args := [d1, d2, d3, d4, d5] }
  | _ => none }
def clockAdjustsRow : OpenClaim := { program := "ytafhbdbmoeihaaa", sum := "1cfecee3b1c1247983e191e32802cf521a8b1a04877f54dd59d2b335ddeb061e", func := "baseboard/baseboardlaw08.ClockAdjusts", spec := "clockAdjusts", apart := false }
def ClockAdjustsSaid : Prop := clockAdjustsRow.holds Try.pinned (OpenSpec.ofChange clockAdjustsSpec)

/-- ITS FALSE NEIGHBOUR: 'it returns false'. Refute it at one input. -/
def clockAdjustsWrong : ChangeSpec := { name := "clockAdjusts", fn := fun _ => fun
  | [d1, d2, d3, d4, d5] => { results := [.lit (.bool false)], args := [d1, d2, d3, d4, d5] }
  | _ => none }
def ClockAdjustsWrongFalsely : Prop := clockAdjustsRow.holds Try.pinned (OpenSpec.ofChange clockAdjustsWrong)

/-- 'baseboardlaw08.ClockReconciles': WHATEVER THE INPUT: true; the input reads as it did. -/
def clockReconcilesSpec : ChangeSpec := { name := "clockReconciles", fn := fun _ => fun
  | [d1, d2] => { results := [.lit (.bool true)], args := [d1, d2] }
  | _ => none }
def clockReconcilesRow : OpenClaim := { program := "ytafhbdbmoeihaaa", sum := "1cfecee3b1c1247983e191e32802cf521a8b1a04877f54dd59d2b335ddeb061e", func := "baseboard/baseboardlaw08.ClockReconciles", spec := "clockReconciles", apart := false }
def ClockReconcilesSaid : Prop := clockReconcilesRow.holds Try.pinned (OpenSpec.ofChange clockReconcilesSpec)

/-- ITS FALSE NEIGHBOUR: 'it returns false'. Refute it at one input. -/
def clockReconcilesWrong : ChangeSpec := { name := "clockReconciles", fn := fun _ => fun
  | [d1, d2] => { results := [.lit (.bool false)], args := [d1, d2] }
  | _ => none }
def ClockReconcilesWrongFalsely : Prop := clockReconcilesRow.holds Try.pinned (OpenSpec.ofChange clockReconcilesWrong)

/-- 'baseboardlaw08.ClockTruth': WHATEVER THE INPUT: true; the input reads as it did. -/
def clockTruthSpec : ChangeSpec := { name := "clockTruth", fn := fun _ => fun
  | [d] => { results := [.lit (.bool true)], args := [d] }
  | _ => none }
def clockTruthRow : OpenClaim := { program := "ytafhbdbmoeihaaa", sum := "1cfecee3b1c1247983e191e32802cf521a8b1a04877f54dd59d2b335ddeb061e", func := "baseboard/baseboardlaw08.ClockTruth", spec := "clockTruth", apart := false }
def ClockTruthSaid : Prop := clockTruthRow.holds Try.pinned (OpenSpec.ofChange clockTruthSpec)

/-- ITS FALSE NEIGHBOUR: 'it returns false'. Refute it at one input. -/
def clockTruthWrong : ChangeSpec := { name := "clockTruth", fn := fun _ => fun
  | [d] => { results := [.lit (.bool false)], args := [d] }
  | _ => none }
def ClockTruthWrongFalsely : Prop := clockTruthRow.holds Try.pinned (OpenSpec.ofChange clockTruthWrong)

/-- 'baseboardlaw08.ClockParts': WHATEVER THE INPUT: true; the input reads as it did. -/
def clockPartsSpec : ChangeSpec := { name := "clockParts", fn := fun _ => fun
  | [d1, d2, d3, d4, d5, d6] => { results := [.lit (.bool true)], args := [d1, d2, d3, d4, d5, d6] }
  | _ => none }
def clockPartsRow : OpenClaim := { program := "ytafhbdbmoeihaaa", sum := "1cfecee3b1c1247983e191e32802cf521a8b1a04877f54dd59d2b335ddeb061e", func := "baseboard/baseboardlaw08.ClockParts", spec := "clockParts", apart := false }
def ClockPartsSaid : Prop := clockPartsRow.holds Try.pinned (OpenSpec.ofChange clockPartsSpec)

/-- ITS FALSE NEIGHBOUR: 'it returns false'. Refute it at one input. -/
def clockPartsWrong : ChangeSpec := { name := "clockParts", fn := fun _ => fun
  | [d1, d2, d3, d4, d5, d6] => { results := [.lit (.bool false)], args := [d1, d2, d3, d4, d5, d6] }
  | _ => none }
def ClockPartsWrongFalsely : Prop := clockPartsRow.holds Try.pinned (OpenSpec.ofChange clockPartsWrong)

/-- 'baseboardlaw08.ClockPairs': WHATEVER THE INPUT: true; the input reads as it did. -/
def clockPairsSpec : ChangeSpec := { name := "clockPairs", fn := fun _ => fun
  | [d1, d2, d3] => { results := [.lit (.bool true)], args := [d1, d2, d3] }
  | _ => none }
def clockPairsRow : OpenClaim := { program := "ytafhbdbmoeihaaa", sum := "1cfecee3b1c1247983e191e32802cf521a8b1a04877f54dd59d2b335ddeb061e", func := "baseboard/baseboardlaw08.ClockPairs", spec := "clockPairs", apart := false }
def ClockPairsSaid : Prop := clockPairsRow.holds Try.pinned (OpenSpec.ofChange clockPairsSpec)

/-- ITS FALSE NEIGHBOUR: 'it returns false'. Refute it at one input. -/
def clockPairsWrong : ChangeSpec := { name := "clockPairs", fn := fun _ => fun
  | [d1, d2, d3] => { results := [.lit (.bool false)], args := [d1, d2, d3] }
  | _ => none }
def ClockPairsWrongFalsely : Prop := clockPairsRow.holds Try.pinned (OpenSpec.ofChange clockPairsWrong)

/- THE SECOND FORM. 'bulk': how many values and letters a reading holds, each counted each time it is reached (what is shared counts as often as it is met; a slice's spare places count too). A statement '..UptoSaid' is the law's where the arguments, and the package variables that the reading takes, are together of bulk at most 1048576: NARROWER than '..Said'. Prove '..Said' where nothing that the law and all that it calls make is longer than what came in: it says more and counts as full. Else prove '..UptoSaid'. A law counts once. -/
mutual
def uptoBulk {H : Type} : DataW H → Nat
  | .lit (.string bytes) => bytes.length + 1
  | .lit _ => 1
  | .nil => 1
  | .ptr d => uptoBulk d + 1
  | .slice elems spare => uptoBulkAll elems + uptoBulkAll spare + 1
  | .agg parts => uptoBulkAll parts + 1
  | .iface _ d => uptoBulk d + 1
  | .map entries => uptoBulkEntries entries + 1
  | .held _ => 1
def uptoBulkAll {H : Type} : List (DataW H) → Nat
  | [] => 0
  | d :: r => uptoBulk d + uptoBulkAll r
def uptoBulkEntries {H : Type} : List (Lit × DataW H) → Nat
  | [] => 0
  | x :: r => uptoBulkEntry x + uptoBulkEntries r
def uptoBulkEntry {H : Type} : Lit × DataW H → Nat
  | (.string bytes, d) => bytes.length + uptoBulk d + 1
  | (_, d) => uptoBulk d + 1
 end
def uptoSmall : (H : Type) → List (DataW H) → Bool := fun _ ds => decide (uptoBulkAll ds ≤ 1048576)
def OpenSpec.upto (s : _root_.Go.ChangeSpec) : _root_.Go.OpenSpec := { _root_.Go.OpenSpec.ofChange s with cond := some uptoSmall }

/-- 'baseboardlaw08.ClockAdvances', WHERE WHAT IT READS IS OF BULK AT MOST 1048576: true; the input reads as it did. -/
def clockAdvancesUptoRow : OpenClaim := { program := "ytafhbdbmoeihaaa", sum := "1cfecee3b1c1247983e191e32802cf521a8b1a04877f54dd59d2b335ddeb061e", func := "baseboard/baseboardlaw08.ClockAdvances", spec := "clockAdvances", apart := false, narrowed := true }
def ClockAdvancesUptoSaid : Prop := clockAdvancesUptoRow.holds Try.pinned (OpenSpec.upto clockAdvancesSpec)

/-- 'baseboardlaw08.ClockAdjusts', WHERE WHAT IT READS IS OF BULK AT MOST 1048576: true; the input reads as it did. -/
def clockAdjustsUptoRow : OpenClaim := { program := "ytafhbdbmoeihaaa", sum := "1cfecee3b1c1247983e191e32802cf521a8b1a04877f54dd59d2b335ddeb061e", func := "baseboard/baseboardlaw08.ClockAdjusts", spec := "clockAdjusts", apart := false, narrowed := true }
def ClockAdjustsUptoSaid : Prop := clockAdjustsUptoRow.holds Try.pinned (OpenSpec.upto clockAdjustsSpec)

/-- 'baseboardlaw08.ClockReconciles', WHERE WHAT IT READS IS OF BULK AT MOST 1048576: true; the input reads as it did. -/
def clockReconcilesUptoRow : OpenClaim := { program := "ytafhbdbmoeihaaa", sum := "1cfecee3b1c1247983e191e32802cf521a8b1a04877f54dd59d2b335ddeb061e", func := "baseboard/baseboardlaw08.ClockReconciles", spec := "clockReconciles", apart := false, narrowed := true }
def ClockReconcilesUptoSaid : Prop := clockReconcilesUptoRow.holds Try.pinned (OpenSpec.upto clockReconcilesSpec)

/-- 'baseboardlaw08.ClockTruth', WHERE WHAT IT READS IS OF BULK AT MOST 1048576: true; the input reads as it did. -/
def clockTruthUptoRow : OpenClaim := { program := "ytafhbdbmoeihaaa", sum := "1cfecee3b1c1247983e191e32802cf521a8b1a04877f54dd59d2b335ddeb061e", func := "baseboard/baseboardlaw08.ClockTruth", spec := "clockTruth", apart := false, narrowed := true }
def ClockTruthUptoSaid : Prop := clockTruthUptoRow.holds Try.pinned (OpenSpec.upto clockTruthSpec)

/-- 'baseboardlaw08.ClockParts', WHERE WHAT IT READS IS OF BULK AT MOST 1048576: true; the input reads as it did. -/
def clockPartsUptoRow : OpenClaim := { program := "ytafhbdbmoeihaaa", sum := "1cfecee3b1c1247983e191e32802cf521a8b1a04877f54dd59d2b335ddeb061e", func := "baseboard/baseboardlaw08.ClockParts", spec := "clockParts", apart := false, narrowed := true }
def ClockPartsUptoSaid : Prop := clockPartsUptoRow.holds Try.pinned (OpenSpec.upto clockPartsSpec)

/-- 'baseboardlaw08.ClockPairs', WHERE WHAT IT READS IS OF BULK AT MOST 1048576: true; the input reads as it did. -/
def clockPairsUptoRow : OpenClaim := { program := "ytafhbdbmoeihaaa", sum := "1cfecee3b1c1247983e191e32802cf521a8b1a04877f54dd59d2b335ddeb061e", func := "baseboard/baseboardlaw08.ClockPairs", spec := "clockPairs", apart := false, narrowed := true }
def ClockPairsUptoSaid : Prop := clockPairsUptoRow.holds Try.pinned (OpenSpec.upto clockPairsSpec)

end Rows
end Go.Proofs.Ytafhbdbmoeihaaa
