/-
  No cell of these rows narrows 'for every input' (looked for: loops, veiled, ifaces, maps, wideKeys, modest, calm, conditions, laid).
  DERIVED. THE GIVEN ROWS OF THIS SEAT. 8 by the template 'for every input the law returns true; each argument reads behind the call as it read before'; 0 by the template 'total and deterministic' (their statements: YtkmkpidoajfhmaaTotals.lean).
  GIVEN WITH THE SEED: the statements are not yours to turn. If you find one false, say at which input.
  Laid BY PROGRAM, IN A SANDBOX (cutbox-rows.mjs): the forced cells as the released guide's own fill.sh prints them over the translation 0c3a38f1dedbda83… (all of the seat's roots in one cut). By AI agents, Wed Nov 11 2026. No macro, syntax, notation, axiom, sorry.
-/
import Derived.Test.YtkmkpidoajfhmaaChecked
import GoSem.Claim
import GoSem.ClaimJoined
import GoSem.ClaimMapViews
import Derived.JoinedTies
import Derived.KernelRfl
namespace Go.Proofs.Ytkmkpidoajfhmaa
/- THE CELL 'sum', in the pinned program and in every row, IS THE sha256 OF THE DUMP (.gsa) THAT YtkmkpidoajfhmaaProg.lean LOADS. Nothing in Lean hashes anything: it is a label: what it is worth is what the hold of that sum in a sandbox is worth. -/
noncomputable def Try.pinned : Pinned := { name := "ytkmkpidoajfhmaa", sum := "0c3a38f1dedbda83f93a5d6f43a5d8a6732bcdab5ab862544a3450eedb404107", checked := Try.checked }
namespace Rows
def none {H : Type} : Left H := { results := [], args := [] }

/-- 'baseboardlaw05.FlashPlays': WHATEVER THE INPUT: true; the input reads as it did. -/
def flashPlaysSpec : ChangeSpec := { name := "flashPlays", fn := fun _ => fun
  | [d1, d2, d3] => { results := [.lit (.bool true)], args := [d1, d2, d3] }
  | _ => none }
def flashPlaysRow : OpenClaim := { program := "ytkmkpidoajfhmaa", sum := "0c3a38f1dedbda83f93a5d6f43a5d8a6732bcdab5ab862544a3450eedb404107", func := "baseboard/baseboardlaw05.FlashPlays", spec := "flashPlays", apart := false }
def FlashPlaysSaid : Prop := flashPlaysRow.holds Try.pinned (OpenSpec.ofChange flashPlaysSpec)

/-- ITS FALSE NEIGHBOUR: 'it returns false'. Refute it at one input. -/
def flashPlaysWrong : ChangeSpec := { name := "flashPlays", fn := fun _ => fun
  | [d1, d2, d3] => { results := [.lit (.bool false)], args := [d1, d2, d3] }
  | _ => none }
def FlashPlaysWrongFalsely : Prop := flashPlaysRow.holds Try.pinned (OpenSpec.ofChange flashPlaysWrong)

/-- 'baseboardlaw05.FlashFails': WHATEVER THE INPUT: true; the input reads as it did. -/
def flashFailsSpec : ChangeSpec := { name := "flashFails", fn := fun _ => fun
  | [d1, d2, d3, d4] => { results := [.lit (.bool true)], args := [d1, d2, d3, d4] }
  | _ => none }
def flashFailsRow : OpenClaim := { program := "ytkmkpidoajfhmaa", sum := "0c3a38f1dedbda83f93a5d6f43a5d8a6732bcdab5ab862544a3450eedb404107", func := "baseboard/baseboardlaw05.FlashFails", spec := "flashFails", apart := false }
def FlashFailsSaid : Prop := flashFailsRow.holds Try.pinned (OpenSpec.ofChange flashFailsSpec)

/-- ITS FALSE NEIGHBOUR: 'it returns false'. Refute it at one input. -/
def flashFailsWrong : ChangeSpec := { name := "flashFails", fn := fun _ => fun
  | [d1, d2, d3, d4] => { results := [.lit (.bool false)], args := [d1, d2, d3, d4] }
  | _ => none }
def FlashFailsWrongFalsely : Prop := flashFailsRow.holds Try.pinned (OpenSpec.ofChange flashFailsWrong)

/-- 'baseboardlaw05.FlashErases': WHATEVER THE INPUT: true; the input reads as it did. -/
def flashErasesSpec : ChangeSpec := { name := "flashErases", fn := fun _ => fun
  | [d1, d2, d3, d4] => { results := [.lit (.bool true)], args := [d1, d2, d3, d4] }
  | _ => none }
def flashErasesRow : OpenClaim := { program := "ytkmkpidoajfhmaa", sum := "0c3a38f1dedbda83f93a5d6f43a5d8a6732bcdab5ab862544a3450eedb404107", func := "baseboard/baseboardlaw05.FlashErases", spec := "flashErases", apart := false }
def FlashErasesSaid : Prop := flashErasesRow.holds Try.pinned (OpenSpec.ofChange flashErasesSpec)

/-- ITS FALSE NEIGHBOUR: 'it returns false'. Refute it at one input. -/
def flashErasesWrong : ChangeSpec := { name := "flashErases", fn := fun _ => fun
  | [d1, d2, d3, d4] => { results := [.lit (.bool false)], args := [d1, d2, d3, d4] }
  | _ => none }
def FlashErasesWrongFalsely : Prop := flashErasesRow.holds Try.pinned (OpenSpec.ofChange flashErasesWrong)

/-- 'baseboardlaw05.FlashClears': WHATEVER THE INPUT: true; the input reads as it did. -/
def flashClearsSpec : ChangeSpec := { name := "flashClears", fn := fun _ => fun
  | [d] => { results := [.lit (.bool true)], args := [d] }
  | _ => none }
def flashClearsRow : OpenClaim := { program := "ytkmkpidoajfhmaa", sum := "0c3a38f1dedbda83f93a5d6f43a5d8a6732bcdab5ab862544a3450eedb404107", func := "baseboard/baseboardlaw05.FlashClears", spec := "flashClears", apart := false }
def FlashClearsSaid : Prop := flashClearsRow.holds Try.pinned (OpenSpec.ofChange flashClearsSpec)

/-- ITS FALSE NEIGHBOUR: 'it returns false'. Refute it at one input. -/
def flashClearsWrong : ChangeSpec := { name := "flashClears", fn := fun _ => fun
  | [d] => { results := [.lit (.bool false)], args := [d] }
  | _ => none }
def FlashClearsWrongFalsely : Prop := flashClearsRow.holds Try.pinned (OpenSpec.ofChange flashClearsWrong)

/-- 'baseboardlaw05.FlashClones': WHATEVER THE INPUT: true; the input reads as it did. -/
def flashClonesSpec : ChangeSpec := { name := "flashClones", fn := fun _ => fun
  | [d1, d2, d3] => { results := [.lit (.bool true)], args := [d1, d2, d3] }
  | _ => none }
def flashClonesRow : OpenClaim := { program := "ytkmkpidoajfhmaa", sum := "0c3a38f1dedbda83f93a5d6f43a5d8a6732bcdab5ab862544a3450eedb404107", func := "baseboard/baseboardlaw05.FlashClones", spec := "flashClones", apart := false }
def FlashClonesSaid : Prop := flashClonesRow.holds Try.pinned (OpenSpec.ofChange flashClonesSpec)

/-- ITS FALSE NEIGHBOUR: 'it returns false'. Refute it at one input. -/
def flashClonesWrong : ChangeSpec := { name := "flashClones", fn := fun _ => fun
  | [d1, d2, d3] => { results := [.lit (.bool false)], args := [d1, d2, d3] }
  | _ => none }
def FlashClonesWrongFalsely : Prop := flashClonesRow.holds Try.pinned (OpenSpec.ofChange flashClonesWrong)

/-- 'baseboardlaw05.FlashDown': WHATEVER THE INPUT: true; the input reads as it did. -/
def flashDownSpec : ChangeSpec := { name := "flashDown", fn := fun _ => fun
  | [d1, d2, d3] => { results := [.lit (.bool true)], args := [d1, d2, d3] }
  | _ => none }
def flashDownRow : OpenClaim := { program := "ytkmkpidoajfhmaa", sum := "0c3a38f1dedbda83f93a5d6f43a5d8a6732bcdab5ab862544a3450eedb404107", func := "baseboard/baseboardlaw05.FlashDown", spec := "flashDown", apart := false }
def FlashDownSaid : Prop := flashDownRow.holds Try.pinned (OpenSpec.ofChange flashDownSpec)

/-- ITS FALSE NEIGHBOUR: 'it returns false'. Refute it at one input. -/
def flashDownWrong : ChangeSpec := { name := "flashDown", fn := fun _ => fun
  | [d1, d2, d3] => { results := [.lit (.bool false)], args := [d1, d2, d3] }
  | _ => none }
def FlashDownWrongFalsely : Prop := flashDownRow.holds Try.pinned (OpenSpec.ofChange flashDownWrong)

/-- 'baseboardlaw05.FlashSteps': WHATEVER THE INPUT: true; the input reads as it did. -/
def flashStepsSpec : ChangeSpec := { name := "flashSteps", fn := fun _ => fun
  | [d] => { results := [.lit (.bool true)], args := [d] }
  | _ => none }
def flashStepsRow : OpenClaim := { program := "ytkmkpidoajfhmaa", sum := "0c3a38f1dedbda83f93a5d6f43a5d8a6732bcdab5ab862544a3450eedb404107", func := "baseboard/baseboardlaw05.FlashSteps", spec := "flashSteps", apart := false }
def FlashStepsSaid : Prop := flashStepsRow.holds Try.pinned (OpenSpec.ofChange flashStepsSpec)

/-- ITS FALSE NEIGHBOUR: 'it returns false'. Refute it at one input. -/
def flashStepsWrong : ChangeSpec := { name := "flashSteps", fn := fun _ => fun
  | [d] => { results := [.lit (.bool false)], args := [d] }
  | _ => none }
def FlashStepsWrongFalsely : Prop := flashStepsRow.holds Try.pinned (OpenSpec.ofChange flashStepsWrong)

/-- 'baseboardlaw05.FlashParts': WHATEVER THE INPUT: true; the input reads as it did. -/
def flashPartsSpec : ChangeSpec := { name := "flashParts", fn := fun _ => fun
  | [d1, d2, d3] => { results := [.lit (.bool true)], args := [d1, d2, d3] }
  | _ => none }
def flashPartsRow : OpenClaim := { program := "ytkmkpidoajfhmaa", sum := "0c3a38f1dedbda83f93a5d6f43a5d8a6732bcdab5ab862544a3450eedb404107", func := "baseboard/baseboardlaw05.FlashParts", spec := "flashParts", apart := false }
def FlashPartsSaid : Prop := flashPartsRow.holds Try.pinned (OpenSpec.ofChange flashPartsSpec)

/-- ITS FALSE NEIGHBOUR: 'it returns false'. Refute it at one input. -/
def flashPartsWrong : ChangeSpec := { name := "flashParts", fn := fun _ => fun
  | [d1, d2, d3] => { results := [.lit (.bool false)], args := [d1, d2, d3] }
  | _ => none }
def FlashPartsWrongFalsely : Prop := flashPartsRow.holds Try.pinned (OpenSpec.ofChange flashPartsWrong)

/- THE SECOND FORM. 'bulk': how many values and letters a reading holds, each counted each time it is reached (what is shared counts as often as it is met; a slice's spare places count too). A statement '..UptoSaid' is the law's where the arguments, and the package variables that the reading takes, are together of bulk at most 1048576: NARROWER than '..Said'. Prove '..Said' where nothing that the law and all that it calls make is longer than what came in: it says more and counts as full. Else prove '..UptoSaid'. A law counts once. -/
mutual
def uptoBulk {H : Type} : DataW H → Nat
  | .lit (.string bytes) => bytes.length + 1
  | .lit _ => 1
  | .nil => 1
  | .ptr d => uptoBulk d + 1
  | .slice elems spare => uptoBulkAll elems + uptoBulkAll spare + 1
  | .agg parts => uptoBulkAll parts + 1
  | .iface _ d => uptoBulk d + 1
  | .map entries => uptoBulkEntries entries + 1
  | .held _ => 1
def uptoBulkAll {H : Type} : List (DataW H) → Nat
  | [] => 0
  | d :: r => uptoBulk d + uptoBulkAll r
def uptoBulkEntries {H : Type} : List (Lit × DataW H) → Nat
  | [] => 0
  | x :: r => uptoBulkEntry x + uptoBulkEntries r
def uptoBulkEntry {H : Type} : Lit × DataW H → Nat
  | (.string bytes, d) => bytes.length + uptoBulk d + 1
  | (_, d) => uptoBulk d + 1
 end
def uptoSmall : (H : Type) → List (DataW H) → Bool := fun _ ds => decide (uptoBulkAll ds ≤ 1048576)
def OpenSpec.upto (s : _root_.Go.ChangeSpec) : _root_.Go.OpenSpec := { _root_.Go.OpenSpec.ofChange s with cond := some uptoSmall }

/-- 'baseboardlaw05.FlashPlays', WHERE WHAT IT READS IS OF BULK AT MOST 1048576: true; the input reads as it did. -/
def flashPlaysUptoRow : OpenClaim := { program := "ytkmkpidoajfhmaa", sum := "0c3a38f1dedbda83f93a5d6f43a5d8a6732bcdab5ab862544a3450eedb404107", func := "baseboard/baseboardlaw05.FlashPlays", spec := "flashPlays", apart := false, narrowed := true }
def FlashPlaysUptoSaid : Prop := flashPlaysUptoRow.holds Try.pinned (OpenSpec.upto flashPlaysSpec)

/-- 'baseboardlaw05.FlashFails', WHERE WHAT IT READS IS OF BULK AT MOST 1048576: true; the input reads as it did. -/
def flashFailsUptoRow : OpenClaim := { program := "ytkmkpidoajfhmaa", sum := "0c3a38f1dedbda83f93a5d6f43a5d8a6732bcdab5ab862544a3450eedb404107", func := "baseboard/baseboardlaw05.FlashFails", spec := "flashFails", apart := false, narrowed := true }
def FlashFailsUptoSaid : Prop := flashFailsUptoRow.holds Try.pinned (OpenSpec.upto flashFailsSpec)

/-- 'baseboardlaw05.FlashErases', WHERE WHAT IT READS IS OF BULK AT MOST 1048576: true; the input reads as it did. -/
def flashErasesUptoRow : OpenClaim := { program := "ytkmkpidoajfhmaa", sum := "0c3a38f1dedbda83f93a5d6f43a5d8a6732bcdab5ab862544a3450eedb404107", func := "baseboard/baseboardlaw05.FlashErases", spec := "flashErases", apart := false, narrowed := true }
def FlashErasesUptoSaid : Prop := flashErasesUptoRow.holds Try.pinned (OpenSpec.upto flashErasesSpec)

/-- 'baseboardlaw05.FlashClears', WHERE WHAT IT READS IS OF BULK AT MOST 1048576: true; the input reads as it did. -/
def flashClearsUptoRow : OpenClaim := { program := "ytkmkpidoajfhmaa", sum := "0c3a38f1dedbda83f93a5d6f43a5d8a6732bcdab5ab862544a3450eedb404107", func := "baseboard/baseboardlaw05.FlashClears", spec := "flashClears", apart := false, narrowed := true }
def FlashClearsUptoSaid : Prop := flashClearsUptoRow.holds Try.pinned (OpenSpec.upto flashClearsSpec)

/-- 'baseboardlaw05.FlashClones', WHERE WHAT IT READS IS OF BULK AT MOST 1048576: true; the input reads as it did. -/
def flashClonesUptoRow : OpenClaim := { program := "ytkmkpidoajfhmaa", sum := "0c3a38f1dedbda83f93a5d6f43a5d8a6732bcdab5ab862544a3450eedb404107", func := "baseboard/baseboardlaw05.FlashClones", spec := "flashClones", apart := false, narrowed := true }
def FlashClonesUptoSaid : Prop := flashClonesUptoRow.holds Try.pinned (OpenSpec.upto flashClonesSpec)

/-- 'baseboardlaw05.FlashDown', WHERE WHAT IT READS IS OF BULK AT MOST 1048576: true; the input reads as it did. -/
def flashDownUptoRow : OpenClaim := { program := "ytkmkpidoajfhmaa", sum := "0c3a38f1dedbda83f93a5d6f43a5d8a6732bcdab5ab862544a3450eedb404107", func := "baseboard/baseboardlaw05.FlashDown", spec := "flashDown", apart := false, narrowed := true }
def FlashDownUptoSaid : Prop := flashDownUptoRow.holds Try.pinned (OpenSpec.upto flashDownSpec)

/-- 'baseboardlaw05.FlashSteps', WHERE WHAT IT READS IS OF BULK AT MOST 1048576: true; the input reads as it did. -/
def flashStepsUptoRow : OpenClaim := { program := "ytkmkpidoajfhmaa", sum := "0c3a38f1dedbda83f93a5d6f43a5d8a6732bcdab5ab862544a3450eedb404107", func := "baseboard/baseboardlaw05.FlashSteps", spec := "flashSteps", apart := false, narrowed := true }
def FlashStepsUptoSaid : Prop := flashStepsUptoRow.holds Try.pinned (OpenSpec.upto flashStepsSpec)

/-- 'baseboardlaw05.FlashParts', WHERE WHAT IT READS IS OF BULK AT MOST 1048576: true; the input reads as it did. -/
def flashPartsUptoRow : OpenClaim := { program := "ytkmkpidoajfhmaa", sum := "0c3a38f1dedbda83f93a5d6f43a5d8a6732bcdab5ab862544a3450eedb404107", func := "baseboard/baseboardlaw05.FlashParts", spec := "flashParts", apart := false, narrowed := true }
def FlashPartsUptoSaid : Prop := flashPartsUptoRow.holds Try.pinned (OpenSpec.upto flashPartsSpec)

end Rows
end Go.Proofs.Ytkmkpidoajfhmaa
