/-
  No cell of these rows narrows 'for every input' (looked for: loops, veiled, ifaces, maps, wideKeys, modest, calm, conditions, laid).
  DERIVED. THE GIVEN ROWS OF THIS SEAT. 12 by the template 'for every input the law returns true; each argument reads behind the call as it read before'; 0 by the template 'total and deterministic' (their statements: YtcjmpogjickplaaTotals.lean).
  GIVEN WITH THE SEED: the statements are not yours to turn. If you find one false, say at which input.
  Laid BY PROGRAM, IN A SANDBOX (cutbox-rows.mjs): the forced cells as the released guide's own fill.sh prints them over the translation 36094f741103ac8d… (all of the seat's roots in one cut). By AI agents, Wed Nov 11 2026. No macro, syntax, notation, axiom, sorry.
-/
import Derived.Test.YtcjmpogjickplaaChecked
import GoSem.Claim
import GoSem.ClaimJoined
import GoSem.ClaimMapViews
import Derived.JoinedTies
import Derived.KernelRfl
namespace Go.Proofs.Ytcjmpogjickplaa
/- THE CELL 'sum', in the pinned program and in every row, IS THE sha256 OF THE DUMP (.gsa) THAT YtcjmpogjickplaaProg.lean LOADS. Nothing in Lean hashes anything: it is a label: what it is worth is what the hold of that sum in a sandbox is worth. -/
noncomputable def Try.pinned : Pinned := { name := "ytcjmpogjickplaa", sum := "36094f741103ac8d19d05e56b203ce8b3d35d94b0b1deb8a83f18e251503e731", checked := Try.checked }
namespace Rows
def none {H : Type} : Left H := { results := [], args := [] }

/-- 'baseboardlaw09.EventlogOrder': WHATEVER THE INPUT: true; the input reads as it did. -/
def eventlogOrderSpec : ChangeSpec := { name := "eventlogOrder", fn := fun _ => fun
  | [d1, d2, d3, d4, d5] => { results := [.lit (.bool true)], args := [d1, d2, d3, d4, d5] }
  | _ => none }
def eventlogOrderRow : OpenClaim := { program := "ytcjmpogjickplaa", sum := "36094f741103ac8d19d05e56b203ce8b3d35d94b0b1deb8a83f18e251503e731", func := "baseboard/baseboardlaw09.EventlogOrder", spec := "eventlogOrder", unfollowed := true, recurses := true, apart := false }
def EventlogOrderSaid : Prop := eventlogOrderRow.holds Try.pinned (OpenSpec.ofChange eventlogOrderSpec)

/-- ITS FALSE NEIGHBOUR: 'it returns false'. Refute it at one input. -/
def eventlogOrderWrong : ChangeSpec := { name := "eventlogOrder", fn := fun _ => fun
  | [d1, d2, d3, d4, d5] => { results := [.lit (.bool false)], args := [d1, d2, d3, d4, d5] }
  | _ => none }
def EventlogOrderWrongFalsely : Prop := eventlogOrderRow.holds Try.pinned (OpenSpec.ofChange eventlogOrderWrong)

/-- 'baseboardlaw09.EventlogWalks': WHATEVER THE INPUT: true; the input reads as it did. -/
def eventlogWalksSpec : ChangeSpec := { name := "eventlogWalks", fn := fun _ => fun
  | [d1, d2, d3, d4, d5, d6] => { results := [.lit (.bool true)], args := [d1, d2, d3, d4, d5, d6] }
  | _ => none }
def eventlogWalksRow : OpenClaim := { program := "ytcjmpogjickplaa", sum := "36094f741103ac8d19d05e56b203ce8b3d35d94b0b1deb8a83f18e251503e731", func := "baseboard/baseboardlaw09.EventlogWalks", spec := "eventlogWalks", unfollowed := true, recurses := true, apart := false }
def EventlogWalksSaid : Prop := eventlogWalksRow.holds Try.pinned (OpenSpec.ofChange eventlogWalksSpec)

/-- ITS FALSE NEIGHBOUR: 'it returns false'. Refute it at one input. -/
def eventlogWalksWrong : ChangeSpec := { name := "eventlogWalks", fn := fun _ => fun
  | [d1, d2, d3, d4, d5, d6] => { results := [.lit (.bool false)], args := [d1, d2, d3, d4, d5, d6] }
  | _ => none }
def EventlogWalksWrongFalsely : Prop := eventlogWalksRow.holds Try.pinned (OpenSpec.ofChange eventlogWalksWrong)

/-- 'baseboardlaw09.EventlogClears': WHATEVER THE INPUT: true; the input reads as it did. -/
def eventlogClearsSpec : ChangeSpec := { name := "eventlogClears", fn := fun _ => fun
  | [d1, d2, d3, d4, d5, d6, d7, d8] => { results := [.lit (.bool true)], args := [d1, d2, d3, d4, d5, d6, d7, d8] }
  | _ => none }
def eventlogClearsRow : OpenClaim := { program := "ytcjmpogjickplaa", sum := "36094f741103ac8d19d05e56b203ce8b3d35d94b0b1deb8a83f18e251503e731", func := "baseboard/baseboardlaw09.EventlogClears", spec := "eventlogClears", unfollowed := true, recurses := true, apart := false }
def EventlogClearsSaid : Prop := eventlogClearsRow.holds Try.pinned (OpenSpec.ofChange eventlogClearsSpec)

/-- ITS FALSE NEIGHBOUR: 'it returns false'. Refute it at one input. -/
def eventlogClearsWrong : ChangeSpec := { name := "eventlogClears", fn := fun _ => fun
  | [d1, d2, d3, d4, d5, d6, d7, d8] => { results := [.lit (.bool false)], args := [d1, d2, d3, d4, d5, d6, d7, d8] }
  | _ => none }
def EventlogClearsWrongFalsely : Prop := eventlogClearsRow.holds Try.pinned (OpenSpec.ofChange eventlogClearsWrong)

/-- 'baseboardlaw10.SensorValid': WHATEVER THE INPUT: true; the input reads as it did. -/
def sensorValidSpec : ChangeSpec := { name := "sensorValid", fn := fun _ => fun
  | [d1, d2] => { results := [.lit (.bool true)], args := [d1, d2] }
  | _ => none }
def sensorValidRow : OpenClaim := { program := "ytcjmpogjickplaa", sum := "36094f741103ac8d19d05e56b203ce8b3d35d94b0b1deb8a83f18e251503e731", func := "baseboard/baseboardlaw10.SensorValid", spec := "sensorValid", apart := false }
def SensorValidSaid : Prop := sensorValidRow.holds Try.pinned (OpenSpec.ofChange sensorValidSpec)

/-- ITS FALSE NEIGHBOUR: 'it returns false'. Refute it at one input. -/
def sensorValidWrong : ChangeSpec := { name := "sensorValid", fn := fun _ => fun
  | [d1, d2] => { results := [.lit (.bool false)], args := [d1, d2] }
  | _ => none }
def SensorValidWrongFalsely : Prop := sensorValidRow.holds Try.pinned (OpenSpec.ofChange sensorValidWrong)

/-- 'baseboardlaw10.SensorBytes': WHATEVER THE INPUT: true; the input reads as it did. -/
def sensorBytesSpec : ChangeSpec := { name := "sensorBytes", fn := fun _ => fun
  | [d1, d2, d3] => { results := [.lit (.bool true)], args := [d1, d2, d3] }
  | _ => none }
def sensorBytesRow : OpenClaim := { program := "ytcjmpogjickplaa", sum := "36094f741103ac8d19d05e56b203ce8b3d35d94b0b1deb8a83f18e251503e731", func := "baseboard/baseboardlaw10.SensorBytes", spec := "sensorBytes", apart := false }
def SensorBytesSaid : Prop := sensorBytesRow.holds Try.pinned (OpenSpec.ofChange sensorBytesSpec)

/-- ITS FALSE NEIGHBOUR: 'it returns false'. Refute it at one input. -/
def sensorBytesWrong : ChangeSpec := { name := "sensorBytes", fn := fun _ => fun
  | [d1, d2, d3] => { results := [.lit (.bool false)], args := [d1, d2, d3] }
  | _ => none }
def SensorBytesWrongFalsely : Prop := sensorBytesRow.holds Try.pinned (OpenSpec.ofChange sensorBytesWrong)

/-- 'baseboardlaw10.SensorDecoded': WHATEVER THE INPUT: true; the input reads as it did. -/
def sensorDecodedSpec : ChangeSpec := { name := "sensorDecoded", fn := fun _ => fun
  | [d1, d2] => { results := [.lit (.bool true)], args := [d1, d2] }
  | _ => none }
def sensorDecodedRow : OpenClaim := { program := "ytcjmpogjickplaa", sum := "36094f741103ac8d19d05e56b203ce8b3d35d94b0b1deb8a83f18e251503e731", func := "baseboard/baseboardlaw10.SensorDecoded", spec := "sensorDecoded", apart := false }
def SensorDecodedSaid : Prop := sensorDecodedRow.holds Try.pinned (OpenSpec.ofChange sensorDecodedSpec)

/-- ITS FALSE NEIGHBOUR: 'it returns false'. Refute it at one input. -/
def sensorDecodedWrong : ChangeSpec := { name := "sensorDecoded", fn := fun _ => fun
  | [d1, d2] => { results := [.lit (.bool false)], args := [d1, d2] }
  | _ => none }
def SensorDecodedWrongFalsely : Prop := sensorDecodedRow.holds Try.pinned (OpenSpec.ofChange sensorDecodedWrong)

/-- 'baseboardlaw10.SensorKinds': WHATEVER THE INPUT: true; the input reads as it did. -/
def sensorKindsSpec : ChangeSpec := { name := "sensorKinds", fn := fun _ => fun
  | [d1, d2, d3] => { results := [.lit (.bool true)], args := [d1, d2, d3] }
  | _ => none }
def sensorKindsRow : OpenClaim := { program := "ytcjmpogjickplaa", sum := "36094f741103ac8d19d05e56b203ce8b3d35d94b0b1deb8a83f18e251503e731", func := "baseboard/baseboardlaw10.SensorKinds", spec := "sensorKinds", apart := false }
def SensorKindsSaid : Prop := sensorKindsRow.holds Try.pinned (OpenSpec.ofChange sensorKindsSpec)

/-- ITS FALSE NEIGHBOUR: 'it returns false'. Refute it at one input. -/
def sensorKindsWrong : ChangeSpec := { name := "sensorKinds", fn := fun _ => fun
  | [d1, d2, d3] => { results := [.lit (.bool false)], args := [d1, d2, d3] }
  | _ => none }
def SensorKindsWrongFalsely : Prop := sensorKindsRow.holds Try.pinned (OpenSpec.ofChange sensorKindsWrong)

/-- 'baseboardlaw11.RepositoryPlays': WHATEVER THE INPUT: true; the input reads as it did. -/
def repositoryPlaysSpec : ChangeSpec := { name := "repositoryPlays", fn := fun _ => fun
  | [d1, d2] => { results := [.lit (.bool true)], args := [d1, d2] }
  | _ => none }
def repositoryPlaysRow : OpenClaim := { program := "ytcjmpogjickplaa", sum := "36094f741103ac8d19d05e56b203ce8b3d35d94b0b1deb8a83f18e251503e731", func := "baseboard/baseboardlaw11.RepositoryPlays", spec := "repositoryPlays", unfollowed := true, recurses := true, apart := false }
def RepositoryPlaysSaid : Prop := repositoryPlaysRow.holds Try.pinned (OpenSpec.ofChange repositoryPlaysSpec)

/-- ITS FALSE NEIGHBOUR: 'it returns false'. Refute it at one input. -/
def repositoryPlaysWrong : ChangeSpec := { name := "repositoryPlays", fn := fun _ => fun
  | [d1, d2] => { results := [.lit (.bool false)], args := [d1, d2] }
  | _ => none }
def RepositoryPlaysWrongFalsely : Prop := repositoryPlaysRow.holds Try.pinned (OpenSpec.ofChange repositoryPlaysWrong)

/-- 'baseboardlaw11.RepositoryParts': WHATEVER THE INPUT: true; the input reads as it did. -/
def repositoryPartsSpec : ChangeSpec := { name := "repositoryParts", fn := fun _ => fun
  | [d1, d2, d3] => { results := [.lit (.bool true)], args := [d1, d2, d3] }
  | _ => none }
def repositoryPartsRow : OpenClaim := { program := "ytcjmpogjickplaa", sum := "36094f741103ac8d19d05e56b203ce8b3d35d94b0b1deb8a83f18e251503e731", func := "baseboard/baseboardlaw11.RepositoryParts", spec := "repositoryParts", unfollowed := true, recurses := true, apart := false }
def RepositoryPartsSaid : Prop := repositoryPartsRow.holds Try.pinned (OpenSpec.ofChange repositoryPartsSpec)

/-- ITS FALSE NEIGHBOUR: 'it returns false'. Refute it at one input. -/
def repositoryPartsWrong : ChangeSpec := { name := "repositoryParts", fn := fun _ => fun
  | [d1, d2, d3] => { results := [.lit (.bool false)], args := [d1, d2, d3] }
  | _ => none }
def RepositoryPartsWrongFalsely : Prop := repositoryPartsRow.holds Try.pinned (OpenSpec.ofChange repositoryPartsWrong)

/-- 'baseboardlaw11.RepositoryTears': WHATEVER THE INPUT: true; the input reads as it did. -/
def repositoryTearsSpec : ChangeSpec := { name := "repositoryTears", fn := fun _ => fun
  | [d1, d2, d3] => { results := [.lit (.bool true)], args := [d1, d2, d3] }
  | _ => none }
def repositoryTearsRow : OpenClaim := { program := "ytcjmpogjickplaa", sum := "36094f741103ac8d19d05e56b203ce8b3d35d94b0b1deb8a83f18e251503e731", func := "baseboard/baseboardlaw11.RepositoryTears", spec := "repositoryTears", unfollowed := true, recurses := true, apart := false }
def RepositoryTearsSaid : Prop := repositoryTearsRow.holds Try.pinned (OpenSpec.ofChange repositoryTearsSpec)

/-- ITS FALSE NEIGHBOUR: 'it returns false'. Refute it at one input. -/
def repositoryTearsWrong : ChangeSpec := { name := "repositoryTears", fn := fun _ => fun
  | [d1, d2, d3] => { results := [.lit (.bool false)], args := [d1, d2, d3] }
  | _ => none }
def RepositoryTearsWrongFalsely : Prop := repositoryTearsRow.holds Try.pinned (OpenSpec.ofChange repositoryTearsWrong)

/-- 'baseboardlaw11.RepositoryWalks': WHATEVER THE INPUT: true; the input reads as it did. -/
def repositoryWalksSpec : ChangeSpec := { name := "repositoryWalks", fn := fun _ => fun
  | [d1, d2] => { results := [.lit (.bool true)], args := [d1, d2] }
  | _ => none }
def repositoryWalksRow : OpenClaim := { program := "ytcjmpogjickplaa", sum := "36094f741103ac8d19d05e56b203ce8b3d35d94b0b1deb8a83f18e251503e731", func := "baseboard/baseboardlaw11.RepositoryWalks", spec := "repositoryWalks", unfollowed := true, recurses := true, apart := false }
def RepositoryWalksSaid : Prop := repositoryWalksRow.holds Try.pinned (OpenSpec.ofChange repositoryWalksSpec)

/-- ITS FALSE NEIGHBOUR: 'it returns false'. Refute it at one input. -/
def repositoryWalksWrong : ChangeSpec := { name := "repositoryWalks", fn := fun _ => fun
  | [d1, d2] => { results := [.lit (.bool false)], args := [d1, d2] }
  | _ => none }
def RepositoryWalksWrongFalsely : Prop := repositoryWalksRow.holds Try.pinned (OpenSpec.ofChange repositoryWalksWrong)

/-- 'baseboardlaw11.RepositoryRoom': WHATEVER THE INPUT: true; the input reads as it did. -/
def repositoryRoomSpec : ChangeSpec := { name := "repositoryRoom", fn := fun _ => fun
  | [d1, d2] => { results := [.lit (.bool true)], args := [d1, d2] }
  | _ => none }
def repositoryRoomRow : OpenClaim := { program := "ytcjmpogjickplaa", sum := "36094f741103ac8d19d05e56b203ce8b3d35d94b0b1deb8a83f18e251503e731", func := "baseboard/baseboardlaw11.RepositoryRoom", spec := "repositoryRoom", unfollowed := true, recurses := true, apart := false }
def RepositoryRoomSaid : Prop := repositoryRoomRow.holds Try.pinned (OpenSpec.ofChange repositoryRoomSpec)

/-- ITS FALSE NEIGHBOUR: 'it returns false'. Refute it at one input. -/
def repositoryRoomWrong : ChangeSpec := { name := "repositoryRoom", fn := fun _ => fun
  | [d1, d2] => { results := [.lit (.bool false)], args := [d1, d2] }
  | _ => none }
def RepositoryRoomWrongFalsely : Prop := repositoryRoomRow.holds Try.pinned (OpenSpec.ofChange repositoryRoomWrong)

/- THE SECOND FORM. 'bulk': how many values and letters a reading holds, each counted each time it is reached (what is shared counts as often as it is met; a slice's spare places count too). A statement '..UptoSaid' is the law's where the arguments, and the package variables that the reading takes, are together of bulk at most 1048576: NARROWER than '..Said'. Prove '..Said' where nothing that the law and all that it calls make is longer than what came in: it says more and counts as full. Else prove '..UptoSaid'. A law counts once. -/
mutual
def uptoBulk {H : Type} : DataW H → Nat
  | .lit (.string bytes) => bytes.length + 1
  | .lit _ => 1
  | .nil => 1
  | .ptr d => uptoBulk d + 1
  | .slice elems spare => uptoBulkAll elems + uptoBulkAll spare + 1
  | .agg parts => uptoBulkAll parts + 1
  | .iface _ d => uptoBulk d + 1
  | .map entries => uptoBulkEntries entries + 1
  | .held _ => 1
def uptoBulkAll {H : Type} : List (DataW H) → Nat
  | [] => 0
  | d :: r => uptoBulk d + uptoBulkAll r
def uptoBulkEntries {H : Type} : List (Lit × DataW H) → Nat
  | [] => 0
  | x :: r => uptoBulkEntry x + uptoBulkEntries r
def uptoBulkEntry {H : Type} : Lit × DataW H → Nat
  | (.string bytes, d) => bytes.length + uptoBulk d + 1
  | (_, d) => uptoBulk d + 1
 end
def uptoSmall : (H : Type) → List (DataW H) → Bool := fun _ ds => decide (uptoBulkAll ds ≤ 1048576)
def OpenSpec.upto (s : _root_.Go.ChangeSpec) : _root_.Go.OpenSpec := { _root_.Go.OpenSpec.ofChange s with cond := some uptoSmall }

/-- 'baseboardlaw09.EventlogOrder', WHERE WHAT IT READS IS OF BULK AT MOST 1048576: true; the input reads as it did. -/
def eventlogOrderUptoRow : OpenClaim := { program := "ytcjmpogjickplaa", sum := "36094f741103ac8d19d05e56b203ce8b3d35d94b0b1deb8a83f18e251503e731", func := "baseboard/baseboardlaw09.EventlogOrder", spec := "eventlogOrder", unfollowed := true, recurses := true, apart := false, narrowed := true }
def EventlogOrderUptoSaid : Prop := eventlogOrderUptoRow.holds Try.pinned (OpenSpec.upto eventlogOrderSpec)

/-- 'baseboardlaw09.EventlogWalks', WHERE WHAT IT READS IS OF BULK AT MOST 1048576: true; the input reads as it did. -/
def eventlogWalksUptoRow : OpenClaim := { program := "ytcjmpogjickplaa", sum := "36094f741103ac8d19d05e56b203ce8b3d35d94b0b1deb8a83f18e251503e731", func := "baseboard/baseboardlaw09.EventlogWalks", spec := "eventlogWalks", unfollowed := true, recurses := true, apart := false, narrowed := true }
def EventlogWalksUptoSaid : Prop := eventlogWalksUptoRow.holds Try.pinned (OpenSpec.upto eventlogWalksSpec)

/-- 'baseboardlaw09.EventlogClears', WHERE WHAT IT READS IS OF BULK AT MOST 1048576: true; the input reads as it did. -/
def eventlogClearsUptoRow : OpenClaim := { program := "ytcjmpogjickplaa", sum := "36094f741103ac8d19d05e56b203ce8b3d35d94b0b1deb8a83f18e251503e731", func := "baseboard/baseboardlaw09.EventlogClears", spec := "eventlogClears", unfollowed := true, recurses := true, apart := false, narrowed := true }
def EventlogClearsUptoSaid : Prop := eventlogClearsUptoRow.holds Try.pinned (OpenSpec.upto eventlogClearsSpec)

/-- 'baseboardlaw10.SensorValid', WHERE WHAT IT READS IS OF BULK AT MOST 1048576: true; the input reads as it did. -/
def sensorValidUptoRow : OpenClaim := { program := "ytcjmpogjickplaa", sum := "36094f741103ac8d19d05e56b203ce8b3d35d94b0b1deb8a83f18e251503e731", func := "baseboard/baseboardlaw10.SensorValid", spec := "sensorValid", apart := false, narrowed := true }
def SensorValidUptoSaid : Prop := sensorValidUptoRow.holds Try.pinned (OpenSpec.upto sensorValidSpec)

/-- 'baseboardlaw10.SensorBytes', WHERE WHAT IT READS IS OF BULK AT MOST 1048576: true; the input reads as it did. -/
def sensorBytesUptoRow : OpenClaim := { program := "ytcjmpogjickplaa", sum := "36094f741103ac8d19d05e56b203ce8b3d35d94b0b1deb8a83f18e251503e731", func := "baseboard/baseboardlaw10.SensorBytes", spec := "sensorBytes", apart := false, narrowed := true }
def SensorBytesUptoSaid : Prop := sensorBytesUptoRow.holds Try.pinned (OpenSpec.upto sensorBytesSpec)

/-- 'baseboardlaw10.SensorDecoded', WHERE WHAT IT READS IS OF BULK AT MOST 1048576: true; the input reads as it did. -/
def sensorDecodedUptoRow : OpenClaim := { program := "ytcjmpogjickplaa", sum := "36094f741103ac8d19d05e56b203ce8b3d35d94b0b1deb8a83f18e251503e731", func := "baseboard/baseboardlaw10.SensorDecoded", spec := "sensorDecoded", apart := false, narrowed := true }
def SensorDecodedUptoSaid : Prop := sensorDecodedUptoRow.holds Try.pinned (OpenSpec.upto sensorDecodedSpec)

/-- 'baseboardlaw10.SensorKinds', WHERE WHAT IT READS IS OF BULK AT MOST 1048576: true; the input reads as it did. -/
def sensorKindsUptoRow : OpenClaim := { program := "ytcjmpogjickplaa", sum := "36094f741103ac8d19d05e56b203ce8b3d35d94b0b1deb8a83f18e251503e731", func := "baseboard/baseboardlaw10.SensorKinds", spec := "sensorKinds", apart := false, narrowed := true }
def SensorKindsUptoSaid : Prop := sensorKindsUptoRow.holds Try.pinned (OpenSpec.upto sensorKindsSpec)

/-- 'baseboardlaw11.RepositoryPlays', WHERE WHAT IT READS IS OF BULK AT MOST 1048576: true; the input reads as it did. -/
def repositoryPlaysUptoRow : OpenClaim := { program := "ytcjmpogjickplaa", sum := "36094f741103ac8d19d05e56b203ce8b3d35d94b0b1deb8a83f18e251503e731", func := "baseboard/baseboardlaw11.RepositoryPlays", spec := "repositoryPlays", unfollowed := true, recurses := true, apart := false, narrowed := true }
def RepositoryPlaysUptoSaid : Prop := repositoryPlaysUptoRow.holds Try.pinned (OpenSpec.upto repositoryPlaysSpec)

/-- 'baseboardlaw11.RepositoryParts', WHERE WHAT IT READS IS OF BULK AT MOST 1048576: true; the input reads as it did. -/
def repositoryPartsUptoRow : OpenClaim := { program := "ytcjmpogjickplaa", sum := "36094f741103ac8d19d05e56b203ce8b3d35d94b0b1deb8a83f18e251503e731", func := "baseboard/baseboardlaw11.RepositoryParts", spec := "repositoryParts", unfollowed := true, recurses := true, apart := false, narrowed := true }
def RepositoryPartsUptoSaid : Prop := repositoryPartsUptoRow.holds Try.pinned (OpenSpec.upto repositoryPartsSpec)

/-- 'baseboardlaw11.RepositoryTears', WHERE WHAT IT READS IS OF BULK AT MOST 1048576: true; the input reads as it did. -/
def repositoryTearsUptoRow : OpenClaim := { program := "ytcjmpogjickplaa", sum := "36094f741103ac8d19d05e56b203ce8b3d35d94b0b1deb8a83f18e251503e731", func := "baseboard/baseboardlaw11.RepositoryTears", spec := "repositoryTears", unfollowed := true, recurses := true, apart := false, narrowed := true }
def RepositoryTearsUptoSaid : Prop := repositoryTearsUptoRow.holds Try.pinned (OpenSpec.upto repositoryTearsSpec)

/-- 'baseboardlaw11.RepositoryWalks', WHERE WHAT IT READS IS OF BULK AT MOST 1048576: true; the input reads as it did. -/
def repositoryWalksUptoRow : OpenClaim := { program := "ytcjmpogjickplaa", sum := "36094f741103ac8d19d05e56b203ce8b3d35d94b0b1deb8a83f18e251503e731", func := "baseboard/baseboardlaw11.RepositoryWalks", spec := "repositoryWalks", unfollowed := true, recurses := true, apart := false, narrowed := true }
def RepositoryWalksUptoSaid : Prop := repositoryWalksUptoRow.holds Try.pinned (OpenSpec.upto repositoryWalksSpec)

/-- 'baseboardlaw11.RepositoryRoom', WHERE WHAT IT READS IS OF BULK AT MOST 1048576: true; the input reads as it did. -/
def repositoryRoomUptoRow : OpenClaim := { program := "ytcjmpogjickplaa", sum := "36094f741103ac8d19d05e56b203ce8b3d35d94b0b1deb8a83f18e251503e731", func := "baseboard/baseboardlaw11.RepositoryRoom", spec := "repositoryRoom", unfollowed := true, recurses := true, apart := false, narrowed := true }
def RepositoryRoomUptoSaid : Prop := repositoryRoomUptoRow.holds Try.pinned (OpenSpec.upto repositoryRoomSpec)

end Rows
end Go.Proofs.Ytcjmpogjickplaa
