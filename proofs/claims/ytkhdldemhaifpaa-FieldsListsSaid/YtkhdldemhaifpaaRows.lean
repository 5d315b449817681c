/-
  No cell of these rows narrows 'for every input' (looked for: loops, veiled, ifaces, maps, wideKeys, modest, calm, conditions, laid).
  DERIVED. THE GIVEN ROWS OF THIS SEAT. 10 by the template 'for every input the law returns true; each argument reads behind the call as it read before'; 0 by the template 'total and deterministic' (their statements: YtkhdldemhaifpaaTotals.lean).
  GIVEN WITH THE SEED: the statements are not yours to turn. If you find one false, say at which input.
  Laid BY PROGRAM, IN A SANDBOX (cutbox-rows.mjs): the forced cells as the released guide's own fill.sh prints them over the translation 489ff8d60ea219f1… (all of the seat's roots in one cut). By AI agents, Wed Nov 11 2026. No macro, syntax, notation, axiom, sorry.
-/
import Derived.Test.YtkhdldemhaifpaaChecked
import GoSem.Claim
import GoSem.ClaimJoined
import GoSem.ClaimMapViews
import Derived.JoinedTies
import Derived.KernelRfl
namespace Go.Proofs.Ytkhdldemhaifpaa
/- THE CELL 'sum', in the pinned program and in every row, IS THE sha256 OF THE DUMP (.gsa) THAT YtkhdldemhaifpaaProg.lean LOADS. Nothing in Lean hashes anything: it is a label: what it is worth is what the hold of that sum in a sandbox is worth. -/
noncomputable def Try.pinned : Pinned := { name := "ytkhdldemhaifpaa", sum := "489ff8d60ea219f1d3187aeb8ef2999e24f23e8132aa35610d7eaf110126964b", checked := Try.checked }
namespace Rows
def none {H : Type} : Left H := { results := [], args := [] }

/-- 'baseboardlaw02.FieldsEncode': WHATEVER THE INPUT: true; the input reads as it did. -/
def fieldsEncodeSpec : ChangeSpec := { name := "fieldsEncode", fn := fun _ => fun
  | [d1, d2] => { results := [.lit (.bool true)], args := [d1, d2] }
  | _ => none }
def fieldsEncodeRow : OpenClaim := { program := "ytkhdldemhaifpaa", sum := "489ff8d60ea219f1d3187aeb8ef2999e24f23e8132aa35610d7eaf110126964b", func := "baseboard/baseboardlaw02.FieldsEncode", spec := "fieldsEncode", inPlace := ["internal/bytealg.IndexByteString"], apart := false }
def FieldsEncodeSaid : Prop := fieldsEncodeRow.holds Try.pinned (OpenSpec.ofChange fieldsEncodeSpec)

/-- ITS FALSE NEIGHBOUR: 'it returns false'. Refute it at one input. -/
def fieldsEncodeWrong : ChangeSpec := { name := "fieldsEncode", fn := fun _ => fun
  | [d1, d2] => { results := [.lit (.bool false)], args := [d1, d2] }
  | _ => none }
def FieldsEncodeWrongFalsely : Prop := fieldsEncodeRow.holds Try.pinned (OpenSpec.ofChange fieldsEncodeWrong)

/-- 'baseboardlaw02.FieldsDecode': WHATEVER THE INPUT: true; the input reads as it did. -/
def fieldsDecodeSpec : ChangeSpec := { name := "fieldsDecode", fn := fun _ => fun
  | [d] => { results := [.lit (.bool true)], args := [d] }
  | _ => none }
def fieldsDecodeRow : OpenClaim := { program := "ytkhdldemhaifpaa", sum := "489ff8d60ea219f1d3187aeb8ef2999e24f23e8132aa35610d7eaf110126964b", func := "baseboard/baseboardlaw02.FieldsDecode", spec := "fieldsDecode", inPlace := ["internal/bytealg.IndexByteString"], apart := false }
def FieldsDecodeSaid : Prop := fieldsDecodeRow.holds Try.pinned (OpenSpec.ofChange fieldsDecodeSpec)

/-- ITS FALSE NEIGHBOUR: 'it returns false'. Refute it at one input. -/
def fieldsDecodeWrong : ChangeSpec := { name := "fieldsDecode", fn := fun _ => fun
  | [d] => { results := [.lit (.bool false)], args := [d] }
  | _ => none }
def FieldsDecodeWrongFalsely : Prop := fieldsDecodeRow.holds Try.pinned (OpenSpec.ofChange fieldsDecodeWrong)

/-- 'baseboardlaw02.FieldsReturns': WHATEVER THE INPUT: true; the input reads as it did. -/
def fieldsReturnsSpec : ChangeSpec := { name := "fieldsReturns", fn := fun _ => fun
  | [d1, d2] => { results := [.lit (.bool true)], args := [d1, d2] }
  | _ => none }
def fieldsReturnsRow : OpenClaim := { program := "ytkhdldemhaifpaa", sum := "489ff8d60ea219f1d3187aeb8ef2999e24f23e8132aa35610d7eaf110126964b", func := "baseboard/baseboardlaw02.FieldsReturns", spec := "fieldsReturns", inPlace := ["internal/bytealg.IndexByteString"], apart := false }
def FieldsReturnsSaid : Prop := fieldsReturnsRow.holds Try.pinned (OpenSpec.ofChange fieldsReturnsSpec)

/-- ITS FALSE NEIGHBOUR: 'it returns false'. Refute it at one input. -/
def fieldsReturnsWrong : ChangeSpec := { name := "fieldsReturns", fn := fun _ => fun
  | [d1, d2] => { results := [.lit (.bool false)], args := [d1, d2] }
  | _ => none }
def FieldsReturnsWrongFalsely : Prop := fieldsReturnsRow.holds Try.pinned (OpenSpec.ofChange fieldsReturnsWrong)

/-- 'baseboardlaw02.FieldsBytes': WHATEVER THE INPUT: true; the input reads as it did. -/
def fieldsBytesSpec : ChangeSpec := { name := "fieldsBytes", fn := fun _ => fun
  | [d] => { results := [.lit (.bool true)], args := [d] }
  | _ => none }
def fieldsBytesRow : OpenClaim := { program := "ytkhdldemhaifpaa", sum := "489ff8d60ea219f1d3187aeb8ef2999e24f23e8132aa35610d7eaf110126964b", func := "baseboard/baseboardlaw02.FieldsBytes", spec := "fieldsBytes", inPlace := ["internal/bytealg.IndexByteString"], apart := false }
def FieldsBytesSaid : Prop := fieldsBytesRow.holds Try.pinned (OpenSpec.ofChange fieldsBytesSpec)

/-- ITS FALSE NEIGHBOUR: 'it returns false'. Refute it at one input. -/
def fieldsBytesWrong : ChangeSpec := { name := "fieldsBytes", fn := fun _ => fun
  | [d] => { results := [.lit (.bool false)], args := [d] }
  | _ => none }
def FieldsBytesWrongFalsely : Prop := fieldsBytesRow.holds Try.pinned (OpenSpec.ofChange fieldsBytesWrong)

/-- 'baseboardlaw02.FieldsBest': WHATEVER THE INPUT: true; the input reads as it did. -/
def fieldsBestSpec : ChangeSpec := { name := "fieldsBest", fn := fun _ => fun
  | [d1, d2] => { results := [.lit (.bool true)], args := [d1, d2] }
  | _ => none }
def fieldsBestRow : OpenClaim := { program := "ytkhdldemhaifpaa", sum := "489ff8d60ea219f1d3187aeb8ef2999e24f23e8132aa35610d7eaf110126964b", func := "baseboard/baseboardlaw02.FieldsBest", spec := "fieldsBest", inPlace := ["internal/bytealg.IndexByteString"], apart := false }
def FieldsBestSaid : Prop := fieldsBestRow.holds Try.pinned (OpenSpec.ofChange fieldsBestSpec)

/-- ITS FALSE NEIGHBOUR: 'it returns false'. Refute it at one input. -/
def fieldsBestWrong : ChangeSpec := { name := "fieldsBest", fn := fun _ => fun
  | [d1, d2] => { results := [.lit (.bool false)], args := [d1, d2] }
  | _ => none }
def FieldsBestWrongFalsely : Prop := fieldsBestRow.holds Try.pinned (OpenSpec.ofChange fieldsBestWrong)

/-- 'baseboardlaw02.FieldsShortest': WHATEVER THE INPUT: true; the input reads as it did. -/
def fieldsShortestSpec : ChangeSpec := { name := "fieldsShortest", fn := fun _ => fun
  | [d1, d2] => { results := [.lit (.bool true)], args := [d1, d2] }
  | _ => none }
def fieldsShortestRow : OpenClaim := { program := "ytkhdldemhaifpaa", sum := "489ff8d60ea219f1d3187aeb8ef2999e24f23e8132aa35610d7eaf110126964b", func := "baseboard/baseboardlaw02.FieldsShortest", spec := "fieldsShortest", inPlace := ["internal/bytealg.IndexByteString"], apart := false }
def FieldsShortestSaid : Prop := fieldsShortestRow.holds Try.pinned (OpenSpec.ofChange fieldsShortestSpec)

/-- ITS FALSE NEIGHBOUR: 'it returns false'. Refute it at one input. -/
def fieldsShortestWrong : ChangeSpec := { name := "fieldsShortest", fn := fun _ => fun
  | [d1, d2] => { results := [.lit (.bool false)], args := [d1, d2] }
  | _ => none }
def FieldsShortestWrongFalsely : Prop := fieldsShortestRow.holds Try.pinned (OpenSpec.ofChange fieldsShortestWrong)

/-- 'baseboardlaw02.FieldsLists': WHATEVER THE INPUT: true; the input reads as it did. -/
def fieldsListsSpec : ChangeSpec := { name := "fieldsLists", fn := fun _ => fun
  | [d1, d2] => { results := [.lit (.bool true)], args := [d1, d2] }
  | _ => none }
def fieldsListsRow : OpenClaim := { program := "ytkhdldemhaifpaa", sum := "489ff8d60ea219f1d3187aeb8ef2999e24f23e8132aa35610d7eaf110126964b", func := "baseboard/baseboardlaw02.FieldsLists", spec := "fieldsLists", inPlace := ["internal/bytealg.IndexByteString"], apart := false }
def FieldsListsSaid : Prop := fieldsListsRow.holds Try.pinned (OpenSpec.ofChange fieldsListsSpec)

/-- ITS FALSE NEIGHBOUR: 'it returns false'. Refute it at one input. -/
def fieldsListsWrong : ChangeSpec := { name := "fieldsLists", fn := fun _ => fun
  | [d1, d2] => { results := [.lit (.bool false)], args := [d1, d2] }
  | _ => none }
def FieldsListsWrongFalsely : Prop := fieldsListsRow.holds Try.pinned (OpenSpec.ofChange fieldsListsWrong)

/-- 'baseboardlaw02.FieldsListReturns': WHATEVER THE INPUT: true; the input reads as it did. -/
def fieldsListReturnsSpec : ChangeSpec := { name := "fieldsListReturns", fn := fun _ => fun
  | [d1, d2, d3] => { results := [.lit (.bool true)], args := [d1, d2, d3] }
  | _ => none }
def fieldsListReturnsRow : OpenClaim := { program := "ytkhdldemhaifpaa", sum := "489ff8d60ea219f1d3187aeb8ef2999e24f23e8132aa35610d7eaf110126964b", func := "baseboard/baseboardlaw02.FieldsListReturns", spec := "fieldsListReturns", inPlace := ["internal/bytealg.IndexByteString"], apart := false }
def FieldsListReturnsSaid : Prop := fieldsListReturnsRow.holds Try.pinned (OpenSpec.ofChange fieldsListReturnsSpec)

/-- ITS FALSE NEIGHBOUR: 'it returns false'. Refute it at one input. -/
def fieldsListReturnsWrong : ChangeSpec := { name := "fieldsListReturns", fn := fun _ => fun
  | [d1, d2, d3] => { results := [.lit (.bool false)], args := [d1, d2, d3] }
  | _ => none }
def FieldsListReturnsWrongFalsely : Prop := fieldsListReturnsRow.holds Try.pinned (OpenSpec.ofChange fieldsListReturnsWrong)

/-- 'baseboardlaw02.FieldsMany': WHATEVER THE INPUT: true; the input reads as it did. -/
def fieldsManySpec : ChangeSpec := { name := "fieldsMany", fn := fun _ => fun
  | [d1, d2] => { results := [.lit (.bool true)], args := [d1, d2] }
  | _ => none }
def fieldsManyRow : OpenClaim := { program := "ytkhdldemhaifpaa", sum := "489ff8d60ea219f1d3187aeb8ef2999e24f23e8132aa35610d7eaf110126964b", func := "baseboard/baseboardlaw02.FieldsMany", spec := "fieldsMany", inPlace := ["internal/bytealg.IndexByteString"], apart := false }
def FieldsManySaid : Prop := fieldsManyRow.holds Try.pinned (OpenSpec.ofChange fieldsManySpec)

/-- ITS FALSE NEIGHBOUR: 'it returns false'. Refute it at one input. -/
def fieldsManyWrong : ChangeSpec := { name := "fieldsMany", fn := fun _ => fun
  | [d1, d2] => { results := [.lit (.bool false)], args := [d1, d2] }
  | _ => none }
def FieldsManyWrongFalsely : Prop := fieldsManyRow.holds Try.pinned (OpenSpec.ofChange fieldsManyWrong)

/-- 'baseboardlaw02.FieldsKinds': WHATEVER THE INPUT: true; the input reads as it did. -/
def fieldsKindsSpec : ChangeSpec := { name := "fieldsKinds", fn := fun _ => fun
  | [d1, d2] => { results := [.lit (.bool true)], args := [d1, d2] }
  | _ => none }
def fieldsKindsRow : OpenClaim := { program := "ytkhdldemhaifpaa", sum := "489ff8d60ea219f1d3187aeb8ef2999e24f23e8132aa35610d7eaf110126964b", func := "baseboard/baseboardlaw02.FieldsKinds", spec := "fieldsKinds", inPlace := ["internal/bytealg.IndexByteString"], apart := false }
def FieldsKindsSaid : Prop := fieldsKindsRow.holds Try.pinned (OpenSpec.ofChange fieldsKindsSpec)

/-- ITS FALSE NEIGHBOUR: 'it returns false'. Refute it at one input. -/
def fieldsKindsWrong : ChangeSpec := { name := "fieldsKinds", fn := fun _ => fun
  | [d1, d2] => { results := [.lit (.bool false)], args := [d1, d2] }
  | _ => none }
def FieldsKindsWrongFalsely : Prop := fieldsKindsRow.holds Try.pinned (OpenSpec.ofChange fieldsKindsWrong)

/- THE SECOND FORM. 'bulk': how many values and letters a reading holds, each counted each time it is reached (what is shared counts as often as it is met; a slice's spare places count too). A statement '..UptoSaid' is the law's where the arguments, and the package variables that the reading takes, are together of bulk at most 1048576: NARROWER than '..Said'. Prove '..Said' where nothing that the law and all that it calls make is longer than what came in: it says more and counts as full. Else prove '..UptoSaid'. A law counts once. -/
mutual
def uptoBulk {H : Type} : DataW H → Nat
  | .lit (.string bytes) => bytes.length + 1
  | .lit _ => 1
  | .nil => 1
  | .ptr d => uptoBulk d + 1
  | .slice elems spare => uptoBulkAll elems + uptoBulkAll spare + 1
  | .agg parts => uptoBulkAll parts + 1
  | .iface _ d => uptoBulk d + 1
  | .map entries => uptoBulkEntries entries + 1
  | .held _ => 1
def uptoBulkAll {H : Type} : List (DataW H) → Nat
  | [] => 0
  | d :: r => uptoBulk d + uptoBulkAll r
def uptoBulkEntries {H : Type} : List (Lit × DataW H) → Nat
  | [] => 0
  | x :: r => uptoBulkEntry x + uptoBulkEntries r
def uptoBulkEntry {H : Type} : Lit × DataW H → Nat
  | (.string bytes, d) => bytes.length + uptoBulk d + 1
  | (_, d) => uptoBulk d + 1
 end
def uptoSmall : (H : Type) → List (DataW H) → Bool := fun _ ds => decide (uptoBulkAll ds ≤ 1048576)
def OpenSpec.upto (s : _root_.Go.ChangeSpec) : _root_.Go.OpenSpec := { _root_.Go.OpenSpec.ofChange s with cond := some uptoSmall }

/-- 'baseboardlaw02.FieldsEncode', WHERE WHAT IT READS IS OF BULK AT MOST 1048576: true; the input reads as it did. -/
def fieldsEncodeUptoRow : OpenClaim := { program := "ytkhdldemhaifpaa", sum := "489ff8d60ea219f1d3187aeb8ef2999e24f23e8132aa35610d7eaf110126964b", func := "baseboard/baseboardlaw02.FieldsEncode", spec := "fieldsEncode", inPlace := ["internal/bytealg.IndexByteString"], apart := false, narrowed := true }
def FieldsEncodeUptoSaid : Prop := fieldsEncodeUptoRow.holds Try.pinned (OpenSpec.upto fieldsEncodeSpec)

/-- 'baseboardlaw02.FieldsDecode', WHERE WHAT IT READS IS OF BULK AT MOST 1048576: true; the input reads as it did. -/
def fieldsDecodeUptoRow : OpenClaim := { program := "ytkhdldemhaifpaa", sum := "489ff8d60ea219f1d3187aeb8ef2999e24f23e8132aa35610d7eaf110126964b", func := "baseboard/baseboardlaw02.FieldsDecode", spec := "fieldsDecode", inPlace := ["internal/bytealg.IndexByteString"], apart := false, narrowed := true }
def FieldsDecodeUptoSaid : Prop := fieldsDecodeUptoRow.holds Try.pinned (OpenSpec.upto fieldsDecodeSpec)

/-- 'baseboardlaw02.FieldsReturns', WHERE WHAT IT READS IS OF BULK AT MOST 1048576: true; the input reads as it did. -/
def fieldsReturnsUptoRow : OpenClaim := { program := "ytkhdldemhaifpaa", sum := "489ff8d60ea219f1d3187aeb8ef2999e24f23e8132aa35610d7eaf110126964b", func := "baseboard/baseboardlaw02.FieldsReturns", spec := "fieldsReturns", inPlace := ["internal/bytealg.IndexByteString"], apart := false, narrowed := true }
def FieldsReturnsUptoSaid : Prop := fieldsReturnsUptoRow.holds Try.pinned (OpenSpec.upto fieldsReturnsSpec)

/-- 'baseboardlaw02.FieldsBytes', WHERE WHAT IT READS IS OF BULK AT MOST 1048576: true; the input reads as it did. -/
def fieldsBytesUptoRow : OpenClaim := { program := "ytkhdldemhaifpaa", sum := "489ff8d60ea219f1d3187aeb8ef2999e24f23e8132aa35610d7eaf110126964b", func := "baseboard/baseboardlaw02.FieldsBytes", spec := "fieldsBytes", inPlace := ["internal/bytealg.IndexByteString"], apart := false, narrowed := true }
def FieldsBytesUptoSaid : Prop := fieldsBytesUptoRow.holds Try.pinned (OpenSpec.upto fieldsBytesSpec)

/-- 'baseboardlaw02.FieldsBest', WHERE WHAT IT READS IS OF BULK AT MOST 1048576: true; the input reads as it did. -/
def fieldsBestUptoRow : OpenClaim := { program := "ytkhdldemhaifpaa", sum := "489ff8d60ea219f1d3187aeb8ef2999e24f23e8132aa35610d7eaf110126964b", func := "baseboard/baseboardlaw02.FieldsBest", spec := "fieldsBest", inPlace := ["internal/bytealg.IndexByteString"], apart := false, narrowed := true }
def FieldsBestUptoSaid : Prop := fieldsBestUptoRow.holds Try.pinned (OpenSpec.upto fieldsBestSpec)

/-- 'baseboardlaw02.FieldsShortest', WHERE WHAT IT READS IS OF BULK AT MOST 1048576: true; the input reads as it did. -/
def fieldsShortestUptoRow : OpenClaim := { program := "ytkhdldemhaifpaa", sum := "489ff8d60ea219f1d3187aeb8ef2999e24f23e8132aa35610d7eaf110126964b", func := "baseboard/baseboardlaw02.FieldsShortest", spec := "fieldsShortest", inPlace := ["internal/bytealg.IndexByteString"], apart := false, narrowed := true }
def FieldsShortestUptoSaid : Prop := fieldsShortestUptoRow.holds Try.pinned (OpenSpec.upto fieldsShortestSpec)

/-- 'baseboardlaw02.FieldsLists', WHERE WHAT IT READS IS OF BULK AT MOST 1048576: true; the input reads as it did. -/
def fieldsListsUptoRow : OpenClaim := { program := "ytkhdldemhaifpaa", sum := "489ff8d60ea219f1d3187aeb8ef2999e24f23e8132aa35610d7eaf110126964b", func := "baseboard/baseboardlaw02.FieldsLists", spec := "fieldsLists", inPlace := ["internal/bytealg.IndexByteString"], apart := false, narrowed := true }
def FieldsListsUptoSaid : Prop := fieldsListsUptoRow.holds Try.pinned (OpenSpec.upto fieldsListsSpec)

/-- 'baseboardlaw02.FieldsListReturns', WHERE WHAT IT READS IS OF BULK AT MOST 1048576: true; the input reads as it did. -/
def fieldsListReturnsUptoRow : OpenClaim := { program := "ytkhdldemhaifpaa", sum := "489ff8d60ea219f1d3187aeb8ef2999e24f23e8132aa35610d7eaf110126964b", func := "baseboard/baseboardlaw02.FieldsListReturns", spec := "fieldsListReturns", inPlace := ["internal/bytealg.IndexByteString"], apart := false, narrowed := true }
def FieldsListReturnsUptoSaid : Prop := fieldsListReturnsUptoRow.holds Try.pinned (OpenSpec.upto fieldsListReturnsSpec)

/-- 'baseboardlaw02.FieldsMany', WHERE WHAT IT READS IS OF BULK AT MOST 1048576: true; the input reads as it did. -/
def fieldsManyUptoRow : OpenClaim := { program := "ytkhdldemhaifpaa", sum := "489ff8d60ea219f1d3187aeb8ef2999e24f23e8132aa35610d7eaf110126964b", func := "baseboard/baseboardlaw02.FieldsMany", spec := "fieldsMany", inPlace := ["internal/bytealg.IndexByteString"], apart := false, narrowed := true }
def FieldsManyUptoSaid : Prop := fieldsManyUptoRow.holds Try.pinned (OpenSpec.upto fieldsManySpec)

/-- 'baseboardlaw02.FieldsKinds', WHERE WHAT IT READS IS OF BULK AT MOST 1048576: true; the input reads as it did. -/
def fieldsKindsUptoRow : OpenClaim := { program := "ytkhdldemhaifpaa", sum := "489ff8d60ea219f1d3187aeb8ef2999e24f23e8132aa35610d7eaf110126964b", func := "baseboard/baseboardlaw02.FieldsKinds", spec := "fieldsKinds", inPlace := ["internal/bytealg.IndexByteString"], apart := false, narrowed := true }
def FieldsKindsUptoSaid : Prop := fieldsKindsUptoRow.holds Try.pinned (OpenSpec.upto fieldsKindsSpec)

end Rows
end Go.Proofs.Ytkhdldemhaifpaa
