/- The rows' listed variables: what the condition gives a walk, and a world that meets it. -/
import Derived.Test.YtgbnigbjnbcfeaaDoorRows
import Derived.Test.YtgbnigbjnbcfeaaDoorCards
import Derived.Test.YtgbnigbjnbcfeaaDoorTie
import Derived.Test.YtgbnigbjnbcfeaaDoorV7e
import Derived.Test.YtgbnigbjnbcfeaaDoorLaw7
import Derived.ProofKit
import Derived.LaidMore
import Derived.OpenShut
import Derived.Stop.Joined
import Derived.SevenTiedAt
import Derived.Stop.LaidErr
import Derived.Lib.LaidTab
namespace Go.Proofs.YtgbnigbjnbcfeaaDoor.Laid
open Go.ChangeShapes Go.WideShapes Go.ChangeAt Go.RowKit Go.Proofs.YtgbnigbjnbcfeaaDoor.V7
set_option maxRecDepth 100000

theorem bounds_i32 {n : Int} (h : (Lit.int .i32 n).wf = true) : -2147483648 ≤ n ∧ n ≤ 2147483647 := by simpa [Lit.wf, IntKind.min, IntKind.max, IntKind.signed, IntKind.bits] using h
/-- What five of this seat's rows list. -/
def laid4 : List (String × DataW Unit) := [("math/bits.deBruijn32tab", Rows.laid_math_bits_deBruijn32tab), ("math/bits.deBruijn64tab", Rows.laid_math_bits_deBruijn64tab), ("internal/strconv.uint64pow10", Rows.laid_internal_strconv_uint64pow10), ("baseboard/event.offsets", Rows.laid_baseboard_event_offsets)]
theorem tab_of {W : World} (h : laidMetH Tryd.prog laid4 W) : Tabs W := by
  rw [MakeChecks.laidMetH_plain _ _ _ (by kernel_rfl)] at h
  have h2 := laidMet.tail (laidMet.tail h)
  have h3 := laidMet.tail h2
  exact ⟨Lib.tabIs_of_head (P := Tryd.prog) (g := 1) (t := 85) (e := 5) (n := 6) (rest := []) (k := .u8) (zs := offs) (by kernel_rfl) (by kernel_rfl) Tryd.underlying85 Tryd.underlying5 (by kernel_rfl) (by kernel_rfl) h3,
    Lib.tabIs_of_head (P := Tryd.prog) (g := 2) (t := 116) (e := 68) (n := 20) (rest := [("baseboard/event.offsets", Rows.laid_baseboard_event_offsets)]) (k := .u64) (zs := Lib.pow10Tab) (by kernel_rfl) (by kernel_rfl) Tryd.underlying116 Tryd.underlying68 (by kernel_rfl) (by kernel_rfl) h2⟩
/-- The heap that the door's own run leaves meets the condition. -/
theorem door_met (os : Os) (args : Array Value) : laidMetH Tryd.prog laid4 ((World.doorLaid Tryd.prog 400 os).forCall (fun _ _ => 0) ⟨#[], args, []⟩).memory :=
  laidMetH_of_parts3 (fuel := 8) (laidMet_of_run' 8 (by kernel_rfl) (by kernel_rfl)) (by kernel_rfl) (by kernel_rfl)
end Go.Proofs.YtgbnigbjnbcfeaaDoor.Laid
