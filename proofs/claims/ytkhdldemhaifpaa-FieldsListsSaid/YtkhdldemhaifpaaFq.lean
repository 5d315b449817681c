/- Walks: two fields are the same; what the laws use. -/
import Derived.Test.YtkhdldemhaifpaaMc
namespace Go.Proofs.Ytkhdldemhaifpaa.Fa
open Go.RowKit Go.Proofs.Ytkhdldemhaifpaa.Mem Go.Proofs.Ytkhdldemhaifpaa.F2p Go.Proofs.Ytkhdldemhaifpaa.Made
set_option maxRecDepth 100000
set_option maxHeartbeats 1000000

theorem fsame_yes (k : Int) (s : ByteArray) (w : World) :
    Calls Try.prog 24 #[.agg #[.int .i64 k, .string s], .agg #[.int .i64 k, .string s]] w fun e w' => e = .returned (.bool true) ∧ Below w.heap.size w w' := by
  go_enter Try.func24, Try.ntmps24
  go_wp2
  go_ret
  exact ⟨rfl, ((Below.refl _ _).alloc (Nat.le_refl _) _).alloc (by simp) _⟩
theorem irow_light {w : World} {A : Option Addr} {n c : Nat} {l : List Int} (hn : n = l.length) (hr : IRow w.heap.size w A l) (hw : ∀ x ∈ l, -9223372036854775808 ≤ x ∧ x ≤ 9223372036854775807) (h6 : n ≤ 600) :
    Dz (w.alloc (.cells #[.slice A n c, .int .i64 0] 58)) w.heap.size A n c l ∧ Below w.heap.size w (w.alloc (.cells #[.slice A n c, .int .i64 0] 58)) :=
  ⟨Dz.start A n c l w hr hn hw (by omega), (Below.refl _ _).alloc (Nat.le_refl _) _⟩
end Go.Proofs.Ytkhdldemhaifpaa.Fa
