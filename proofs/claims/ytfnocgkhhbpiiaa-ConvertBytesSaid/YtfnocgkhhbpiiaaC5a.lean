/- Walks: the reference of conversions: the nearest raw reading. -/
import Derived.Test.YtfnocgkhhbpiiaaC4z
namespace Go.Proofs.Ytfnocgkhhbpiiaa.C4v
open Go.RowKit Go.Proofs.Ytfnocgkhhbpiiaa.Mem Go.Proofs.Ytfnocgkhhbpiiaa.M3p Go.Proofs.Ytfnocgkhhbpiiaa.M3r Go.Proofs.Ytfnocgkhhbpiiaa.C4p Go.Proofs.Ytfnocgkhhbpiiaa.C4l
set_option maxRecDepth 100000
set_option maxHeartbeats 4000000

theorem least_b (s : Bool) : -128 ≤ least s ∧ least s ≤ 0 := by
  unfold least
  split <;> omega
end Go.Proofs.Ytfnocgkhhbpiiaa.C4v
