/- Walks: the reference of conversions: the nearest raw reading. -/
import Derived.Test.YtigooekimkkhaaaC4z
namespace Go.Proofs.Ytigooekimkkhaaa.C4v
open Go.RowKit Go.Proofs.Ytigooekimkkhaaa.Mem Go.Proofs.Ytigooekimkkhaaa.M3p Go.Proofs.Ytigooekimkkhaaa.M3r Go.Proofs.Ytigooekimkkhaaa.C4p Go.Proofs.Ytigooekimkkhaaa.C4l
set_option maxRecDepth 100000
set_option maxHeartbeats 4000000

theorem least_b (s : Bool) : -128 ≤ least s ∧ least s ≤ 0 := by
  unfold least
  split <;> omega
end Go.Proofs.Ytigooekimkkhaaa.C4v
