/- Walks: the reference of conversions: the direction of the values. -/
import Derived.Test.YtigooekimkkhaaaC5a
namespace Go.Proofs.Ytigooekimkkhaaa.C4v
open Go.RowKit Go.Proofs.Ytigooekimkkhaaa.Mem Go.Proofs.Ytigooekimkkhaaa.M3p Go.Proofs.Ytigooekimkkhaaa.M3r Go.Proofs.Ytigooekimkkhaaa.C4p Go.Proofs.Ytigooekimkkhaaa.C4l
set_option maxRecDepth 100000
set_option maxHeartbeats 4000000

end Go.Proofs.Ytigooekimkkhaaa.C4v
