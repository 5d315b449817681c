/- Walks: the reference of conversions: the direction of the values. -/
import Derived.Test.YtfnocgkhhbpiiaaC5a
namespace Go.Proofs.Ytfnocgkhhbpiiaa.C4v
open Go.RowKit Go.Proofs.Ytfnocgkhhbpiiaa.Mem Go.Proofs.Ytfnocgkhhbpiiaa.M3p Go.Proofs.Ytfnocgkhhbpiiaa.M3r Go.Proofs.Ytfnocgkhhbpiiaa.C4p Go.Proofs.Ytfnocgkhhbpiiaa.C4l
set_option maxRecDepth 100000
set_option maxHeartbeats 4000000

end Go.Proofs.Ytfnocgkhhbpiiaa.C4v
