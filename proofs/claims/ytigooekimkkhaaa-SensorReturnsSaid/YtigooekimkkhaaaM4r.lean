/- Walks: the reference of fixed-point numbers. -/
import Derived.Test.YtigooekimkkhaaaM3p
import Derived.StillTailTactics
namespace Go.Proofs.Ytigooekimkkhaaa.M3r
open Go.RowKit Go.Proofs.Ytigooekimkkhaaa.Mem Go.Proofs.Ytigooekimkkhaaa.M3p
set_option maxRecDepth 100000
set_option maxHeartbeats 1000000

/-- What Div answers. -/
def dout (a b : Int) : Ending := .returned (.tuple #[.int .i64 (if clp b = 0 then 0 else divS a b), .int .i64 (if clp b = 0 then 12 else 0)])
end Go.Proofs.Ytigooekimkkhaaa.M3r
