/- Walks: the reference of fixed-point numbers. -/
import Derived.Test.YtafoaonkjcfbaaaM3p
import Derived.StillTailTactics
namespace Go.Proofs.Ytafoaonkjcfbaaa.M3r
open Go.RowKit Go.Proofs.Ytafoaonkjcfbaaa.Mem Go.Proofs.Ytafoaonkjcfbaaa.M3p
set_option maxRecDepth 100000
set_option maxHeartbeats 1000000

/-- What Div answers. -/
def dout (a b : Int) : Ending := .returned (.tuple #[.int .i64 (if clp b = 0 then 0 else divS a b), .int .i64 (if clp b = 0 then 12 else 0)])
end Go.Proofs.Ytafoaonkjcfbaaa.M3r
