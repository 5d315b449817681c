/- Walks: the reference of clocks: Advance, Adjust. -/
import Derived.Test.YtncpbgmbneobiaaV9d
namespace Go.Proofs.Ytncpbgmbneobiaa.V9
open Go.RowKit Go.Proofs.Ytncpbgmbneobiaa.Mem Go.Proofs.Ytncpbgmbneobiaa.F2p Go.Proofs.Ytncpbgmbneobiaa.V7
set_option maxRecDepth 100000
set_option maxHeartbeats 1000000

end Go.Proofs.Ytncpbgmbneobiaa.V9
