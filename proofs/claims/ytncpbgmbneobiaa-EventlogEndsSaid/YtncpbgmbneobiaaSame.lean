/- Walks: two slices of bytes are the same. -/
import Derived.Test.YtncpbgmbneobiaaOwn
namespace Go.Proofs.Ytncpbgmbneobiaa.Same
open Go.RowKit Go.Proofs.Ytncpbgmbneobiaa.Mem
set_option maxRecDepth 100000
set_option maxHeartbeats 400000

end Go.Proofs.Ytncpbgmbneobiaa.Same
