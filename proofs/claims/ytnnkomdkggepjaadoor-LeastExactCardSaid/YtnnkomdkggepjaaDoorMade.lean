/- What the wrappers make. -/
import Derived.Test.YtnnkomdkggepjaaDoorWrp
namespace Go.Proofs.YtnnkomdkggepjaaDoor
open Go Go.RowKit
end Go.Proofs.YtnnkomdkggepjaaDoor
