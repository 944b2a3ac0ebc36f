/- Walk of the reference's Read: contracts. -/
import Derived.Test.YtmhkgpcnefcjaaaDoorCb
import Derived.Test.YtmhkgpcnefcjaaaDoorDy
namespace Go.Proofs.YtmhkgpcnefcjaaaDoor
open Go.RowKit

end Go.Proofs.YtmhkgpcnefcjaaaDoor
