/- Walk of the reference's Heads: contract. -/
import Derived.Test.YtjfakhfkbnnbcaaZc
namespace Go.Proofs.Ytjfakhfkbnnbcaa
open Go.RowKit

end Go.Proofs.Ytjfakhfkbnnbcaa
