/- Walks of retort's High (slices.IndexFunc over its test): contracts. -/
import Derived.Test.YtpkcnojcklmhmaaVz
namespace Go.Proofs.Ytpkcnojcklmhmaa
open Go.RowKit

end Go.Proofs.Ytpkcnojcklmhmaa
