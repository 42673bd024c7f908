/- Layer 13: the relations of a group, by the reference. -/
import Derived.Test.YtjpmhbnikoggaaaDoorNJf
import Derived.Test.YtjpmhbnikoggaaaDoorNKb
namespace Go.Proofs.YtjpmhbnikoggaaaDoor
open Go.RowKit Go.Proofs.Ws
set_option maxRecDepth 100000
end Go.Proofs.YtjpmhbnikoggaaaDoor
