/- Layer 5: the reference's error of a node (the rest). -/
import Derived.Test.YtjpmhbnikoggaaaDoorNJc
namespace Go.Proofs.YtjpmhbnikoggaaaDoor
open Go.RowKit Go.Proofs.Ws
end Go.Proofs.YtjpmhbnikoggaaaDoor
