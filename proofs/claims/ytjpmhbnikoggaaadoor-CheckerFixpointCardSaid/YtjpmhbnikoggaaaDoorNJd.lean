/- Layer 5: the reference's error of a node (agents and groups). -/
import Derived.Test.YtjpmhbnikoggaaaDoorNJc
namespace Go.Proofs.YtjpmhbnikoggaaaDoor
open Go.RowKit Go.Proofs.Ws
end Go.Proofs.YtjpmhbnikoggaaaDoor
