/- Layer 5: the reference's error of a node (agents and groups). -/
import Derived.Test.YthhkeobjjeldhaaDoorKh
namespace Go.Proofs.YthhkeobjjeldhaaDoor
open Go.RowKit Go.Proofs.Ws
end Go.Proofs.YthhkeobjjeldhaaDoor
