/- Layer 5: the reference's error of a node (the rest). -/
import Derived.Test.YthhkeobjjeldhaaDoorKh
namespace Go.Proofs.YthhkeobjjeldhaaDoor
open Go.RowKit Go.Proofs.Ws
end Go.Proofs.YthhkeobjjeldhaaDoor
