/- Layer 5: the reference's finish. -/
import Derived.Test.YthhkeobjjeldhaaDoorJe
namespace Go.Proofs.YthhkeobjjeldhaaDoor
open Go.RowKit Go.Proofs.Ws
end Go.Proofs.YthhkeobjjeldhaaDoor
