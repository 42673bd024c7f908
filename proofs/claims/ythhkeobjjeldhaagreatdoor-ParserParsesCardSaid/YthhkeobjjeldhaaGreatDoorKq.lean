/- Layer 5: the reference's finish. -/
import Derived.Test.YthhkeobjjeldhaaGreatDoorJe
namespace Go.Proofs.YthhkeobjjeldhaaGreatDoor
open Go.RowKit Go.Proofs.Ws
end Go.Proofs.YthhkeobjjeldhaaGreatDoor
