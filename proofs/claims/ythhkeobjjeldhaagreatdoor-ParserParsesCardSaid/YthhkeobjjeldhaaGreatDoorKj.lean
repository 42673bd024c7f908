/- Layer 5: the reference's error of a node (the rest). -/
import Derived.Test.YthhkeobjjeldhaaGreatDoorKh
namespace Go.Proofs.YthhkeobjjeldhaaGreatDoor
open Go.RowKit Go.Proofs.Ws
end Go.Proofs.YthhkeobjjeldhaaGreatDoor
