/- Layer 5: the reference's error of a node (agents and groups). -/
import Derived.Test.YthhkeobjjeldhaaGreatDoorKh
namespace Go.Proofs.YthhkeobjjeldhaaGreatDoor
open Go.RowKit Go.Proofs.Ws
end Go.Proofs.YthhkeobjjeldhaaGreatDoor
