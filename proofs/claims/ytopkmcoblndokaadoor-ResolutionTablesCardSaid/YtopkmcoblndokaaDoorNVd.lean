/- Layer 6: texts joined: Kh Ki. -/
import Derived.Test.YtopkmcoblndokaaDoorNVcb
/- Layer 5: the reference's error of a node (operators without a range). -/
namespace Go.Proofs.YtopkmcoblndokaaDoor
open Go.RowKit Go.Proofs.Ws
end Go.Proofs.YtopkmcoblndokaaDoor
/- Layer 5: the reference's error of a node (agents and groups). -/
namespace Go.Proofs.YtopkmcoblndokaaDoor
open Go.RowKit Go.Proofs.Ws
end Go.Proofs.YtopkmcoblndokaaDoor
