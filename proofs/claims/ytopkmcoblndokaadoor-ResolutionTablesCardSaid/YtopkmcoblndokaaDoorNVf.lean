/- Layer 5: the reference's finish. -/
import Derived.Test.YtopkmcoblndokaaDoorNVe
namespace Go.Proofs.YtopkmcoblndokaaDoor
open Go.RowKit Go.Proofs.Ws
end Go.Proofs.YtopkmcoblndokaaDoor
