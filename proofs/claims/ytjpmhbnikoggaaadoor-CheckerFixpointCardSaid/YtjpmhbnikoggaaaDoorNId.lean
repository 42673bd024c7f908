/- Contracts of layer 2: the euclidean step of the closures. -/
import Derived.Test.YtjpmhbnikoggaaaDoorNIc
namespace Go.Proofs.YtjpmhbnikoggaaaDoor
open Go.RowKit Go.Shelf Go.Proofs.Ws
attribute [local go_sem] Oper.semAt_some
end Go.Proofs.YtjpmhbnikoggaaaDoor
