/- Layer 6: texts joined: Rp Rt Ab. -/
import Derived.Test.YtjpmhbnikoggaaaDoorNIb
import Derived.Test.YtjpmhbnikoggaaaDoorNId
import Derived.Test.YtjpmhbnikoggaaaDoorNIe
import Derived.Lib.Builder
/- Contracts of layer 2: extend, closed, closure and the euclidean closure. -/
namespace Go.Proofs.YtjpmhbnikoggaaaDoor
open Go.RowKit Go.Proofs.Ws
end Go.Proofs.YtjpmhbnikoggaaaDoor
/- Contracts of layer 2: Has on both sides. -/
namespace Go.Proofs.YtjpmhbnikoggaaaDoor
open Go.RowKit Go.Proofs.Ws
/-- what a call hands back: whether a proposition holds -/
def GivesB (Q : Prop) (w : World) (e : Ending) (w' : World) : Prop := ∃ b : Bool, e = .returned (.bool b) ∧ (b = true ↔ Q) ∧ Below w.heap.size w w'
theorem GivesB.congr {Q R : Prop} {w : World} {e : Ending} {w' : World} (h : GivesB Q w e w') (hq : Q ↔ R) : GivesB R w e w' := by
  obtain ⟨b, he, hb, hw⟩ := h
  exact ⟨b, he, hb.trans hq, hw⟩
end Go.Proofs.YtjpmhbnikoggaaaDoor
/- Layer 15: what layer 13's texts take from Ab stands in layer 2's texts here. -/
namespace Go.Proofs.YtjpmhbnikoggaaaDoor
end Go.Proofs.YtjpmhbnikoggaaaDoor
