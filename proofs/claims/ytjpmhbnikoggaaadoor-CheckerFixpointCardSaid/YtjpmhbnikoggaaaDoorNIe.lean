/- Layer 6: texts joined: Ss Rn Ro Rq Rr Rs. -/
import Derived.Test.YtjpmhbnikoggaaaDoorNIc
import Derived.Lib.Walk
import Derived.Lib.SliceRun
import Derived.Laws.AppendOwnNone
/- Contracts of the library's slices.Clone, Equal and Contains at lists of words. -/
namespace Go.Proofs.YtjpmhbnikoggaaaDoor
open Go.RowKit Go.Proofs.Ws
theorem HoldsP.of_own {w : World} {base : Nat} {v : Value} {l : List Nat} (h : w.ownsRow base 31 1 v l.length (us l)) (hv : v ≠ .slice none 0 0) : ∃ g c, v = .slice (some ⟨g, 0, none⟩) l.length c ∧ base ≤ g ∧ HoldsP w g l ∧ l.length ≤ c := by
  rcases h.2 with ⟨e, _⟩ | ⟨g, cap, cur, e, hb, hg, hn, _, hs, ht⟩
  · exact absurd e hv
  · refine ⟨g, cap, e, hb, ⟨cur.toList.drop l.length, ?_⟩, hn⟩
    rw [hg]
    have : cur = (us l ++ cur.toList.drop l.length).toArray := by
      rw [← ht, Nat.mul_one, List.take_append_drop]
    rw [← this]
end Go.Proofs.YtjpmhbnikoggaaaDoor
/- Contracts of layer 2: extend, at each of the steps but the euclidean one. -/
namespace Go.Proofs.YtjpmhbnikoggaaaDoor
open Go.RowKit Go.Proofs.Ws
end Go.Proofs.YtjpmhbnikoggaaaDoor
/- Contracts of layer 2: closed, closure and the closures, at each of the steps but the euclidean one. -/
namespace Go.Proofs.YtjpmhbnikoggaaaDoor
open Go.RowKit Go.Proofs.Ws
end Go.Proofs.YtjpmhbnikoggaaaDoor
/- Contracts of layer 2's reference: the closures. -/
namespace Go.Proofs.YtjpmhbnikoggaaaDoor
open Go.RowKit Go.Proofs.Ws
end Go.Proofs.YtjpmhbnikoggaaaDoor
/- Contracts of layer 2's reference: grow, the transitive and the euclidean closure. -/
namespace Go.Proofs.YtjpmhbnikoggaaaDoor
open Go.RowKit Go.Proofs.Ws
theorem holdsP_drewN {w : World} {g : Nat} {l : List Nat} (h : HoldsP w g l) (q : Nat) : HoldsP (w.drewN q) g l := h
theorem BelowBut.drewN {B g : Nat} {a w : World} (h : BelowBut B g a w) (q : Nat) : BelowBut B g a (w.drewN q) := ⟨h.os, h.tape, h.output, h.size, h.block⟩
end Go.Proofs.YtjpmhbnikoggaaaDoor
/- Contracts of layer 2's reference: the transitive and the euclidean closure. -/
namespace Go.Proofs.YtjpmhbnikoggaaaDoor
open Go.RowKit Go.Proofs.Ws
end Go.Proofs.YtjpmhbnikoggaaaDoor
