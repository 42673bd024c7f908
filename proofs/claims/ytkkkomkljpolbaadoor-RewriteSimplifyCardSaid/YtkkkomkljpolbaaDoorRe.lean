/- Layer 6: texts joined: Gg Gga Ggb Ggc Ggd. -/
import Derived.Test.YtkkkomkljpolbaaDoorRa
/- Layer 8: few operators. -/
namespace Go.Proofs.YtkkkomkljpolbaaDoor
open Go.RowKit Go.Proofs.Ws Go.Maps
set_option maxRecDepth 100000
theorem put_facts (o : List Nd) (n : Nd) : (putNd o n).1 < (putNd o n).2.length ∧ o.length ≤ (putNd o n).2.length ∧ (putNd o n).2.length ≤ o.length + 1 :=
  ⟨putNd_lt o n, (putNd_pre o n).length_le, (putNd_len o n).1⟩
/-- what the calls on the builder give -/
def CoOk (B base bw bm : Nat) (W : World) (p : Nat × List Nd) (e : Ending) (w' : World) : Prop := e = .returned (.int .i64 (p.1 : Nat)) ∧ Hid (Bu B base bw bm w' p.2) ∧ Hid (Fb bw bm W w')
theorem Bu.drew {B base bw bm : Nat} {W : World} {o : List Nd} (h : Bu B base bw bm W o) : Bu B base bw bm W.drew o := h.below (Below.refl _ W).drew
theorem FbG.drew {bw bm : Nat} {w W : World} (h : Fb bw bm w W) : Fb bw bm w W.drew := ⟨h.os, h.tape, h.output, h.size, h.block, h.row⟩
theorem Bu.drewN {B base bw bm : Nat} {W : World} {o : List Nd} (h : Bu B base bw bm W o) (k : Nat) : Bu B base bw bm (W.drewN k) o := h.below (below_drewN (Below.refl _ _) k)
/-- a call in a region that draws its order: the node's box is as before -/
def CoKeep (B base bw bm : Nat) (W : World) (g : Nat) (n : Nd) (p : Nat × List Nd) (e : Ending) (w' : World) : Prop :=
  e = .returned (.int .i64 (p.1 : Nat)) ∧ Hid (Bu B base bw bm w' p.2) ∧ Hid (Fb bw bm W w') ∧ Hid (AsideB w' bw bm g) ∧ Hid (Box w' g n) ∧ w'.cell? ⟨g, 1, none⟩ = some (.int .i64 n.i)
theorem CoOk.keep {B base bw bm g : Nat} {W0 W : World} {n : Nd} {p : Nat × List Nd} (hF : Hid (Fb bw bm W0 W)) (ha : Hid (AsideB W bw bm g)) (hb : Hid (Box W g n)) {e : Ending} {w' : World} (hk : CoOk B base bw bm W p e w') : CoKeep B base bw bm W0 g n p e w' := by
  obtain ⟨h1, h2, h3⟩ := hk
  have hs := ha.out.step h3.out
  have hb2 := hb.out.keep hs.1
  exact ⟨h1, h2, Lib.hid (hF.out.trans h3.out), Lib.hid hs.2, Lib.hid hb2, hb2.2.1⟩
end Go.Proofs.YtkkkomkljpolbaaDoor
/- Layer 8: few operators, operators 1 to 8. -/
namespace Go.Proofs.YtkkkomkljpolbaaDoor
open Go.RowKit Go.Proofs.Ws Go.Maps
set_option maxRecDepth 100000
end Go.Proofs.YtkkkomkljpolbaaDoor
/- Layer 8: few operators, operators 9 to 14. -/
namespace Go.Proofs.YtkkkomkljpolbaaDoor
open Go.RowKit Go.Proofs.Ws Go.Maps
set_option maxRecDepth 100000
end Go.Proofs.YtkkkomkljpolbaaDoor
/- Layer 8: few operators, operators 15 to 21. -/
namespace Go.Proofs.YtkkkomkljpolbaaDoor
open Go.RowKit Go.Proofs.Ws Go.Maps
set_option maxRecDepth 100000
end Go.Proofs.YtkkkomkljpolbaaDoor
/- Layer 8: few operators. -/
namespace Go.Proofs.YtkkkomkljpolbaaDoor
open Go.RowKit Go.Proofs.Ws Go.Maps
set_option maxRecDepth 100000
end Go.Proofs.YtkkkomkljpolbaaDoor
