/- Layer 6: texts joined: Fr34 Fr35. -/
import Derived.Test.YtjpmhbnikoggaaaGreatDoorNIi
import Derived.Test.YtjpmhbnikoggaaaGreatDoorNIr
import Derived.Deep.AppendLies
import Derived.Laws.OwnMore
/- Layer 15: the copy of a model by the reference (what Close asks of it: a part of its own, with the facts and as many relations). -/
namespace Go.Proofs.YtjpmhbnikoggaaaGreatDoor
open Go.RowKit Go.Proofs.Ws
set_option maxRecDepth 100000
theorem own_keep1 {W W' : World} {lo size : Nat} {e : TypeId} {v : Value} {n : Nat} {xs : List Value} (h : W.ownsRow lo e size v n xs) (hk : ∀ g, v.ownBlock = some g → W'.heap[g]? = W.heap[g]?) : W'.ownsRow lo e size v n xs := by
  refine ⟨h.1, ?_⟩
  rcases h.2 with hn | ⟨g, cap, cur, hv, hb, hg, rest⟩
  · exact .inl hn
  · exact .inr ⟨g, cap, cur, hv, hb, by rw [hk g (by rw [hv]; rfl)]; exact hg, rest⟩
theorem own_type {W : World} {b size n : Nat} {e : TypeId} {v : Value} {xs : List Value} (h : W.ownsRow b e size v n xs) {g : Nat} (hg : v.ownBlock = some g) : ∃ cur, W.heap[g]? = some (.cells cur e (0, 0)) := by
  rcases h.2 with ⟨rfl, _⟩ | ⟨g2, cap, cur, rfl, _, h2, _⟩
  · cases hg
  · have e2 : g2 = g := by injection hg
    subst e2
    exact ⟨cur, h2⟩
theorem own_apart {W : World} {b b2 size size2 n n2 : Nat} {e e2 : TypeId} {v v2 : Value} {xs xs2 : List Value} (h : W.ownsRow b e size v n xs) (h2 : W.ownsRow b2 e2 size2 v2 n2 xs2) (hne : e ≠ e2) {g : Nat} (hg : v.ownBlock = some g) : v2.ownBlock ≠ some g := by
  intro hg2
  obtain ⟨c1, k1⟩ := own_type h hg
  obtain ⟨c2, k2⟩ := own_type h2 hg2
  rw [k1] at k2
  injection k2 with k2
  injection k2 with _ k3
  exact hne k3
theorem own_sl {w : World} {base : Nat} {e : TypeId} {v : Value} {n size : Nat} {xs : List Value} (h : w.ownsRow base e size v n xs) : ∃ A c, v = .slice A n c := by
  rcases h.2 with ⟨rfl, rfl⟩ | ⟨g, cap, cur, rfl, _⟩
  · exact ⟨_, _, rfl⟩
  · exact ⟨_, _, rfl⟩
section
variable {wx wy : World}
end
/-- a model under way: the parameter, the result's cell, the part -/
structure Cp (w wx : World) (n : Int) (v1 v2 : Value) (P : Nat) (VV RV : Value) : Prop where
  rs : Rs w wx n v1 v2
  part : MBox wx P n VV RV
  lo : w.heap.size + 2 ≤ P
section
variable {w wx wy : World} {n : Int} {v1 v2 VV RV : Value} {P : Nat}
theorem Cp.keep (h : Cp w wx n v1 v2 P VV RV) (hb : Below (P + 1) wx wy) : Cp w wy n v1 v2 P VV RV := by
  have hl := h.lo
  exact ⟨⟨(hb.block _ (by omega)).trans h.rs.box, (hb.block _ (by omega)).trans h.rs.res, h.rs.below.trans (hb.mono (by omega))⟩, (hb.block _ (by omega)).trans h.part, hl⟩
theorem Cp.put1 (h : Cp w wx n v1 v2 P VV RV) (v : Value) : Cp w (wx.setCell ⟨P, 1, none⟩ v) n v1 v2 P v RV := by
  have hb := OnlyB.set P 1 wx v
  have hl := h.lo
  have hp := h.part
  refine ⟨⟨(hb.block _ h.rs.box.lt (by omega)).trans h.rs.box, (hb.block _ h.rs.res.lt (by omega)).trans h.rs.res, h.rs.below.trans (hb.below (by omega) h.rs.below.size)⟩, ?_, hl⟩
  unfold MBox at hp ⊢
  simp [World.setCell, Array.getElem?_modify, hp]
end
end Go.Proofs.YtjpmhbnikoggaaaGreatDoor
/- Layer 15: Close by the reference. -/
namespace Go.Proofs.YtjpmhbnikoggaaaGreatDoor
open Go.RowKit Go.Proofs.Ws
set_option maxRecDepth 100000
theorem ne_MO {W : World} {P b q : Nat} {n : Int} {v1 v2 : Value} {v : Value} {xs : List Value} {GR : Nat} (h : MBox W P n v1 v2) (h2 : W.ownsRow b 22 1 v q xs) (hg : v.ownBlock = some GR) : P ≠ GR := fun e => by
  subst e
  obtain ⟨cur, k⟩ := own_type h2 hg
  unfold MBox at h
  rw [h] at k
  injection k with k
  injection k with _ k3
  exact absurd k3 (by decide)
/-- the part that is being closed -/
structure Cq (w wx : World) (n : Int) (v1 v2 : Value) (P nv nr : Nat) (VV RV : Value) (val : List Nat) (LR : List Value) : Prop where
  rs : Rs w wx n v1 v2
  part : MBox wx P n VV RV
  val : wx.ownsRow (w.heap.size + 2) 37 1 VV nv (us val)
  own : wx.ownsRow (w.heap.size + 2) 22 1 RV nr LR
  lo : w.heap.size + 2 ≤ P
section
variable {w wx wy : World} {n : Int} {v1 v2 VV RV : Value} {P nv nr k a : Nat} {val : List Nat} {LR : List Value} {Q : Nat → List Nat → Prop}
theorem Cq.below (h : Cq w wx n v1 v2 P nv nr VV RV val LR) (hb : Below wx.heap.size wx wy) : Cq w wy n v1 v2 P nv nr VV RV val LR :=
  ⟨h.rs.keep hb, h.part.below hb h.part.lt, own_keep1 h.val (fun g hg => hb.block g (h.val.lt g hg).2), own_keep1 h.own (fun g hg => hb.block g (h.own.lt g hg).2), h.lo⟩
theorem Cq.step {GR : Nat} {LR' : List Value} (h : Cq w wx n v1 v2 P nv nr VV RV val LR) (hg : RV.ownBlock = some GR) (ho : OnlyB GR wx wy) (hv : wy.ownsRow (w.heap.size + 2) 22 1 RV nr LR') : Cq w wy n v1 v2 P nv nr VV RV val LR' := by
  have h1 := (h.own.lt GR hg).1
  exact ⟨⟨(ho.block _ h.rs.box.lt (by omega)).trans h.rs.box, (ho.block _ h.rs.res.lt (by omega)).trans h.rs.res, h.rs.below.trans (ho.below (by omega) h.rs.below.size)⟩, (ho.block _ h.part.lt (ne_MO h.part h.own hg)).trans h.part, own_keep1 h.val (fun g hg2 => ho.block g (h.val.lt g hg2).2 (fun e => own_apart h.val h.own (by decide) hg2 (by rw [e]; exact hg))), hv, h.lo⟩
/-- the model that is returned -/
theorem Cq.fin (h : Cq w wx n v1 v2 P nv nr VV RV val LR) (hr : RowsC wx (w.heap.size + 2) k Q LR nr) (hn : 0 ≤ n ∧ n ≤ 64) (hl : val.length = nv) (hnv : nv ≤ 8) (hnr : nr ≤ 4) (hk : k ≤ 64) (hw : Words val) (hQ : ∀ j C, Q j C → Sh k C) :
    ∃ rel : List (List Nat), rel.length = nr ∧ (∀ j, j < nr → Q j (rel.getD j [])) ∧ MoF wx (w.heap.size + 2) (.agg #[.int .i64 n, VV, RV]) ⟨n, val, rel⟩ := by
  have hex : ∀ j, ∃ C : List Nat, j < nr → ∃ g c, LR[j]? = some (.slice (some ⟨g, 0, none⟩) k c) ∧ HoldsP wx g C ∧ w.heap.size + 2 ≤ g ∧ Q j C := fun j => by
    by_cases hj : j < nr
    · obtain ⟨g, c, C, h1⟩ := hr j hj
      exact ⟨C, fun _ => ⟨g, c, h1⟩⟩
    · exact ⟨[], fun h => absurd h hj⟩
  obtain ⟨F, hF⟩ : ∃ F : Nat → List Nat, ∀ j, j < nr → ∃ g c, LR[j]? = some (.slice (some ⟨g, 0, none⟩) k c) ∧ HoldsP wx g (F j) ∧ w.heap.size + 2 ≤ g ∧ Q j (F j) := ⟨fun j => Classical.choose (hex j), fun j => Classical.choose_spec (hex j)⟩
  have hget : ∀ j, j < nr → ((List.range nr).map F).getD j [] = F j := fun j hj => by simp [hj]
  refine ⟨(List.range nr).map F, by simp, fun j hj => by rw [hget j hj]; obtain ⟨_, _, _, _, _, h4⟩ := hF j hj; exact h4, fun W' hs hag => ?_⟩
  have keepP : ∀ g l, HoldsP wx g l → w.heap.size + 2 ≤ g → HoldsP W' g l := fun g l hp hg => by
    have hlt := hp.lt
    obtain ⟨pad, hp⟩ := hp
    exact ⟨pad, (hag g hg hlt).trans hp⟩
  have hval := own_keep1 h.val (W' := W') (fun g hg => hag g (h.val.lt g hg).1 (h.val.lt g hg).2)
  have hown := own_keep1 h.own (W' := W') (fun g hg => hag g (h.own.lt g hg).1 (h.own.lt g hg).2)
  obtain ⟨A, c, rfl⟩ := own_sl hval
  obtain ⟨A2, c2, rfl, hR⟩ := own_reads hown
  refine ⟨⟨A, c, A2, c2, ?_, ?_, ?_⟩, ⟨by show val.length ≤ maxLen; unfold maxLen; omega, by show ((List.range nr).map F).length ≤ maxLen; unfold maxLen; simp; omega⟩, ⟨by show _ ≤ n; omega, by show n < _; omega⟩, hw, fun r hr => ?_⟩
  · show _ = Value.agg #[.int .i64 n, .slice A val.length c, .slice A2 ((List.range nr).map F).length c2]
    rw [hl]; simp
  · show Reads W' W'.heap.size 1 A val.length (us val)
    rw [hl]
    exact Reads.of_own hval
  · show UsR W' W'.heap.size A2 ((List.range nr).map F).length ((List.range nr).map F)
    have e9 : ((List.range nr).map F).length = nr := by simp
    rw [e9]
    refine ⟨e9, LR, hR, fun j hj => ?_⟩
    obtain ⟨g, c, h1, h2, h3, h4⟩ := hF j hj
    have hs := hQ j _ h4
    rw [hget j hj, hs.1]
    have hrd := (keepP g _ h2 h3).reads
    rw [hs.1] at hrd
    exact ⟨_, c, h1, hrd, by unfold maxLen; omega⟩
  · obtain ⟨j, hj, rfl⟩ := List.mem_map.1 hr
    obtain ⟨_, _, _, _, _, h4⟩ := hF j (List.mem_range.1 hj)
    exact sh_words hk (hQ j _ h4)
end
/-- what Close returns is unique -/
theorem ClosM.unique {m c d : Mo} {g : Int} (h : ClosM m g c) (k : ClosM m g d) : c = d := by
  by_cases hz : ckE m g = 0
  · obtain ⟨h1, h2, h3, h4⟩ := h.rel hz
    obtain ⟨k1, k2, k3, k4⟩ := k.rel hz
    have e : c.rel = d.rel := by
      apply List.ext_getElem (h3.trans k3.symm)
      intro j j1 j2
      have := (h4 j (by omega)).unique (k4 j (by omega))
      rwa [List.getD_eq_getElem?_getD, List.getD_eq_getElem?_getD, List.getElem?_eq_getElem j1, List.getElem?_eq_getElem j2] at this
    obtain ⟨n, v, r⟩ := c
    obtain ⟨n', v', r'⟩ := d
    dsimp only at h1 h2 k1 k2 e
    rw [h1, h2, k1, k2, e]
  · unfold ClosM at h k
    rw [if_neg hz] at h k
    rw [h, k]
end Go.Proofs.YtjpmhbnikoggaaaGreatDoor
