/- Layer 9: what BooleanModal asks of the tautologies. -/
import Derived.Test.YtkkkomkljpolbaaDoorNIx
namespace Go.Proofs.YtkkkomkljpolbaaDoor
open Go.RowKit Go.Proofs.Ws Go.Maps
set_option maxRecDepth 100000
theorem can_known {t : Tr} (h : AllOk t) : ∀ n ∈ canT t, known n.op = true := fun n hn => (finT_all t (o := []) (P := fldOk) h.1 h.2 (fun n hn => absurd hn (by simp)) n hn).1
theorem same_few {t u : Tr} (ht : AllOk t) (hu : AllOk u) (h : ∀ s, pAt u s → pAt t s) : (atomsOf (canT u)).length ≤ (atomsOf (canT t)).length := by
  have key := len_sub ((atomsOf (canT u)).map (treeAt (canT u))) ((atomsOf (canT t)).map (treeAt (canT t))) (atoms_trees_nodup ⟨canT_nodup _, canT_ops hu.1⟩ (canT_ne _)) (fun s hs => by
    obtain ⟨j, hj, e⟩ := List.mem_map.1 hs
    have h1 := (atoms_tree hu.1 (can_known hu) s).2 ⟨j, hj, e⟩
    obtain ⟨j2, h2, e2⟩ := (atoms_tree ht.1 (can_known ht) s).1 (h s h1)
    exact List.mem_map.2 ⟨j2, h2, e2⟩)
  simpa using key
/-- whether a formula is a tautology is read off its tree -/
theorem taut9 {f : List Nd} (hz : fErr f = 0) (h10 : (atomsOf (compF f)).length ≤ 10) : tauE f = 0 ∧ (tauV f = true ↔ tautT (tOf f)) := by
  obtain ⟨h1, h2⟩ := taut_iff9 hz h10
  refine ⟨h1, h2.trans ?_⟩
  have hc : compF f = canT (tOf f) := compF_tree hz
  have ha := tOf_all hz
  rw [hc]
  exact taut_tree ha.1 (can_known ha)
theorem or_not_len {t : Tr} (h : AllOk t) : (canT (jT 6 t (notT t))).length ≤ (canT t).length + 2 := by
  have hn := all_not h
  have r1 : rep (canT (notT t)) _ (notT t) := finT_rep (notT t) []
  obtain ⟨x, _, ha⟩ := r1
  have g := Gr.join (o := canT (notT t)) ⟨canT_nodup _, canT_ops hn.1⟩ (op := 6) (by decide) ha (finT_rep (notT t) []) h.1 hn.1
  have h1 := g.bd.len g.ok g.rep
  have h2 := g.len
  have h3 := neg_not_len h
  omega
theorem all_join9 {op : Int} (ho : op = 5 ∨ op = 6) {a b : Tr} (h : AllOk a) (k : AllOk b) : AllOk (jT op a b) := by
  rcases ho with rfl | rfl
  · exact ⟨⟨by decide, by decide, rfl, h.1, k.1⟩, fld_op (by decide) (by decide) (by decide) (by decide), h.2, k.2⟩
  · exact ⟨⟨by decide, by decide, rfl, h.1, k.1⟩, fld_op (by decide) (by decide) (by decide) (by decide), h.2, k.2⟩
theorem middle9 {f : List Nd} (hz : fErr f = 0) (hl : f.length ≤ 20) (h10 : (atomsOf (compF f)).length ≤ 10) :
    (buildF ⟨4, 0, 0, 0, 0, 0⟩ [f]).length ≤ 21 ∧ (buildF ⟨6, 0, 0, 0, 0, 0⟩ [f, buildF ⟨4, 0, 0, 0, 0, 0⟩ [f]]).length ≤ 22 ∧ tauE (buildF ⟨6, 0, 0, 0, 0, 0⟩ [f, buildF ⟨4, 0, 0, 0, 0, 0⟩ [f]]) = 0 ∧ tauV (buildF ⟨6, 0, 0, 0, 0, 0⟩ [f, buildF ⟨4, 0, 0, 0, 0, 0⟩ [f]]) = true := by
  have ha := tOf_all hz
  have hc : compF f = canT (tOf f) := compF_tree hz
  have hcl : (canT (tOf f)).length ≤ 20 := by rw [← hc]; exact Nat.le_trans (compF_le f) hl
  have hN : buildF ⟨4, 0, 0, 0, 0, 0⟩ [f] = shortT (notT (tOf f)) := build_un (by decide) ⟨.inr (.inr (.inr rfl)), .inr rfl, .inr rfl⟩ (by decide) rfl (by decide) (by decide) hz
  have han : AllOk (notT (tOf f)) := all_not ha
  have hnl := neg_not_len ha
  have hs : shortT (notT (tOf f)) = canT (notT (tOf f)) := if_neg (by omega)
  rw [hN, hs]
  obtain ⟨c1, c2, c3⟩ := can_ok9 han (by omega)
  have hO : buildF ⟨6, 0, 0, 0, 0, 0⟩ [f, canT (notT (tOf f))] = shortT (jT 6 (tOf f) (tOf (canT (notT (tOf f))))) := build_bin (by decide) ⟨.inr (.inr (.inr rfl)), .inr rfl, .inr rfl⟩ (by decide) rfl (by decide) (by decide) hz c1
  rw [c2] at hO
  have haj : AllOk (jT 6 (tOf f) (notT (tOf f))) := all_join9 (.inr rfl) ha han
  have hjl := or_not_len ha
  have hs2 : shortT (jT 6 (tOf f) (notT (tOf f))) = canT (jT 6 (tOf f) (notT (tOf f))) := if_neg (by omega)
  rw [hO, hs2]
  obtain ⟨d1, d2, d3⟩ := can_ok9 haj (by omega)
  have hfew := same_few ha haj (fun s hs => by
    have hs : (if (5 : Int) ≤ 6 ∧ (6 : Int) ≤ 8 then pAt (tOf f) s ∨ pAt (notT (tOf f)) s else _) := hs
    rw [if_pos (by decide)] at hs
    rcases hs with hs | hs
    · exact hs
    · have hs : (if (4 : Int) = 4 then pAt (tOf f) s else _) := hs
      rw [if_pos rfl] at hs
      exact hs)
  rw [hc] at h10
  obtain ⟨e1, e2⟩ := taut9 d1 (by rw [d3]; omega)
  rw [d2] at e2
  exact ⟨by omega, by omega, e1, e2.2 (middle_taut (tOf f))⟩
theorem modal9 {f O : List Nd} {a : Int} {T : List Nat} (hz : fErr f = 0) (hl : f.length ≤ 20) (h10 : (atomsOf (compF f)).length ≤ 10) (h8 : ∀ x ∈ compF f, x.op ≤ 8) (hK : KnOk f a f.length O T) : O.length ≤ 40 ∧ tauE O = 0 ∧ tauE f = 0 ∧ tauV O = tauV f := by
  have ha := tOf_all hz
  have hc : compF f = canT (tOf f) := compF_tree hz
  have hne : 0 < f.length := List.length_pos_iff.2 (fErr_ok hz).1
  have hOl := hK.len
  have hlast := hK.last hne
  have hO0 : O ≠ [] := fun e => by rw [e] at hlast; simp at hlast
  have zO : fErr O = 0 := fErr_zero hO0 (by omega) (fun j hj => ⟨hK.ops j hj, hK.fld _ (getD_mem hj)⟩)
  have tO : tOf O = mapT (knR a) (tOf f) := by
    have h1 := hK.tree (f.length - 1) (by omega)
    have e : T.getD (f.length - 1) 0 = O.length - 1 := by omega
    rw [e] at h1
    exact h1
  have aO := tOf_all zO
  have cO : compF O = canT (tOf O) := compF_tree zO
  rw [tO] at aO cO
  have hp : trAll (fun n => 1 ≤ n.op ∧ n.op ≤ 8) (tOf f) := by
    have h1 := treeAt_all (P := fun n => 1 ≤ n.op ∧ n.op ≤ 8) (canT_ops ha.1) (fun n hn => by
      have hk := can_known ha n hn
      unfold known at hk
      simp only [Bool.and_eq_true, decide_eq_true_eq] at hk
      exact ⟨hk.1, h8 n (by rw [hc]; exact hn)⟩) ((canT (tOf f)).length - 1 + 1) ((canT (tOf f)).length - 1) (by omega) (by have := List.length_pos_iff.2 (canT_ne (tOf f)); omega)
    rw [canT_tree ha.1] at h1
    exact h1
  have hfew := kn_few a ha.1 (can_known ha) hp aO.1 (can_known aO)
  rw [hc] at h10
  obtain ⟨e1, e2⟩ := taut9 hz (by rw [hc]; exact h10)
  obtain ⟨f1, f2⟩ := taut9 zO (by rw [cO]; omega)
  rw [tO] at f2
  refine ⟨by omega, f1, e1, ?_⟩
  rw [Bool.eq_iff_iff, e2, f2]
  exact modal_taut a ha.1 hp
end Go.Proofs.YtkkkomkljpolbaaDoor
