/- Layer 9: tables, tautologies and trees: what BooleanFull, BooleanModal and BooleanBack need. -/
import Derived.Test.YtkkkomkljpolbaaDoorNId
import Derived.Test.YtkkkomkljpolbaaDoorNIq
import Derived.Test.YtkkkomkljpolbaaDoorNJl
import Derived.Test.YtkkkomkljpolbaaDoorNQq
namespace Go.Proofs.YtkkkomkljpolbaaDoor
open Go.RowKit Go.Proofs.Ws Go.Maps
set_option maxRecDepth 100000
theorem can_ok9 {t : Tr} (h : AllOk t) (hl : (canT t).length ≤ 200) : fErr (canT t) = 0 ∧ tOf (canT t) = t ∧ compF (canT t) = canT t := by
  have e := resL_err h
  rw [resL_short hl, if_neg (by omega)] at e
  have e2 : tOf (canT t) = t := canT_tree h.1
  refine ⟨e, e2, ?_⟩
  have := compF_tree e
  rw [show treeAt (canT t) ((canT t).length - 1) = t from e2] at this
  exact this
theorem fb_gF {q : List Nd} (hq : opsL q) (v : Nat) {i : Nat} (hi : i < q.length) : factB q v i = gF v (treeAt q i) := by
  rw [treeAt_eq hq hi]
  unfold factB
  by_cases h3 : (q.getD i nd0).op = 3
  · rw [if_neg (by rw [h3]; decide), if_neg (by rw [h3]; decide)]
    rfl
  · rw [decide_eq_false h3, Bool.false_and]
    split
    · rfl
    · split
      · rfl
      · show false = (decide ((q.getD i nd0).op = 3) && _)
        rw [decide_eq_false h3, Bool.false_and]
theorem lastB_tree {t : Tr} (ht : trOk t) (v : Nat) : lastB (canT t) v = bT (gF v) t := by
  have hq := canT_ops ht
  have hp := List.length_pos_iff.2 (canT_ne t)
  unfold lastB
  rw [bL_take (h := fun k => gF v (treeAt (canT t) k)) _ (fun j hj => fb_gF hq v hj), bL_tree hq (gF v) _ (Nat.le_refl _) _ (by omega), canT_tree ht]
theorem can_pr {m : Nat} {t : Tr} (ht : trOk t) (hp : trAll (prN m) t) : ∀ n ∈ canT t, prN m n := fun n hn => finT_all t (o := []) ht hp (fun n hn => absurd hn (by simp)) n hn
theorem pr_tree {m : Nat} {q : List Nd} (hq : opsL q) (h : ∀ n ∈ q, prN m n) {i : Nat} (hi : i < q.length) : trAll (prN m) (treeAt q i) := treeAt_all hq (fun n hn => h n hn) (i + 1) i (by omega) hi
/-- a formula with a truth table of n facts -/
structure Tb (f : List Nd) (n : Nat) : Prop where
  ok : fErr f = 0
  pr : ∀ x ∈ compF f, prN n x
  val : tblV f n = tabL (lastB (compF f)) (2 ^ n)
theorem fit_lt {f : List Nd} {n : Nat} (hn : n ≤ 6) (h : fitsF f 0 (n : Int) = true) : ∀ x ∈ compF f, x.op = 3 → x.i.toNat < n := fun x hx h3 => by
  have := fits_facts (f := f) (n := (n : Int)) ⟨by omega, by omega⟩ h x hx h3
  omega
theorem tb_of {f : List Nd} {n : Nat} (hn : n ≤ 6) (h : tblE f n = 0) : Tb f n := by
  have hz : fErr f = 0 := by
    apply Classical.byContradiction
    intro hz
    rw [(tblE_bad hz).1] at h
    exact hz h
  have hp : ∀ x ∈ compF f, x.op ≤ 8 := fun x hx => by
    apply Classical.byContradiction
    intro h8
    rw [(tblE_op hz hx h8).1] at h
    exact absurd h (by decide)
  have hfit : maskL factD (compF f) / 2 ^ n = 0 := by
    apply Classical.byContradiction
    intro hf
    rw [(tblE_fit hz hp hn hf).1] at h
    exact absurd h (by decide)
  have hft : fitsF f 0 (n : Int) = true := by rw [fits_ref hz hp hn]; exact decide_eq_true hfit
  refine ⟨hz, fun x hx => ⟨?_, hp x hx, fit_lt hn hft x hx⟩, (tblE_ok hz hp hn hfit).2⟩
  have hk := (compF_fld f x hx).1
  unfold known at hk
  simp only [Bool.and_eq_true, decide_eq_true_eq] at hk
  exact hk.1
theorem small_bit : ∀ m : Fin 256, ∀ n : Fin 7, (∀ i : Fin 8, m.val.testBit i.val = true → i.val < n.val) → m.val / 2 ^ n.val = 0 := by decide +kernel
theorem mask_bit (g : Nd → Nat) (l : List Nd) (i : Nat) (h : (maskL g l).testBit i = true) : ∃ n ∈ l, (g n).testBit i = true := by
  have key : ∀ (l : List Nd) (a : Nat), (l.foldl (fun m n => m ||| g n) a).testBit i = true → a.testBit i = true ∨ ∃ n ∈ l, (g n).testBit i = true := by
    intro l
    induction l with
    | nil => intro a h; exact .inl h
    | cons n l ih =>
      intro a h
      rcases ih (a ||| g n) h with h | ⟨m, hm, h⟩
      · rw [Nat.testBit_or, Bool.or_eq_true] at h
        rcases h with h | h
        · exact .inl h
        · exact .inr ⟨n, List.mem_cons_self, h⟩
      · exact .inr ⟨m, List.mem_cons_of_mem _ hm, h⟩
  rcases key l 0 h with h | h
  · rw [Nat.zero_testBit] at h; cases h
  · exact h
/-- a formula with propositional operators and facts below n has a table -/
theorem tb_mk {f : List Nd} {n : Nat} (hn : n ≤ 6) (hz : fErr f = 0) (hp : ∀ x ∈ compF f, prN n x) : tblE f n = 0 ∧ Tb f n := by
  have hfit : maskL factD (compF f) / 2 ^ n = 0 := by
    refine small_bit ⟨_, factM_256 f⟩ ⟨n, by omega⟩ (fun i hi => ?_)
    obtain ⟨x, hx, hb⟩ := mask_bit factD (compF f) i.val hi
    unfold factD at hb
    split at hb
    · rename_i h3
      rw [Nat.testBit_two_pow] at hb
      have := (hp x hx).2.2 h3
      have := of_decide_eq_true hb
      show i.val < n
      omega
    · rw [Nat.zero_testBit] at hb; cases hb
  have := tblE_ok hz (fun x hx => (hp x hx).2.1) hn hfit
  exact ⟨this.1, hz, hp, this.2⟩
/-- the atoms of a propositional formula of facts below 6 are few -/
theorem atoms_few6 {t : Tr} (ht : AllOk t) (hp : ∀ n ∈ canT t, prN 6 n) (hfld : ∀ n ∈ canT t, fldOk n) : (atomsOf (canT t)).length ≤ 6 := by
  have hq := canT_ops ht.1
  have hne := canT_ne t
  have hnd := atoms_nodup hq hne
  have hget : ∀ i, i < (canT t).length → (canT t).getD i nd0 ∈ canT t := fun i hi => by
    rw [List.getD_eq_getElem?_getD, List.getElem?_eq_getElem hi]; exact List.getElem_mem _
  have h3 : ∀ i ∈ atomsOf (canT t), i < (canT t).length ∧ ((canT t).getD i nd0).op = 3 := fun i hi => by
    have h1 := (atoms_lt hq hne i hi).1
    exact ⟨h1, (atoms_prop ht.1 (fun n hn => (hp n hn).2.1) h1).1 hi⟩
  have hinj : ∀ i ∈ atomsOf (canT t), ∀ j ∈ atomsOf (canT t), ((canT t).getD i nd0).i.toNat = ((canT t).getD j nd0).i.toNat → i = j := fun i hi j hj e => by
    obtain ⟨i1, i2⟩ := h3 i hi
    obtain ⟨j1, j2⟩ := h3 j hj
    have fi := hfld _ (hget i i1)
    have fj := hfld _ (hget j j1)
    have oi := hq i i1
    have oj := hq j j1
    have ei := (fld_i fi).1 i2
    have ej := (fld_i fj).1 j2
    have key : (canT t).getD i nd0 = (canT t).getD j nd0 := by
      obtain ⟨_, ⟨_, ai, gi⟩, _⟩ := fi
      obtain ⟨_, ⟨_, aj, gj⟩, _⟩ := fj
      unfold opsOk at oi oj
      rw [i2] at oi ai gi
      rw [j2] at oj aj gj
      generalize (canT t).getD i nd0 = x at *
      generalize (canT t).getD j nd0 = y at *
      obtain ⟨xo, xi, xe, xg, xx, xy⟩ := x
      obtain ⟨yo, yi, ye, yg, yx, yy⟩ := y
      dsimp only at *
      have a1 : xe = 0 := ai.resolve_left (by decide)
      have a2 : ye = 0 := aj.resolve_left (by decide)
      have b1 : xg = 0 := gi.resolve_left (by decide)
      have b2 : yg = 0 := gj.resolve_left (by decide)
      have c1 : xx = 0 := oi.1
      have c2 : xy = 0 := oi.2
      have c3 : yx = 0 := oj.1
      have c4 : yy = 0 := oj.2
      have d1 : xi = yi := by omega
      rw [i2, j2, a1, a2, b1, b2, c1, c2, c3, c4, d1]
    rw [List.getD_eq_getElem?_getD, List.getElem?_eq_getElem i1, List.getD_eq_getElem?_getD, List.getElem?_eq_getElem j1] at key
    rcases Nat.lt_trichotomy i j with h | h | h
    · exact absurd key (List.pairwise_iff_getElem.1 (List.nodup_iff_pairwise_ne.1 (canT_nodup t)) i j i1 j1 h)
    · exact h
    · exact absurd key.symm (List.pairwise_iff_getElem.1 (List.nodup_iff_pairwise_ne.1 (canT_nodup t)) j i j1 i1 h)
  have hmap : ((atomsOf (canT t)).map (fun k => ((canT t).getD k nd0).i.toNat)).Nodup := by
    rw [List.nodup_iff_pairwise_ne, List.pairwise_map]
    exact List.Pairwise.imp_of_mem (fun {a b} ha hb hne e => hne (hinj a ha b hb e)) (List.nodup_iff_pairwise_ne.1 hnd)
  have hle := nodup_le 6 _ hmap (fun x hx => by
    obtain ⟨k, hk, rfl⟩ := List.mem_map.1 hx
    obtain ⟨k1, k2⟩ := h3 k hk
    exact (hp _ (hget k k1)).2.2 k2)
  simpa using hle
theorem tabL_full (p : Nat → Bool) : tabL p 64 = w64 ↔ ∀ v, v < 64 → p v = true := by
  constructor
  · intro h v hv
    have := tabL_bit p 64 v
    rw [h, w64_bit hv, decide_eq_true hv, Bool.true_and] at this
    exact this.symm
  · intro h
    refine bits_ext (tabL_lt p 64) w64_lt (fun v hv => ?_)
    rw [tabL_bit, w64_bit hv, decide_eq_true hv, h v hv]; rfl
theorem tabL_not (p : Nat → Bool) : tabL (fun v => !p v) 64 = w64 ^^^ tabL p 64 := by
  refine bits_ext (tabL_lt _ 64) (xor_lt w64_lt (tabL_lt p 64)) (fun v hv => ?_)
  rw [not_bit hv, tabL_bit, tabL_bit, decide_eq_true hv, Bool.true_and, Bool.true_and]
theorem taut_iff9 {f : List Nd} (hz : fErr f = 0) (h10 : (atomsOf (compF f)).length ≤ 10) : tauE f = 0 ∧ (tauV f = true ↔ ∀ facts, facts < 2 ^ (atomsOf (compF f)).length → (bL (compF f) (gA (atomsOf (compF f)) facts) (compF f).length).getD ((compF f).length - 1) false = true) := by
  have e : tauE f = 0 := by unfold tauE; rw [if_neg (by omega), if_neg (by omega)]
  refine ⟨e, ?_⟩
  unfold tauV
  rw [decide_eq_true e, Bool.true_and, ← taut_iff]
  unfold tautB
  rw [List.all_eq_true]
  constructor
  · intro h u hu
    have := h u (List.mem_range.2 hu)
    unfold tautW at this
    exact of_decide_eq_true this
  · intro h u hu
    unfold tautW
    exact decide_eq_true (h u (List.mem_range.1 hu))
theorem neg_not_len {t : Tr} (h : AllOk t) : (canT (notT t)).length ≤ (canT t).length + 1 := by
  have g := Gr.not (o := canT t) ⟨canT_nodup t, canT_ops h.1⟩ (finT_rep t []) h.1
  have := g.bd.len g.ok g.rep
  have := g.len
  omega
/-- what BooleanFull asks -/
theorem full9 {f : List Nd} (hl : f.length ≤ 40) (h : tblE f 6 = 0) :
    tauE f = 0 ∧ tauV f = decide (tblV f 6 = w64) ∧ tblE (buildF ⟨4, 0, 0, 0, 0, 0⟩ [f]) 6 = 0 ∧ tblV (buildF ⟨4, 0, 0, 0, 0, 0⟩ [f]) 6 = w64 ^^^ tblV f 6 ∧ tblV f 6 < 18446744073709551616 ∧ buildF ⟨4, 0, 0, 0, 0, 0⟩ [f] = shortT (notT (tOf f)) := by
  obtain ⟨hz, hp, hv⟩ := tb_of (n := 6) (by decide) h
  have ha := tOf_all hz
  have hc : compF f = canT (tOf f) := compF_tree hz
  have hfld : ∀ n ∈ canT (tOf f), fldOk n := fun n hn => compF_fld f n (by rw [hc]; exact hn)
  have hcl : (canT (tOf f)).length ≤ 40 := by rw [← hc]; exact Nat.le_trans (compF_le f) hl
  rw [hc] at hp hv
  have h6 := atoms_few6 ha hp hfld
  obtain ⟨t1, t2⟩ := taut_iff9 hz (by rw [hc]; omega)
  rw [hc] at t2
  have hfull := full_iff ha (fun n hn => (hp n hn).2.1) (fun n hn => (hp n hn).2.2) hfld ((canT (tOf f)).length - 1)
  have hv : tblV f 6 = tabL (lastB (canT (tOf f))) 64 := hv
  have hN : buildF ⟨4, 0, 0, 0, 0, 0⟩ [f] = shortT (.un ⟨4, 0, 0, 0, 0, 0⟩ (treeOf f)) := build_un (by decide) ⟨.inr (.inr (.inr rfl)), .inr rfl, .inr rfl⟩ (by decide) rfl (by decide) (by decide) hz
  have hN : buildF ⟨4, 0, 0, 0, 0, 0⟩ [f] = shortT (notT (tOf f)) := hN
  have han : AllOk (notT (tOf f)) := all_not ha
  have hnl := neg_not_len ha
  have hs : shortT (notT (tOf f)) = canT (notT (tOf f)) := if_neg (by omega)
  rw [hN]
  have hs2 := hs
  rw [hs]
  obtain ⟨c1, c2, c3⟩ := can_ok9 han (by omega)
  have hpt : trAll (prN 6) (tOf f) := by
    have hp0 := pr_tree (canT_ops ha.1) hp (i := (canT (tOf f)).length - 1) (by have := List.length_pos_iff.2 (canT_ne (tOf f)); omega)
    rw [canT_tree ha.1] at hp0
    exact hp0
  obtain ⟨e1, _, _, e2⟩ := tb_mk (f := canT (notT (tOf f))) (n := 6) (by decide) c1 (by rw [c3]; exact can_pr han.1 (gp_not (prN_gen 6) hpt))
  rw [c3] at e2
  have e2 : tblV (canT (notT (tOf f))) 6 = tabL (lastB (canT (notT (tOf f)))) 64 := e2
  refine ⟨t1, ?_, e1, ?_, by rw [hv]; exact tabL_lt _ 64, rfl⟩
  · rw [Bool.eq_iff_iff, t2, hfull, decide_eq_true_eq, hv, tabL_full]
    exact Iff.rfl
  · rw [e2, hv, ← tabL_not]
    congr 1
    funext v
    rw [lastB_tree han.1, lastB_tree ha.1]
    rfl
end Go.Proofs.YtkkkomkljpolbaaDoor
