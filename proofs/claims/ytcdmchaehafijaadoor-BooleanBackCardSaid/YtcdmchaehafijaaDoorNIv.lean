/- Layer 9: tables, tautologies and trees: what BooleanFull, BooleanModal and BooleanBack need. -/
import Derived.Test.YtcdmchaehafijaaDoorNId
import Derived.Test.YtcdmchaehafijaaDoorNIq
import Derived.Test.YtcdmchaehafijaaDoorNJl
import Derived.Test.YtcdmchaehafijaaDoorNQq
namespace Go.Proofs.YtcdmchaehafijaaDoor
open Go.RowKit Go.Proofs.Ws Go.Maps
set_option maxRecDepth 100000
theorem can_ok9 {t : Tr} (h : AllOk t) (hl : (canT t).length ≤ 200) : fErr (canT t) = 0 ∧ tOf (canT t) = t ∧ compF (canT t) = canT t := by
  have e := resL_err h
  rw [resL_short hl, if_neg (by omega)] at e
  have e2 : tOf (canT t) = t := canT_tree h.1
  refine ⟨e, e2, ?_⟩
  have := compF_tree e
  rw [show treeAt (canT t) ((canT t).length - 1) = t from e2] at this
  exact this
theorem fb_gF {q : List Nd} (hq : opsL q) (v : Nat) {i : Nat} (hi : i < q.length) : factB q v i = gF v (treeAt q i) := by
  rw [treeAt_eq hq hi]
  unfold factB
  by_cases h3 : (q.getD i nd0).op = 3
  · rw [if_neg (by rw [h3]; decide), if_neg (by rw [h3]; decide)]
    rfl
  · rw [decide_eq_false h3, Bool.false_and]
    split
    · rfl
    · split
      · rfl
      · show false = (decide ((q.getD i nd0).op = 3) && _)
        rw [decide_eq_false h3, Bool.false_and]
theorem lastB_tree {t : Tr} (ht : trOk t) (v : Nat) : lastB (canT t) v = bT (gF v) t := by
  have hq := canT_ops ht
  have hp := List.length_pos_iff.2 (canT_ne t)
  unfold lastB
  rw [bL_take (h := fun k => gF v (treeAt (canT t) k)) _ (fun j hj => fb_gF hq v hj), bL_tree hq (gF v) _ (Nat.le_refl _) _ (by omega), canT_tree ht]
theorem can_pr {m : Nat} {t : Tr} (ht : trOk t) (hp : trAll (prN m) t) : ∀ n ∈ canT t, prN m n := fun n hn => finT_all t (o := []) ht hp (fun n hn => absurd hn (by simp)) n hn
/-- a formula with a truth table of n facts -/
structure Tb (f : List Nd) (n : Nat) : Prop where
  ok : fErr f = 0
  pr : ∀ x ∈ compF f, prN n x
  val : tblV f n = tabL (lastB (compF f)) (2 ^ n)
theorem small_bit : ∀ m : Fin 256, ∀ n : Fin 7, (∀ i : Fin 8, m.val.testBit i.val = true → i.val < n.val) → m.val / 2 ^ n.val = 0 := by decide +kernel
theorem mask_bit (g : Nd → Nat) (l : List Nd) (i : Nat) (h : (maskL g l).testBit i = true) : ∃ n ∈ l, (g n).testBit i = true := by
  have key : ∀ (l : List Nd) (a : Nat), (l.foldl (fun m n => m ||| g n) a).testBit i = true → a.testBit i = true ∨ ∃ n ∈ l, (g n).testBit i = true := by
    intro l
    induction l with
    | nil => intro a h; exact .inl h
    | cons n l ih =>
      intro a h
      rcases ih (a ||| g n) h with h | ⟨m, hm, h⟩
      · rw [Nat.testBit_or, Bool.or_eq_true] at h
        rcases h with h | h
        · exact .inl h
        · exact .inr ⟨n, List.mem_cons_self, h⟩
      · exact .inr ⟨m, List.mem_cons_of_mem _ hm, h⟩
  rcases key l 0 h with h | h
  · rw [Nat.zero_testBit] at h; cases h
  · exact h
/-- a formula with propositional operators and facts below n has a table -/
theorem tb_mk {f : List Nd} {n : Nat} (hn : n ≤ 6) (hz : fErr f = 0) (hp : ∀ x ∈ compF f, prN n x) : tblE f n = 0 ∧ Tb f n := by
  have hfit : maskL factD (compF f) / 2 ^ n = 0 := by
    refine small_bit ⟨_, factM_256 f⟩ ⟨n, by omega⟩ (fun i hi => ?_)
    obtain ⟨x, hx, hb⟩ := mask_bit factD (compF f) i.val hi
    unfold factD at hb
    split at hb
    · rename_i h3
      rw [Nat.testBit_two_pow] at hb
      have := (hp x hx).2.2 h3
      have := of_decide_eq_true hb
      show i.val < n
      omega
    · rw [Nat.zero_testBit] at hb; cases hb
  have := tblE_ok hz (fun x hx => (hp x hx).2.1) hn hfit
  exact ⟨this.1, hz, hp, this.2⟩
end Go.Proofs.YtcdmchaehafijaaDoor
