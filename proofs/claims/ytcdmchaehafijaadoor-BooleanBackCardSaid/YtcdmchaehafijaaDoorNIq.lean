/- Layer 6: texts joined: Iq Ir. -/
import Derived.Test.YtcdmchaehafijaaDoorNEb
import Derived.Test.YtcdmchaehafijaaDoorNId
import Derived.Test.YtcdmchaehafijaaDoorNJl
/- Layer 9: the reference's value of a node. -/
namespace Go.Proofs.YtcdmchaehafijaaDoor
open Go.RowKit Go.Proofs.Ws Go.Maps
set_option maxRecDepth 100000
end Go.Proofs.YtcdmchaehafijaaDoor
/- Layer 9: the reference's truth tables. -/
namespace Go.Proofs.YtcdmchaehafijaaDoor
open Go.RowKit Go.Proofs.Ws Go.Maps
set_option maxRecDepth 100000
theorem mask_zero (g : Nd → Nat) (l : List Nd) (h : ∀ n ∈ l, g n = 0) : maskL g l = 0 := by
  have key : ∀ (l : List Nd), (∀ n ∈ l, g n = 0) → l.foldl (fun m n => m ||| g n) 0 = 0 := by
    intro l
    induction l with
    | nil => intro _; rfl
    | cons n l ih =>
      intro h
      show l.foldl _ (0 ||| g n) = 0
      rw [h n List.mem_cons_self]
      exact ih (fun m hm => h m (List.mem_cons_of_mem _ hm))
  exact key l h
theorem fragN_small {op : Int} (h8 : op ≤ 8) : fragN op = 0 := by
  unfold fragN
  repeat' split
  all_goals omega
theorem fragN_big {op : Int} (h8 : 8 < op) : fragN op ≠ 0 := by
  unfold fragN
  repeat' split
  all_goals omega
theorem prop_mask (q : List Nd) : maskL fragD q = 0 ↔ ∀ x ∈ q, x.op ≤ 8 := by
  constructor
  · intro h x hx
    apply Classical.byContradiction
    intro h8
    obtain ⟨i, hi⟩ := Nat.exists_testBit_of_ne_zero (show fragD x ≠ 0 from fragN_big (by omega))
    have := maskL_hit fragD q x hx i hi
    rw [h, Nat.zero_testBit] at this
    cases this
  · intro h
    exact mask_zero _ _ (fun x hx => fragN_small (h x hx))
theorem below_all : ∀ m : Fin 256, ∀ n : Fin 7, (decide (m.val = 0) || decide (Lib.bitLen m.val ≤ n.val)) = decide (m.val / 2 ^ n.val = 0) := by decide +kernel
theorem fits_ref {f : List Nd} (hz : fErr f = 0) (hp : ∀ x ∈ compF f, x.op ≤ 8) {n : Nat} (hn : n ≤ 6) : fitsF f 0 (n : Int) = decide (maskL factD (compF f) / 2 ^ n = 0) := by
  have ha : maskL agentD (compF f) = 0 := mask_zero _ _ (fun x hx => by
    have h8 := hp x hx
    have hg := (fld_i (compF_fld f x hx)).2.2.2
    unfold agentD
    have e1 : hasAgent x.op = false := by
      unfold hasAgent
      rw [decide_eq_false (by omega), decide_eq_false (by omega), decide_eq_false (by omega), decide_eq_false (by omega)]; rfl
    have e2 : hasGroup x.op = false := by
      unfold hasGroup
      rw [decide_eq_false (by omega)]; rfl
    rw [e1, if_neg (by decide), hg e2]
    rfl)
  have hm := factM_256 f
  have hb := below_all ⟨maskL factD (compF f), hm⟩ ⟨n, by omega⟩
  dsimp only at hb
  unfold fitsF
  rw [ha, decide_eq_true hz]
  show (true && (belowM 0 0 && belowM (maskL factD (compF f)) (n : Int))) = _
  rw [show belowM 0 0 = true from rfl, Bool.true_and, Bool.true_and, ← hb]
  unfold belowM
  congr 1
  exact decide_eq_decide.2 (by omega)
/-- the truth of the last node where the facts are as v says -/
def lastB (q : List Nd) (v : Nat) : Bool := (bL q (factB q v) q.length).getD (q.length - 1) false
theorem tblE_ok {f : List Nd} {n : Nat} (hz : fErr f = 0) (hp : ∀ x ∈ compF f, x.op ≤ 8) (hn : n ≤ 6) (h : maskL factD (compF f) / 2 ^ n = 0) : tblE f n = 0 ∧ tblV f n = tabL (lastB (compF f)) (2 ^ n) := by
  have hft : fitsF f 0 (n : Int) = true := by rw [fits_ref hz hp hn]; exact decide_eq_true h
  have e : tblE f n = 0 := by
    unfold tblE
    rw [if_neg (by omega), if_neg (fun k => k ((prop_mask _).2 hp)), if_pos ⟨⟨by omega, by omega⟩, hft⟩]
  refine ⟨e, ?_⟩
  unfold tblV
  rw [if_pos e, Int.toNat_natCast]
  refine table_eq (fun x hx h3 => ?_) hn _
  have := fits_facts (f := f) (n := (n : Int)) ⟨by omega, by omega⟩ hft x hx h3
  omega
end Go.Proofs.YtcdmchaehafijaaDoor
