/- Layer 10: what unit propagation adds is true wherever the clauses and the fixed literals are (plain mathematics). -/
import Derived.Test.YtopkmcoblndokaaNRr
namespace Go.Proofs.Ytopkmcoblndokaa
open Go.RowKit Go.Proofs.Ws
def tF (t : List Int) : Nat → Int := fun j => t.getD j 0
/-- only the first variables have truth values -/
def TBd (n : Nat) (t : List Int) : Prop := ∀ j, t.getD j 0 ≠ 0 → j < n
theorem tv_of {n : Nat} {t : List Int} (h : TOk t) (hb : TBd n t) : Tv n (tF t) := ⟨fun j hj => ⟨h.own j hj, hb j hj⟩⟩
theorem tF_set {t : List Int} (h : TOk t) {x : Int} (hx : varOf x < 12) : tF (tset t x) = setT (tF t) x := by
  funext j
  unfold tF setT
  rw [set_get (by rw [h.len]; exact hx)]
  by_cases e : varOf x = j
  · rw [if_pos e, if_pos e.symm]
  · rw [if_neg e, if_neg (fun k => e k.symm)]
theorem TBd.set {n : Nat} {t : List Int} (h : TOk t) (hb : TBd n t) {x : Int} (hx : varOf x < n) (hn : n ≤ 12) : TBd n (tset t x) := fun j hj => by
  rw [set_get (by rw [h.len]; omega)] at hj
  by_cases e : varOf x = j
  · omega
  · rw [if_neg e] at hj; exact hb j hj
theorem unitGo_all {t : List Int} : ∀ (c : List Int) (o : Int), o ≠ 0 → unitGo t o c ≠ 0 → unitGo t o c = o ∧ ∀ y ∈ c, tget t y = -y
  | [], o, _, _ => ⟨rfl, fun y hy => absurd hy (by simp)⟩
  | x :: c, o, ho, h => by
    unfold unitGo at h ⊢
    by_cases e : tget t x = -x
    · rw [if_pos e] at h ⊢
      obtain ⟨h1, h2⟩ := unitGo_all c o ho h
      refine ⟨h1, fun y hy => ?_⟩
      rcases List.mem_cons.1 hy with rfl | hy
      · exact e
      · exact h2 y hy
    · rw [if_neg e] at h
      by_cases e2 : tget t x = x
      · rw [if_pos e2] at h; exact absurd rfl h
      · rw [if_neg e2, if_pos ho] at h; exact absurd rfl h
theorem unitGo_one {t : List Int} : ∀ (c : List Int), (∀ y ∈ c, y ≠ 0) → unitGo t 0 c ≠ 0 → ∀ y ∈ c, y ≠ unitGo t 0 c → tget t y = -y
  | [], _, _ => fun y hy => absurd hy (by simp)
  | x :: c, h0, h => by
    unfold unitGo at h ⊢
    by_cases e : tget t x = -x
    · rw [if_pos e] at h ⊢
      intro y hy hne
      rcases List.mem_cons.1 hy with rfl | hy
      · exact e
      · exact unitGo_one c (fun y hy => h0 y (List.mem_cons_of_mem _ hy)) h y hy hne
    · rw [if_neg e] at h ⊢
      by_cases e2 : tget t x = x
      · rw [if_pos e2] at h; exact absurd rfl h
      · rw [if_neg e2, if_neg (by simp)] at h ⊢
        obtain ⟨h1, h2⟩ := unitGo_all c x (h0 x (List.mem_cons_self ..)) h
        rw [h1]
        intro y hy hne
        rcases List.mem_cons.1 hy with rfl | hy
        · exact absurd rfl hne
        · exact h2 y hy
theorem unit_is {t c : List Int} (ht : TOk t) (h0 : ∀ y ∈ c, y ≠ 0) (h : unitV t c ≠ 0) : isUnit (tF t) c (unitV t c) := by
  obtain ⟨h1, h2, h3⟩ := unitV_in h
  exact ⟨h1, ht.open_ h h2 h3, unitGo_one c h0 h⟩
theorem refB_is {t c : List Int} (h : refB t c = true) : refutes (tF t) c := fun x hx => by
  unfold refB at h
  have := List.all_eq_true.1 h x hx
  exact eq_of_beq this
theorem prop_sound {n : Nat} {l : List (List Int)} (hl : ∀ c ∈ l, ClOk n c) (hn : n ≤ 12) {t u : List Int} {i : Int} (h : PropTo l t u i) : TOk t → TBd n t →
    TBd n u ∧ -1 ≤ i ∧ i < (l.length : Int) ∧ ∀ V, satB V l = true → agrees V n (tF t) → i = -1 ∧ agrees V n (tF u) := by
  induction h with
  | conf h1 =>
    intro ht hb
    obtain ⟨hi, h2, _⟩ := List.findIdx?_eq_some_iff_getElem.1 h1
    refine ⟨hb, by omega, by omega, fun V hV ha => ?_⟩
    exact absurd (satB_iff.1 hV _ (List.getElem_mem hi)) (refutes_sound (tv_of ht hb) ha (fun x hx => ((hl _ (List.getElem_mem hi)).lits x hx).1) (refB_is h2))
  | stop h1 h2 => exact fun ht hb => ⟨hb, by omega, by omega, fun V _ ha => ⟨rfl, ha⟩⟩
  | @step t u i c h1 h2 _ ih =>
    intro ht hb
    obtain ⟨hi, h3, _⟩ := List.findIdx?_eq_some_iff_getElem.1 h2
    have he : l.getD i [] = l[i] := by rw [List.getD_eq_getElem?_getD, List.getElem?_eq_getElem hi]; rfl
    have hm := hl _ (List.getElem_mem hi)
    rw [he] at ih
    have hx : unitV t l[i] ≠ 0 := by simpa using h3
    have hu := unit_is ht (fun x hx => (hm.lits x hx).1) hx
    have hlit := hm.lits _ hu.1
    have hvx : varOf (unitV t l[i]) < n := by unfold varOf; omega
    obtain ⟨g1, g2, g3, g4⟩ := ih (ht.set _) (hb.set ht hvx hn)
    refine ⟨g1, g2, g3, fun V hV ha => g4 V hV ?_⟩
    rw [tF_set ht (by omega)]
    exact unit_sound (tv_of ht hb) ha (fun x hx => (hm.lits x hx).1) hu (satB_iff.1 hV _ (List.getElem_mem hi))
theorem setL_good {n : Nat} (hn : n ≤ 12) : ∀ (c : List Int) (t : List Int), (∀ x ∈ c, x ≠ 0 ∧ x.natAbs ≤ n) → TOk t → TBd n t → TBd n (tsetL t c) ∧ ∀ V, agrees V n (tF t) → (∀ x ∈ c, litT V x = true) → agrees V n (tF (tsetL t c))
  | [], t, _, _, hb => ⟨hb, fun V ha _ => ha⟩
  | x :: c, t, hc, ht, hb => by
    have hx := hc x (List.mem_cons_self ..)
    have hvx : varOf x < n := by unfold varOf; omega
    obtain ⟨h1, h2⟩ := setL_good hn c (tset t x) (fun y hy => hc y (List.mem_cons_of_mem _ hy)) (ht.set _) (hb.set ht hvx hn)
    refine ⟨h1, fun V ha hl => h2 V ?_ (fun y hy => hl y (List.mem_cons_of_mem _ hy))⟩
    rw [tF_set ht (by omega)]
    intro j hj h0
    unfold setT at h0 ⊢
    by_cases e : j = varOf x
    · rw [if_pos e]; exact hl x (List.mem_cons_self ..)
    · rw [if_neg e] at h0 ⊢; exact ha j hj h0
theorem t00_get (j : Nat) : t00.getD j 0 = 0 := by
  unfold t00
  rw [List.getD_eq_getElem?_getD, List.getElem?_replicate]
  split <;> rfl
theorem litsT_mem {u : List Int} {x : Int} (h : x ∈ litsT u) : x ≠ 0 ∧ ∃ j, u.getD j 0 = x := by
  unfold litsT at h
  obtain ⟨h1, h2⟩ := List.mem_filter.1 h
  obtain ⟨j, hj, rfl⟩ := List.getElem_of_mem h1
  exact ⟨by simpa using h2, j, by rw [List.getD_eq_getElem?_getD, List.getElem?_eq_getElem hj]; rfl⟩
theorem litsT_len {n : Nat} {u : List Int} (hb : TBd n u) : (litsT u).length ≤ n := by
  unfold litsT
  rw [← List.take_append_drop n u, List.filter_append, List.length_append]
  have h1 := List.length_filter_le (fun x : Int => !(x == 0)) (u.take n)
  rw [List.length_take] at h1
  have h2 : (u.drop n).filter (fun x : Int => !(x == 0)) = [] := by
    rw [List.filter_eq_nil_iff]
    intro x hx h
    obtain ⟨j, hj, rfl⟩ := List.getElem_of_mem hx
    have hj2 : n + j < u.length := by rw [List.length_drop] at hj; omega
    have := hb (n + j) (by rw [List.getD_eq_getElem?_getD, List.getElem?_eq_getElem hj2]; rw [List.getElem_drop] at h; simpa using h)
    omega
  rw [h2, List.length_nil]
  omega
/-- all that the law asks of what Propagate returns -/
theorem units_ok {n : Nat} {l : List (List Int)} {fx u : List Int} {i : Int} (hl : ∀ c ∈ l, ClOk n c) (hf : ClOk n fx) (hn : n ≤ 12) (h : PropTo l (tsetL t00 fx) u i) :
    -1 ≤ i ∧ i < (l.length : Int) ∧ (litsT u).length ≤ n ∧ (∀ x ∈ litsT u, x ≠ 0 ∧ -12 ≤ x ∧ x ≤ 12) ∧ ∀ V, satB V l = true → fx.all (litT V) = true → i = -1 ∧ (litsT u).all (litT V) = true := by
  have hb0 : TBd n t00 := fun j hj => absurd (t00_get j) hj
  obtain ⟨h1, h2⟩ := setL_good hn fx t00 hf.lits TOk.zero hb0
  have ht : TOk (tsetL t00 fx) := TOk.zero.setL
  obtain ⟨g1, g2, g3, g4⟩ := prop_sound hl hn h ht h1
  have hu := PropTo.tok h ht
  refine ⟨g2, g3, litsT_len g1, fun x hx => ?_, fun V hV hfx => ?_⟩
  · obtain ⟨h0, j, rfl⟩ := litsT_mem hx
    have e1 := hu.own j h0
    have e2 := g1 j h0
    unfold varOf at e1
    omega
  · obtain ⟨k1, k2⟩ := g4 V hV (h2 V (fun j _ h0 => absurd (t00_get j) h0) (fun x hx => List.all_eq_true.1 hfx x hx))
    refine ⟨k1, List.all_eq_true.2 fun x hx => ?_⟩
    obtain ⟨h0, j, rfl⟩ := litsT_mem hx
    exact k2 j (g1 j h0) h0
end Go.Proofs.Ytopkmcoblndokaa
