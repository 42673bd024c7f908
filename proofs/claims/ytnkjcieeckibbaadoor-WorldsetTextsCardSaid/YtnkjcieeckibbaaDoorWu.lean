/- Reading numbers one by one is splitting at the spaces (no walk). -/
import Derived.Test.YtnkjcieeckibbaaDoorWr
import Derived.Test.YtnkjcieeckibbaaDoorWt
namespace Go.Proofs.YtnkjcieeckibbaaDoor
open Go.RowKit Go.Proofs.Ws
/-- what is left behind a number: nothing, or a space and more numbers -/
def restV : List UInt8 → Option (List Nat)
  | [] => some []
  | c :: r => if c = 32 then numsL (sp r) else none
theorem dg32 : dg 32 = false := by decide
theorem lead_append (a r : List UInt8) (c : UInt8) (h : a.all dg = true) (hc : dg c = false) : lead (a ++ c :: r) = a := by
  induction a with
  | nil => simp [lead, hc]
  | cons x a ih =>
    simp only [List.all_cons, Bool.and_eq_true] at h
    have := ih h.2
    unfold lead at this ⊢
    rw [List.cons_append, List.takeWhile_cons, if_pos h.1, this]
theorem lead_id (a : List UInt8) (h : a.all dg = true) : lead a = a := by
  induction a with
  | nil => rfl
  | cons x a ih =>
    simp only [List.all_cons, Bool.and_eq_true] at h
    have := ih h.2
    unfold lead at this ⊢
    rw [List.takeWhile_cons, if_pos h.1, this]
theorem numV_all (a : List UInt8) (h : a.all dg = false) : numV a = none := by
  unfold numV
  rw [if_neg (fun x => by rw [x.2.2.2] at h; cases h)]
/-- a list is all digits, or digits and then something else -/
theorem lead_split (a : List UInt8) : a.all dg = true ∨ ∃ c r, a = lead a ++ c :: r ∧ dg c = false := by
  induction a with
  | nil => exact .inl rfl
  | cons x a ih =>
    cases hx : dg x
    · exact .inr ⟨x, a, by simp [lead, hx], hx⟩
    · rcases ih with h | ⟨c, r, he, hc⟩
      · exact .inl (by rw [List.all_cons, hx, h]; rfl)
      · refine .inr ⟨c, r, ?_, hc⟩
        have : lead (x :: a) = x :: lead a := by simp [lead, hx]
        rw [this, List.cons_append, ← he]
theorem scan_step (R : List UInt8) : numsL (sp R) = match numV (lead R) with
    | none => none
    | some n => (restV (R.drop (lead R).length)).map (n :: ·) := by
  rcases lead_split R with hd | ⟨c, r, he, hc⟩
  · rw [lead_id R hd, sp_none R (fun x hx => by
      intro e
      have := List.all_eq_true.1 hd x hx
      rw [e, dg32] at this; cases this), numsL, List.drop_length]
    cases numV R <;> rfl
  · have hl := lead_all R
    generalize lead R = d at *
    have hdrop : R.drop d.length = c :: r := by rw [he]; simp
    rw [hdrop]
    have hno : ∀ x ∈ d, x ≠ 32 := fun x hx e => by
      have := List.all_eq_true.1 hl x hx
      rw [e, dg32] at this; cases this
    by_cases h32 : c = 32
    · subst h32
      have e : sp R = d :: sp r := by rw [he]; exact sp_cut _ _ hno
      rw [e, numsL]
      cases numV d <;> rfl
    · have hr : restV (c :: r) = none := by rw [restV, if_neg h32]
      rw [hr]
      have hR : numsL (sp R) = none := by
        rcases first_space R with hn | ⟨a, r', he', ha⟩
        · rw [sp_none R hn, numsL, numV_all R (by
            rw [he, List.all_append]
            simp [hc])]
        · rw [he', sp_cut a r' ha, numsL, numV_all a (by
            rw [List.all_eq_false]
            refine ⟨c, ?_, by simp [hc]⟩
            have hle : d.length < a.length := by
              apply Nat.lt_of_not_le
              intro hle
              have h1 : R[a.length]? = some 32 := by rw [he']; simp
              by_cases heq : a.length = d.length
              · rw [he, heq] at h1
                simp at h1
                exact h32 h1
              · have h2 : R[a.length]? = d[a.length]? := by
                  rw [he, List.getElem?_append_left (by omega)]
                rw [h2] at h1
                exact hno 32 (List.mem_of_getElem? h1) rfl
            have h3 : R[d.length]? = some c := by rw [he]; simp
            have h4 : R[d.length]? = a[d.length]? := by
              rw [he', List.getElem?_append_left (by omega)]
            rw [h3] at h4
            exact List.mem_of_getElem? h4.symm)]
      rw [hR]
      cases numV d <;> rfl
theorem lead_brace (R : List UInt8) : lead (R ++ [125]) = lead R := by
  rcases lead_split R with hd | ⟨c, r, he, hc⟩
  · rw [lead_append R [] 125 hd (by decide), lead_id R hd]
  · conv => lhs; rw [he]
    rw [List.append_assoc, List.cons_append, lead_append _ _ c (lead_all R) hc]
theorem numV_pos {p : List UInt8} {n : Nat} (h : numV p = some n) : 1 ≤ p.length := by
  unfold numV at h
  split at h
  · rename_i hx
    exact List.length_pos_iff.2 hx.1
  · cases h
/-- what is still to come: all the numbers at first, then the rest -/
def todo (L : List Nat) (R : List UInt8) : Option (List Nat) := if L = [] then (if R = [] then some [] else numsL (sp R)) else restV R
theorem todo_end (L : List Nat) : (todo L []).map (L ++ ·) = some L := by
  unfold todo
  split
  · rename_i h; rw [h]; rfl
  · simp [restV]
theorem todo_step (L : List Nat) (R : List UInt8) (n : Nat) (h : numV (lead R) = some n) : (numsL (sp R)).map (L ++ ·) = (todo (L ++ [n]) (R.drop (lead R).length)).map ((L ++ [n]) ++ ·) := by
  rw [scan_step, h]
  unfold todo
  rw [if_neg (by simp)]
  simp only [Option.map_map]
  congr 1
  funext x
  simp
theorem form_yes (p : List UInt8) (h2 : 2 ≤ p.length) (h0 : p[0]? = some 123) (h1 : p[p.length - 1]? = some 125) : ∃ b, p = [123] ++ (b ++ [125]) ∧ b.length = p.length - 2 := by
  cases p with
  | nil => simp at h2
  | cons x r =>
    simp at h0
    subst h0
    have hr : r ≠ [] := by intro e; subst e; simp at h2
    refine ⟨r.dropLast, ?_, by simp⟩
    have e := List.dropLast_concat_getLast hr
    have hl : r.getLast hr = 125 := by
      have : (123 :: r)[(123 :: r).length - 1]? = some (r.getLast hr) := by
        rw [List.getLast_eq_getElem]
        have hpos := List.length_pos_iff.2 hr
        rw [show (123 :: r).length - 1 = (r.length - 1) + 1 from by simp; omega, List.getElem?_cons_succ, List.getElem?_eq_getElem (by omega)]
      rw [h1] at this
      injection this with this
      exact this.symm
    rw [hl] at e
    rw [e]; rfl
theorem form_no (p : List UInt8) (h : ¬ (2 ≤ p.length ∧ p[0]? = some 123 ∧ p[p.length - 1]? = some 125)) : numsV p = none := by
  unfold numsV
  rw [if_neg]
  rintro ⟨h1, h2⟩
  apply h
  rw [Lib.trimPrefix, if_pos h1] at h2
  cases p with
  | nil => simp [Lib.hasPrefix, List.isPrefixOf] at h1
  | cons x r =>
    have hx : x = 123 := by
      simp [Lib.hasPrefix, List.isPrefixOf] at h1
      exact h1.symm
    subst hx
    simp only [List.length_cons, List.length_nil, List.drop_succ_cons, List.drop_zero] at h2
    have hs : [125] <:+ r := by unfold Lib.hasSuffix at h2; exact List.isSuffixOf_iff_suffix.1 h2
    obtain ⟨b, rfl⟩ := hs
    refine ⟨by simp, by simp, ?_⟩
    simp
end Go.Proofs.YtnkjcieeckibbaaDoor
