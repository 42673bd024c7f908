/- Layer 5: cmp of integers, of nodes, of lists, by the program. -/
import Derived.Test.YtcbmncafmofcpaaKy
namespace Go.Proofs.Ws
open Go
def cmpI (a b : Int) : Int := if a < b then -1 else if b < a then 1 else 0
def firstNZ : List Int → Int
  | [] => 0
  | x :: l => if x ≠ 0 then x else firstNZ l
def cmpN (a b : Nd) : Int := firstNZ [cmpI a.op b.op, cmpI a.i b.i, cmpI a.e b.e, cmpI a.g b.g, cmpI a.x b.x, cmpI a.y b.y]
def cmpNs : List Nd → List Nd → Int
  | x :: a, y :: b => if cmpN x y ≠ 0 then cmpN x y else cmpNs a b
  | _, _ => 0
def cmpF (f g : List Nd) : Int := if cmpI (compF f).length (compF g).length ≠ 0 then cmpI (compF f).length (compF g).length else cmpNs (compF f) (compF g)
theorem firstNZ_at (l : List Int) (k : Nat) (h : k < l.length) : firstNZ (l.drop k) = if l.getD k 0 ≠ 0 then l.getD k 0 else firstNZ (l.drop (k + 1)) := by
  rw [List.drop_eq_getElem_cons h, show l.getD k 0 = l[k] from by simp [h]]
  rfl
theorem cmpNs_at (a b : List Nd) (k : Nat) (h : k < a.length) (h2 : k < b.length) : cmpNs (a.drop k) (b.drop k) = if cmpN (a.getD k nd0) (b.getD k nd0) ≠ 0 then cmpN (a.getD k nd0) (b.getD k nd0) else cmpNs (a.drop (k + 1)) (b.drop (k + 1)) := by
  rw [List.drop_eq_getElem_cons h, List.drop_eq_getElem_cons h2, show a.getD k nd0 = a[k] from by simp [h], show b.getD k nd0 = b[k] from by simp [h2]]
  rfl
theorem cmpNs_end (a b : List Nd) (k : Nat) (h : a.length ≤ k) : cmpNs (a.drop k) (b.drop k) = 0 := by
  rw [List.drop_of_length_le h]; rfl
end Go.Proofs.Ws
namespace Go.Proofs.Ytcbmncafmofcpaa
open Go.RowKit Go.Proofs.Ws Go.Maps
theorem finW_out_le {f : List Nd} (hf : opsL f) (i : Nat) (hi : i < f.length) : (canT (treeAt f i)).length ≤ f.length := by
  obtain ⟨h1, h2, _⟩ := finW_cnt hf (i + 1) i ⟨[], List.replicate f.length none⟩ (by omega) hi (by simp) (cnt0 f.length)
  rw [← walk_tree hf (Nat.lt_succ_self i) hi]
  exact h1.le h2
theorem compF_le (f : List Nd) : (compF f).length ≤ f.length := by
  unfold compF
  split
  · rename_i h
    have hne : f.length ≠ 0 := by simpa using (fErr_ok h).1
    rw [canonF_tree (fErr_ops h) (fErr_ok h).1]
    exact finW_out_le (fErr_ops h) _ (by omega)
  · exact Nat.zero_le _
def is (l : List Int) : List Value := l.map (Value.int .i64)
theorem is_length (l : List Int) : (is l).length = l.length := by simp [is]
theorem Reads.is_len {w : World} {B n : Nat} {A : Option Addr} {l : List Int} (h : Reads w B 1 A n (is l)) : l.length = n := by have := h.1; rw [is_length] at this; omega
theorem Reads.is_at {w : World} {B n : Nat} {A : Option Addr} {l : List Int} (h : Reads w B 1 A n (is l)) {k : Nat} (hk : k < n) : ∃ ad, A = some ad ∧ ad.block < B ∧ w.cell? (ad.add k) = some (.int .i64 (l.getD k 0)) := by
  have hl := h.is_len
  obtain ⟨ad, hA, hb, hc⟩ := h.2 (by omega)
  refine ⟨ad, hA, hb, hc k _ ?_⟩
  have : k < l.length := by omega
  simp [is, this]
theorem isNaN_any (a : Int) (w : World) : Calls Try.prog 95 #[.int .i64 a] w fun e w' => e = .returned (.bool false) ∧ w = w' := by
  have h : (a != a) = false := by simp
  go_enter Try.func95, Try.ntmps95
  go_wp2
  go_ret
  exact ⟨by simp, rfl⟩
theorem cmpInt_any (a b : Int) (w : World) : Calls Try.prog 66 #[.int .i64 a, .int .i64 b] w fun e w' => e = .returned (.int .i64 (cmpI a b)) ∧ w = w' := by
  have H1 := Lib.hid (fun W => isNaN_any a W)
  have H2 := Lib.hid (fun W => isNaN_any b W)
  rcases Int.lt_trichotomy a b with h | h | h
  · have e : cmpI a b = -1 := by unfold cmpI; rw [if_pos h]
    rw [e]
    have d1 : decide (a < b) = true := decide_eq_true h
    clear h e
    go_enter Try.func66, Try.ntmps66
    go_wp2_with fail
    refine (H1.out _).mono ?_
    rintro e w1 ⟨rfl, rfl⟩
    go_wp2_with fail
    refine (H2.out _).mono ?_
    rintro e w1 ⟨rfl, rfl⟩
    go_wp2
    go_ret
    exact ⟨rfl, rfl⟩
  · subst h
    have e : cmpI a a = 0 := by unfold cmpI; rw [if_neg (by omega), if_neg (by omega)]
    rw [e]
    have d1 : decide (a < a) = false := decide_eq_false (by omega)
    clear e
    go_enter Try.func66, Try.ntmps66
    go_wp2_with fail
    refine (H1.out _).mono ?_
    rintro e w1 ⟨rfl, rfl⟩
    go_wp2_with fail
    refine (H2.out _).mono ?_
    rintro e w1 ⟨rfl, rfl⟩
    go_wp2
    go_ret
    exact ⟨rfl, rfl⟩
  · have e : cmpI a b = 1 := by unfold cmpI; rw [if_neg (by omega), if_pos h]
    rw [e]
    have d1 : decide (a < b) = false := decide_eq_false (by omega)
    have d2 : decide (b < a) = true := decide_eq_true h
    clear h e
    go_enter Try.func66, Try.ntmps66
    go_wp2_with fail
    refine (H1.out _).mono ?_
    rintro e w1 ⟨rfl, rfl⟩
    go_wp2_with fail
    refine (H2.out _).mono ?_
    rintro e w1 ⟨rfl, rfl⟩
    go_wp2
    go_ret
    exact ⟨rfl, rfl⟩
theorem or_any (l : List Int) (A : Option Addr) (n c : Nat) (w : World) (hR : Reads w w.heap.size 1 A n (is l)) (hm : n ≤ maxLen) :
    Calls Try.prog 96 #[.slice A n c] w fun e w' => e = .returned (.int .i64 (firstNZ l)) ∧ w = w' := by
  unfold maxLen at hm
  have HL := Lib.hid hR.is_len
  have HR := Lib.hid hR
  clear hR
  go_enter Try.func96, Try.ntmps96
  go_wp2
  go_loopw [5, 8] (fun u i wr => ∃ k : Nat, k ≤ n ∧ i = .int .i64 k ∧ Hid (firstNZ l = firstNZ (l.drop k)) ∧ wr = w) (fun _ i _ => n - (intOf i).toNat)
  case atStart => exact ⟨0, Nat.zero_le _, rfl, Lib.hid rfl, rfl⟩
  case round =>
    obtain ⟨k, hk, rfl, HI, rfl⟩ := hrel
    by_cases hlt : k < n
    · obtain ⟨ad, rfl, _, hc⟩ := HR.out.is_at hlt
      have HA := Lib.hid (firstNZ_at l k (by have := HL.out; omega))
      generalize l.getD k 0 = z at *
      by_cases hz : z = 0
      · subst hz
        have HI2 := Lib.hid (HI.out.trans (HA.out.trans (if_neg (by simp))))
        clear HI HA
        go_wp2
        go_roundw
        case rel => exact ⟨k + 1, by omega, by go_num, HI2, by first | rfl | trivial⟩
        case measure => simp [intOf]; omega
      · have HI2 := Lib.hid (HI.out.trans (HA.out.trans (if_pos hz)))
        have hz1 : (z != 0) = true := by simpa using hz
        clear HI HA hz
        go_wp2
        go_ret
        exact ⟨ret_i64 HI2.out.symm, rfl⟩
    · have HI2 : Hid (firstNZ l = 0) := Lib.hid (by rw [HI.out, List.drop_of_length_le (by have := HL.out; omega)]; rfl)
      clear HI
      go_wp2
      go_ret
      exact ⟨ret_i64 HI2.out.symm, rfl⟩
end Go.Proofs.Ytcbmncafmofcpaa
