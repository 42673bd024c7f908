/- A set is read again from its text and from its members (no walk: about the functions that the walks compute). -/
import Derived.Test.YtnkjcieeckibbaaDoorWn
import Derived.Test.YtnkjcieeckibbaaDoorBm6
namespace Go.Proofs.YtnkjcieeckibbaaDoor
open Go.RowKit Go.Proofs.Ws
def dd (k : Nat) : List UInt8 := if k < 10 then [UInt8.ofNat (48 + k)] else [UInt8.ofNat (48 + k / 10), UInt8.ofNat (48 + k % 10)]
theorem dd_eq (k : Nat) (h : k < 100) : Lib.decDigits k = dd k := by
  unfold dd
  by_cases h1 : k < 10
  · rw [if_pos h1, Lib.decDigits, dif_pos h1]
  · rw [if_neg h1, Lib.decDigits, dif_neg h1, Lib.decDigits, dif_pos (by omega)]
    rfl
theorem numV_dd (k : Nat) (h : k < 64) : numV (dd k) = some k := by
  have H : ∀ j : Fin 64, numV (dd j.1) = some j.1 := by decide +kernel
  exact H ⟨k, h⟩
theorem dd_no32 (k : Nat) (h : k < 64) : ∀ c ∈ dd k, c ≠ 32 := by
  have H : ∀ j : Fin 64, ∀ c ∈ dd j.1, c ≠ 32 := by decide +kernel
  exact H ⟨k, h⟩
theorem dd_ne (k : Nat) : dd k ≠ [] := by unfold dd; split <;> simp
theorem sp_fmt : ∀ (l : List Nat) (k : Nat), k < 64 → (∀ j ∈ l, j < 64) → sp (dd k ++ fmtL l false) = dd k :: l.map dd
  | [], k, hk, _ => by
    rw [fmtL, List.append_nil, sp_none _ (dd_no32 k hk)]
    rfl
  | j :: l, k, hk, hl => by
    have hj : j < 64 := hl j List.mem_cons_self
    have e : dd k ++ fmtL (j :: l) false = dd k ++ 32 :: (dd j ++ fmtL l false) := by
      rw [fmtL, dd_eq j (by omega)]; simp
    rw [e, sp_cut _ _ (dd_no32 k hk), sp_fmt l j hj (fun x hx => hl x (List.mem_cons_of_mem _ hx))]
    rfl
theorem numsL_dd : ∀ (l : List Nat), (∀ j ∈ l, j < 64) → numsL (l.map dd) = some l
  | [], _ => rfl
  | k :: l, h => by
    rw [List.map_cons, numsL, numV_dd k (h k List.mem_cons_self), numsL_dd l (fun x hx => h x (List.mem_cons_of_mem _ hx))]
    rfl
theorem prefix_one (c : UInt8) (l : List UInt8) : Lib.hasPrefix (c :: l) [c] = true := by simp [Lib.hasPrefix, List.isPrefixOf]
theorem suffix_one (c : UInt8) (l : List UInt8) : Lib.hasSuffix (l ++ [c]) [c] = true := by simp [Lib.hasSuffix, List.isSuffixOf, List.isPrefixOf]
theorem numsV_text (b : List UInt8) : numsV ([123] ++ (b ++ [125])) = if b = [] then some [] else numsL (sp b) := by
  have h1 : Lib.hasPrefix ([123] ++ (b ++ [125])) [123] = true := prefix_one _ _
  have h2 : Lib.trimPrefix ([123] ++ (b ++ [125])) [123] = b ++ [125] := by rw [Lib.trimPrefix, if_pos h1]; rfl
  have h3 : Lib.trimSuffix (b ++ [125]) [125] = b := by
    rw [Lib.trimSuffix, if_pos (suffix_one _ _)]
    simp
  unfold numsV
  rw [h2, h3, if_pos ⟨h1, suffix_one _ _⟩]
theorem numsV_fmt (s : Nat) : numsV (fmtV s) = some (mem s) := by
  unfold fmtV
  rw [numsV_text]
  have hlt := mem_lt s
  cases hm : mem s with
  | nil => rfl
  | cons k l =>
    rw [hm] at hlt
    have hk : k < 64 := hlt k List.mem_cons_self
    have e : fmtL (k :: l) true = dd k ++ fmtL l false := by rw [fmtL, dd_eq k (by omega)]; rfl
    rw [e, if_neg (by simp [dd_ne]), sp_fmt l k hk (fun x hx => hlt x (List.mem_cons_of_mem _ hx))]
    exact numsL_dd (k :: l) hlt
/-- all worlds of a list at once -/
def orL : List Nat → Nat
  | [] => 0
  | w :: l => p2 w ||| orL l
theorem orL_sub : ∀ l : List Nat, orL l = subL l (2 ^ l.length - 1)
  | [] => rfl
  | w :: l => by
    have h2 := Nat.two_pow_pos l.length
    have e1 : (2 ^ (w :: l).length - 1) % 2 = 1 := by rw [List.length_cons, Nat.pow_succ]; omega
    have e2 : (2 ^ (w :: l).length - 1) / 2 = 2 ^ l.length - 1 := by rw [List.length_cons, Nat.pow_succ]; omega
    rw [subL, if_pos e1, e2, ← orL_sub l]
    rfl
theorem orL_mem (s : Nat) (hs : s < 18446744073709551616) : orL (mem s) = s := by rw [orL_sub, subL_all s hs]
theorem chkV_asc : ∀ (l : List Nat) (b : Nat) (c : Int) (a : Nat), Asc b l → (∀ j ∈ l, j < 64) → c < b → chkV l c a = (a ||| orL l, 0)
  | [], _, _, a, _, _, _ => by simp [chkV, orL]
  | w :: l, b, c, a, h, hl, hc => by
    have hw : w < 64 := hl w List.mem_cons_self
    have h1 := h.1
    rw [chkV, if_pos hw, if_neg (by omega), chkV_asc l (w + 1) w _ h.2 (fun x hx => hl x (List.mem_cons_of_mem _ hx)) (by omega), orL, Nat.or_assoc]
theorem parse_fmt (s : Nat) (hs : s < 18446744073709551616) : parseV (fmtV s) = (s, 0) := by
  unfold parseV
  rw [numsV_fmt]
  show chkV (mem s) (-1) 0 = (s, 0)
  rw [chkV_asc (mem s) 0 (-1) 0 (asc_mem s) (mem_lt s) (by omega), orL_mem s hs, Nat.zero_or]
theorem p2_bit (w x : Nat) : (p2 w).testBit x = decide (w = x) := by unfold p2; exact Nat.testBit_two_pow
theorem ofV_asc : ∀ (l : List Nat) (b : Nat) (a : Nat), Asc b l → (∀ j ∈ l, j < 64) → (∀ x, b ≤ x → a.testBit x = false) → ofV (l.map (fun k : Nat => (k : Int))) a = (a ||| orL l, 0)
  | [], _, a, _, _, _ => by simp [ofV, orL]
  | w :: l, b, a, h, hl, ha => by
    have hw : w < 64 := hl w List.mem_cons_self
    have h1 := h.1
    rw [List.map_cons, ofV, if_pos ⟨by omega, by omega⟩, Int.toNat_natCast, if_neg (by rw [ha w h1]; simp), ofV_asc l (w + 1) _ h.2 (fun x hx => hl x (List.mem_cons_of_mem _ hx)) (fun x hx => by
      rw [Nat.testBit_or, ha x (by omega), p2_bit, decide_eq_false (by omega)]; rfl), orL, Nat.or_assoc]
theorem of_mem (s : Nat) (hs : s < 18446744073709551616) : ofV ((mem s).map (fun k : Nat => (k : Int))) 0 = (s, 0) := by
  rw [ofV_asc (mem s) 0 0 (asc_mem s) (mem_lt s) (fun x _ => Nat.zero_testBit x), orL_mem s hs, Nat.zero_or]
theorem iv_ints (l : List Nat) : iv l = ints (l.map (fun k : Nat => (k : Int))) := by unfold iv ints; rw [List.map_map]; rfl
theorem memTo_64 (s : Nat) : memTo s 64 = mem s := rfl
theorem mem_at (s x : Nat) (hx : x < 64) (h : s.testBit x = true) : (mem s)[(memTo s x).length]? = some x ∧ (memTo s x).length < (mem s).length := by
  have e : mem s = memTo s x ++ x :: (List.range' (x + 1) (63 - x)).filter (fun w => s.testBit w) := by
    unfold mem memTo
    have e2 : List.range 64 = List.range x ++ x :: List.range' (x + 1) (63 - x) := by
      rw [List.range_eq_range', List.range_eq_range']
      have : 64 = x + (1 + (63 - x)) := by omega
      conv => lhs; rw [this]
      rw [← List.range'_append_1, ← List.range'_append_1]
      simp
    rw [e2, List.filter_append, List.filter_cons_of_pos h]
  rw [e]
  simp
theorem fmtL_len : ∀ (l : List Nat) (b : Bool), (∀ j ∈ l, j < 64) → (fmtL l b).length ≤ 3 * l.length
  | [], _, _ => by simp [fmtL]
  | k :: l, b, h => by
    have h1 := digits_small k (by have := h k List.mem_cons_self; omega)
    have h2 := fmtL_len l false (fun x hx => h x (List.mem_cons_of_mem _ hx))
    rw [fmtL]
    cases b <;> simp <;> omega
theorem fmt_len (s : Nat) : (fmtV s).length ≤ 1000000 := by
  have h1 := fmtL_len (mem s) true (mem_lt s)
  have h2 := mem_length_le s
  unfold fmtV
  simp
  omega
end Go.Proofs.YtnkjcieeckibbaaDoor
