/- Layer 13: slices of words and of lists of words, a model in memory; small functions of both sides. -/
import Derived.Test.YtofclgapgjcflaaDoorAb
import Derived.Test.YtofclgapgjcflaaDoorPa
import Derived.Test.YtofclgapgjcflaaDoorDb
import Derived.Laws.BitsAllLaws
namespace Go.Proofs.YtofclgapgjcflaaDoor
open Go.RowKit Go.Proofs.Ws
set_option maxRecDepth 100000
/-- a slice of lists of words -/
structure UsR (W : World) (B : Nat) (A : Option Addr) (n : Nat) (ls : List (List Nat)) : Prop where
  len : ls.length = n
  ex : ∃ vs, Reads W B 1 A n vs ∧ ∀ j, j < n → ∃ Aj cj, vs[j]? = some (.slice Aj (ls.getD j []).length cj) ∧ Reads W B 1 Aj (ls.getD j []).length (us (ls.getD j [])) ∧ (ls.getD j []).length ≤ maxLen
theorem UsR.below {W W' : World} {B B2 : Nat} {A : Option Addr} {n : Nat} {ls : List (List Nat)} (h : UsR W B A n ls) (hb : Below B W W') (h2 : B ≤ B2) : UsR W' B2 A n ls := by
  obtain ⟨vs, h1, h3⟩ := h.ex
  refine ⟨h.len, vs, (h1.below hb).more h2, fun j hj => ?_⟩
  obtain ⟨Aj, cj, e1, e2, e3⟩ := h3 j hj
  exact ⟨Aj, cj, e1, (e2.below hb).more h2, e3⟩
theorem UsR.at_ {W : World} {B : Nat} {A : Option Addr} {n k : Nat} {ls : List (List Nat)} (h : UsR W B A n ls) (hk : k < n) :
    ∃ ad Aj cj, A = some ad ∧ ad.block < B ∧ W.cell? (ad.add k) = some (.slice Aj (ls.getD k []).length cj) ∧ Reads W B 1 Aj (ls.getD k []).length (us (ls.getD k [])) ∧ (ls.getD k []).length ≤ maxLen := by
  obtain ⟨vs, h1, h3⟩ := h.ex
  obtain ⟨Aj, cj, e1, e2, e3⟩ := h3 k hk
  obtain ⟨ad, rfl, hb, hc⟩ := h1.2 (by omega)
  exact ⟨ad, Aj, cj, rfl, hb, hc k _ e1, e2, e3⟩
/-- a model in memory -/
structure MoR (W : World) (B : Nat) (v : Value) (m : Mo) : Prop where
  ex : ∃ A1 c1 A2 c2, v = .agg #[.int .i64 m.n, .slice A1 m.val.length c1, .slice A2 m.rel.length c2] ∧ Reads W B 1 A1 m.val.length (us m.val) ∧ UsR W B A2 m.rel.length m.rel
  lim : m.val.length ≤ maxLen ∧ m.rel.length ≤ maxLen
  num : -9223372036854775808 ≤ m.n ∧ m.n < 9223372036854775808
  wval : Words m.val
  wrel : ∀ r ∈ m.rel, Words r
theorem MoR.below {W W' : World} {B B2 : Nat} {v : Value} {m : Mo} (h : MoR W B v m) (hb : Below B W W') (h2 : B ≤ B2) : MoR W' B2 v m := by
  obtain ⟨A1, c1, A2, c2, e, h1, h3⟩ := h.ex
  exact ⟨⟨A1, c1, A2, c2, e, (h1.below hb).more h2, h3.below hb h2⟩, h.lim, h.num, h.wval, h.wrel⟩
theorem shr_zero (x n : Nat) : ((x : Int) / 2 ^ n != 0) = !decide (x < 2 ^ n) := by
  have hp := Nat.two_pow_pos n
  rw [show ((x : Int) / 2 ^ n) = ((x / 2 ^ n : Nat) : Int) by simp]
  by_cases h : x < 2 ^ n
  · rw [Nat.div_eq_of_lt h, decide_eq_true h]; rfl
  · have : 0 < x / 2 ^ n := Nat.div_pos (by omega) hp
    rw [decide_eq_false h, Bool.not_false, bne_iff_ne]; omega
set_option maxHeartbeats 2000000 in
theorem within_any (n : Nat) (l : List Nat) (A : Option Addr) (k c B : Nat) (w : World) (hn : n ≤ 64) (hR : Reads w B 1 A k (us l)) (hw : Words l) (hk : k ≤ maxLen) :
    Calls Tryd.prog 36 #[.int .i64 (n : Int), .slice A k c] w fun e w' => e = .returned (.bool (inW n l)) ∧ w = w' := by
  unfold maxLen at hk
  have hl := hR.word_len
  have HR := Lib.hid hR
  have HW := Lib.hid hw
  have HL := Lib.hid hl
  clear hR hw hl
  go_enter Tryd.func36, Tryd.ntmps36
  go_wp2
  go_loopw [6, 9] (fun _ i wr => ∃ j : Nat, j ≤ k ∧ i = .int .i64 j ∧ Hid (∀ x ∈ l.take j, x < 2 ^ n) ∧ w = wr) (fun _ i _ => k - (intOf i).toNat)
  case atStart => exact ⟨0, Nat.zero_le _, rfl, Lib.hid (by simp), rfl⟩
  case round =>
    obtain ⟨j, hj, rfl, HF, rfl⟩ := hrel
    by_cases hlt : j < k
    · obtain ⟨ad, x, rfl, hb, hj2, hx, hxm, _, hc⟩ := HR.out.word_at hlt
      have hs := shr_zero x n
      by_cases h : x < 2 ^ n
      · rw [decide_eq_true h, Bool.not_true] at hs
        have HF2 : Hid (∀ x ∈ l.take (j + 1), x < 2 ^ n) := Lib.hid (by
          rw [List.take_succ_eq_append_getElem hj2]
          intro y hy
          rcases List.mem_append.1 hy with hy | hy
          · exact HF.out y hy
          · rw [List.mem_singleton.1 hy]
            rw [List.getD_eq_getElem?_getD, List.getElem?_eq_getElem hj2] at hx
            simp at hx
            rw [hx]; exact h)
        clear h hx hxm HF
        go_wp2
        go_roundw
        case rel => exact ⟨j + 1, by omega, by go_num, HF2, by first | rfl | trivial⟩
        case measure => simp [intOf]; omega
      · rw [decide_eq_false h, Bool.not_false] at hs
        have HD : Hid (inW n l = false) := Lib.hid (by
          unfold inW
          rw [List.all_eq_false]
          exact ⟨x, hxm, by simpa using h⟩)
        clear h hx hxm HF
        go_wp2
        go_ret
        exact ⟨ret_bool HD.out.symm, rfl⟩
    · have HD : Hid (inW n l = true) := Lib.hid (by
        have e : l.take j = l := List.take_of_length_le (by have := HL.out; omega)
        have := HF.out
        rw [e] at this
        unfold inW
        rw [List.all_eq_true]
        exact fun x hx => decide_eq_true (this x hx))
      clear HF
      go_wp2
      go_ret
      exact ⟨ret_bool HD.out.symm, rfl⟩
theorem rAll_any (n : Nat) (w : World) (h : n ≤ 64) :
    Calls Tryd.prog 32 #[.int .i64 (n : Int)] w fun e w' => e = .returned (.int .u64 ((2 ^ n - 1 : Nat) : Int)) ∧ w = w' := by
  have hv := wrap_allV n h
  rw [allV_nat n h] at hv
  by_cases h64 : n = 64
  · subst h64
    clear hv
    go_enter Tryd.func32, Tryd.ntmps32
    go_wp2
    go_ret
    exact ⟨ret_u64 (by decide), rfl⟩
  · have hd : decide ((64 : Int) ≤ (n : Int)) = false := decide_eq_false (by omega)
    go_enter Tryd.func32, Tryd.ntmps32
    go_wp2
    go_ret
    exact ⟨rfl, rfl⟩
theorem rHas_any (s k : Nat) (w : World) (_hs : s < 18446744073709551616) (hk : k < 64) :
    Calls Tryd.prog 38 #[.int .u64 (s : Int), .int .i64 (k : Int)] w fun e w' => e = .returned (.bool (s.testBit k)) ∧ w = w' := by
  have h1 : decide ((k : Int) < 64) = true := decide_eq_true (by omega)
  have e : ((((s : Int) / 2 ^ k).tmod 2) == 1) = s.testBit k := by
    rw [Nat.testBit_eq_decide_div_mod_eq, show ((s : Int) / 2 ^ k) = ((s / 2 ^ k : Nat) : Int) by simp, Int.tmod_eq_emod_of_nonneg (Int.natCast_nonneg _)]
    rw [Bool.eq_iff_iff]
    generalize s / 2 ^ k = z
    simp
    omega
  have HE := Lib.hid e
  clear e
  go_enter Tryd.func38, Tryd.ntmps38
  go_wp2
  go_ret
  exact ⟨ret_bool HE.out, rfl⟩
end Go.Proofs.YtofclgapgjcflaaDoor
