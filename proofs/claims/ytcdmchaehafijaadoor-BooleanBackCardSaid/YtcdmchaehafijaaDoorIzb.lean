/- Layer 9: FromTable by the program: its error, and the formula with its truth table. -/
import Derived.Test.YtcdmchaehafijaaDoorIza
namespace Go.Proofs.YtcdmchaehafijaaDoor
open Go.RowKit Go.Proofs.Ws Go.Maps
set_option maxRecDepth 100000
/-- the error of a truth table -/
def ctE (t : Nat) (n : Int) : Int := if 0 ≤ n ∧ n ≤ 6 then (if t < 2 ^ 2 ^ n.toNat then 0 else 1) else 2
theorem sub_full {t n : Nat} : subB t (fullN n) ↔ t < 2 ^ 2 ^ n := by
  unfold subB fullN
  rw [Nat.and_two_pow_sub_one_eq_mod]
  constructor
  · intro h
    rw [← h]
    exact Nat.mod_lt _ (Nat.two_pow_pos _)
  · exact Nat.mod_eq_of_lt
theorem chk_lt {t n : Nat} (ht : t < 18446744073709551616) (hn : n ≤ 6) : t &&& (18446744073709551615 - fullN n) = 0 ↔ t < 2 ^ 2 ^ n := by
  have h1 := notSub9 (y := fullN n) ht
  rw [u64_andNot_nat t (fullN n) ht (fullN_lt hn)] at h1
  rw [← sub_full]
  by_cases h : subB t (fullN n)
  · rw [decide_eq_true h] at h1
    have h2 : (((t &&& (18446744073709551615 - fullN n) : Nat) : Int) != 0) = false := h1
    rw [bne_eq_false_iff_eq] at h2
    exact ⟨fun _ => h, fun _ => by omega⟩
  · rw [decide_eq_false h] at h1
    have h2 : (((t &&& (18446744073709551615 - fullN n) : Nat) : Int) != 0) = true := h1
    rw [bne_iff_ne] at h2
    exact ⟨fun h3 => absurd (by rw [h3]; rfl) h2, fun h3 => absurd h3 h⟩
theorem chk_ct {t : Nat} (ht : t < 18446744073709551616) (n : Int) : chkT t n = ctE t n := by
  unfold chkT ctE
  by_cases hn : 0 ≤ n ∧ n ≤ 6
  · rw [if_pos hn, if_pos hn]
    by_cases h : t < 2 ^ 2 ^ n.toNat
    · rw [if_pos h, if_pos ((chk_lt ht (by omega)).2 h)]
    · rw [if_neg h, if_neg (fun k => h ((chk_lt ht (by omega)).1 k))]
  · rw [if_neg hn, if_neg hn]
theorem ctab_any (t : Nat) (ht : t < 18446744073709551616) (n : Int) (w : World) : Calls Tryd.prog 12 #[.int .u64 (t : Int), .int .i64 n] w fun e w' => e = .returned (.int .i64 (ctE t n)) ∧ w = w' := by
  have h := checkTable_any t ht n w
  rw [chk_ct ht n] at h
  exact h
/-- the tree of a truth table -/
def ftT (n t : Nat) : Tr := mapT simT (expT n t)
theorem fromTable_any (t : Nat) (ht : t < 18446744073709551616) (n : Int) (w : World) (hE : EnvR w w.heap.size) :
    Calls Tryd.prog 4 #[.int .u64 (t : Int), .int .i64 n] w fun e w' => ∃ A c, e = .returned (.tuple #[.slice A (if ctE t n = 0 then canT (ftT n.toNat t) else []).length c, .int .i64 (ctE t n)]) ∧ Reads w' w'.heap.size 6 A (if ctE t n = 0 then canT (ftT n.toNat t) else []).length (nds (if ctE t n = 0 then canT (ftT n.toNat t) else [])) ∧ Below w.heap.size w w' := by
  have HC := Lib.hid (fun W => ctab_any t ht n W)
  have HB0 : Hid (Below w.heap.size w w) := Lib.hid (Below.refl _ _)
  by_cases hz : ctE t n = 0
  · rw [if_pos hz]
    rw [hz] at HC ⊢
    obtain ⟨k, rfl, hk, hl⟩ : ∃ k : Nat, n = (k : Int) ∧ k ≤ 6 ∧ t < 2 ^ 2 ^ k := by
      unfold ctE at hz
      split at hz
      · rename_i h
        split at hz
        · rename_i h2
          exact ⟨n.toNat, by omega, by omega, h2⟩
        · cases hz
      · cases hz
    rw [Int.toNat_natCast]
    have hx := can_ok9 (exp_all k t (by omega)) (Nat.le_trans (exp_len hk hl) (by decide))
    have hF := from_table hk hl
    have hl2 : ¬ 200 < (canT (mapT simT (expT k t))).length := by have := hF.len; omega
    have e1 : mapF (mapT simT) (canT (expT k t)) = canT (ftT k t) := by
      unfold mapF resL ftT
      rw [if_pos hx.1, hx.2.1, if_neg hl2]
    have e2 : mapE (mapT simT) (canT (expT k t)) = 0 := by
      unfold mapE resE
      rw [if_pos hx.1, hx.2.1, if_neg hl2]
    have HX := Lib.hid (fun W => expand_any k t hk hl W)
    have HS := Lib.hid (fun (A : Option Addr) (c : Nat) (W : World) (h : Below w.heap.size w W) (hr : Reads W W.heap.size 6 A (canT (expT k t)).length (nds (canT (expT k t)))) =>
      pSimp_any (canT (expT k t)) A _ c W ((hE.below h).up h.size) hr (by have := exp_len hk hl; unfold maxLen; omega))
    rw [e1, e2] at HS
    clear e1 e2 hF hl2 hx hl hk hz hE
    unfold GivesT at HX
    generalize canT (expT k t) = ex at *
    generalize canT (ftT k t) = g at *
    go_enter Tryd.func4, Tryd.ntmps4
    go_wp2_with fail
    refine (HC.out _).mono ?_
    rintro e w2 ⟨rfl, rfl⟩
    go_wp2_with fail
    refine (HX.out _).mono ?_
    rintro e w3 ⟨A3, c3, rfl, hr3, hb⟩
    have HR3 := Lib.hid hr3
    have HB3 := Lib.hid hb
    clear hb hr3
    go_wp2_with fail
    refine (HS.out _ _ _ HB3.out HR3.out).mono ?_
    rintro e w4 ⟨A4, c4, rfl, hr4, hb⟩
    have HR4 := Lib.hid hr4
    have HB4 := Lib.hid (HB3.out.trans (hb.mono HB3.out.size))
    clear hb hr4
    go_wp2
    go_ret2
    exact ⟨A4, c4, rfl, HR4.out, HB4.out⟩
  · rw [if_neg hz]
    have hz1 : (ctE t n != 0) = true := by simpa using hz
    clear hz hE
    generalize ctE t n = er at *
    go_enter Tryd.func4, Tryd.ntmps4
    go_wp2_with fail
    refine (HC.out _).mono ?_
    rintro e w2 ⟨rfl, rfl⟩
    go_wp2
    go_ret2
    exact ⟨none, 0, rfl, Reads.none_, Below.refl _ _⟩
/-- what the law asks of the formula of a truth table -/
structure FtOk (n t : Nat) : Prop where
  len : (canT (ftT n t)).length ≤ 111
  ok : fErr (canT (ftT n t)) = 0
  frag : maskL fragD (compF (canT (ftT n t))) = 0
  comp : compF (canT (ftT n t)) = canT (ftT n t)
  fact : maskL factD (compF (canT (ftT n t))) / 2 ^ n = 0
  tE : tblE (canT (ftT n t)) n = 0
  tV : tblV (canT (ftT n t)) n = t
theorem ft_ok {n t : Nat} (hn : n ≤ 6) (h : t < 2 ^ 2 ^ n) : FtOk n t := by
  have hF := from_table hn h
  have hc := can_ok9 hF.all (Nat.le_trans hF.len (by decide))
  have hp : ∀ x ∈ compF (canT (ftT n t)), prN n x := by
    unfold ftT
    rw [hc.2.2]
    exact can_pr hF.all.1 hF.pr
  have hb := tb_mk hn hc.1 hp
  have hfit : maskL factD (compF (canT (ftT n t))) / 2 ^ n = 0 := by
    refine small_bit ⟨_, factM_256 _⟩ ⟨n, by omega⟩ (fun i hi => ?_)
    obtain ⟨x, hx, hb⟩ := mask_bit factD (compF (canT (ftT n t))) i.val hi
    unfold factD at hb
    split at hb
    · rename_i h3
      rw [Nat.testBit_two_pow] at hb
      have := (hp x hx).2.2 h3
      have := of_decide_eq_true hb
      show i.val < n
      omega
    · rw [Nat.zero_testBit] at hb; cases hb
  refine ⟨hF.len, hc.1, (prop_mask _).2 (fun x hx => (hp x hx).2.1), hc.2.2, hfit, hb.1, ?_⟩
  have hv : tblV (canT (ftT n t)) n = tabL (lastB (compF (canT (ftT n t)))) (2 ^ n) := hb.2.val
  rw [hv, show compF (canT (ftT n t)) = canT (ftT n t) from hc.2.2]
  apply Nat.eq_of_testBit_eq
  intro v
  rw [tabL_bit]
  by_cases hv : v < 2 ^ n
  · rw [decide_eq_true hv, Bool.true_and]
    unfold ftT
    rw [lastB_tree hF.all.1 v, hF.bit v, Nat.mod_eq_of_lt hv]
  · rw [decide_eq_false hv, Bool.false_and]
    have : t < 2 ^ v := Nat.lt_of_lt_of_le h (Nat.pow_le_pow_right (by decide) (by omega))
    rw [Nat.testBit_lt_two_pow this]
end Go.Proofs.YtcdmchaehafijaaDoor
