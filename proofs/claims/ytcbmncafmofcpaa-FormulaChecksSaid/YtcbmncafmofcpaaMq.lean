/- Layer 5: Depth of the reference. -/
import Derived.Test.YtcbmncafmofcpaaMe
namespace Go.Proofs.Ws
open Go
theorem modal_leaf {op : Int} (hk : known op = true) (h : usesX op = false) : modalOp op = false := by
  unfold known at hk
  unfold usesX at h
  unfold modalOp
  simp only [Bool.and_eq_true, decide_eq_true_eq] at hk
  simp only [Bool.and_eq_false_iff, decide_eq_false_iff_not] at h
  simp only [Bool.or_eq_false_iff, Bool.and_eq_false_iff, decide_eq_false_iff_not]
  omega
/-- the test of the reference -/
theorem modal_ref {op : Int} (hk : known op = true) : ((decide (9 ≤ op) && decide (op ≤ 15)) || decide (18 ≤ op)) = modalOp op := by
  unfold known at hk
  unfold modalOp
  simp only [Bool.and_eq_true, decide_eq_true_eq] at hk
  rw [show decide (op ≤ 21) = true from decide_eq_true hk.2, Bool.and_true]
end Go.Proofs.Ws
namespace Go.Proofs.Ytcbmncafmofcpaa
open Go.RowKit Go.Proofs.Ws Go.Maps
theorem dep_zero (q : List Nd) (hk : knownL q) (ho : opsL q) : ∀ k, k ≤ q.length → (dpL q k).getD 0 0 = 0 := by
  intro k
  induction k with
  | zero => intro _; rfl
  | succ k ih =>
    intro h
    rw [dpL_succ q k (by omega)]
    by_cases e : k = 0
    · subst e
      have h0 := ho 0 (by omega)
      have hx : usesX (q.getD 0 nd0).op = false := by
        cases hu : usesX (q.getD 0 nd0).op
        · rfl
        · have := opsOk_x h0 hu; omega
      have hm := modal_leaf (hk 0 (by omega)) hx
      have hl := dpL_len q 0 (by omega)
      have hd : dpL q 0 = [] := rfl
      rw [hd]
      show depStep [] (q.getD 0 nd0) = 0
      unfold depStep
      rw [hm]
      simp
    · have hl := dpL_len q k (by omega)
      rw [List.getD_eq_getElem?_getD, List.getElem?_append_left (by omega), ← List.getD_eq_getElem?_getD]
      exact ih (by omega)
theorem is_append (a b : List Int) : is (a ++ b) = is a ++ is b := by simp [is]
theorem max2_run {P : Program} (ts : Array TypeId) (t : TypeId) (x y m : Int) (w : World) (h : max x y = m) :
    (Builtin.max_ ts t #[.int .i64 x, .int .i64 y]).run P w = .ok (.int .i64 m) w := by
  have e : (Builtin.max_ ts t #[.int .i64 x, .int .i64 y]).run P w = .ok (.int .i64 (if x < y then y else x)) w := by
    simp [Builtin.max_, Builtin.max2]
  rw [e]
  congr 2
  rw [← h]
  simp only [Int.max_def]
  omega
theorem own_int {W : World} {b n : Nat} {v : Value} {l : List Int} (h : W.ownsRow b 3 1 v n (is l)) {k : Nat} (hk : k < n) : ∃ A c, v = .slice (some A) n c ∧ W.cell? (A.add k) = some (.int .i64 (l.getD k 0)) := by
  obtain ⟨A, c, rfl⟩ := own_sl h
  obtain ⟨ad, hA, _, hc⟩ := (Reads.of_own h).is_at hk
  subst hA
  exact ⟨ad, c, rfl, hc⟩
set_option maxRecDepth 100000 in
set_option maxHeartbeats 8000000 in
theorem rDepth_any (f : List Nd) (A : Option Addr) (n c : Nat) (w : World) (hR : Reads w w.heap.size 6 A n (nds f)) (hm : n ≤ maxLen) :
    Calls Try.prog 15 #[.slice A n c] w fun e w' => e = .returned (.int .i64 (depF f)) ∧ Below w.heap.size w w' := by
  have HC := Lib.hid (rCompact_any f A n c w hR hm)
  have HQ : Hid ((compF f ≠ [] → fErr (compF f) = 0 ∧ depF f = (dpL (compF f) (compF f).length).getLastD 0) ∧ (compF f = [] → depF f = -1)) := Lib.hid (by
    by_cases hz : fErr f = 0
    · refine ⟨fun _ => ⟨compF_ok hz, by unfold depF dpL; rw [if_pos hz, List.take_length]⟩, fun h => ?_⟩
      have := (fErr_ok (compF_ok hz)).1
      exact absurd h this
    · refine ⟨fun h => absurd (by unfold compF; rw [if_neg hz]) h, fun _ => by unfold depF; rw [if_neg hz]⟩)
  generalize depF f = dv at *
  generalize compF f = q at *
  clear hR
  by_cases hqe : q = []
  · subst hqe
    have HD := Lib.hid (HQ.out.2 rfl)
    clear HQ
    go_enter Try.func15, Try.ntmps15
    go_wp2_with fail
    refine (HC.out).mono ?_
    rintro e w1 ⟨A3, c3, rfl, hR3, hb1⟩
    have HB1 := Lib.hid hb1
    clear hR3 hb1
    rw [show ([] : List Nd).length = 0 from rfl]
    go_wp2
    go_loopw [4, 5, 6] (fun v i u wr => v = .slice none 0 0 ∧ i = .int .i64 ((0 : Nat) : Int) ∧ wr = w1) (fun _ i _ _ => 0 - (intOf i).toNat)
    case atStart => exact ⟨rfl, rfl, rfl⟩
    case round =>
      obtain ⟨rfl, rfl, rfl⟩ := hrel
      go_wp2
      go_ret
      exact ⟨ret_i64 HD.out.symm, HB1.out⟩
  · obtain ⟨hok, hdv⟩ := HQ.out.1 hqe
    have HDV := Lib.hid hdv
    have HQO := Lib.hid (fErr_ops hok)
    have HQK := Lib.hid (fErr_known hok)
    have hq2 := (fErr_ok hok).2.1
    have hq1 : q.length ≠ 0 := by simpa using hqe
    clear hok hdv hqe HQ
    obtain ⟨i0, hi, hz0, hz1, hz2⟩ := info_parts Try.infoIR
    go_enter Try.func15, Try.ntmps15
    go_wp2_with fail
    refine (HC.out).mono ?_
    rintro e w1 ⟨A3, c3, rfl, hR3, hb1⟩
    have HR3 := Lib.hid hR3
    have HB1 := Lib.hid hb1
    clear hR3 hb1
    go_wp2
    go_loopw [4, 5, 6] (fun v i u wr => ∃ k : Nat, k ≤ q.length ∧ i = .int .i64 k ∧ Hid (wr.ownsRow w1.heap.size 3 1 v k (is (dpL q k))) ∧ Hid (Below w1.heap.size w1 wr)) (fun _ i _ _ => q.length - (intOf i).toNat)
    case atStart => exact ⟨0, Nat.zero_le _, rfl, Lib.hid (World.ownsRow_nil _ _ _ _), Lib.hid (Below.refl _ _)⟩
    case round =>
      obtain ⟨k, hk, rfl, HO, HB⟩ := hrel
      by_cases hlt : k < q.length
      · obtain ⟨ad, rfl, hb, m0, m1, m2, m3, m4, m5⟩ := (HR3.out.below HB.out).nd_at hlt
        have ho := HQO.out k hlt
        have hkn := HQK.out k hlt
        have hds := dpL_succ q k hlt
        have hdz := dep_zero q HQK.out HQO.out k hk
        have hrg := dep_range q k hk
        obtain ⟨x, hx⟩ : ∃ x, q.getD k nd0 = x := ⟨_, rfl⟩
        rw [hx] at m0 m1 m2 m3 m4 m5 ho hkn hds
        have hstep0 : depStep (dpL q k) x = max ((dpL q k).getD x.x.toNat 0) ((dpL q k).getD x.y.toNat 0) + (if modalOp x.op = true then 1 else 0) := rfl
        rw [hstep0] at hds
        have hrx := hrg x.x.toNat
        have hry := hrg x.y.toNat
        have hone := ho.1
        have htwo := ho.2
        obtain ⟨op, ni, ne, ng, nx, ny⟩ := x
        dsimp only at m0 m1 m2 m3 m4 m5 hkn hds hrx hry hone htwo
        have l1 := add_cell m1
        have l2 := add_cell m2
        have l3 := add_cell m3
        have l4 := add_cell m4
        have l5 := add_cell m5
        have hmax : ∀ (ts : Array TypeId) (t : TypeId) (x y : Int) (W : World), (Builtin.max_ ts t #[.int .i64 x, .int .i64 y]).run Try.prog W = .ok (.int .i64 (max x y)) W := fun ts t x y W => max2_run ts t x y _ W rfl
        have HUX := Lib.hid (fun W => rUsesX_any op hkn W)
        have HUY := Lib.hid (fun W => rUsesY_any op hkn W)
        have HSZ := Lib.hid HB.out.size
        have HRX : Hid (∀ j : Nat, j < k → ∃ Ad cd, u4 = .slice (some Ad) k cd ∧ wr.cell? (Ad.add j) = some (.int .i64 ((dpL q k).getD j 0))) := Lib.hid (fun j hj => own_int HO.out hj)
        clear hx ho hrg hstep0
        have HAPP : Hid (∀ (z : Int) (v' : Value) (o : Obj) (w3 : World), z = max ((dpL q k).getD nx.toNat 0) ((dpL q k).getD ny.toNat 0) + (if modalOp op = true then 1 else 0) → w3.ownsRow w1.heap.size 3 1 v' (k + 1) (is (dpL q k) ++ [.int .i64 z]) → (wr.alloc o).grownBy w3 u4.ownBlock → Hid (w3.ownsRow w1.heap.size 3 1 v' (k + 1) (is (dpL q (k + 1)))) ∧ Hid (Below w1.heap.size w1 w3)) := Lib.hid (fun z v' o w3 hz h1 h2 => ⟨Lib.hid (by
            rw [hds, is_append, ← hz]; exact h1), Lib.hid ((HB.out.alloc HB.out.size o).grown h2 (by have := HB.out.size; simp; omega) (fun g hg => (HO.out.lt g hg).1))⟩)
        have hO := HO.out
        have hszb := HB.out.size
        clear hds HO
        rcases known_cases op hkn with rfl | rfl | rfl | rfl | rfl | rfl | rfl | rfl | rfl | rfl | rfl | rfl | rfl | rfl | rfl | rfl | rfl | rfl | rfl | rfl | rfl
        · rw [show usesX 1 = false from rfl] at HUX hone
          rw [show usesY 1 = false from rfl] at HUY htwo
          rw [show modalOp 1 = false from rfl] at HAPP
          rw [if_neg (by decide)] at hone
          subst hone
          rw [if_neg (by decide)] at htwo
          subst htwo
          rw [show (0 : Int).toNat = 0 from rfl, hdz] at HAPP
          clear HRX
          go_wp2_with fail
          refine (HUX.out _).mono ?_
          rintro e w2 ⟨rfl, rfl⟩
          go_wp2_with fail
          refine (HUY.out _).mono ?_
          rintro e w2 ⟨rfl, rfl⟩
          go_wp2_with (at_builtin; refine wpList_append_own _ rfl _ _ 52 rfl w1.heap.size 3 i0 (.int .i64 0) 1 8 Try.underlying52 hi hz0 hz1 hz2 rfl (by decide) _ _ _ rfl (hO.alloc _) ⟨wr.heap.size, 0, none⟩ 1 1 [.int .i64 (0)] rfl rfl ?k1 ?k2 ?k3 ?k4 ?k5 ?_)
          case k1 =>
            intro j u hj
            match j, hj with
            | 0, hj => simp at hj; subst hj; simp [Addr.add]
          case k2 => intro u hu; simp at hu; subst hu; rfl
          case k3 => unfold maxLen; omega
          case k4 => omega
          case k5 => simp; omega
          intro v' w3 hown' hgrow _
          obtain ⟨HO2, HB2⟩ := HAPP.out (0) v' _ w3 (by first | (simp <;> omega) | omega) hown' hgrow
          clear hown' hgrow hO
          go_wp2
          go_roundw
          case rel => exact ⟨k + 1, by omega, by go_num, HO2, HB2⟩
          case measure => simp [intOf]; omega
        · rw [show usesX 2 = false from rfl] at HUX hone
          rw [show usesY 2 = false from rfl] at HUY htwo
          rw [show modalOp 2 = false from rfl] at HAPP
          rw [if_neg (by decide)] at hone
          subst hone
          rw [if_neg (by decide)] at htwo
          subst htwo
          rw [show (0 : Int).toNat = 0 from rfl, hdz] at HAPP
          clear HRX
          go_wp2_with fail
          refine (HUX.out _).mono ?_
          rintro e w2 ⟨rfl, rfl⟩
          go_wp2_with fail
          refine (HUY.out _).mono ?_
          rintro e w2 ⟨rfl, rfl⟩
          go_wp2_with (at_builtin; refine wpList_append_own _ rfl _ _ 52 rfl w1.heap.size 3 i0 (.int .i64 0) 1 8 Try.underlying52 hi hz0 hz1 hz2 rfl (by decide) _ _ _ rfl (hO.alloc _) ⟨wr.heap.size, 0, none⟩ 1 1 [.int .i64 (0)] rfl rfl ?k1 ?k2 ?k3 ?k4 ?k5 ?_)
          case k1 =>
            intro j u hj
            match j, hj with
            | 0, hj => simp at hj; subst hj; simp [Addr.add]
          case k2 => intro u hu; simp at hu; subst hu; rfl
          case k3 => unfold maxLen; omega
          case k4 => omega
          case k5 => simp; omega
          intro v' w3 hown' hgrow _
          obtain ⟨HO2, HB2⟩ := HAPP.out (0) v' _ w3 (by first | (simp <;> omega) | omega) hown' hgrow
          clear hown' hgrow hO
          go_wp2
          go_roundw
          case rel => exact ⟨k + 1, by omega, by go_num, HO2, HB2⟩
          case measure => simp [intOf]; omega
        · rw [show usesX 3 = false from rfl] at HUX hone
          rw [show usesY 3 = false from rfl] at HUY htwo
          rw [show modalOp 3 = false from rfl] at HAPP
          rw [if_neg (by decide)] at hone
          subst hone
          rw [if_neg (by decide)] at htwo
          subst htwo
          rw [show (0 : Int).toNat = 0 from rfl, hdz] at HAPP
          clear HRX
          go_wp2_with fail
          refine (HUX.out _).mono ?_
          rintro e w2 ⟨rfl, rfl⟩
          go_wp2_with fail
          refine (HUY.out _).mono ?_
          rintro e w2 ⟨rfl, rfl⟩
          go_wp2_with (at_builtin; refine wpList_append_own _ rfl _ _ 52 rfl w1.heap.size 3 i0 (.int .i64 0) 1 8 Try.underlying52 hi hz0 hz1 hz2 rfl (by decide) _ _ _ rfl (hO.alloc _) ⟨wr.heap.size, 0, none⟩ 1 1 [.int .i64 (0)] rfl rfl ?k1 ?k2 ?k3 ?k4 ?k5 ?_)
          case k1 =>
            intro j u hj
            match j, hj with
            | 0, hj => simp at hj; subst hj; simp [Addr.add]
          case k2 => intro u hu; simp at hu; subst hu; rfl
          case k3 => unfold maxLen; omega
          case k4 => omega
          case k5 => simp; omega
          intro v' w3 hown' hgrow _
          obtain ⟨HO2, HB2⟩ := HAPP.out (0) v' _ w3 (by first | (simp <;> omega) | omega) hown' hgrow
          clear hown' hgrow hO
          go_wp2
          go_roundw
          case rel => exact ⟨k + 1, by omega, by go_num, HO2, HB2⟩
          case measure => simp [intOf]; omega
        · rw [show usesX 4 = true from rfl] at HUX hone
          rw [show usesY 4 = false from rfl] at HUY htwo
          rw [show modalOp 4 = false from rfl] at HAPP
          rw [if_pos rfl] at hone
          obtain ⟨kx, rfl⟩ : ∃ kx : Nat, nx = (kx : Int) := ⟨nx.toNat, by omega⟩
          rw [Int.toNat_natCast] at HAPP hrx
          rw [if_neg (by decide)] at htwo
          subst htwo
          rw [show (0 : Int).toNat = 0 from rfl, hdz] at HAPP
          obtain ⟨Ad, cd, rfl, hcx⟩ := HRX.out kx (by omega)
          clear HRX
          generalize (dpL q k).getD kx 0 = dx at *
          go_wp2_with fail
          refine (HUX.out _).mono ?_
          rintro e w2 ⟨rfl, rfl⟩
          go_wp2_with fail
          refine (HUY.out _).mono ?_
          rintro e w2 ⟨rfl, rfl⟩
          go_wp2_with (at_builtin; refine wpList_append_own _ rfl _ _ 52 rfl w1.heap.size 3 i0 (.int .i64 0) 1 8 Try.underlying52 hi hz0 hz1 hz2 rfl (by decide) _ _ _ rfl (hO.alloc _) ⟨wr.heap.size, 0, none⟩ 1 1 [.int .i64 (dx)] rfl rfl ?k1 ?k2 ?k3 ?k4 ?k5 ?_)
          case k1 =>
            intro j u hj
            match j, hj with
            | 0, hj => simp at hj; subst hj; simp [Addr.add]
          case k2 => intro u hu; simp at hu; subst hu; rfl
          case k3 => unfold maxLen; omega
          case k4 => omega
          case k5 => simp; omega
          intro v' w3 hown' hgrow _
          obtain ⟨HO2, HB2⟩ := HAPP.out (dx) v' _ w3 (by first | (simp <;> omega) | omega) hown' hgrow
          clear hown' hgrow hO
          go_wp2
          go_roundw
          case rel => exact ⟨k + 1, by omega, by go_num, HO2, HB2⟩
          case measure => simp [intOf]; omega
        · rw [show usesX 5 = true from rfl] at HUX hone
          rw [show usesY 5 = true from rfl] at HUY htwo
          rw [show modalOp 5 = false from rfl] at HAPP
          rw [if_pos rfl] at hone
          obtain ⟨kx, rfl⟩ : ∃ kx : Nat, nx = (kx : Int) := ⟨nx.toNat, by omega⟩
          rw [Int.toNat_natCast] at HAPP hrx
          rw [if_pos rfl] at htwo
          obtain ⟨ky, rfl⟩ : ∃ ky : Nat, ny = (ky : Int) := ⟨ny.toNat, by omega⟩
          rw [Int.toNat_natCast] at HAPP hry
          obtain ⟨Ad, cd, rfl, hcx⟩ := HRX.out kx (by omega)
          obtain ⟨Ad2, cd2, he2, hcy⟩ := HRX.out ky (by omega)
          injection he2 with he2 _ he3
          injection he2 with he2
          subst he2
          clear he3
          clear HRX
          generalize (dpL q k).getD kx 0 = dx at *
          generalize (dpL q k).getD ky 0 = dy at *
          have hmx := fun (ts : Array TypeId) (ty : TypeId) (W : World) => max2_run (P := Try.prog) ts ty dx dy (max dx dy) W rfl
          have hmr1 : 0 ≤ max dx dy ∧ max dx dy ≤ k := by omega
          clear hmax
          generalize max dx dy = mx at *
          go_wp2_with fail
          refine (HUX.out _).mono ?_
          rintro e w2 ⟨rfl, rfl⟩
          go_wp2_with fail
          refine (HUY.out _).mono ?_
          rintro e w2 ⟨rfl, rfl⟩
          go_wp2_with (at_builtin; refine wpList_append_own _ rfl _ _ 52 rfl w1.heap.size 3 i0 (.int .i64 0) 1 8 Try.underlying52 hi hz0 hz1 hz2 rfl (by decide) _ _ _ rfl (hO.alloc _) ⟨wr.heap.size, 0, none⟩ 1 1 [.int .i64 (mx)] rfl rfl ?k1 ?k2 ?k3 ?k4 ?k5 ?_)
          case k1 =>
            intro j u hj
            match j, hj with
            | 0, hj => simp at hj; subst hj; simp [Addr.add]
          case k2 => intro u hu; simp at hu; subst hu; rfl
          case k3 => unfold maxLen; omega
          case k4 => omega
          case k5 => simp; omega
          intro v' w3 hown' hgrow _
          obtain ⟨HO2, HB2⟩ := HAPP.out (mx) v' _ w3 (by first | (simp <;> omega) | omega) hown' hgrow
          clear hown' hgrow hO
          go_wp2
          go_roundw
          case rel => exact ⟨k + 1, by omega, by go_num, HO2, HB2⟩
          case measure => simp [intOf]; omega
        · rw [show usesX 6 = true from rfl] at HUX hone
          rw [show usesY 6 = true from rfl] at HUY htwo
          rw [show modalOp 6 = false from rfl] at HAPP
          rw [if_pos rfl] at hone
          obtain ⟨kx, rfl⟩ : ∃ kx : Nat, nx = (kx : Int) := ⟨nx.toNat, by omega⟩
          rw [Int.toNat_natCast] at HAPP hrx
          rw [if_pos rfl] at htwo
          obtain ⟨ky, rfl⟩ : ∃ ky : Nat, ny = (ky : Int) := ⟨ny.toNat, by omega⟩
          rw [Int.toNat_natCast] at HAPP hry
          obtain ⟨Ad, cd, rfl, hcx⟩ := HRX.out kx (by omega)
          obtain ⟨Ad2, cd2, he2, hcy⟩ := HRX.out ky (by omega)
          injection he2 with he2 _ he3
          injection he2 with he2
          subst he2
          clear he3
          clear HRX
          generalize (dpL q k).getD kx 0 = dx at *
          generalize (dpL q k).getD ky 0 = dy at *
          have hmx := fun (ts : Array TypeId) (ty : TypeId) (W : World) => max2_run (P := Try.prog) ts ty dx dy (max dx dy) W rfl
          have hmr1 : 0 ≤ max dx dy ∧ max dx dy ≤ k := by omega
          clear hmax
          generalize max dx dy = mx at *
          go_wp2_with fail
          refine (HUX.out _).mono ?_
          rintro e w2 ⟨rfl, rfl⟩
          go_wp2_with fail
          refine (HUY.out _).mono ?_
          rintro e w2 ⟨rfl, rfl⟩
          go_wp2_with (at_builtin; refine wpList_append_own _ rfl _ _ 52 rfl w1.heap.size 3 i0 (.int .i64 0) 1 8 Try.underlying52 hi hz0 hz1 hz2 rfl (by decide) _ _ _ rfl (hO.alloc _) ⟨wr.heap.size, 0, none⟩ 1 1 [.int .i64 (mx)] rfl rfl ?k1 ?k2 ?k3 ?k4 ?k5 ?_)
          case k1 =>
            intro j u hj
            match j, hj with
            | 0, hj => simp at hj; subst hj; simp [Addr.add]
          case k2 => intro u hu; simp at hu; subst hu; rfl
          case k3 => unfold maxLen; omega
          case k4 => omega
          case k5 => simp; omega
          intro v' w3 hown' hgrow _
          obtain ⟨HO2, HB2⟩ := HAPP.out (mx) v' _ w3 (by first | (simp <;> omega) | omega) hown' hgrow
          clear hown' hgrow hO
          go_wp2
          go_roundw
          case rel => exact ⟨k + 1, by omega, by go_num, HO2, HB2⟩
          case measure => simp [intOf]; omega
        · rw [show usesX 7 = true from rfl] at HUX hone
          rw [show usesY 7 = true from rfl] at HUY htwo
          rw [show modalOp 7 = false from rfl] at HAPP
          rw [if_pos rfl] at hone
          obtain ⟨kx, rfl⟩ : ∃ kx : Nat, nx = (kx : Int) := ⟨nx.toNat, by omega⟩
          rw [Int.toNat_natCast] at HAPP hrx
          rw [if_pos rfl] at htwo
          obtain ⟨ky, rfl⟩ : ∃ ky : Nat, ny = (ky : Int) := ⟨ny.toNat, by omega⟩
          rw [Int.toNat_natCast] at HAPP hry
          obtain ⟨Ad, cd, rfl, hcx⟩ := HRX.out kx (by omega)
          obtain ⟨Ad2, cd2, he2, hcy⟩ := HRX.out ky (by omega)
          injection he2 with he2 _ he3
          injection he2 with he2
          subst he2
          clear he3
          clear HRX
          generalize (dpL q k).getD kx 0 = dx at *
          generalize (dpL q k).getD ky 0 = dy at *
          have hmx := fun (ts : Array TypeId) (ty : TypeId) (W : World) => max2_run (P := Try.prog) ts ty dx dy (max dx dy) W rfl
          have hmr1 : 0 ≤ max dx dy ∧ max dx dy ≤ k := by omega
          clear hmax
          generalize max dx dy = mx at *
          go_wp2_with fail
          refine (HUX.out _).mono ?_
          rintro e w2 ⟨rfl, rfl⟩
          go_wp2_with fail
          refine (HUY.out _).mono ?_
          rintro e w2 ⟨rfl, rfl⟩
          go_wp2_with (at_builtin; refine wpList_append_own _ rfl _ _ 52 rfl w1.heap.size 3 i0 (.int .i64 0) 1 8 Try.underlying52 hi hz0 hz1 hz2 rfl (by decide) _ _ _ rfl (hO.alloc _) ⟨wr.heap.size, 0, none⟩ 1 1 [.int .i64 (mx)] rfl rfl ?k1 ?k2 ?k3 ?k4 ?k5 ?_)
          case k1 =>
            intro j u hj
            match j, hj with
            | 0, hj => simp at hj; subst hj; simp [Addr.add]
          case k2 => intro u hu; simp at hu; subst hu; rfl
          case k3 => unfold maxLen; omega
          case k4 => omega
          case k5 => simp; omega
          intro v' w3 hown' hgrow _
          obtain ⟨HO2, HB2⟩ := HAPP.out (mx) v' _ w3 (by first | (simp <;> omega) | omega) hown' hgrow
          clear hown' hgrow hO
          go_wp2
          go_roundw
          case rel => exact ⟨k + 1, by omega, by go_num, HO2, HB2⟩
          case measure => simp [intOf]; omega
        · rw [show usesX 8 = true from rfl] at HUX hone
          rw [show usesY 8 = true from rfl] at HUY htwo
          rw [show modalOp 8 = false from rfl] at HAPP
          rw [if_pos rfl] at hone
          obtain ⟨kx, rfl⟩ : ∃ kx : Nat, nx = (kx : Int) := ⟨nx.toNat, by omega⟩
          rw [Int.toNat_natCast] at HAPP hrx
          rw [if_pos rfl] at htwo
          obtain ⟨ky, rfl⟩ : ∃ ky : Nat, ny = (ky : Int) := ⟨ny.toNat, by omega⟩
          rw [Int.toNat_natCast] at HAPP hry
          obtain ⟨Ad, cd, rfl, hcx⟩ := HRX.out kx (by omega)
          obtain ⟨Ad2, cd2, he2, hcy⟩ := HRX.out ky (by omega)
          injection he2 with he2 _ he3
          injection he2 with he2
          subst he2
          clear he3
          clear HRX
          generalize (dpL q k).getD kx 0 = dx at *
          generalize (dpL q k).getD ky 0 = dy at *
          have hmx := fun (ts : Array TypeId) (ty : TypeId) (W : World) => max2_run (P := Try.prog) ts ty dx dy (max dx dy) W rfl
          have hmr1 : 0 ≤ max dx dy ∧ max dx dy ≤ k := by omega
          clear hmax
          generalize max dx dy = mx at *
          go_wp2_with fail
          refine (HUX.out _).mono ?_
          rintro e w2 ⟨rfl, rfl⟩
          go_wp2_with fail
          refine (HUY.out _).mono ?_
          rintro e w2 ⟨rfl, rfl⟩
          go_wp2_with (at_builtin; refine wpList_append_own _ rfl _ _ 52 rfl w1.heap.size 3 i0 (.int .i64 0) 1 8 Try.underlying52 hi hz0 hz1 hz2 rfl (by decide) _ _ _ rfl (hO.alloc _) ⟨wr.heap.size, 0, none⟩ 1 1 [.int .i64 (mx)] rfl rfl ?k1 ?k2 ?k3 ?k4 ?k5 ?_)
          case k1 =>
            intro j u hj
            match j, hj with
            | 0, hj => simp at hj; subst hj; simp [Addr.add]
          case k2 => intro u hu; simp at hu; subst hu; rfl
          case k3 => unfold maxLen; omega
          case k4 => omega
          case k5 => simp; omega
          intro v' w3 hown' hgrow _
          obtain ⟨HO2, HB2⟩ := HAPP.out (mx) v' _ w3 (by first | (simp <;> omega) | omega) hown' hgrow
          clear hown' hgrow hO
          go_wp2
          go_roundw
          case rel => exact ⟨k + 1, by omega, by go_num, HO2, HB2⟩
          case measure => simp [intOf]; omega
        · rw [show usesX 9 = true from rfl] at HUX hone
          rw [show usesY 9 = false from rfl] at HUY htwo
          rw [show modalOp 9 = true from rfl] at HAPP
          rw [if_pos rfl] at hone
          obtain ⟨kx, rfl⟩ : ∃ kx : Nat, nx = (kx : Int) := ⟨nx.toNat, by omega⟩
          rw [Int.toNat_natCast] at HAPP hrx
          rw [if_neg (by decide)] at htwo
          subst htwo
          rw [show (0 : Int).toNat = 0 from rfl, hdz] at HAPP
          obtain ⟨Ad, cd, rfl, hcx⟩ := HRX.out kx (by omega)
          clear HRX
          generalize (dpL q k).getD kx 0 = dx at *
          have hw1 : wrap64 (dx + 1) = dx + 1 := by unfold wrap64; omega
          have hw2 : IntKind.i64.wrap (dx + 1) = dx + 1 := by rw [IntKind.wrap_i64]; omega
          go_wp2_with fail
          refine (HUX.out _).mono ?_
          rintro e w2 ⟨rfl, rfl⟩
          go_wp2_with fail
          refine (HUY.out _).mono ?_
          rintro e w2 ⟨rfl, rfl⟩
          go_wp2_with (at_builtin; refine wpList_append_own _ rfl _ _ 52 rfl w1.heap.size 3 i0 (.int .i64 0) 1 8 Try.underlying52 hi hz0 hz1 hz2 rfl (by decide) _ _ _ rfl (hO.alloc _) ⟨wr.heap.size, 0, none⟩ 1 1 [.int .i64 (dx + 1)] rfl rfl ?k1 ?k2 ?k3 ?k4 ?k5 ?_)
          case k1 =>
            intro j u hj
            match j, hj with
            | 0, hj => simp at hj; subst hj; simp [Addr.add]
          case k2 => intro u hu; simp at hu; subst hu; rfl
          case k3 => unfold maxLen; omega
          case k4 => omega
          case k5 => simp; omega
          intro v' w3 hown' hgrow _
          obtain ⟨HO2, HB2⟩ := HAPP.out (dx + 1) v' _ w3 (by first | (simp <;> omega) | omega) hown' hgrow
          clear hown' hgrow hO
          go_wp2
          go_roundw
          case rel => exact ⟨k + 1, by omega, by go_num, HO2, HB2⟩
          case measure => simp [intOf]; omega
        · rw [show usesX 10 = true from rfl] at HUX hone
          rw [show usesY 10 = false from rfl] at HUY htwo
          rw [show modalOp 10 = true from rfl] at HAPP
          rw [if_pos rfl] at hone
          obtain ⟨kx, rfl⟩ : ∃ kx : Nat, nx = (kx : Int) := ⟨nx.toNat, by omega⟩
          rw [Int.toNat_natCast] at HAPP hrx
          rw [if_neg (by decide)] at htwo
          subst htwo
          rw [show (0 : Int).toNat = 0 from rfl, hdz] at HAPP
          obtain ⟨Ad, cd, rfl, hcx⟩ := HRX.out kx (by omega)
          clear HRX
          generalize (dpL q k).getD kx 0 = dx at *
          have hw1 : wrap64 (dx + 1) = dx + 1 := by unfold wrap64; omega
          have hw2 : IntKind.i64.wrap (dx + 1) = dx + 1 := by rw [IntKind.wrap_i64]; omega
          go_wp2_with fail
          refine (HUX.out _).mono ?_
          rintro e w2 ⟨rfl, rfl⟩
          go_wp2_with fail
          refine (HUY.out _).mono ?_
          rintro e w2 ⟨rfl, rfl⟩
          go_wp2_with (at_builtin; refine wpList_append_own _ rfl _ _ 52 rfl w1.heap.size 3 i0 (.int .i64 0) 1 8 Try.underlying52 hi hz0 hz1 hz2 rfl (by decide) _ _ _ rfl (hO.alloc _) ⟨wr.heap.size, 0, none⟩ 1 1 [.int .i64 (dx + 1)] rfl rfl ?k1 ?k2 ?k3 ?k4 ?k5 ?_)
          case k1 =>
            intro j u hj
            match j, hj with
            | 0, hj => simp at hj; subst hj; simp [Addr.add]
          case k2 => intro u hu; simp at hu; subst hu; rfl
          case k3 => unfold maxLen; omega
          case k4 => omega
          case k5 => simp; omega
          intro v' w3 hown' hgrow _
          obtain ⟨HO2, HB2⟩ := HAPP.out (dx + 1) v' _ w3 (by first | (simp <;> omega) | omega) hown' hgrow
          clear hown' hgrow hO
          go_wp2
          go_roundw
          case rel => exact ⟨k + 1, by omega, by go_num, HO2, HB2⟩
          case measure => simp [intOf]; omega
        · rw [show usesX 11 = true from rfl] at HUX hone
          rw [show usesY 11 = false from rfl] at HUY htwo
          rw [show modalOp 11 = true from rfl] at HAPP
          rw [if_pos rfl] at hone
          obtain ⟨kx, rfl⟩ : ∃ kx : Nat, nx = (kx : Int) := ⟨nx.toNat, by omega⟩
          rw [Int.toNat_natCast] at HAPP hrx
          rw [if_neg (by decide)] at htwo
          subst htwo
          rw [show (0 : Int).toNat = 0 from rfl, hdz] at HAPP
          obtain ⟨Ad, cd, rfl, hcx⟩ := HRX.out kx (by omega)
          clear HRX
          generalize (dpL q k).getD kx 0 = dx at *
          have hw1 : wrap64 (dx + 1) = dx + 1 := by unfold wrap64; omega
          have hw2 : IntKind.i64.wrap (dx + 1) = dx + 1 := by rw [IntKind.wrap_i64]; omega
          go_wp2_with fail
          refine (HUX.out _).mono ?_
          rintro e w2 ⟨rfl, rfl⟩
          go_wp2_with fail
          refine (HUY.out _).mono ?_
          rintro e w2 ⟨rfl, rfl⟩
          go_wp2_with (at_builtin; refine wpList_append_own _ rfl _ _ 52 rfl w1.heap.size 3 i0 (.int .i64 0) 1 8 Try.underlying52 hi hz0 hz1 hz2 rfl (by decide) _ _ _ rfl (hO.alloc _) ⟨wr.heap.size, 0, none⟩ 1 1 [.int .i64 (dx + 1)] rfl rfl ?k1 ?k2 ?k3 ?k4 ?k5 ?_)
          case k1 =>
            intro j u hj
            match j, hj with
            | 0, hj => simp at hj; subst hj; simp [Addr.add]
          case k2 => intro u hu; simp at hu; subst hu; rfl
          case k3 => unfold maxLen; omega
          case k4 => omega
          case k5 => simp; omega
          intro v' w3 hown' hgrow _
          obtain ⟨HO2, HB2⟩ := HAPP.out (dx + 1) v' _ w3 (by first | (simp <;> omega) | omega) hown' hgrow
          clear hown' hgrow hO
          go_wp2
          go_roundw
          case rel => exact ⟨k + 1, by omega, by go_num, HO2, HB2⟩
          case measure => simp [intOf]; omega
        · rw [show usesX 12 = true from rfl] at HUX hone
          rw [show usesY 12 = false from rfl] at HUY htwo
          rw [show modalOp 12 = true from rfl] at HAPP
          rw [if_pos rfl] at hone
          obtain ⟨kx, rfl⟩ : ∃ kx : Nat, nx = (kx : Int) := ⟨nx.toNat, by omega⟩
          rw [Int.toNat_natCast] at HAPP hrx
          rw [if_neg (by decide)] at htwo
          subst htwo
          rw [show (0 : Int).toNat = 0 from rfl, hdz] at HAPP
          obtain ⟨Ad, cd, rfl, hcx⟩ := HRX.out kx (by omega)
          clear HRX
          generalize (dpL q k).getD kx 0 = dx at *
          have hw1 : wrap64 (dx + 1) = dx + 1 := by unfold wrap64; omega
          have hw2 : IntKind.i64.wrap (dx + 1) = dx + 1 := by rw [IntKind.wrap_i64]; omega
          go_wp2_with fail
          refine (HUX.out _).mono ?_
          rintro e w2 ⟨rfl, rfl⟩
          go_wp2_with fail
          refine (HUY.out _).mono ?_
          rintro e w2 ⟨rfl, rfl⟩
          go_wp2_with (at_builtin; refine wpList_append_own _ rfl _ _ 52 rfl w1.heap.size 3 i0 (.int .i64 0) 1 8 Try.underlying52 hi hz0 hz1 hz2 rfl (by decide) _ _ _ rfl (hO.alloc _) ⟨wr.heap.size, 0, none⟩ 1 1 [.int .i64 (dx + 1)] rfl rfl ?k1 ?k2 ?k3 ?k4 ?k5 ?_)
          case k1 =>
            intro j u hj
            match j, hj with
            | 0, hj => simp at hj; subst hj; simp [Addr.add]
          case k2 => intro u hu; simp at hu; subst hu; rfl
          case k3 => unfold maxLen; omega
          case k4 => omega
          case k5 => simp; omega
          intro v' w3 hown' hgrow _
          obtain ⟨HO2, HB2⟩ := HAPP.out (dx + 1) v' _ w3 (by first | (simp <;> omega) | omega) hown' hgrow
          clear hown' hgrow hO
          go_wp2
          go_roundw
          case rel => exact ⟨k + 1, by omega, by go_num, HO2, HB2⟩
          case measure => simp [intOf]; omega
        · rw [show usesX 13 = true from rfl] at HUX hone
          rw [show usesY 13 = true from rfl] at HUY htwo
          rw [show modalOp 13 = true from rfl] at HAPP
          rw [if_pos rfl] at hone
          obtain ⟨kx, rfl⟩ : ∃ kx : Nat, nx = (kx : Int) := ⟨nx.toNat, by omega⟩
          rw [Int.toNat_natCast] at HAPP hrx
          rw [if_pos rfl] at htwo
          obtain ⟨ky, rfl⟩ : ∃ ky : Nat, ny = (ky : Int) := ⟨ny.toNat, by omega⟩
          rw [Int.toNat_natCast] at HAPP hry
          obtain ⟨Ad, cd, rfl, hcx⟩ := HRX.out kx (by omega)
          obtain ⟨Ad2, cd2, he2, hcy⟩ := HRX.out ky (by omega)
          injection he2 with he2 _ he3
          injection he2 with he2
          subst he2
          clear he3
          clear HRX
          generalize (dpL q k).getD kx 0 = dx at *
          generalize (dpL q k).getD ky 0 = dy at *
          have hmx := fun (ts : Array TypeId) (ty : TypeId) (W : World) => max2_run (P := Try.prog) ts ty dx dy (max dx dy) W rfl
          have hmr1 : 0 ≤ max dx dy ∧ max dx dy ≤ k := by omega
          clear hmax
          generalize max dx dy = mx at *
          have hw1 : wrap64 (mx + 1) = mx + 1 := by unfold wrap64; omega
          have hw2 : IntKind.i64.wrap (mx + 1) = mx + 1 := by rw [IntKind.wrap_i64]; omega
          go_wp2_with fail
          refine (HUX.out _).mono ?_
          rintro e w2 ⟨rfl, rfl⟩
          go_wp2_with fail
          refine (HUY.out _).mono ?_
          rintro e w2 ⟨rfl, rfl⟩
          go_wp2_with (at_builtin; refine wpList_append_own _ rfl _ _ 52 rfl w1.heap.size 3 i0 (.int .i64 0) 1 8 Try.underlying52 hi hz0 hz1 hz2 rfl (by decide) _ _ _ rfl (hO.alloc _) ⟨wr.heap.size, 0, none⟩ 1 1 [.int .i64 (mx + 1)] rfl rfl ?k1 ?k2 ?k3 ?k4 ?k5 ?_)
          case k1 =>
            intro j u hj
            match j, hj with
            | 0, hj => simp at hj; subst hj; simp [Addr.add]
          case k2 => intro u hu; simp at hu; subst hu; rfl
          case k3 => unfold maxLen; omega
          case k4 => omega
          case k5 => simp; omega
          intro v' w3 hown' hgrow _
          obtain ⟨HO2, HB2⟩ := HAPP.out (mx + 1) v' _ w3 (by first | (simp <;> omega) | omega) hown' hgrow
          clear hown' hgrow hO
          go_wp2
          go_roundw
          case rel => exact ⟨k + 1, by omega, by go_num, HO2, HB2⟩
          case measure => simp [intOf]; omega
        · rw [show usesX 14 = true from rfl] at HUX hone
          rw [show usesY 14 = true from rfl] at HUY htwo
          rw [show modalOp 14 = true from rfl] at HAPP
          rw [if_pos rfl] at hone
          obtain ⟨kx, rfl⟩ : ∃ kx : Nat, nx = (kx : Int) := ⟨nx.toNat, by omega⟩
          rw [Int.toNat_natCast] at HAPP hrx
          rw [if_pos rfl] at htwo
          obtain ⟨ky, rfl⟩ : ∃ ky : Nat, ny = (ky : Int) := ⟨ny.toNat, by omega⟩
          rw [Int.toNat_natCast] at HAPP hry
          obtain ⟨Ad, cd, rfl, hcx⟩ := HRX.out kx (by omega)
          obtain ⟨Ad2, cd2, he2, hcy⟩ := HRX.out ky (by omega)
          injection he2 with he2 _ he3
          injection he2 with he2
          subst he2
          clear he3
          clear HRX
          generalize (dpL q k).getD kx 0 = dx at *
          generalize (dpL q k).getD ky 0 = dy at *
          have hmx := fun (ts : Array TypeId) (ty : TypeId) (W : World) => max2_run (P := Try.prog) ts ty dx dy (max dx dy) W rfl
          have hmr1 : 0 ≤ max dx dy ∧ max dx dy ≤ k := by omega
          clear hmax
          generalize max dx dy = mx at *
          have hw1 : wrap64 (mx + 1) = mx + 1 := by unfold wrap64; omega
          have hw2 : IntKind.i64.wrap (mx + 1) = mx + 1 := by rw [IntKind.wrap_i64]; omega
          go_wp2_with fail
          refine (HUX.out _).mono ?_
          rintro e w2 ⟨rfl, rfl⟩
          go_wp2_with fail
          refine (HUY.out _).mono ?_
          rintro e w2 ⟨rfl, rfl⟩
          go_wp2_with (at_builtin; refine wpList_append_own _ rfl _ _ 52 rfl w1.heap.size 3 i0 (.int .i64 0) 1 8 Try.underlying52 hi hz0 hz1 hz2 rfl (by decide) _ _ _ rfl (hO.alloc _) ⟨wr.heap.size, 0, none⟩ 1 1 [.int .i64 (mx + 1)] rfl rfl ?k1 ?k2 ?k3 ?k4 ?k5 ?_)
          case k1 =>
            intro j u hj
            match j, hj with
            | 0, hj => simp at hj; subst hj; simp [Addr.add]
          case k2 => intro u hu; simp at hu; subst hu; rfl
          case k3 => unfold maxLen; omega
          case k4 => omega
          case k5 => simp; omega
          intro v' w3 hown' hgrow _
          obtain ⟨HO2, HB2⟩ := HAPP.out (mx + 1) v' _ w3 (by first | (simp <;> omega) | omega) hown' hgrow
          clear hown' hgrow hO
          go_wp2
          go_roundw
          case rel => exact ⟨k + 1, by omega, by go_num, HO2, HB2⟩
          case measure => simp [intOf]; omega
        · rw [show usesX 15 = true from rfl] at HUX hone
          rw [show usesY 15 = false from rfl] at HUY htwo
          rw [show modalOp 15 = true from rfl] at HAPP
          rw [if_pos rfl] at hone
          obtain ⟨kx, rfl⟩ : ∃ kx : Nat, nx = (kx : Int) := ⟨nx.toNat, by omega⟩
          rw [Int.toNat_natCast] at HAPP hrx
          rw [if_neg (by decide)] at htwo
          subst htwo
          rw [show (0 : Int).toNat = 0 from rfl, hdz] at HAPP
          obtain ⟨Ad, cd, rfl, hcx⟩ := HRX.out kx (by omega)
          clear HRX
          generalize (dpL q k).getD kx 0 = dx at *
          have hw1 : wrap64 (dx + 1) = dx + 1 := by unfold wrap64; omega
          have hw2 : IntKind.i64.wrap (dx + 1) = dx + 1 := by rw [IntKind.wrap_i64]; omega
          go_wp2_with fail
          refine (HUX.out _).mono ?_
          rintro e w2 ⟨rfl, rfl⟩
          go_wp2_with fail
          refine (HUY.out _).mono ?_
          rintro e w2 ⟨rfl, rfl⟩
          go_wp2_with (at_builtin; refine wpList_append_own _ rfl _ _ 52 rfl w1.heap.size 3 i0 (.int .i64 0) 1 8 Try.underlying52 hi hz0 hz1 hz2 rfl (by decide) _ _ _ rfl (hO.alloc _) ⟨wr.heap.size, 0, none⟩ 1 1 [.int .i64 (dx + 1)] rfl rfl ?k1 ?k2 ?k3 ?k4 ?k5 ?_)
          case k1 =>
            intro j u hj
            match j, hj with
            | 0, hj => simp at hj; subst hj; simp [Addr.add]
          case k2 => intro u hu; simp at hu; subst hu; rfl
          case k3 => unfold maxLen; omega
          case k4 => omega
          case k5 => simp; omega
          intro v' w3 hown' hgrow _
          obtain ⟨HO2, HB2⟩ := HAPP.out (dx + 1) v' _ w3 (by first | (simp <;> omega) | omega) hown' hgrow
          clear hown' hgrow hO
          go_wp2
          go_roundw
          case rel => exact ⟨k + 1, by omega, by go_num, HO2, HB2⟩
          case measure => simp [intOf]; omega
        · rw [show usesX 16 = true from rfl] at HUX hone
          rw [show usesY 16 = true from rfl] at HUY htwo
          rw [show modalOp 16 = false from rfl] at HAPP
          rw [if_pos rfl] at hone
          obtain ⟨kx, rfl⟩ : ∃ kx : Nat, nx = (kx : Int) := ⟨nx.toNat, by omega⟩
          rw [Int.toNat_natCast] at HAPP hrx
          rw [if_pos rfl] at htwo
          obtain ⟨ky, rfl⟩ : ∃ ky : Nat, ny = (ky : Int) := ⟨ny.toNat, by omega⟩
          rw [Int.toNat_natCast] at HAPP hry
          obtain ⟨Ad, cd, rfl, hcx⟩ := HRX.out kx (by omega)
          obtain ⟨Ad2, cd2, he2, hcy⟩ := HRX.out ky (by omega)
          injection he2 with he2 _ he3
          injection he2 with he2
          subst he2
          clear he3
          clear HRX
          generalize (dpL q k).getD kx 0 = dx at *
          generalize (dpL q k).getD ky 0 = dy at *
          have hmx := fun (ts : Array TypeId) (ty : TypeId) (W : World) => max2_run (P := Try.prog) ts ty dx dy (max dx dy) W rfl
          have hmr1 : 0 ≤ max dx dy ∧ max dx dy ≤ k := by omega
          clear hmax
          generalize max dx dy = mx at *
          go_wp2_with fail
          refine (HUX.out _).mono ?_
          rintro e w2 ⟨rfl, rfl⟩
          go_wp2_with fail
          refine (HUY.out _).mono ?_
          rintro e w2 ⟨rfl, rfl⟩
          go_wp2_with (at_builtin; refine wpList_append_own _ rfl _ _ 52 rfl w1.heap.size 3 i0 (.int .i64 0) 1 8 Try.underlying52 hi hz0 hz1 hz2 rfl (by decide) _ _ _ rfl (hO.alloc _) ⟨wr.heap.size, 0, none⟩ 1 1 [.int .i64 (mx)] rfl rfl ?k1 ?k2 ?k3 ?k4 ?k5 ?_)
          case k1 =>
            intro j u hj
            match j, hj with
            | 0, hj => simp at hj; subst hj; simp [Addr.add]
          case k2 => intro u hu; simp at hu; subst hu; rfl
          case k3 => unfold maxLen; omega
          case k4 => omega
          case k5 => simp; omega
          intro v' w3 hown' hgrow _
          obtain ⟨HO2, HB2⟩ := HAPP.out (mx) v' _ w3 (by first | (simp <;> omega) | omega) hown' hgrow
          clear hown' hgrow hO
          go_wp2
          go_roundw
          case rel => exact ⟨k + 1, by omega, by go_num, HO2, HB2⟩
          case measure => simp [intOf]; omega
        · rw [show usesX 17 = true from rfl] at HUX hone
          rw [show usesY 17 = false from rfl] at HUY htwo
          rw [show modalOp 17 = false from rfl] at HAPP
          rw [if_pos rfl] at hone
          obtain ⟨kx, rfl⟩ : ∃ kx : Nat, nx = (kx : Int) := ⟨nx.toNat, by omega⟩
          rw [Int.toNat_natCast] at HAPP hrx
          rw [if_neg (by decide)] at htwo
          subst htwo
          rw [show (0 : Int).toNat = 0 from rfl, hdz] at HAPP
          obtain ⟨Ad, cd, rfl, hcx⟩ := HRX.out kx (by omega)
          clear HRX
          generalize (dpL q k).getD kx 0 = dx at *
          go_wp2_with fail
          refine (HUX.out _).mono ?_
          rintro e w2 ⟨rfl, rfl⟩
          go_wp2_with fail
          refine (HUY.out _).mono ?_
          rintro e w2 ⟨rfl, rfl⟩
          go_wp2_with (at_builtin; refine wpList_append_own _ rfl _ _ 52 rfl w1.heap.size 3 i0 (.int .i64 0) 1 8 Try.underlying52 hi hz0 hz1 hz2 rfl (by decide) _ _ _ rfl (hO.alloc _) ⟨wr.heap.size, 0, none⟩ 1 1 [.int .i64 (dx)] rfl rfl ?k1 ?k2 ?k3 ?k4 ?k5 ?_)
          case k1 =>
            intro j u hj
            match j, hj with
            | 0, hj => simp at hj; subst hj; simp [Addr.add]
          case k2 => intro u hu; simp at hu; subst hu; rfl
          case k3 => unfold maxLen; omega
          case k4 => omega
          case k5 => simp; omega
          intro v' w3 hown' hgrow _
          obtain ⟨HO2, HB2⟩ := HAPP.out (dx) v' _ w3 (by first | (simp <;> omega) | omega) hown' hgrow
          clear hown' hgrow hO
          go_wp2
          go_roundw
          case rel => exact ⟨k + 1, by omega, by go_num, HO2, HB2⟩
          case measure => simp [intOf]; omega
        · rw [show usesX 18 = true from rfl] at HUX hone
          rw [show usesY 18 = false from rfl] at HUY htwo
          rw [show modalOp 18 = true from rfl] at HAPP
          rw [if_pos rfl] at hone
          obtain ⟨kx, rfl⟩ : ∃ kx : Nat, nx = (kx : Int) := ⟨nx.toNat, by omega⟩
          rw [Int.toNat_natCast] at HAPP hrx
          rw [if_neg (by decide)] at htwo
          subst htwo
          rw [show (0 : Int).toNat = 0 from rfl, hdz] at HAPP
          obtain ⟨Ad, cd, rfl, hcx⟩ := HRX.out kx (by omega)
          clear HRX
          generalize (dpL q k).getD kx 0 = dx at *
          have hw1 : wrap64 (dx + 1) = dx + 1 := by unfold wrap64; omega
          have hw2 : IntKind.i64.wrap (dx + 1) = dx + 1 := by rw [IntKind.wrap_i64]; omega
          go_wp2_with fail
          refine (HUX.out _).mono ?_
          rintro e w2 ⟨rfl, rfl⟩
          go_wp2_with fail
          refine (HUY.out _).mono ?_
          rintro e w2 ⟨rfl, rfl⟩
          go_wp2_with (at_builtin; refine wpList_append_own _ rfl _ _ 52 rfl w1.heap.size 3 i0 (.int .i64 0) 1 8 Try.underlying52 hi hz0 hz1 hz2 rfl (by decide) _ _ _ rfl (hO.alloc _) ⟨wr.heap.size, 0, none⟩ 1 1 [.int .i64 (dx + 1)] rfl rfl ?k1 ?k2 ?k3 ?k4 ?k5 ?_)
          case k1 =>
            intro j u hj
            match j, hj with
            | 0, hj => simp at hj; subst hj; simp [Addr.add]
          case k2 => intro u hu; simp at hu; subst hu; rfl
          case k3 => unfold maxLen; omega
          case k4 => omega
          case k5 => simp; omega
          intro v' w3 hown' hgrow _
          obtain ⟨HO2, HB2⟩ := HAPP.out (dx + 1) v' _ w3 (by first | (simp <;> omega) | omega) hown' hgrow
          clear hown' hgrow hO
          go_wp2
          go_roundw
          case rel => exact ⟨k + 1, by omega, by go_num, HO2, HB2⟩
          case measure => simp [intOf]; omega
        · rw [show usesX 19 = true from rfl] at HUX hone
          rw [show usesY 19 = true from rfl] at HUY htwo
          rw [show modalOp 19 = true from rfl] at HAPP
          rw [if_pos rfl] at hone
          obtain ⟨kx, rfl⟩ : ∃ kx : Nat, nx = (kx : Int) := ⟨nx.toNat, by omega⟩
          rw [Int.toNat_natCast] at HAPP hrx
          rw [if_pos rfl] at htwo
          obtain ⟨ky, rfl⟩ : ∃ ky : Nat, ny = (ky : Int) := ⟨ny.toNat, by omega⟩
          rw [Int.toNat_natCast] at HAPP hry
          obtain ⟨Ad, cd, rfl, hcx⟩ := HRX.out kx (by omega)
          obtain ⟨Ad2, cd2, he2, hcy⟩ := HRX.out ky (by omega)
          injection he2 with he2 _ he3
          injection he2 with he2
          subst he2
          clear he3
          clear HRX
          generalize (dpL q k).getD kx 0 = dx at *
          generalize (dpL q k).getD ky 0 = dy at *
          have hmx := fun (ts : Array TypeId) (ty : TypeId) (W : World) => max2_run (P := Try.prog) ts ty dx dy (max dx dy) W rfl
          have hmr1 : 0 ≤ max dx dy ∧ max dx dy ≤ k := by omega
          clear hmax
          generalize max dx dy = mx at *
          have hw1 : wrap64 (mx + 1) = mx + 1 := by unfold wrap64; omega
          have hw2 : IntKind.i64.wrap (mx + 1) = mx + 1 := by rw [IntKind.wrap_i64]; omega
          go_wp2_with fail
          refine (HUX.out _).mono ?_
          rintro e w2 ⟨rfl, rfl⟩
          go_wp2_with fail
          refine (HUY.out _).mono ?_
          rintro e w2 ⟨rfl, rfl⟩
          go_wp2_with (at_builtin; refine wpList_append_own _ rfl _ _ 52 rfl w1.heap.size 3 i0 (.int .i64 0) 1 8 Try.underlying52 hi hz0 hz1 hz2 rfl (by decide) _ _ _ rfl (hO.alloc _) ⟨wr.heap.size, 0, none⟩ 1 1 [.int .i64 (mx + 1)] rfl rfl ?k1 ?k2 ?k3 ?k4 ?k5 ?_)
          case k1 =>
            intro j u hj
            match j, hj with
            | 0, hj => simp at hj; subst hj; simp [Addr.add]
          case k2 => intro u hu; simp at hu; subst hu; rfl
          case k3 => unfold maxLen; omega
          case k4 => omega
          case k5 => simp; omega
          intro v' w3 hown' hgrow _
          obtain ⟨HO2, HB2⟩ := HAPP.out (mx + 1) v' _ w3 (by first | (simp <;> omega) | omega) hown' hgrow
          clear hown' hgrow hO
          go_wp2
          go_roundw
          case rel => exact ⟨k + 1, by omega, by go_num, HO2, HB2⟩
          case measure => simp [intOf]; omega
        · rw [show usesX 20 = true from rfl] at HUX hone
          rw [show usesY 20 = false from rfl] at HUY htwo
          rw [show modalOp 20 = true from rfl] at HAPP
          rw [if_pos rfl] at hone
          obtain ⟨kx, rfl⟩ : ∃ kx : Nat, nx = (kx : Int) := ⟨nx.toNat, by omega⟩
          rw [Int.toNat_natCast] at HAPP hrx
          rw [if_neg (by decide)] at htwo
          subst htwo
          rw [show (0 : Int).toNat = 0 from rfl, hdz] at HAPP
          obtain ⟨Ad, cd, rfl, hcx⟩ := HRX.out kx (by omega)
          clear HRX
          generalize (dpL q k).getD kx 0 = dx at *
          have hw1 : wrap64 (dx + 1) = dx + 1 := by unfold wrap64; omega
          have hw2 : IntKind.i64.wrap (dx + 1) = dx + 1 := by rw [IntKind.wrap_i64]; omega
          go_wp2_with fail
          refine (HUX.out _).mono ?_
          rintro e w2 ⟨rfl, rfl⟩
          go_wp2_with fail
          refine (HUY.out _).mono ?_
          rintro e w2 ⟨rfl, rfl⟩
          go_wp2_with (at_builtin; refine wpList_append_own _ rfl _ _ 52 rfl w1.heap.size 3 i0 (.int .i64 0) 1 8 Try.underlying52 hi hz0 hz1 hz2 rfl (by decide) _ _ _ rfl (hO.alloc _) ⟨wr.heap.size, 0, none⟩ 1 1 [.int .i64 (dx + 1)] rfl rfl ?k1 ?k2 ?k3 ?k4 ?k5 ?_)
          case k1 =>
            intro j u hj
            match j, hj with
            | 0, hj => simp at hj; subst hj; simp [Addr.add]
          case k2 => intro u hu; simp at hu; subst hu; rfl
          case k3 => unfold maxLen; omega
          case k4 => omega
          case k5 => simp; omega
          intro v' w3 hown' hgrow _
          obtain ⟨HO2, HB2⟩ := HAPP.out (dx + 1) v' _ w3 (by first | (simp <;> omega) | omega) hown' hgrow
          clear hown' hgrow hO
          go_wp2
          go_roundw
          case rel => exact ⟨k + 1, by omega, by go_num, HO2, HB2⟩
          case measure => simp [intOf]; omega
        · rw [show usesX 21 = true from rfl] at HUX hone
          rw [show usesY 21 = true from rfl] at HUY htwo
          rw [show modalOp 21 = true from rfl] at HAPP
          rw [if_pos rfl] at hone
          obtain ⟨kx, rfl⟩ : ∃ kx : Nat, nx = (kx : Int) := ⟨nx.toNat, by omega⟩
          rw [Int.toNat_natCast] at HAPP hrx
          rw [if_pos rfl] at htwo
          obtain ⟨ky, rfl⟩ : ∃ ky : Nat, ny = (ky : Int) := ⟨ny.toNat, by omega⟩
          rw [Int.toNat_natCast] at HAPP hry
          obtain ⟨Ad, cd, rfl, hcx⟩ := HRX.out kx (by omega)
          obtain ⟨Ad2, cd2, he2, hcy⟩ := HRX.out ky (by omega)
          injection he2 with he2 _ he3
          injection he2 with he2
          subst he2
          clear he3
          clear HRX
          generalize (dpL q k).getD kx 0 = dx at *
          generalize (dpL q k).getD ky 0 = dy at *
          have hmx := fun (ts : Array TypeId) (ty : TypeId) (W : World) => max2_run (P := Try.prog) ts ty dx dy (max dx dy) W rfl
          have hmr1 : 0 ≤ max dx dy ∧ max dx dy ≤ k := by omega
          clear hmax
          generalize max dx dy = mx at *
          have hw1 : wrap64 (mx + 1) = mx + 1 := by unfold wrap64; omega
          have hw2 : IntKind.i64.wrap (mx + 1) = mx + 1 := by rw [IntKind.wrap_i64]; omega
          go_wp2_with fail
          refine (HUX.out _).mono ?_
          rintro e w2 ⟨rfl, rfl⟩
          go_wp2_with fail
          refine (HUY.out _).mono ?_
          rintro e w2 ⟨rfl, rfl⟩
          go_wp2_with (at_builtin; refine wpList_append_own _ rfl _ _ 52 rfl w1.heap.size 3 i0 (.int .i64 0) 1 8 Try.underlying52 hi hz0 hz1 hz2 rfl (by decide) _ _ _ rfl (hO.alloc _) ⟨wr.heap.size, 0, none⟩ 1 1 [.int .i64 (mx + 1)] rfl rfl ?k1 ?k2 ?k3 ?k4 ?k5 ?_)
          case k1 =>
            intro j u hj
            match j, hj with
            | 0, hj => simp at hj; subst hj; simp [Addr.add]
          case k2 => intro u hu; simp at hu; subst hu; rfl
          case k3 => unfold maxLen; omega
          case k4 => omega
          case k5 => simp; omega
          intro v' w3 hown' hgrow _
          obtain ⟨HO2, HB2⟩ := HAPP.out (mx + 1) v' _ w3 (by first | (simp <;> omega) | omega) hown' hgrow
          clear hown' hgrow hO
          go_wp2
          go_roundw
          case rel => exact ⟨k + 1, by omega, by go_num, HO2, HB2⟩
          case measure => simp [intOf]; omega
      · have hkq : k = q.length := by omega
        subst hkq
        have HL : Hid (dv = (dpL q q.length).getD (q.length - 1) 0) := Lib.hid (by
          have hl := dpL_len q q.length (Nat.le_refl _)
          rw [HDV.out, List.getLastD_eq_getLast?, List.getLast?_eq_getElem?, hl, ← List.getD_eq_getElem?_getD])
        obtain ⟨Ad, cd, rfl, hcl⟩ := own_int HO.out (k := q.length - 1) (by omega)
        have hne : ((q.length : Int) == 0) = false := by rw [beq_eq_false_iff_ne]; omega
        have hs1 : wrap64 ((q.length : Int) - 1) = ((q.length - 1 : Nat) : Int) := by unfold wrap64; omega
        have hs2 : IntKind.i64.wrap ((q.length : Int) - 1) = ((q.length - 1 : Nat) : Int) := by rw [IntKind.wrap_i64]; omega
        have hs3 : (q.length : Int) - 1 = ((q.length - 1 : Nat) : Int) := by omega
        rw [← HL.out] at hcl
        clear HL hlt
        go_wp2
        go_ret
        exact ⟨rfl, HB1.out.trans (HB.out.mono HB1.out.size)⟩
end Go.Proofs.Ytcbmncafmofcpaa
