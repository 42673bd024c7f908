/- Layer 17: CheckerTables: propositional formulas hold at a world by their truth tables. -/
import Derived.Test.YtjpmhbnikoggaaaDoorNKg
namespace Go.Proofs.YtjpmhbnikoggaaaDoor.checkerTables
open Go.ChangeShapes Go.WideShapes Go.ChangeAt Go.RowKit Go.Proofs.YtjpmhbnikoggaaaDoor Go.Proofs.YtjpmhbnikoggaaaDoor.ckf Go.Proofs.Ws
open Go.ChangeMaps (open_string shut_string)
set_option maxRecDepth 100000
set_option maxHeartbeats 16000000 in
theorem walk (m : Mo) (v : Value) (fF : List Nd) (AF : Option Addr) (nF cF : Nat) (fH : List Nd) (AH : Option Addr) (nH cH : Nat) (w : World) (hM : MoR w w.heap.size v m) (hRF : Reads w w.heap.size 6 AF nF (nds fF)) (hmF : nF ≤ maxLen) (hRH : Reads w w.heap.size 6 AH nH (nds fH)) (hmH : nH ≤ maxLen) (hT : Tab w) :
    Calls Tryd.prog 8 #[v, .slice AF nF cF, .slice AH nH cH] w fun e w' => e = .returned (.bool true) ∧ Below w.heap.size w w' := by
  obtain ⟨A1, c1, A2, c2, rfl, hv, hr⟩ := hM.ex
  have HB0 := Lib.hid ((Below.refl w.heap.size w).alloc (Nat.le_refl _) (.cells #[.int .i64 m.n, .slice A1 m.val.length c1, .slice A2 m.rel.length c2] 25))
  have KB0 := Lib.hid (MBox.made w m.n (.slice A1 m.val.length c1) (.slice A2 m.rel.length c2))
  have HMW := Lib.hid (fun W (hb : Below w.heap.size w W) => hM.below hb hb.size)
  have HT := Lib.hid (fun W (hb : Below w.heap.size w W) => hT.below hb)
  have HAW : Hid (∀ W, Below w.heap.size w W → Calls Tryd.prog 9 #[] W fun e w' => e = .returned (.bool true) ∧ Below W.heap.size W w') := Lib.hid (fun W hb => awake17_any W (hT.below hb))
  have HFF := Lib.hid (fun W (hb : Below w.heap.size w W) => (hRF.below hb).more hb.size)
  have HMF := Lib.hid hmF
  have HFH := Lib.hid (fun W (hb : Below w.heap.size w W) => (hRH.below hb).more hb.size)
  have HMH := Lib.hid hmH
  clear hM hT hv hr hRF hmF hRH hmH
  have HSF := Lib.hid (fun W (hb : Below w.heap.size w W) => lSet_any m _ fF AF nF cF W (HMW.out W hb) (HFF.out W hb) HMF.out (HT.out W hb))
  have HSH := Lib.hid (fun W (hb : Below w.heap.size w W) => lSet_any m _ fH AH nH cH W (HMW.out W hb) (HFH.out W hb) HMH.out (HT.out W hb))
  have HCK := Lib.hid (fun W (hb : Below w.heap.size w W) => rCheck_any m _ W (HMW.out W hb))
  go_enter Tryd.func8, Tryd.ntmps8
  go_wp2_with fail
  refine (HAW.out _ HB0.out).mono ?_
  rintro e w1 ⟨rfl, hb⟩
  have HB1 := Lib.hid (HB0.out.trans (hb.mono HB0.out.size))
  have KB1 := Lib.hid (KB0.out.below hb KB0.out.lt)
  clear hb
  have hal := (Below.refl w1.heap.size w1).alloc (Nat.le_refl _) (.cells #[.slice AF nF cF, .slice AH nH cH] 26)
  have HB1a := Lib.hid (HB1.out.trans (hal.mono HB1.out.size))
  have KB1a := Lib.hid (KB1.out.below hal KB1.out.lt)
  clear hal
  have HFE := Lib.hid (lFew_anyC m _ [nF, nH] w1.heap.size 2 (w1.alloc (.cells #[.slice AF nF cF, .slice AH nH cH] 26)) (HMW.out _ HB1a.out) rfl (by decide) (by simp) (fun j hj => by
    match j, hj with
    | 0, _ => exact ⟨AF, cF, (Lib.cell_of_heap (heap_alloc_new w1 (.cells #[.slice AF nF cF, .slice AH nH cH] 26)) 0).trans rfl⟩
    | 1, _ => exact ⟨AH, cH, (Lib.cell_of_heap (heap_alloc_new w1 (.cells #[.slice AF nF cF, .slice AH nH cH] 26)) 1).trans rfl⟩))
  generalize hfb : ([nF, nH].all (fun x => decide (x ≤ 60)) && fewK m 16) = fb at *
  have b0 := KB1.out.c0
  have b1 := KB1.out.c1
  have b2 := KB1.out.c2
  cases fb with
  | false =>
    clear hfb
    go_wp2_with fail
    refine (HFE.out).mono ?_
    rintro e w2 ⟨rfl, hb⟩
    have HB2 := Lib.hid (HB1a.out.trans (hb.mono HB1a.out.size))
    have KB2 := Lib.hid (KB1a.out.below hb KB1a.out.lt)
    clear hb
    clear b0 b1 b2
    go_wp2_with fail
    refine (HAW.out _ HB2.out).mono ?_
    rintro e w99 ⟨rfl, hb⟩
    have HB99 := Lib.hid (HB2.out.trans (hb.mono HB2.out.size))
    clear hb
    go_wp2
    go_ret
    exact ⟨rfl, HB99.out⟩
  | true =>
    have HFB := Lib.hid hfb
    clear hfb
    go_wp2_with fail
    refine (HFE.out).mono ?_
    rintro e w2 ⟨rfl, hb⟩
    have HB2 := Lib.hid (HB1a.out.trans (hb.mono HB1a.out.size))
    have KB2 := Lib.hid (KB1a.out.below hb KB1a.out.lt)
    clear hb HFE
    clear b0 b1 b2
    by_cases hz : chkM m = 0
    case neg =>
      have hz1 : (chkM m != 0) = true := by rw [bne_iff_ne]; exact hz
      generalize chkM m = cm at *
      have b0 := KB2.out.c0
      have b1 := KB2.out.c1
      have b2 := KB2.out.c2
      go_wp2_with fail
      refine (HCK.out _ HB2.out).mono ?_
      rintro e w3 ⟨rfl, hb⟩
      have HB3 := Lib.hid (HB2.out.trans (hb.mono HB2.out.size))
      have KB3 := Lib.hid (KB2.out.below hb KB2.out.lt)
      clear hb
      clear b0 b1 b2
      go_wp2_with fail
      refine (HAW.out _ HB3.out).mono ?_
      rintro e w99 ⟨rfl, hb⟩
      have HB99 := Lib.hid (HB3.out.trans (hb.mono HB3.out.size))
      clear hb
      go_wp2
      go_ret
      exact ⟨rfl, HB99.out⟩
    rw [hz] at HCK
    have b0 := KB2.out.c0
    have b1 := KB2.out.c1
    have b2 := KB2.out.c2
    go_wp2_with fail
    refine (HCK.out _ HB2.out).mono ?_
    rintro e w3 ⟨rfl, hb⟩
    have HB3 := Lib.hid (HB2.out.trans (hb.mono HB2.out.size))
    have KB3 := Lib.hid (KB2.out.below hb KB2.out.lt)
    clear hb HCK
    clear b0 b1 b2
    have HN60 : Hid (nF ≤ 60 ∧ nH ≤ 60) := Lib.hid (by
      have h := HFB.out
      simp at h
      exact ⟨h.1.1, h.1.2⟩)
    have HLF := Lib.hid (HFF.out w3 HB3.out).nd_len
    have HLH := Lib.hid (HFH.out w3 HB3.out).nd_len
    by_cases hcF : chkF m fF = 0
    case neg =>
      rw [decide_eq_false hcF] at HSF
      clear hcF
      generalize holdV m fF = hF at *
      generalize decide (chkF m fH = 0) = dH at *
      generalize holdV m fH = hH at *
      have b0 := KB3.out.c0
      have b1 := KB3.out.c1
      have b2 := KB3.out.c2
      go_wp2_with fail
      refine (HSF.out _ HB3.out).mono ?_
      rintro e w4 ⟨rfl, hb⟩
      have HB4 := Lib.hid (HB3.out.trans (hb.mono HB3.out.size))
      have KB4 := Lib.hid (KB3.out.below hb KB3.out.lt)
      clear hb
      clear b0 b1 b2
      have b0 := KB4.out.c0
      have b1 := KB4.out.c1
      have b2 := KB4.out.c2
      go_wp2_with fail
      refine (HSH.out _ HB4.out).mono ?_
      rintro e w5 ⟨rfl, hb⟩
      have HB5 := Lib.hid (HB4.out.trans (hb.mono HB4.out.size))
      have KB5 := Lib.hid (KB4.out.below hb KB4.out.lt)
      clear hb
      clear b0 b1 b2
      go_wp2
      go_ret
      exact ⟨rfl, HB5.out⟩
    by_cases hcH : chkF m fH = 0
    case neg =>
      rw [decide_eq_true hcF] at HSF
      rw [decide_eq_false hcH] at HSH
      clear hcH
      generalize holdV m fF = hF at *
      generalize holdV m fH = hH at *
      have b0 := KB3.out.c0
      have b1 := KB3.out.c1
      have b2 := KB3.out.c2
      go_wp2_with fail
      refine (HSF.out _ HB3.out).mono ?_
      rintro e w4 ⟨rfl, hb⟩
      have HB4 := Lib.hid (HB3.out.trans (hb.mono HB3.out.size))
      have KB4 := Lib.hid (KB3.out.below hb KB3.out.lt)
      clear hb
      clear b0 b1 b2
      have b0 := KB4.out.c0
      have b1 := KB4.out.c1
      have b2 := KB4.out.c2
      go_wp2_with fail
      refine (HSH.out _ HB4.out).mono ?_
      rintro e w5 ⟨rfl, hb⟩
      have HB5 := Lib.hid (HB4.out.trans (hb.mono HB4.out.size))
      have KB5 := Lib.hid (KB4.out.below hb KB4.out.lt)
      clear hb
      clear b0 b1 b2
      go_wp2
      go_ret
      exact ⟨rfl, HB5.out⟩
    have MF : Mng m fF 60 (holdV m fF) := Mng.of hcF (by rw [HLF.out]; exact HN60.out.1)
    have MH : Mng m fH 60 (holdV m fH) := Mng.of hcH (by rw [HLH.out]; exact HN60.out.2)
    rw [decide_eq_true hcF] at HSF
    rw [decide_eq_true hcH] at HSH
    clear hcF hcH
    have ok0 := chkM_ok hz
    obtain ⟨N, hN⟩ : ∃ N : Nat, m.n = (N : Int) := ⟨m.n.toNat, ok0.num⟩
    have ok : OkM N m := by have h := ok0; rw [hN] at h; simpa using h
    clear ok0
    have hle := ok.le
    have HAL := Lib.hid (fun W => rAll_any N W hle)
    rw [← hN, ← allV_natC hle, ← hN] at HAL
    have hwv : Words m.val := (HMW.out w3 HB3.out).wval
    have hFl : holdV m fF < 18446744073709551616 := holdV_lt hwv fF
    have hHl : holdV m fH < 18446744073709551616 := holdV_lt hwv fH
    have hAl : allV m.n < 18446744073709551616 := allV_lt _
    obtain ⟨GN, hGN⟩ : ∃ G, buildF ⟨4, 0, 0, 0, 0, 0⟩ [fF] = G := ⟨_, rfl⟩
    have MGN : Mng m GN (60 + 1) (anN (allV m.n) (holdV m fF)) := hGN ▸ MF.un (by decide) (op_not _ _) rfl rfl
    have HCGN : Hid (∀ (W : World), Below w.heap.size w W → Calls Tryd.prog 14 #[.slice AF nF cF] W fun e w' => ∃ A' c', e = .returned (.slice A' GN.length c') ∧ Reads w' w'.heap.size 6 A' GN.length (nds GN) ∧ Below W.heap.size W w') := Lib.hid (fun W hb => hGN ▸ pNot_any fF AF _ cF W (HFF.out W hb) HMF.out)
    have HSGN : Hid (∀ (W : World) (A : Option Addr) (c : Nat), Below w.heap.size w W → Reads W W.heap.size 6 A GN.length (nds GN) → Calls Tryd.prog 12 #[.agg #[.int .i64 m.n, .slice A1 m.val.length c1, .slice A2 m.rel.length c2], .slice A GN.length c] W fun e w' => e = .returned (.tuple #[.int .u64 ((anN (allV m.n) (holdV m fF) : Nat) : Int), .bool true]) ∧ Below W.heap.size W w') := Lib.hid (fun W A c hb hr => by
      have h := lSet_any m _ GN A GN.length c W (HMW.out W hb) hr (Nat.le_trans MGN.len (by unfold maxLen; omega)) (HT.out W hb)
      rw [MGN.val, MGN.chk] at h
      exact h)
    obtain ⟨GA, hGA⟩ : ∃ G, buildF ⟨5, 0, 0, 0, 0, 0⟩ [fF, fH] = G := ⟨_, rfl⟩
    have MGA : Mng m GA (60 + 60 + 1) (holdV m fF &&& holdV m fH) := hGA ▸ MF.bin MH (by decide) (op_and _ _) rfl rfl
    have HCGA : Hid (∀ (W : World), Below w.heap.size w W → Calls Tryd.prog 25 #[.slice AF nF cF, .slice AH nH cH] W fun e w' => ∃ A' c', e = .returned (.slice A' GA.length c') ∧ Reads w' w'.heap.size 6 A' GA.length (nds GA) ∧ Below W.heap.size W w') := Lib.hid (fun W hb => hGA ▸ pAnd_any fF AF _ cF fH AH _ cH W (HFF.out W hb) HMF.out (HFH.out W hb) HMH.out)
    have HSGA : Hid (∀ (W : World) (A : Option Addr) (c : Nat), Below w.heap.size w W → Reads W W.heap.size 6 A GA.length (nds GA) → Calls Tryd.prog 12 #[.agg #[.int .i64 m.n, .slice A1 m.val.length c1, .slice A2 m.rel.length c2], .slice A GA.length c] W fun e w' => e = .returned (.tuple #[.int .u64 ((holdV m fF &&& holdV m fH : Nat) : Int), .bool true]) ∧ Below W.heap.size W w') := Lib.hid (fun W A c hb hr => by
      have h := lSet_any m _ GA A GA.length c W (HMW.out W hb) hr (Nat.le_trans MGA.len (by unfold maxLen; omega)) (HT.out W hb)
      rw [MGA.val, MGA.chk] at h
      exact h)
    obtain ⟨GO, hGO⟩ : ∃ G, buildF ⟨6, 0, 0, 0, 0, 0⟩ [fF, fH] = G := ⟨_, rfl⟩
    have MGO : Mng m GO (60 + 60 + 1) (holdV m fF ||| holdV m fH) := hGO ▸ MF.bin MH (by decide) (op_or _ _) rfl rfl
    have HCGO : Hid (∀ (W : World), Below w.heap.size w W → Calls Tryd.prog 26 #[.slice AF nF cF, .slice AH nH cH] W fun e w' => ∃ A' c', e = .returned (.slice A' GO.length c') ∧ Reads w' w'.heap.size 6 A' GO.length (nds GO) ∧ Below W.heap.size W w') := Lib.hid (fun W hb => hGO ▸ pOr_any fF AF _ cF fH AH _ cH W (HFF.out W hb) HMF.out (HFH.out W hb) HMH.out)
    have HSGO : Hid (∀ (W : World) (A : Option Addr) (c : Nat), Below w.heap.size w W → Reads W W.heap.size 6 A GO.length (nds GO) → Calls Tryd.prog 12 #[.agg #[.int .i64 m.n, .slice A1 m.val.length c1, .slice A2 m.rel.length c2], .slice A GO.length c] W fun e w' => e = .returned (.tuple #[.int .u64 ((holdV m fF ||| holdV m fH : Nat) : Int), .bool true]) ∧ Below W.heap.size W w') := Lib.hid (fun W A c hb hr => by
      have h := lSet_any m _ GO A GO.length c W (HMW.out W hb) hr (Nat.le_trans MGO.len (by unfold maxLen; omega)) (HT.out W hb)
      rw [MGO.val, MGO.chk] at h
      exact h)
    obtain ⟨GI, hGI⟩ : ∃ G, buildF ⟨7, 0, 0, 0, 0, 0⟩ [fF, fH] = G := ⟨_, rfl⟩
    have MGI : Mng m GI (60 + 60 + 1) (anN (allV m.n) (holdV m fF) ||| holdV m fH) := hGI ▸ MF.bin MH (by decide) (op_imp _ _) rfl rfl
    have HCGI : Hid (∀ (W : World), Below w.heap.size w W → Calls Tryd.prog 24 #[.slice AF nF cF, .slice AH nH cH] W fun e w' => ∃ A' c', e = .returned (.slice A' GI.length c') ∧ Reads w' w'.heap.size 6 A' GI.length (nds GI) ∧ Below W.heap.size W w') := Lib.hid (fun W hb => hGI ▸ pImp_any fF AF _ cF fH AH _ cH W (HFF.out W hb) HMF.out (HFH.out W hb) HMH.out)
    have HSGI : Hid (∀ (W : World) (A : Option Addr) (c : Nat), Below w.heap.size w W → Reads W W.heap.size 6 A GI.length (nds GI) → Calls Tryd.prog 12 #[.agg #[.int .i64 m.n, .slice A1 m.val.length c1, .slice A2 m.rel.length c2], .slice A GI.length c] W fun e w' => e = .returned (.tuple #[.int .u64 ((anN (allV m.n) (holdV m fF) ||| holdV m fH : Nat) : Int), .bool true]) ∧ Below W.heap.size W w') := Lib.hid (fun W A c hb hr => by
      have h := lSet_any m _ GI A GI.length c W (HMW.out W hb) hr (Nat.le_trans MGI.len (by unfold maxLen; omega)) (HT.out W hb)
      rw [MGI.val, MGI.chk] at h
      exact h)
    obtain ⟨GB, hGB⟩ : ∃ G, buildF ⟨8, 0, 0, 0, 0, 0⟩ [fF, fH] = G := ⟨_, rfl⟩
    have MGB : Mng m GB (60 + 60 + 1) (anN (allV m.n) (holdV m fF ^^^ holdV m fH)) := hGB ▸ MF.bin MH (by decide) (op_iff _ _) rfl rfl
    have HCGB : Hid (∀ (W : World), Below w.heap.size w W → Calls Tryd.prog 27 #[.slice AF nF cF, .slice AH nH cH] W fun e w' => ∃ A' c', e = .returned (.slice A' GB.length c') ∧ Reads w' w'.heap.size 6 A' GB.length (nds GB) ∧ Below W.heap.size W w') := Lib.hid (fun W hb => hGB ▸ pIff_any fF AF _ cF fH AH _ cH W (HFF.out W hb) HMF.out (HFH.out W hb) HMH.out)
    have HSGB : Hid (∀ (W : World) (A : Option Addr) (c : Nat), Below w.heap.size w W → Reads W W.heap.size 6 A GB.length (nds GB) → Calls Tryd.prog 12 #[.agg #[.int .i64 m.n, .slice A1 m.val.length c1, .slice A2 m.rel.length c2], .slice A GB.length c] W fun e w' => e = .returned (.tuple #[.int .u64 ((anN (allV m.n) (holdV m fF ^^^ holdV m fH) : Nat) : Int), .bool true]) ∧ Below W.heap.size W w') := Lib.hid (fun W A c hb hr => by
      have h := lSet_any m _ GB A GB.length c W (HMW.out W hb) hr (Nat.le_trans MGB.len (by unfold maxLen; omega)) (HT.out W hb)
      rw [MGB.val, MGB.chk] at h
      exact h)
    have q1 := u64_andNot_nat (allV m.n) (holdV m fF) hAl hFl
    have q2 := u64_and_nat (holdV m fF) (holdV m fH) hFl hHl
    have q3 := u64_or_nat (holdV m fF) (holdV m fH) hFl hHl
    have q4 := u64_or_nat (anN (allV m.n) (holdV m fF)) (holdV m fH) (anN_lt _ _ hAl) hHl
    have q5 := u64_andNot_nat (allV m.n) (holdV m fF ||| holdV m fH) hAl (Nat.or_lt_two_pow (n := 64) hFl hHl)
    have q6 := u64_or_nat (holdV m fF &&& holdV m fH) (anN (allV m.n) (holdV m fF ||| holdV m fH)) (Nat.lt_of_le_of_lt Nat.and_le_left hFl) (anN_lt _ _ hAl)
    have HE : Hid (anN (allV m.n) (holdV m fF ^^^ holdV m fH) = holdV m fF &&& holdV m fH ||| anN (allV m.n) (holdV m fF ||| holdV m fH)) := Lib.hid (by rw [hN]; exact iff_bits hle (holdV_bnd ok fF) (holdV_bnd ok fH))
    rw [show allV m.n &&& (18446744073709551615 - holdV m fF) = anN (allV m.n) (holdV m fF) from rfl] at q1
    rw [show allV m.n &&& (18446744073709551615 - (holdV m fF ||| holdV m fH)) = anN (allV m.n) (holdV m fF ||| holdV m fH) from rfl] at q5
    rw [← HE.out] at q6
    clear MF MH ok hle hz hN hwv hFl hHl hAl HN60 hGN MGN hGA MGA hGO MGO hGI MGI hGB MGB
    generalize holdV m fF = hF at *
    generalize holdV m fH = hH at *
    generalize allV m.n = al at *
    generalize hF &&& hH = zA at *
    generalize hF ||| hH = zO at *
    generalize hF ^^^ hH = zX at *
    generalize anN al zX = zB at *
    generalize anN al zO = zC at *
    generalize anN al hF = zN at *
    generalize zN ||| hH = zI at *
    have b0 := KB3.out.c0
    have b1 := KB3.out.c1
    have b2 := KB3.out.c2
    go_wp2_with fail
    refine (HSF.out _ HB3.out).mono ?_
    rintro e w4 ⟨rfl, hb⟩
    have HB4 := Lib.hid (HB3.out.trans (hb.mono HB3.out.size))
    have KB4 := Lib.hid (KB3.out.below hb KB3.out.lt)
    clear hb
    clear b0 b1 b2
    have b0 := KB4.out.c0
    have b1 := KB4.out.c1
    have b2 := KB4.out.c2
    go_wp2_with fail
    refine (HSH.out _ HB4.out).mono ?_
    rintro e w5 ⟨rfl, hb⟩
    have HB5 := Lib.hid (HB4.out.trans (hb.mono HB4.out.size))
    have KB5 := Lib.hid (KB4.out.below hb KB4.out.lt)
    clear hb
    clear b0 b1 b2
    have b0 := KB5.out.c0
    have b1 := KB5.out.c1
    have b2 := KB5.out.c2
    go_wp2_with fail
    refine (HAL.out _).mono ?_
    rintro e w6 ⟨rfl, hb⟩
    subst hb
    clear b0 b1 b2
    go_wp2
    refine wp_region_wild [.agg #[.int .i64 m.n, .slice A1 m.val.length c1, .slice A2 m.rel.length c2], .slice AF nF cF, undef, .tuple #[.int .u64 ((zN : Nat) : Int), .bool true], .tuple #[.int .u64 ((zN : Nat) : Int), .bool true], .int .u64 ((zN : Nat) : Int), .bool true, .int .u64 ((zN : Nat) : Int), .bool true] [60, 61, 62, 63, 59, 64, 65, 12, 13] [0, 2, 3, 5, 6] [2] (vNdQ (fun i => if i = 2 then GN else [])) (fun W => Below w5.heap.size w5 W) (fun W W' => Below W.heap.size W W') 9 154 rfl rfl rfl (by decide) (by decide) (by kernel_rfl) (by kernel_rfl) (by kernel_rfl) (by kernel_rfl) (fun W => Below.refl _ W) (fun W1 W2 W3 h1 h2 => h1.trans (h2.mono h1.size)) (fun W W' h h2 => h.trans (h2.mono h.size)) vNdQ_up (Below.refl w5.heap.size w5).drew (by kernel_rfl) [] rfl ?hop ?fin
    case hop =>
      refine (And.intro ?s0 (And.intro ?s2 (And.intro ?s3 (And.intro ?s5 (And.intro ?s6 trivial)))))
      case s0 =>
        refine And.intro (by rfl) (fun tm W hS hsz hfr hdep K hK => ?_)
        change tm.size = 154 at hsz
        have t3 : tm.getD 3 undef = .pointer (some ⟨w.heap.size, 0, none⟩) := hfr 3 (by rfl)
        have KB9 := KB5.out.below hS KB5.out.lt
        have b0 := KB9.c0
        have b1 := KB9.c1
        have b2 := KB9.c2
        clear KB9
        clear hdep hfr
        go_simp
        exact hK _ W (Below.refl _ W) (wildV_of (by rfl))
      case s2 =>
        refine And.intro (by rfl) (fun tm W hS hsz hfr hdep K hK => ?_)
        change tm.size = 154 at hsz
        have t61 : tm.getD 61 undef = .slice AF nF cF := wildV_known (by rfl) (hdep 1 (by rfl) (by decide))
        clear hdep hfr
        refine wp_call _ _ _ _ _ rfl rfl (by simp [Act.eval, t61]) (by kernel_rfl) (HCGN.out W (HB5.out.trans (hS.mono HB5.out.size))) (fun e W9 h9 => ?_)
        obtain ⟨A9, c9, rfl, hr9, hb9⟩ := h9
        exact ⟨_, rfl, hK _ W9 hb9 (show vNdQ (fun i => if i = 2 then GN else []) 2 (.slice A9 GN.length c9) W9 from ⟨A9, c9, rfl, hr9⟩)⟩
      case s3 =>
        refine And.intro (by rfl) (fun tm W hS hsz hfr hdep K hK => ?_)
        change tm.size = 154 at hsz
        have t60 : tm.getD 60 undef = .agg #[.int .i64 m.n, .slice A1 m.val.length c1, .slice A2 m.rel.length c2] := wildV_known (by rfl) (hdep 0 (by rfl) (by decide))
        have h2 : (vNdQ (fun i => if i = 2 then GN else [])) 2 (tm.getD 62 undef) W := wildV_wild (by rfl) (hdep 2 (by rfl) (by decide))
        clear hdep hfr
        obtain ⟨A2, c2, t62, hR2⟩ := h2
        change tm.getD 62 undef = .slice A2 GN.length c2 at t62
        change Reads W W.heap.size 6 A2 GN.length (nds GN) at hR2
        refine wp_call _ _ _ _ _ rfl rfl (by simp [Act.eval, t60, t62]) (by kernel_rfl) (HSGN.out W A2 c2 (HB5.out.trans (hS.mono HB5.out.size)) hR2) (fun e W9 h9 => ?_)
        obtain ⟨rfl, hb9⟩ := h9
        exact ⟨_, rfl, hK _ W9 hb9 (wildV_of (by rfl))⟩
      case s5 =>
        refine And.intro (by rfl) (fun tm W hS hsz hfr hdep K hK => ?_)
        change tm.size = 154 at hsz
        have t59 : tm.getD 59 undef = .tuple #[.int .u64 ((zN : Nat) : Int), .bool true] := wildV_known (by rfl) (hdep 4 (by rfl) (by decide))
        clear hdep hfr
        go_simp
        exact hK _ W (Below.refl _ W) (wildV_of (by rfl))
      case s6 =>
        refine And.intro (by rfl) (fun tm W hS hsz hfr hdep K hK => ?_)
        change tm.size = 154 at hsz
        have t59 : tm.getD 59 undef = .tuple #[.int .u64 ((zN : Nat) : Int), .bool true] := wildV_known (by rfl) (hdep 4 (by rfl) (by decide))
        clear hdep hfr
        go_simp
        exact hK _ W (Below.refl _ W) (wildV_of (by rfl))
    case fin =>
      intro f w10 hS hV
      have y2 : (vNdQ (fun i => if i = 2 then GN else [])) 2 (f 2) w10 := hV 2 (by decide) (by rfl)
      clear hV
      have hvl : ((List.range 9).map (fun i => if [2].contains i then f i else ([.agg #[.int .i64 m.n, .slice A1 m.val.length c1, .slice A2 m.rel.length c2], .slice AF nF cF, undef, .tuple #[.int .u64 ((zN : Nat) : Int), .bool true], .tuple #[.int .u64 ((zN : Nat) : Int), .bool true], .int .u64 ((zN : Nat) : Int), .bool true, .int .u64 ((zN : Nat) : Int), .bool true] : List Value).getD i undef)) = [.agg #[.int .i64 m.n, .slice A1 m.val.length c1, .slice A2 m.rel.length c2], .slice AF nF cF, f 2, .tuple #[.int .u64 ((zN : Nat) : Int), .bool true], .tuple #[.int .u64 ((zN : Nat) : Int), .bool true], .int .u64 ((zN : Nat) : Int), .bool true, .int .u64 ((zN : Nat) : Int), .bool true] := by rfl
      rw [hvl]
      clear hvl
      have HB10 := Lib.hid (HB5.out.trans (hS.mono HB5.out.size))
      have KB10 := Lib.hid (KB5.out.below hS KB5.out.lt)
      clear hS y2
      generalize f 2 = fv2 at *
      simp only [fillD]
      go_simp
      go_wp2
      refine wp_region_wild [.agg #[.int .i64 m.n, .slice A1 m.val.length c1, .slice A2 m.rel.length c2], .slice AF nF cF, .slice AH nH cH, undef, .tuple #[.int .u64 ((zA : Nat) : Int), .bool true], .tuple #[.int .u64 ((zA : Nat) : Int), .bool true], .int .u64 ((zA : Nat) : Int), .bool true, .int .u64 ((zA : Nat) : Int), .bool true] [67, 68, 69, 70, 71, 66, 72, 73, 14, 15] [0, 3, 4, 6, 7] [3] (vNdQ (fun i => if i = 3 then GA else [])) (fun W => Below w10.heap.size w10 W) (fun W W' => Below W.heap.size W W') 10 154 rfl rfl rfl (by decide) (by decide) (by kernel_rfl) (by kernel_rfl) (by kernel_rfl) (by kernel_rfl) (fun W => Below.refl _ W) (fun W1 W2 W3 h1 h2 => h1.trans (h2.mono h1.size)) (fun W W' h h2 => h.trans (h2.mono h.size)) vNdQ_up (Below.refl w10.heap.size w10).drew (by kernel_rfl) [] rfl ?hop ?fin
      case hop =>
        refine (And.intro ?s0 (And.intro ?s3 (And.intro ?s4 (And.intro ?s6 (And.intro ?s7 trivial)))))
        case s0 =>
          refine And.intro (by rfl) (fun tm W hS hsz hfr hdep K hK => ?_)
          change tm.size = 154 at hsz
          have t3 : tm.getD 3 undef = .pointer (some ⟨w.heap.size, 0, none⟩) := hfr 3 (by rfl)
          have KB9 := KB10.out.below hS KB10.out.lt
          have b0 := KB9.c0
          have b1 := KB9.c1
          have b2 := KB9.c2
          clear KB9
          clear hdep hfr
          go_simp
          exact hK _ W (Below.refl _ W) (wildV_of (by rfl))
        case s3 =>
          refine And.intro (by rfl) (fun tm W hS hsz hfr hdep K hK => ?_)
          change tm.size = 154 at hsz
          have t68 : tm.getD 68 undef = .slice AF nF cF := wildV_known (by rfl) (hdep 1 (by rfl) (by decide))
          have t69 : tm.getD 69 undef = .slice AH nH cH := wildV_known (by rfl) (hdep 2 (by rfl) (by decide))
          clear hdep hfr
          refine wp_call _ _ _ _ _ rfl rfl (by simp [Act.eval, t68, t69]) (by kernel_rfl) (HCGA.out W (HB10.out.trans (hS.mono HB10.out.size))) (fun e W9 h9 => ?_)
          obtain ⟨A9, c9, rfl, hr9, hb9⟩ := h9
          exact ⟨_, rfl, hK _ W9 hb9 (show vNdQ (fun i => if i = 3 then GA else []) 3 (.slice A9 GA.length c9) W9 from ⟨A9, c9, rfl, hr9⟩)⟩
        case s4 =>
          refine And.intro (by rfl) (fun tm W hS hsz hfr hdep K hK => ?_)
          change tm.size = 154 at hsz
          have t67 : tm.getD 67 undef = .agg #[.int .i64 m.n, .slice A1 m.val.length c1, .slice A2 m.rel.length c2] := wildV_known (by rfl) (hdep 0 (by rfl) (by decide))
          have h3 : (vNdQ (fun i => if i = 3 then GA else [])) 3 (tm.getD 70 undef) W := wildV_wild (by rfl) (hdep 3 (by rfl) (by decide))
          clear hdep hfr
          obtain ⟨A3, c3, t70, hR3⟩ := h3
          change tm.getD 70 undef = .slice A3 GA.length c3 at t70
          change Reads W W.heap.size 6 A3 GA.length (nds GA) at hR3
          refine wp_call _ _ _ _ _ rfl rfl (by simp [Act.eval, t67, t70]) (by kernel_rfl) (HSGA.out W A3 c3 (HB10.out.trans (hS.mono HB10.out.size)) hR3) (fun e W9 h9 => ?_)
          obtain ⟨rfl, hb9⟩ := h9
          exact ⟨_, rfl, hK _ W9 hb9 (wildV_of (by rfl))⟩
        case s6 =>
          refine And.intro (by rfl) (fun tm W hS hsz hfr hdep K hK => ?_)
          change tm.size = 154 at hsz
          have t66 : tm.getD 66 undef = .tuple #[.int .u64 ((zA : Nat) : Int), .bool true] := wildV_known (by rfl) (hdep 5 (by rfl) (by decide))
          clear hdep hfr
          go_simp
          exact hK _ W (Below.refl _ W) (wildV_of (by rfl))
        case s7 =>
          refine And.intro (by rfl) (fun tm W hS hsz hfr hdep K hK => ?_)
          change tm.size = 154 at hsz
          have t66 : tm.getD 66 undef = .tuple #[.int .u64 ((zA : Nat) : Int), .bool true] := wildV_known (by rfl) (hdep 5 (by rfl) (by decide))
          clear hdep hfr
          go_simp
          exact hK _ W (Below.refl _ W) (wildV_of (by rfl))
      case fin =>
        intro f w11 hS hV
        have y3 : (vNdQ (fun i => if i = 3 then GA else [])) 3 (f 3) w11 := hV 3 (by decide) (by rfl)
        clear hV
        have hvl : ((List.range 10).map (fun i => if [3].contains i then f i else ([.agg #[.int .i64 m.n, .slice A1 m.val.length c1, .slice A2 m.rel.length c2], .slice AF nF cF, .slice AH nH cH, undef, .tuple #[.int .u64 ((zA : Nat) : Int), .bool true], .tuple #[.int .u64 ((zA : Nat) : Int), .bool true], .int .u64 ((zA : Nat) : Int), .bool true, .int .u64 ((zA : Nat) : Int), .bool true] : List Value).getD i undef)) = [.agg #[.int .i64 m.n, .slice A1 m.val.length c1, .slice A2 m.rel.length c2], .slice AF nF cF, .slice AH nH cH, f 3, .tuple #[.int .u64 ((zA : Nat) : Int), .bool true], .tuple #[.int .u64 ((zA : Nat) : Int), .bool true], .int .u64 ((zA : Nat) : Int), .bool true, .int .u64 ((zA : Nat) : Int), .bool true] := by rfl
        rw [hvl]
        clear hvl
        have HB11 := Lib.hid (HB10.out.trans (hS.mono HB10.out.size))
        have KB11 := Lib.hid (KB10.out.below hS KB10.out.lt)
        clear hS y3
        generalize f 3 = fv3 at *
        simp only [fillD]
        go_simp
        go_wp2
        refine wp_region_wild [.agg #[.int .i64 m.n, .slice A1 m.val.length c1, .slice A2 m.rel.length c2], .slice AF nF cF, .slice AH nH cH, undef, .tuple #[.int .u64 ((zO : Nat) : Int), .bool true], .tuple #[.int .u64 ((zO : Nat) : Int), .bool true], .int .u64 ((zO : Nat) : Int), .bool true, .int .u64 ((zO : Nat) : Int), .bool true] [75, 76, 77, 78, 79, 74, 80, 81, 16, 17] [0, 3, 4, 6, 7] [3] (vNdQ (fun i => if i = 3 then GO else [])) (fun W => Below w11.heap.size w11 W) (fun W W' => Below W.heap.size W W') 10 154 rfl rfl rfl (by decide) (by decide) (by kernel_rfl) (by kernel_rfl) (by kernel_rfl) (by kernel_rfl) (fun W => Below.refl _ W) (fun W1 W2 W3 h1 h2 => h1.trans (h2.mono h1.size)) (fun W W' h h2 => h.trans (h2.mono h.size)) vNdQ_up (Below.refl w11.heap.size w11).drew (by kernel_rfl) [] rfl ?hop ?fin
        case hop =>
          refine (And.intro ?s0 (And.intro ?s3 (And.intro ?s4 (And.intro ?s6 (And.intro ?s7 trivial)))))
          case s0 =>
            refine And.intro (by rfl) (fun tm W hS hsz hfr hdep K hK => ?_)
            change tm.size = 154 at hsz
            have t3 : tm.getD 3 undef = .pointer (some ⟨w.heap.size, 0, none⟩) := hfr 3 (by rfl)
            have KB9 := KB11.out.below hS KB11.out.lt
            have b0 := KB9.c0
            have b1 := KB9.c1
            have b2 := KB9.c2
            clear KB9
            clear hdep hfr
            go_simp
            exact hK _ W (Below.refl _ W) (wildV_of (by rfl))
          case s3 =>
            refine And.intro (by rfl) (fun tm W hS hsz hfr hdep K hK => ?_)
            change tm.size = 154 at hsz
            have t76 : tm.getD 76 undef = .slice AF nF cF := wildV_known (by rfl) (hdep 1 (by rfl) (by decide))
            have t77 : tm.getD 77 undef = .slice AH nH cH := wildV_known (by rfl) (hdep 2 (by rfl) (by decide))
            clear hdep hfr
            refine wp_call _ _ _ _ _ rfl rfl (by simp [Act.eval, t76, t77]) (by kernel_rfl) (HCGO.out W (HB11.out.trans (hS.mono HB11.out.size))) (fun e W9 h9 => ?_)
            obtain ⟨A9, c9, rfl, hr9, hb9⟩ := h9
            exact ⟨_, rfl, hK _ W9 hb9 (show vNdQ (fun i => if i = 3 then GO else []) 3 (.slice A9 GO.length c9) W9 from ⟨A9, c9, rfl, hr9⟩)⟩
          case s4 =>
            refine And.intro (by rfl) (fun tm W hS hsz hfr hdep K hK => ?_)
            change tm.size = 154 at hsz
            have t75 : tm.getD 75 undef = .agg #[.int .i64 m.n, .slice A1 m.val.length c1, .slice A2 m.rel.length c2] := wildV_known (by rfl) (hdep 0 (by rfl) (by decide))
            have h3 : (vNdQ (fun i => if i = 3 then GO else [])) 3 (tm.getD 78 undef) W := wildV_wild (by rfl) (hdep 3 (by rfl) (by decide))
            clear hdep hfr
            obtain ⟨A3, c3, t78, hR3⟩ := h3
            change tm.getD 78 undef = .slice A3 GO.length c3 at t78
            change Reads W W.heap.size 6 A3 GO.length (nds GO) at hR3
            refine wp_call _ _ _ _ _ rfl rfl (by simp [Act.eval, t75, t78]) (by kernel_rfl) (HSGO.out W A3 c3 (HB11.out.trans (hS.mono HB11.out.size)) hR3) (fun e W9 h9 => ?_)
            obtain ⟨rfl, hb9⟩ := h9
            exact ⟨_, rfl, hK _ W9 hb9 (wildV_of (by rfl))⟩
          case s6 =>
            refine And.intro (by rfl) (fun tm W hS hsz hfr hdep K hK => ?_)
            change tm.size = 154 at hsz
            have t74 : tm.getD 74 undef = .tuple #[.int .u64 ((zO : Nat) : Int), .bool true] := wildV_known (by rfl) (hdep 5 (by rfl) (by decide))
            clear hdep hfr
            go_simp
            exact hK _ W (Below.refl _ W) (wildV_of (by rfl))
          case s7 =>
            refine And.intro (by rfl) (fun tm W hS hsz hfr hdep K hK => ?_)
            change tm.size = 154 at hsz
            have t74 : tm.getD 74 undef = .tuple #[.int .u64 ((zO : Nat) : Int), .bool true] := wildV_known (by rfl) (hdep 5 (by rfl) (by decide))
            clear hdep hfr
            go_simp
            exact hK _ W (Below.refl _ W) (wildV_of (by rfl))
        case fin =>
          intro f w12 hS hV
          have y3 : (vNdQ (fun i => if i = 3 then GO else [])) 3 (f 3) w12 := hV 3 (by decide) (by rfl)
          clear hV
          have hvl : ((List.range 10).map (fun i => if [3].contains i then f i else ([.agg #[.int .i64 m.n, .slice A1 m.val.length c1, .slice A2 m.rel.length c2], .slice AF nF cF, .slice AH nH cH, undef, .tuple #[.int .u64 ((zO : Nat) : Int), .bool true], .tuple #[.int .u64 ((zO : Nat) : Int), .bool true], .int .u64 ((zO : Nat) : Int), .bool true, .int .u64 ((zO : Nat) : Int), .bool true] : List Value).getD i undef)) = [.agg #[.int .i64 m.n, .slice A1 m.val.length c1, .slice A2 m.rel.length c2], .slice AF nF cF, .slice AH nH cH, f 3, .tuple #[.int .u64 ((zO : Nat) : Int), .bool true], .tuple #[.int .u64 ((zO : Nat) : Int), .bool true], .int .u64 ((zO : Nat) : Int), .bool true, .int .u64 ((zO : Nat) : Int), .bool true] := by rfl
          rw [hvl]
          clear hvl
          have HB12 := Lib.hid (HB11.out.trans (hS.mono HB11.out.size))
          have KB12 := Lib.hid (KB11.out.below hS KB11.out.lt)
          clear hS y3
          generalize f 3 = fv3 at *
          simp only [fillD]
          go_simp
          go_wp2
          refine wp_region_wild [.agg #[.int .i64 m.n, .slice A1 m.val.length c1, .slice A2 m.rel.length c2], .slice AF nF cF, .slice AH nH cH, undef, .tuple #[.int .u64 ((zI : Nat) : Int), .bool true], .tuple #[.int .u64 ((zI : Nat) : Int), .bool true], .int .u64 ((zI : Nat) : Int), .bool true, .int .u64 ((zI : Nat) : Int), .bool true] [83, 84, 85, 86, 87, 82, 88, 89, 18, 19] [0, 3, 4, 6, 7] [3] (vNdQ (fun i => if i = 3 then GI else [])) (fun W => Below w12.heap.size w12 W) (fun W W' => Below W.heap.size W W') 10 154 rfl rfl rfl (by decide) (by decide) (by kernel_rfl) (by kernel_rfl) (by kernel_rfl) (by kernel_rfl) (fun W => Below.refl _ W) (fun W1 W2 W3 h1 h2 => h1.trans (h2.mono h1.size)) (fun W W' h h2 => h.trans (h2.mono h.size)) vNdQ_up (Below.refl w12.heap.size w12).drew (by kernel_rfl) [] rfl ?hop ?fin
          case hop =>
            refine (And.intro ?s0 (And.intro ?s3 (And.intro ?s4 (And.intro ?s6 (And.intro ?s7 trivial)))))
            case s0 =>
              refine And.intro (by rfl) (fun tm W hS hsz hfr hdep K hK => ?_)
              change tm.size = 154 at hsz
              have t3 : tm.getD 3 undef = .pointer (some ⟨w.heap.size, 0, none⟩) := hfr 3 (by rfl)
              have KB9 := KB12.out.below hS KB12.out.lt
              have b0 := KB9.c0
              have b1 := KB9.c1
              have b2 := KB9.c2
              clear KB9
              clear hdep hfr
              go_simp
              exact hK _ W (Below.refl _ W) (wildV_of (by rfl))
            case s3 =>
              refine And.intro (by rfl) (fun tm W hS hsz hfr hdep K hK => ?_)
              change tm.size = 154 at hsz
              have t84 : tm.getD 84 undef = .slice AF nF cF := wildV_known (by rfl) (hdep 1 (by rfl) (by decide))
              have t85 : tm.getD 85 undef = .slice AH nH cH := wildV_known (by rfl) (hdep 2 (by rfl) (by decide))
              clear hdep hfr
              refine wp_call _ _ _ _ _ rfl rfl (by simp [Act.eval, t84, t85]) (by kernel_rfl) (HCGI.out W (HB12.out.trans (hS.mono HB12.out.size))) (fun e W9 h9 => ?_)
              obtain ⟨A9, c9, rfl, hr9, hb9⟩ := h9
              exact ⟨_, rfl, hK _ W9 hb9 (show vNdQ (fun i => if i = 3 then GI else []) 3 (.slice A9 GI.length c9) W9 from ⟨A9, c9, rfl, hr9⟩)⟩
            case s4 =>
              refine And.intro (by rfl) (fun tm W hS hsz hfr hdep K hK => ?_)
              change tm.size = 154 at hsz
              have t83 : tm.getD 83 undef = .agg #[.int .i64 m.n, .slice A1 m.val.length c1, .slice A2 m.rel.length c2] := wildV_known (by rfl) (hdep 0 (by rfl) (by decide))
              have h3 : (vNdQ (fun i => if i = 3 then GI else [])) 3 (tm.getD 86 undef) W := wildV_wild (by rfl) (hdep 3 (by rfl) (by decide))
              clear hdep hfr
              obtain ⟨A3, c3, t86, hR3⟩ := h3
              change tm.getD 86 undef = .slice A3 GI.length c3 at t86
              change Reads W W.heap.size 6 A3 GI.length (nds GI) at hR3
              refine wp_call _ _ _ _ _ rfl rfl (by simp [Act.eval, t83, t86]) (by kernel_rfl) (HSGI.out W A3 c3 (HB12.out.trans (hS.mono HB12.out.size)) hR3) (fun e W9 h9 => ?_)
              obtain ⟨rfl, hb9⟩ := h9
              exact ⟨_, rfl, hK _ W9 hb9 (wildV_of (by rfl))⟩
            case s6 =>
              refine And.intro (by rfl) (fun tm W hS hsz hfr hdep K hK => ?_)
              change tm.size = 154 at hsz
              have t82 : tm.getD 82 undef = .tuple #[.int .u64 ((zI : Nat) : Int), .bool true] := wildV_known (by rfl) (hdep 5 (by rfl) (by decide))
              clear hdep hfr
              go_simp
              exact hK _ W (Below.refl _ W) (wildV_of (by rfl))
            case s7 =>
              refine And.intro (by rfl) (fun tm W hS hsz hfr hdep K hK => ?_)
              change tm.size = 154 at hsz
              have t82 : tm.getD 82 undef = .tuple #[.int .u64 ((zI : Nat) : Int), .bool true] := wildV_known (by rfl) (hdep 5 (by rfl) (by decide))
              clear hdep hfr
              go_simp
              exact hK _ W (Below.refl _ W) (wildV_of (by rfl))
          case fin =>
            intro f w13 hS hV
            have y3 : (vNdQ (fun i => if i = 3 then GI else [])) 3 (f 3) w13 := hV 3 (by decide) (by rfl)
            clear hV
            have hvl : ((List.range 10).map (fun i => if [3].contains i then f i else ([.agg #[.int .i64 m.n, .slice A1 m.val.length c1, .slice A2 m.rel.length c2], .slice AF nF cF, .slice AH nH cH, undef, .tuple #[.int .u64 ((zI : Nat) : Int), .bool true], .tuple #[.int .u64 ((zI : Nat) : Int), .bool true], .int .u64 ((zI : Nat) : Int), .bool true, .int .u64 ((zI : Nat) : Int), .bool true] : List Value).getD i undef)) = [.agg #[.int .i64 m.n, .slice A1 m.val.length c1, .slice A2 m.rel.length c2], .slice AF nF cF, .slice AH nH cH, f 3, .tuple #[.int .u64 ((zI : Nat) : Int), .bool true], .tuple #[.int .u64 ((zI : Nat) : Int), .bool true], .int .u64 ((zI : Nat) : Int), .bool true, .int .u64 ((zI : Nat) : Int), .bool true] := by rfl
            rw [hvl]
            clear hvl
            have HB13 := Lib.hid (HB12.out.trans (hS.mono HB12.out.size))
            have KB13 := Lib.hid (KB12.out.below hS KB12.out.lt)
            clear hS y3
            generalize f 3 = fv3 at *
            simp only [fillD]
            go_simp
            go_wp2
            refine wp_region_wild [.agg #[.int .i64 m.n, .slice A1 m.val.length c1, .slice A2 m.rel.length c2], .slice AF nF cF, .slice AH nH cH, undef, .tuple #[.int .u64 ((zB : Nat) : Int), .bool true], .tuple #[.int .u64 ((zB : Nat) : Int), .bool true], .int .u64 ((zB : Nat) : Int), .bool true, .int .u64 ((zB : Nat) : Int), .bool true] [91, 92, 93, 94, 95, 90, 96, 97, 20, 21] [0, 3, 4, 6, 7] [3] (vNdQ (fun i => if i = 3 then GB else [])) (fun W => Below w13.heap.size w13 W) (fun W W' => Below W.heap.size W W') 10 154 rfl rfl rfl (by decide) (by decide) (by kernel_rfl) (by kernel_rfl) (by kernel_rfl) (by kernel_rfl) (fun W => Below.refl _ W) (fun W1 W2 W3 h1 h2 => h1.trans (h2.mono h1.size)) (fun W W' h h2 => h.trans (h2.mono h.size)) vNdQ_up (Below.refl w13.heap.size w13).drew (by kernel_rfl) [] rfl ?hop ?fin
            case hop =>
              refine (And.intro ?s0 (And.intro ?s3 (And.intro ?s4 (And.intro ?s6 (And.intro ?s7 trivial)))))
              case s0 =>
                refine And.intro (by rfl) (fun tm W hS hsz hfr hdep K hK => ?_)
                change tm.size = 154 at hsz
                have t3 : tm.getD 3 undef = .pointer (some ⟨w.heap.size, 0, none⟩) := hfr 3 (by rfl)
                have KB9 := KB13.out.below hS KB13.out.lt
                have b0 := KB9.c0
                have b1 := KB9.c1
                have b2 := KB9.c2
                clear KB9
                clear hdep hfr
                go_simp
                exact hK _ W (Below.refl _ W) (wildV_of (by rfl))
              case s3 =>
                refine And.intro (by rfl) (fun tm W hS hsz hfr hdep K hK => ?_)
                change tm.size = 154 at hsz
                have t92 : tm.getD 92 undef = .slice AF nF cF := wildV_known (by rfl) (hdep 1 (by rfl) (by decide))
                have t93 : tm.getD 93 undef = .slice AH nH cH := wildV_known (by rfl) (hdep 2 (by rfl) (by decide))
                clear hdep hfr
                refine wp_call _ _ _ _ _ rfl rfl (by simp [Act.eval, t92, t93]) (by kernel_rfl) (HCGB.out W (HB13.out.trans (hS.mono HB13.out.size))) (fun e W9 h9 => ?_)
                obtain ⟨A9, c9, rfl, hr9, hb9⟩ := h9
                exact ⟨_, rfl, hK _ W9 hb9 (show vNdQ (fun i => if i = 3 then GB else []) 3 (.slice A9 GB.length c9) W9 from ⟨A9, c9, rfl, hr9⟩)⟩
              case s4 =>
                refine And.intro (by rfl) (fun tm W hS hsz hfr hdep K hK => ?_)
                change tm.size = 154 at hsz
                have t91 : tm.getD 91 undef = .agg #[.int .i64 m.n, .slice A1 m.val.length c1, .slice A2 m.rel.length c2] := wildV_known (by rfl) (hdep 0 (by rfl) (by decide))
                have h3 : (vNdQ (fun i => if i = 3 then GB else [])) 3 (tm.getD 94 undef) W := wildV_wild (by rfl) (hdep 3 (by rfl) (by decide))
                clear hdep hfr
                obtain ⟨A3, c3, t94, hR3⟩ := h3
                change tm.getD 94 undef = .slice A3 GB.length c3 at t94
                change Reads W W.heap.size 6 A3 GB.length (nds GB) at hR3
                refine wp_call _ _ _ _ _ rfl rfl (by simp [Act.eval, t91, t94]) (by kernel_rfl) (HSGB.out W A3 c3 (HB13.out.trans (hS.mono HB13.out.size)) hR3) (fun e W9 h9 => ?_)
                obtain ⟨rfl, hb9⟩ := h9
                exact ⟨_, rfl, hK _ W9 hb9 (wildV_of (by rfl))⟩
              case s6 =>
                refine And.intro (by rfl) (fun tm W hS hsz hfr hdep K hK => ?_)
                change tm.size = 154 at hsz
                have t90 : tm.getD 90 undef = .tuple #[.int .u64 ((zB : Nat) : Int), .bool true] := wildV_known (by rfl) (hdep 5 (by rfl) (by decide))
                clear hdep hfr
                go_simp
                exact hK _ W (Below.refl _ W) (wildV_of (by rfl))
              case s7 =>
                refine And.intro (by rfl) (fun tm W hS hsz hfr hdep K hK => ?_)
                change tm.size = 154 at hsz
                have t90 : tm.getD 90 undef = .tuple #[.int .u64 ((zB : Nat) : Int), .bool true] := wildV_known (by rfl) (hdep 5 (by rfl) (by decide))
                clear hdep hfr
                go_simp
                exact hK _ W (Below.refl _ W) (wildV_of (by rfl))
            case fin =>
              intro f w14 hS hV
              have y3 : (vNdQ (fun i => if i = 3 then GB else [])) 3 (f 3) w14 := hV 3 (by decide) (by rfl)
              clear hV
              have hvl : ((List.range 10).map (fun i => if [3].contains i then f i else ([.agg #[.int .i64 m.n, .slice A1 m.val.length c1, .slice A2 m.rel.length c2], .slice AF nF cF, .slice AH nH cH, undef, .tuple #[.int .u64 ((zB : Nat) : Int), .bool true], .tuple #[.int .u64 ((zB : Nat) : Int), .bool true], .int .u64 ((zB : Nat) : Int), .bool true, .int .u64 ((zB : Nat) : Int), .bool true] : List Value).getD i undef)) = [.agg #[.int .i64 m.n, .slice A1 m.val.length c1, .slice A2 m.rel.length c2], .slice AF nF cF, .slice AH nH cH, f 3, .tuple #[.int .u64 ((zB : Nat) : Int), .bool true], .tuple #[.int .u64 ((zB : Nat) : Int), .bool true], .int .u64 ((zB : Nat) : Int), .bool true, .int .u64 ((zB : Nat) : Int), .bool true] := by rfl
              rw [hvl]
              clear hvl
              have HB14 := Lib.hid (HB13.out.trans (hS.mono HB13.out.size))
              have KB14 := Lib.hid (KB13.out.below hS KB13.out.lt)
              clear hS y3
              generalize f 3 = fv3 at *
              simp only [fillD]
              go_simp
              go_wp2
              go_ret
              exact ⟨by first | rfl | simp, HB14.out⟩
set_option maxRecDepth 100000 in
theorem contract (H : Type) (enc : TypeId × Value → H) (W : World) (base : Nat) (args : Array Value) (ds gs : List (DataW H)) (before : List MemPlace)
    (hval : ∀ (j : Nat) t v, Tryd.f8.params[j]? = some t → args[j]? = some v → Value.okWide Tryd.prog W .any base t v)
    (hW : DataW.Whole enc Tryd.prog Tryd.f8.params.toList Rows.checkerTablesSpec.vars false W args.toList ds gs before) (hE : Tab W) :
    Calls Tryd.prog 8 args W fun e W' => ∃ v, e = .returned v ∧ Rows.checkerTablesSpec.post enc Tryd.prog Tryd.f8 false true false false W args v W' := by
  have hW' := hW
  obtain ⟨p, q, hA0, hV, rfl, hfz, hnd⟩ := hW
  have hA : DataW.TrodAll enc Tryd.prog W 0 (fun _ => true) true Tryd.f8.params.toList args.toList ds p := hA0
  rw [Tryd.params8] at hA hval
  obtain ⟨v0, vs0, d0, ds0, p0, q0, hargs, rfl, rfl, h0, r0⟩ := trodAll_cons hA
  obtain ⟨v1, vs1, d1, ds1, p1, q1, rfl, rfl, rfl, h1, r1⟩ := trodAll_cons r0
  obtain ⟨v2, vs2, d2, ds2, p2, q2, rfl, rfl, rfl, h2, r2⟩ := trodAll_cons r1
  obtain ⟨rfl, rfl, rfl⟩ := trodAll_nil r2
  obtain rfl : args = #[v0, v1, v2] := by cases args; simp_all
  obtain ⟨rfl, rfl⟩ := trodVars_none hV
  obtain ⟨m0, w0⟩ := open_mo (hval 0 25 v0 rfl rfl) h0
  have k0 := h0
  have lt0 : ∀ x ∈ p0, x.block < W.heap.size := by obtain ⟨m, hm⟩ := k0; exact DataW.trod_lt m _ _ _ hm
  obtain ⟨af1, nf1, cf1, rfl⟩ := okWide_slice Tryd.underlying26 (hval 1 26 v1 rfl rfl)
  obtain ⟨f1, w1⟩ : ∃ l, NdRow W af1 nf1 cf1 l := by
    obtain ⟨fuel, hf⟩ := h1
    exact open_nodes hf
  have k1 := h1
  have lt1 : ∀ x ∈ p1, x.block < W.heap.size := by obtain ⟨m, hm⟩ := k1; exact DataW.trod_lt m _ _ _ hm
  obtain ⟨af2, nf2, cf2, rfl⟩ := okWide_slice Tryd.underlying26 (hval 2 26 v2 rfl rfl)
  obtain ⟨f2, w2⟩ : ∃ l, NdRow W af2 nf2 cf2 l := by
    obtain ⟨fuel, hf⟩ := h2
    exact open_nodes hf
  have k2 := h2
  have lt2 : ∀ x ∈ p2, x.block < W.heap.size := by obtain ⟨m, hm⟩ := k2; exact DataW.trod_lt m _ _ _ hm
  clear hA0
  have hwalk := walk m0 _ f1 af1 nf1 cf1 f2 af2 nf2 cf2 W w0 w1.1 w1.2.2.2 w2.1 w2.2.2.2 hE
  refine hwalk.mono fun e W' ⟨he, hg⟩ => ?_
  subst he
  exact ⟨_, rfl, _, _, _, [], _, [], hW', trodAll_mk1 (shut_bool Tryd.underlying4 _), (trodAll_cons_mk (Below.trod laidOut (by kernel_rfl) (of_decide_eq_true (by kernel_rfl)) k0 hg lt0) (trodAll_cons_mk (Below.trod laidOut (by kernel_rfl) (of_decide_eq_true (by kernel_rfl)) k1 hg lt1) (trodAll_cons_mk (Below.trod laidOut (by kernel_rfl) (of_decide_eq_true (by kernel_rfl)) k2 hg lt2) trodAll_mk0))), rfl, hg.frame _, fun h => by cases h⟩
theorem reads (os : Os) {H : Type} (enc : TypeId × Value → H) : ∃ places, DataW.whole enc Tryd.prog ((laidW os).forCall (fun _ _ => 0) ⟨#[], #[.agg #[.int .i64 0, .slice none 0 0, .slice none 0 0], .slice none 0 0, .slice none 0 0], []⟩).memory Tryd.f8.params.toList Rows.checkerTablesSpec.vars false #[(.agg #[.int .i64 0, .slice none 0 0, .slice none 0 0] : Value), (.slice none 0 0 : Value), (.slice none 0 0 : Value)].toList 8 = some ([.agg [.lit (.int .i64 0), .nil, .nil], .nil, .nil], [], places) :=
  ⟨[], by kernel_rfl⟩
set_option maxRecDepth 100000 in
theorem lifted (os : Os) (started : os.Started) (H : Type) (enc : TypeId × Value → H) (F : Stop.Interp) :
    ReturnsInHanded {} Tryd.checked os 8 .any ((OpenSpec.ofChange Rows.checkerTablesSpec).preRow enc Tryd.prog Tryd.f8 Rows.checkerTablesRow.domain false Rows.checkerTablesRow.laid) (((OpenSpec.ofChange Rows.checkerTablesSpec).at F).post enc Tryd.prog Tryd.f8 false true false false) := by
  obtain ⟨places, hx⟩ := reads os enc
  refine returnsInHanded_of_row (C := Tryd.checked) (s := OpenSpec.ofChange Rows.checkerTablesSpec) own started (by kernel_rfl) Tryd.func8
    (witness_row_atRef (enc := enc) (C := Tryd.checked) false (laidW os) #[.agg #[.int .i64 0, .slice none 0 0, .slice none 0 0], .slice none 0 0, .slice none 0 0] (laidW_os os) (vars_ok os _) (heap_ok os _) (by kernel_rfl)
      (OpenSpec.preRow_of_cond 8 hx (by kernel_rfl) (fun k hk => by cases hk) (by kernel_rfl) (laid_met os _))) ?_
  intro W base args ds gs before hval hW _ _ _ hL hsh _
  exact contract H enc W base args ds gs before hval hW (env_of hL)
theorem said : Rows.CheckerTablesSaid :=
  OpenClaim.holds_of_cond 8 Tryd.f8 rfl rfl rfl rfl rfl rfl rfl ⟨rfl, rfl, rfl, rfl, rfl⟩ rfl rfl rfl rfl rfl (by kernel_rfl) Tryd.func8 (by kernel_rfl)
    (of_decide_eq_true (by kernel_rfl)) (by unfold Func.isWrapper; first | (rw [if_pos (by decide +kernel)]; kernel_rfl) | (rw [if_neg (by decide +kernel)]; exact ⟨rfl, rfl⟩))
    (fun os started H enc _ F => by rw [OpenClaim.pre_eq_preRow]; exact lifted os started H enc F)
theorem plain (f : FuncId) (fn : Func) (hf : Tryd.pinned.checked.prog.funcNamed "witting/wittinglaw17.CheckerTables" = some f) (hfn : Tryd.pinned.checked.prog.funcs[f]? = some fn) :
    false = Tryd.pinned.checked.prog.looks [] ∧ ∀ (j : Nat) t, fn.params[j]? = some t → Tryd.pinned.checked.prog.wantsStandIn t = false := by
  obtain rfl : f = 8 := Option.some.inj ((show Tryd.prog.funcNamed "witting/wittinglaw17.CheckerTables" = some 8 by kernel_rfl).symm.trans hf) |>.symm
  obtain rfl : fn = Tryd.f8 := (Option.some.inj (Tryd.func8.symm.trans hfn)).symm
  refine ⟨no_looks, fun j t ht => ?_⟩
  rw [Tryd.params8] at ht
  have hm : t ∈ [25, 26, 26] := by simpa using Array.mem_of_getElem? ht
  have hall : ([25, 26, 26].all fun u => !Tryd.prog.wantsStandIn u) = true := by kernel_rfl
  exact (show Tryd.prog.wantsStandIn t = false by simpa using List.all_eq_true.1 hall t hm)
theorem card : Rows.CheckerTablesCardSaid :=
  Claim7.holds_tied_plain_at .later [] _ _ _ _ said (fun _ h => by cases h) (by kernel_rfl) (fun _ h => by cases h) checkerTables_row_tie rfl ⟨rfl, rfl⟩ (by kernel_rfl) rfl plain (by kernel_rfl)
#print axioms card
end Go.Proofs.YtjpmhbnikoggaaaDoor.checkerTables
