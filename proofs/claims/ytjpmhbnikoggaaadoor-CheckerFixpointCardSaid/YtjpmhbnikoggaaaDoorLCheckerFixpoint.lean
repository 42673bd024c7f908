/- Layer 17: CheckerFixpoint: common knowledge is the greatest fixed point. -/
import Derived.Test.YtjpmhbnikoggaaaDoorNLz
namespace Go.Proofs.YtjpmhbnikoggaaaDoor.checkerFixpoint
open Go.ChangeShapes Go.WideShapes Go.ChangeAt Go.RowKit Go.Proofs.YtjpmhbnikoggaaaDoor Go.Proofs.YtjpmhbnikoggaaaDoor.ckf Go.Proofs.Ws
open Go.ChangeMaps (open_string shut_string)
set_option maxRecDepth 100000
set_option maxHeartbeats 16000000 in
theorem walk (m : Mo) (v : Value) (fF : List Nd) (AF : Option Addr) (nF cF : Nat) (fH : List Nd) (AH : Option Addr) (nH cH : Nat) (w : World) (hM : MoR w w.heap.size v m) (hRF : Reads w w.heap.size 6 AF nF (nds fF)) (hmF : nF ≤ maxLen) (hRH : Reads w w.heap.size 6 AH nH (nds fH)) (hmH : nH ≤ maxLen) (hT : Tab w) :
    Calls Tryd.prog 4 #[v, .slice AF nF cF, .slice AH nH cH] w fun e w' => e = .returned (.bool true) ∧ Below w.heap.size w w' := by
  obtain ⟨A1, c1, A2, c2, rfl, hv, hr⟩ := hM.ex
  have HB0 := Lib.hid ((Below.refl w.heap.size w).alloc (Nat.le_refl _) (.cells #[.int .i64 m.n, .slice A1 m.val.length c1, .slice A2 m.rel.length c2] 25))
  have KB0 := Lib.hid (MBox.made w m.n (.slice A1 m.val.length c1) (.slice A2 m.rel.length c2))
  have HMW := Lib.hid (fun W (hb : Below w.heap.size w W) => hM.below hb hb.size)
  have HT := Lib.hid (fun W (hb : Below w.heap.size w W) => hT.below hb)
  have HREL := Lib.hid hM.wrel
  have HRR := Lib.hid hr
  have HAW : Hid (∀ W, Below w.heap.size w W → Calls Tryd.prog 9 #[] W fun e w' => e = .returned (.bool true) ∧ Below W.heap.size W w') := Lib.hid (fun W hb => awake17_any W (hT.below hb))
  have HFF := Lib.hid (fun W (hb : Below w.heap.size w W) => (hRF.below hb).more hb.size)
  have HMF := Lib.hid hmF
  have HFH := Lib.hid (fun W (hb : Below w.heap.size w W) => (hRH.below hb).more hb.size)
  have HMH := Lib.hid hmH
  clear hM hT hv hr hRF hmF hRH hmH
  have HSF := Lib.hid (fun W (hb : Below w.heap.size w W) => lSet_any m _ fF AF nF cF W (HMW.out W hb) (HFF.out W hb) HMF.out (HT.out W hb))
  have HSH := Lib.hid (fun W (hb : Below w.heap.size w W) => lSet_any m _ fH AH nH cH W (HMW.out W hb) (HFH.out W hb) HMH.out (HT.out W hb))
  have HCK := Lib.hid (fun W (hb : Below w.heap.size w W) => rCheck_any m _ W (HMW.out W hb))
  go_enter Tryd.func4, Tryd.ntmps4
  go_wp2_with fail
  refine (HAW.out _ HB0.out).mono ?_
  rintro e w1 ⟨rfl, hb⟩
  have HB1 := Lib.hid (HB0.out.trans (hb.mono HB0.out.size))
  have KB1 := Lib.hid (KB0.out.below hb KB0.out.lt)
  clear hb
  have hal := (Below.refl w1.heap.size w1).alloc (Nat.le_refl _) (.cells #[.slice AF nF cF, .slice AH nH cH] 26)
  have HB1a := Lib.hid (HB1.out.trans (hal.mono HB1.out.size))
  have KB1a := Lib.hid (KB1.out.below hal KB1.out.lt)
  clear hal
  have HFE := Lib.hid (lFew_anyC m _ [nF, nH] w1.heap.size 2 (w1.alloc (.cells #[.slice AF nF cF, .slice AH nH cH] 26)) (HMW.out _ HB1a.out) rfl (by decide) (by simp) (fun j hj => by
    match j, hj with
    | 0, _ => exact ⟨AF, cF, (Lib.cell_of_heap (heap_alloc_new w1 (.cells #[.slice AF nF cF, .slice AH nH cH] 26)) 0).trans rfl⟩
    | 1, _ => exact ⟨AH, cH, (Lib.cell_of_heap (heap_alloc_new w1 (.cells #[.slice AF nF cF, .slice AH nH cH] 26)) 1).trans rfl⟩))
  generalize hfb : ([nF, nH].all (fun x => decide (x ≤ 60)) && fewK m 16) = fb at *
  have b0 := KB1.out.c0
  have b1 := KB1.out.c1
  have b2 := KB1.out.c2
  cases fb with
  | false =>
    clear hfb
    go_wp2_with fail
    refine (HFE.out).mono ?_
    rintro e w2 ⟨rfl, hb⟩
    have HB2 := Lib.hid (HB1a.out.trans (hb.mono HB1a.out.size))
    have KB2 := Lib.hid (KB1a.out.below hb KB1a.out.lt)
    clear hb
    clear b0 b1 b2
    go_wp2_with fail
    refine (HAW.out _ HB2.out).mono ?_
    rintro e w99 ⟨rfl, hb⟩
    have HB99 := Lib.hid (HB2.out.trans (hb.mono HB2.out.size))
    clear hb
    go_wp2
    go_ret
    exact ⟨rfl, HB99.out⟩
  | true =>
    have HFB := Lib.hid hfb
    clear hfb
    go_wp2_with fail
    refine (HFE.out).mono ?_
    rintro e w2 ⟨rfl, hb⟩
    have HB2 := Lib.hid (HB1a.out.trans (hb.mono HB1a.out.size))
    have KB2 := Lib.hid (KB1a.out.below hb KB1a.out.lt)
    clear hb HFE
    clear b0 b1 b2
    by_cases hz : chkM m = 0
    case neg =>
      have hz1 : (chkM m != 0) = true := by rw [bne_iff_ne]; exact hz
      generalize chkM m = cm at *
      have b0 := KB2.out.c0
      have b1 := KB2.out.c1
      have b2 := KB2.out.c2
      go_wp2_with fail
      refine (HCK.out _ HB2.out).mono ?_
      rintro e w3 ⟨rfl, hb⟩
      have HB3 := Lib.hid (HB2.out.trans (hb.mono HB2.out.size))
      have KB3 := Lib.hid (KB2.out.below hb KB2.out.lt)
      clear hb
      clear b0 b1 b2
      go_wp2_with fail
      refine (HAW.out _ HB3.out).mono ?_
      rintro e w99 ⟨rfl, hb⟩
      have HB99 := Lib.hid (HB3.out.trans (hb.mono HB3.out.size))
      clear hb
      go_wp2
      go_ret
      exact ⟨rfl, HB99.out⟩
    rw [hz] at HCK
    have b0 := KB2.out.c0
    have b1 := KB2.out.c1
    have b2 := KB2.out.c2
    go_wp2_with fail
    refine (HCK.out _ HB2.out).mono ?_
    rintro e w3 ⟨rfl, hb⟩
    have HB3 := Lib.hid (HB2.out.trans (hb.mono HB2.out.size))
    have KB3 := Lib.hid (KB2.out.below hb KB2.out.lt)
    clear hb HCK
    clear b0 b1 b2
    by_cases hr0 : m.rel.length = 0
    case pos =>
      have hl1 : (((m.rel.length : Nat) : Int) == 0) = true := by rw [hr0]; rfl
      generalize m.rel.length = rl at *
      have b0 := KB3.out.c0
      have b1 := KB3.out.c1
      have b2 := KB3.out.c2
      go_wp2_with fail
      refine (HAW.out _ HB3.out).mono ?_
      rintro e w99 ⟨rfl, hb⟩
      have HB99 := Lib.hid (HB3.out.trans (hb.mono HB3.out.size))
      clear hb
      go_wp2
      go_ret
      exact ⟨rfl, HB99.out⟩
    have hl1 : (((m.rel.length : Nat) : Int) == 0) = false := by rw [beq_eq_false_iff_ne]; omega
    have HN60 : Hid (nF ≤ 60 ∧ nH ≤ 60) := Lib.hid (by
      have h := HFB.out
      simp at h
      exact ⟨h.1.1, h.1.2⟩)
    have HLF := Lib.hid (HFF.out w3 HB3.out).nd_len
    have HLH := Lib.hid (HFH.out w3 HB3.out).nd_len
    by_cases hcH : chkF m fH = 0
    case neg =>
      rw [decide_eq_false hcH] at HSH
      clear hcH
      generalize holdV m fH = hH at *
      generalize decide (chkF m fF = 0) = dF at *
      generalize holdV m fF = hF at *
      have b0 := KB3.out.c0
      have b1 := KB3.out.c1
      have b2 := KB3.out.c2
      go_wp2_with fail
      refine (HSH.out _ HB3.out).mono ?_
      rintro e w4 ⟨rfl, hb⟩
      have HB4 := Lib.hid (HB3.out.trans (hb.mono HB3.out.size))
      have KB4 := Lib.hid (KB3.out.below hb KB3.out.lt)
      clear hb
      clear b0 b1 b2
      have b0 := KB4.out.c0
      have b1 := KB4.out.c1
      have b2 := KB4.out.c2
      go_wp2_with fail
      refine (HSF.out _ HB4.out).mono ?_
      rintro e w5 ⟨rfl, hb⟩
      have HB5 := Lib.hid (HB4.out.trans (hb.mono HB4.out.size))
      have KB5 := Lib.hid (KB4.out.below hb KB4.out.lt)
      clear hb
      clear b0 b1 b2
      go_wp2
      go_ret
      exact ⟨rfl, HB5.out⟩
    by_cases hcF : chkF m fF = 0
    case neg =>
      rw [decide_eq_true hcH] at HSH
      rw [decide_eq_false hcF] at HSF
      clear hcF
      generalize holdV m fH = hH at *
      generalize holdV m fF = hF at *
      have b0 := KB3.out.c0
      have b1 := KB3.out.c1
      have b2 := KB3.out.c2
      go_wp2_with fail
      refine (HSH.out _ HB3.out).mono ?_
      rintro e w4 ⟨rfl, hb⟩
      have HB4 := Lib.hid (HB3.out.trans (hb.mono HB3.out.size))
      have KB4 := Lib.hid (KB3.out.below hb KB3.out.lt)
      clear hb
      clear b0 b1 b2
      have b0 := KB4.out.c0
      have b1 := KB4.out.c1
      have b2 := KB4.out.c2
      go_wp2_with fail
      refine (HSF.out _ HB4.out).mono ?_
      rintro e w5 ⟨rfl, hb⟩
      have HB5 := Lib.hid (HB4.out.trans (hb.mono HB4.out.size))
      have KB5 := Lib.hid (KB4.out.below hb KB4.out.lt)
      clear hb
      clear b0 b1 b2
      go_wp2
      go_ret
      exact ⟨rfl, HB5.out⟩
    have MF : Mng m fF 60 (holdV m fF) := Mng.of hcF (by rw [HLF.out]; exact HN60.out.1)
    have MH : Mng m fH 60 (holdV m fH) := Mng.of hcH (by rw [HLH.out]; exact HN60.out.2)
    rw [decide_eq_true hcF] at HSF
    rw [decide_eq_true hcH] at HSH
    clear hcF hcH
    have ok0 := chkM_ok hz
    obtain ⟨N, hN⟩ : ∃ N : Nat, m.n = (N : Int) := ⟨m.n.toNat, ok0.num⟩
    have ok : OkM N m := by have h := ok0; rw [hN] at h; simpa using h
    clear ok0
    have hle := ok.le
    have hrl4 := ok.agents
    have hFl : holdV m fF < 18446744073709551616 := pow_le64 hle (holdV_bnd ok fF)
    have hHl : holdV m fH < 18446744073709551616 := pow_le64 hle (holdV_bnd ok fH)
    have hrl1 : 1 ≤ m.rel.length := by omega
    have hpg := all_group hrl1
    obtain ⟨gg, hgg⟩ : ∃ gg : Int, ((2 ^ m.rel.length - 1 : Nat) : Int) = gg := ⟨_, rfl⟩
    rw [hgg] at hpg
    have hw2 : wrap64 (wrap64 ((2 : Int) ^ m.rel.length) - 1) = gg := (wrap64_all m.rel.length hrl4).trans hgg
    obtain ⟨GC, hGC⟩ : ∃ G, buildF ⟨13, 0, 0, gg, 0, 0⟩ [fH, fF] = G := ⟨_, rfl⟩
    have MGC : Mng m GC (60 + 60 + 1) (comV m gg (holdV m fH) (holdV m fF)) := hGC ▸ MH.bin MF (by decide) (op_group (.inr (.inr rfl)) hpg.1 hpg.2 hrl4) rfl rfl
    have HCGC : Hid (∀ (W : World), Below w.heap.size w W → Calls Tryd.prog 19 #[.int .i64 gg, .slice AH nH cH, .slice AF nF cF] W fun e w' => ∃ A' c', e = .returned (.slice A' GC.length c') ∧ Reads w' w'.heap.size 6 A' GC.length (nds GC) ∧ Below W.heap.size W w') := Lib.hid (fun W hb => hGC ▸ pCommon_any gg fH AH _ cH fF AF _ cF W (HFH.out W hb) HMH.out (HFF.out W hb) HMF.out)
    have HSGC : Hid (∀ (W : World) (A : Option Addr) (c : Nat), Below w.heap.size w W → Reads W W.heap.size 6 A GC.length (nds GC) → Calls Tryd.prog 12 #[.agg #[.int .i64 m.n, .slice A1 m.val.length c1, .slice A2 m.rel.length c2], .slice A GC.length c] W fun e w' => e = .returned (.tuple #[.int .u64 ((comV m gg (holdV m fH) (holdV m fF) : Nat) : Int), .bool true]) ∧ Below W.heap.size W w') := Lib.hid (fun W A c hb hr => by
      have h := lSet_any m _ GC A GC.length c W (HMW.out W hb) hr (Nat.le_trans MGC.len (by unfold maxLen; omega)) (HT.out W hb)
      rw [MGC.val, MGC.chk] at h
      exact h)
    have HFX := Lib.hid (fix_com hz ok hrl1 (holdV m fH) (holdV m fF) hHl hFl)
    rw [hgg] at HFX
    have HROW : Hid (∀ a, a < m.rel.length → (m.rel.getD a []).length = N ∧ ∀ j, (m.rel.getD a []).getD j 0 < 18446744073709551616) := Lib.hid (fun a ha => ⟨ok.len _ (getD_mem' ha), fun j => words_getD (HREL.out _ (getD_mem' ha)) j⟩)
    have HCL := Lib.hid (fun W (hb : Below w.heap.size w W) => HRR.out.below hb hb.size)
    have HFL := Lib.hid hFl
    have HHL := Lib.hid hHl
    have HNN := Lib.hid hN
    have HAL := Lib.hid (fun W => rAll_any N W hle)
    rw [← allV_natC hle] at HAL
    have HALL : Hid (allV (N : Int) < 18446744073709551616) := Lib.hid (allV_lt _)
    clear MF MH ok hz HN60 hpg HREL HRR hFl hHl hGC MGC hN hgg
    generalize holdV m fF = hF at *
    generalize holdV m fH = hH at *
    generalize comV m gg hH hF = zC at *
    have b0 := KB3.out.c0
    have b1 := KB3.out.c1
    have b2 := KB3.out.c2
    go_wp2_with fail
    refine (HSH.out _ HB3.out).mono ?_
    rintro e w4 ⟨rfl, hb⟩
    have HB4 := Lib.hid (HB3.out.trans (hb.mono HB3.out.size))
    have KB4 := Lib.hid (KB3.out.below hb KB3.out.lt)
    clear hb
    clear b0 b1 b2
    have b0 := KB4.out.c0
    have b1 := KB4.out.c1
    have b2 := KB4.out.c2
    go_wp2_with fail
    refine (HSF.out _ HB4.out).mono ?_
    rintro e w5 ⟨rfl, hb⟩
    have HB5 := Lib.hid (HB4.out.trans (hb.mono HB4.out.size))
    have KB5 := Lib.hid (KB4.out.below hb KB4.out.lt)
    clear hb
    clear b0 b1 b2
    have b0 := KB5.out.c0
    have b1 := KB5.out.c1
    have b2 := KB5.out.c2
    go_wp2
    rw [hw2]
    refine wp_region_wild [.agg #[.int .i64 m.n, .slice A1 m.val.length c1, .slice A2 m.rel.length c2], .int .i64 gg, .slice AH nH cH, .slice AF nF cF, undef, .tuple #[.int .u64 ((zC : Nat) : Int), .bool true], .tuple #[.int .u64 ((zC : Nat) : Int), .bool true], .int .u64 ((zC : Nat) : Int), .bool true, .int .u64 ((zC : Nat) : Int), .bool true] [65, 66, 67, 68, 69, 70, 64, 71, 72, 12, 13] [0, 4, 5, 7, 8] [4] (vNdQ (fun i => if i = 4 then GC else [])) (fun W => Below w5.heap.size w5 W) (fun W W' => Below W.heap.size W W') 11 126 rfl rfl rfl (by decide) (by decide) (by kernel_rfl) (by kernel_rfl) (by kernel_rfl) (by kernel_rfl) (fun W => Below.refl _ W) (fun W1 W2 W3 h1 h2 => h1.trans (h2.mono h1.size)) (fun W W' h h2 => h.trans (h2.mono h.size)) vNdQ_up (Below.refl w5.heap.size w5).drew (by kernel_rfl) [] rfl ?hop ?fin
    case hop =>
      refine (And.intro ?s0 (And.intro ?s4 (And.intro ?s5 (And.intro ?s7 (And.intro ?s8 trivial)))))
      case s0 =>
        refine And.intro (by rfl) (fun tm W hS hsz hfr hdep K hK => ?_)
        change tm.size = 126 at hsz
        have t3 : tm.getD 3 undef = .pointer (some ⟨w.heap.size, 0, none⟩) := hfr 3 (by rfl)
        have KB9 := KB5.out.below hS KB5.out.lt
        have b0 := KB9.c0
        have b1 := KB9.c1
        have b2 := KB9.c2
        clear KB9
        clear hdep hfr
        go_simp
        exact hK _ W (Below.refl _ W) (wildV_of (by rfl))
      case s4 =>
        refine And.intro (by rfl) (fun tm W hS hsz hfr hdep K hK => ?_)
        change tm.size = 126 at hsz
        have t66 : tm.getD 66 undef = .int .i64 gg := wildV_known (by rfl) (hdep 1 (by rfl) (by decide))
        have t67 : tm.getD 67 undef = .slice AH nH cH := wildV_known (by rfl) (hdep 2 (by rfl) (by decide))
        have t68 : tm.getD 68 undef = .slice AF nF cF := wildV_known (by rfl) (hdep 3 (by rfl) (by decide))
        clear hdep hfr
        refine wp_call _ _ _ _ _ rfl rfl (by simp [Act.eval, t66, t67, t68]) (by kernel_rfl) (HCGC.out W (HB5.out.trans (hS.mono HB5.out.size))) (fun e W9 h9 => ?_)
        obtain ⟨A9, c9, rfl, hr9, hb9⟩ := h9
        exact ⟨_, rfl, hK _ W9 hb9 (show vNdQ (fun i => if i = 4 then GC else []) 4 (.slice A9 GC.length c9) W9 from ⟨A9, c9, rfl, hr9⟩)⟩
      case s5 =>
        refine And.intro (by rfl) (fun tm W hS hsz hfr hdep K hK => ?_)
        change tm.size = 126 at hsz
        have t65 : tm.getD 65 undef = .agg #[.int .i64 m.n, .slice A1 m.val.length c1, .slice A2 m.rel.length c2] := wildV_known (by rfl) (hdep 0 (by rfl) (by decide))
        have h4 : (vNdQ (fun i => if i = 4 then GC else [])) 4 (tm.getD 69 undef) W := wildV_wild (by rfl) (hdep 4 (by rfl) (by decide))
        clear hdep hfr
        obtain ⟨A4, c4, t69, hR4⟩ := h4
        change tm.getD 69 undef = .slice A4 GC.length c4 at t69
        change Reads W W.heap.size 6 A4 GC.length (nds GC) at hR4
        refine wp_call _ _ _ _ _ rfl rfl (by simp [Act.eval, t65, t69]) (by kernel_rfl) (HSGC.out W A4 c4 (HB5.out.trans (hS.mono HB5.out.size)) hR4) (fun e W9 h9 => ?_)
        obtain ⟨rfl, hb9⟩ := h9
        exact ⟨_, rfl, hK _ W9 hb9 (wildV_of (by rfl))⟩
      case s7 =>
        refine And.intro (by rfl) (fun tm W hS hsz hfr hdep K hK => ?_)
        change tm.size = 126 at hsz
        have t64 : tm.getD 64 undef = .tuple #[.int .u64 ((zC : Nat) : Int), .bool true] := wildV_known (by rfl) (hdep 6 (by rfl) (by decide))
        clear hdep hfr
        go_simp
        exact hK _ W (Below.refl _ W) (wildV_of (by rfl))
      case s8 =>
        refine And.intro (by rfl) (fun tm W hS hsz hfr hdep K hK => ?_)
        change tm.size = 126 at hsz
        have t64 : tm.getD 64 undef = .tuple #[.int .u64 ((zC : Nat) : Int), .bool true] := wildV_known (by rfl) (hdep 6 (by rfl) (by decide))
        clear hdep hfr
        go_simp
        exact hK _ W (Below.refl _ W) (wildV_of (by rfl))
    case fin =>
      intro f w6 hS hV
      have y4 : (vNdQ (fun i => if i = 4 then GC else [])) 4 (f 4) w6 := hV 4 (by decide) (by rfl)
      clear hV
      have hvl : ((List.range 11).map (fun i => if [4].contains i then f i else ([.agg #[.int .i64 m.n, .slice A1 m.val.length c1, .slice A2 m.rel.length c2], .int .i64 gg, .slice AH nH cH, .slice AF nF cF, undef, .tuple #[.int .u64 ((zC : Nat) : Int), .bool true], .tuple #[.int .u64 ((zC : Nat) : Int), .bool true], .int .u64 ((zC : Nat) : Int), .bool true, .int .u64 ((zC : Nat) : Int), .bool true] : List Value).getD i undef)) = [.agg #[.int .i64 m.n, .slice A1 m.val.length c1, .slice A2 m.rel.length c2], .int .i64 gg, .slice AH nH cH, .slice AF nF cF, f 4, .tuple #[.int .u64 ((zC : Nat) : Int), .bool true], .tuple #[.int .u64 ((zC : Nat) : Int), .bool true], .int .u64 ((zC : Nat) : Int), .bool true, .int .u64 ((zC : Nat) : Int), .bool true] := by rfl
      rw [hvl]
      clear hvl
      have HB6 := Lib.hid (HB5.out.trans (hS.mono HB5.out.size))
      have KB6 := Lib.hid (KB5.out.below hS KB5.out.lt)
      clear hS y4
      generalize f 4 = fv4 at *
      simp only [fillD]
      go_simp
      clear HCGC HSGC HSF HSH HAW HFF HFH HMW HT hw2
      have b0 := KB6.out.c0
      have b1 := KB6.out.c1
      have b2 := KB6.out.c2
      rw [HNN.out] at b0
      have HRR6 := Lib.hid (HCL.out _ HB6.out)
      clear HCL
      go_wp2_with fail
      refine (HAL.out _).mono ?_
      rintro e w7 ⟨rfl, hb⟩
      subst hb
      clear HAL
      generalize hRL : m.rel = RL at *
      clear hRL
      generalize hL : RL.length = L at *
      clear hL
      generalize allV (N : Int) = al at *
      have HFXL : Hid (∀ j, fixL RL hH hF L N al j < 18446744073709551616) := Lib.hid (fixL_lt RL hH hF L N al HALL.out)
      obtain ⟨ad, Aj0, cj0, hA2, _, _, _, _⟩ := HRR6.out.at_ (k := 0) (by omega)
      subst hA2
      clear hr0 hl1
      go_wp2
      clear b1
      go_loopw [14, 15, 16, 17, 18, 81, 85, 91] (fun sv _ _ _ _ i _ _ wr => ∃ k : Nat, k ≤ N + 1 ∧ i = .int .i64 k ∧ sv = .int .u64 ((fixL RL hH hF L N al k : Nat) : Int) ∧ w6 = wr) (fun _ _ _ _ _ i _ _ _ => N + 1 - (intOf i).toNat)
      case atStart => exact ⟨0, Nat.zero_le _, rfl, rfl, by first | rfl | trivial⟩
      case round =>
        obtain ⟨k, hk1, rfl, rfl, rfl⟩ := hrel
        by_cases hlt : k < N + 1
        case neg =>
          obtain rfl : k = N + 1 := by omega
          clear hlt
          rw [HFX.out]
          go_wp2
          go_ret
          exact ⟨by first | rfl | simp, HB6.out⟩
        obtain ⟨s, hs⟩ : ∃ s, fixL RL hH hF L N al k = s := ⟨_, rfl⟩
        have hsl : s < 18446744073709551616 := by rw [← hs]; exact HFXL.out k
        have HF1 : Hid (fixL RL hH hF L N al (k + 1) = s &&& nextL RL hH (hF &&& s) L N) := Lib.hid (by rw [← hs]; rfl)
        have HNL := Lib.hid (fun j (hj : j ≤ N) => nextL_lt RL hH (hF &&& s) L j (by omega))
        rw [hs]
        clear hs
        have HIT := Lib.hid (fun a ha => ins_test a hH hF s ha HHL.out HFL.out hsl)
        go_wp2
        go_loopw [15, 16, 17, 18, 85, 91] (fun nv _ _ _ i _ wr => ∃ j : Nat, j ≤ N ∧ i = .int .i64 j ∧ nv = .int .u64 ((nextL RL hH (hF &&& s) L j : Nat) : Int) ∧ w6 = wr) (fun _ _ _ _ i _ _ => N - (intOf i).toNat)
        case atStart => exact ⟨0, Nat.zero_le _, rfl, rfl, by first | rfl | trivial⟩
        case round =>
          obtain ⟨j, hj, rfl, rfl, rfl⟩ := hrel
          by_cases hlt2 : j < N
          case neg =>
            obtain rfl : N = j := by omega
            clear hlt2
            have hzl := HNL.out N (Nat.le_refl _)
            generalize nextL RL hH (hF &&& s) L N = z at *
            have hand := u64_and_nat s z hsl hzl
            go_wp2
            go_roundw
            case rel => exact ⟨k + 1, by omega, by go_num, by rw [HF1.out], by first | rfl | trivial⟩
            case measure => simp [intOf]; omega
          have hzl := HNL.out j hj
          have HN1 : Hid (nextL RL hH (hF &&& s) L (j + 1) = if insL RL hH (hF &&& s) j L then nextL RL hH (hF &&& s) L j ||| p2 j else nextL RL hH (hF &&& s) L j) := Lib.hid rfl
          generalize nextL RL hH (hF &&& s) L j = z at *
          have hwp := wrap_pow j (by omega)
          have hor := (or_pow z j hzl (by omega)).1
          go_wp2
          go_loopw [17, 18, 91] (fun iv _ i wr => ∃ a : Nat, a ≤ L ∧ i = .int .i64 a ∧ iv = .bool (insL RL hH (hF &&& s) j a) ∧ w6 = wr) (fun _ _ i _ => L - (intOf i).toNat)
          case atStart => exact ⟨0, Nat.zero_le _, rfl, rfl, by first | rfl | trivial⟩
          case round =>
            obtain ⟨a, ha, rfl, rfl, rfl⟩ := hrel
            by_cases hlt3 : a < L
            case neg =>
              obtain rfl : L = a := by omega
              clear hlt3
              cases hi : insL RL hH (hF &&& s) j L with
              | true =>
                rw [hi] at HN1
                clear hi
                go_wp2
                go_roundw
                case rel => exact ⟨j + 1, by omega, by go_num, by rw [HN1.out]; rfl, by first | rfl | trivial⟩
                case measure => simp [intOf]; omega
              | false =>
                rw [hi] at HN1
                clear hi
                go_wp2
                go_roundw
                case rel => exact ⟨j + 1, by omega, by go_num, by rw [HN1.out]; rfl, by first | rfl | trivial⟩
                case measure => simp [intOf]; omega
            have HI1 : Hid (insL RL hH (hF &&& s) j (a + 1) = (insL RL hH (hF &&& s) j a && (anN ((RL.getD a []).getD j 0 &&& hH) (hF &&& s) == 0))) := Lib.hid rfl
            obtain ⟨ad1, Aj, cj, had, _, hc, hrj, _⟩ := HRR6.out.at_ hlt3
            injection had with had
            subst had
            obtain ⟨hrow, hword⟩ := HROW.out a (by omega)
            have hwj := hword j
            rw [hrow] at hc hrj
            obtain ⟨ad2, rfl, _, hcj⟩ := hrj.word_k hlt2
            obtain ⟨hi1, hi2, hi3⟩ := HIT.out _ hwj
            clear hrj hword hrow hwj
            generalize (RL.getD a []).getD j 0 = g at *
            generalize g &&& hH = gx at *
            generalize hF &&& s = fs at *
            generalize (anN gx fs == 0) = bz at *
            cases hi : insL RL hH fs j a with
            | true =>
              rw [hi] at HI1
              clear hi
              go_wp2
              go_roundw
              case rel => exact ⟨a + 1, by omega, by go_num, by rw [HI1.out]; rfl, by first | rfl | trivial⟩
              case measure => simp [intOf]; omega
            | false =>
              rw [hi] at HI1
              clear hi
              go_wp2
              go_roundw
              case rel => exact ⟨a + 1, by omega, by go_num, by rw [HI1.out]; rfl, by first | rfl | trivial⟩
              case measure => simp [intOf]; omega
set_option maxRecDepth 100000 in
theorem contract (H : Type) (enc : TypeId × Value → H) (W : World) (base : Nat) (args : Array Value) (ds gs : List (DataW H)) (before : List MemPlace)
    (hval : ∀ (j : Nat) t v, Tryd.f4.params[j]? = some t → args[j]? = some v → Value.okWide Tryd.prog W .any base t v)
    (hW : DataW.Whole enc Tryd.prog Tryd.f4.params.toList Rows.checkerFixpointSpec.vars false W args.toList ds gs before) (hE : Tab W) :
    Calls Tryd.prog 4 args W fun e W' => ∃ v, e = .returned v ∧ Rows.checkerFixpointSpec.post enc Tryd.prog Tryd.f4 false true false false W args v W' := by
  have hW' := hW
  obtain ⟨p, q, hA0, hV, rfl, hfz, hnd⟩ := hW
  have hA : DataW.TrodAll enc Tryd.prog W 0 (fun _ => true) true Tryd.f4.params.toList args.toList ds p := hA0
  rw [Tryd.params4] at hA hval
  obtain ⟨v0, vs0, d0, ds0, p0, q0, hargs, rfl, rfl, h0, r0⟩ := trodAll_cons hA
  obtain ⟨v1, vs1, d1, ds1, p1, q1, rfl, rfl, rfl, h1, r1⟩ := trodAll_cons r0
  obtain ⟨v2, vs2, d2, ds2, p2, q2, rfl, rfl, rfl, h2, r2⟩ := trodAll_cons r1
  obtain ⟨rfl, rfl, rfl⟩ := trodAll_nil r2
  obtain rfl : args = #[v0, v1, v2] := by cases args; simp_all
  obtain ⟨rfl, rfl⟩ := trodVars_none hV
  obtain ⟨m0, w0⟩ := open_mo (hval 0 25 v0 rfl rfl) h0
  have k0 := h0
  have lt0 : ∀ x ∈ p0, x.block < W.heap.size := by obtain ⟨m, hm⟩ := k0; exact DataW.trod_lt m _ _ _ hm
  obtain ⟨af1, nf1, cf1, rfl⟩ := okWide_slice Tryd.underlying26 (hval 1 26 v1 rfl rfl)
  obtain ⟨f1, w1⟩ : ∃ l, NdRow W af1 nf1 cf1 l := by
    obtain ⟨fuel, hf⟩ := h1
    exact open_nodes hf
  have k1 := h1
  have lt1 : ∀ x ∈ p1, x.block < W.heap.size := by obtain ⟨m, hm⟩ := k1; exact DataW.trod_lt m _ _ _ hm
  obtain ⟨af2, nf2, cf2, rfl⟩ := okWide_slice Tryd.underlying26 (hval 2 26 v2 rfl rfl)
  obtain ⟨f2, w2⟩ : ∃ l, NdRow W af2 nf2 cf2 l := by
    obtain ⟨fuel, hf⟩ := h2
    exact open_nodes hf
  have k2 := h2
  have lt2 : ∀ x ∈ p2, x.block < W.heap.size := by obtain ⟨m, hm⟩ := k2; exact DataW.trod_lt m _ _ _ hm
  clear hA0
  have hwalk := walk m0 _ f1 af1 nf1 cf1 f2 af2 nf2 cf2 W w0 w1.1 w1.2.2.2 w2.1 w2.2.2.2 hE
  refine hwalk.mono fun e W' ⟨he, hg⟩ => ?_
  subst he
  exact ⟨_, rfl, _, _, _, [], _, [], hW', trodAll_mk1 (shut_bool Tryd.underlying4 _), (trodAll_cons_mk (Below.trod laidOut (by kernel_rfl) (of_decide_eq_true (by kernel_rfl)) k0 hg lt0) (trodAll_cons_mk (Below.trod laidOut (by kernel_rfl) (of_decide_eq_true (by kernel_rfl)) k1 hg lt1) (trodAll_cons_mk (Below.trod laidOut (by kernel_rfl) (of_decide_eq_true (by kernel_rfl)) k2 hg lt2) trodAll_mk0))), rfl, hg.frame _, fun h => by cases h⟩
theorem reads (os : Os) {H : Type} (enc : TypeId × Value → H) : ∃ places, DataW.whole enc Tryd.prog ((laidW os).forCall (fun _ _ => 0) ⟨#[], #[.agg #[.int .i64 0, .slice none 0 0, .slice none 0 0], .slice none 0 0, .slice none 0 0], []⟩).memory Tryd.f4.params.toList Rows.checkerFixpointSpec.vars false #[(.agg #[.int .i64 0, .slice none 0 0, .slice none 0 0] : Value), (.slice none 0 0 : Value), (.slice none 0 0 : Value)].toList 8 = some ([.agg [.lit (.int .i64 0), .nil, .nil], .nil, .nil], [], places) :=
  ⟨[], by kernel_rfl⟩
set_option maxRecDepth 100000 in
theorem lifted (os : Os) (started : os.Started) (H : Type) (enc : TypeId × Value → H) (F : Stop.Interp) :
    ReturnsInHanded {} Tryd.checked os 4 .any ((OpenSpec.ofChange Rows.checkerFixpointSpec).preRow enc Tryd.prog Tryd.f4 Rows.checkerFixpointRow.domain false Rows.checkerFixpointRow.laid) (((OpenSpec.ofChange Rows.checkerFixpointSpec).at F).post enc Tryd.prog Tryd.f4 false true false false) := by
  obtain ⟨places, hx⟩ := reads os enc
  refine returnsInHanded_of_row (C := Tryd.checked) (s := OpenSpec.ofChange Rows.checkerFixpointSpec) own started (by kernel_rfl) Tryd.func4
    (witness_row_atRef (enc := enc) (C := Tryd.checked) false (laidW os) #[.agg #[.int .i64 0, .slice none 0 0, .slice none 0 0], .slice none 0 0, .slice none 0 0] (laidW_os os) (vars_ok os _) (heap_ok os _) (by kernel_rfl)
      (OpenSpec.preRow_of_cond 8 hx (by kernel_rfl) (fun k hk => by cases hk) (by kernel_rfl) (laid_met os _))) ?_
  intro W base args ds gs before hval hW _ _ _ hL hsh _
  exact contract H enc W base args ds gs before hval hW (env_of hL)
theorem said : Rows.CheckerFixpointSaid :=
  OpenClaim.holds_of_cond 4 Tryd.f4 rfl rfl rfl rfl rfl rfl rfl ⟨rfl, rfl, rfl, rfl, rfl⟩ rfl rfl rfl rfl rfl (by kernel_rfl) Tryd.func4 (by kernel_rfl)
    (of_decide_eq_true (by kernel_rfl)) (by unfold Func.isWrapper; first | (rw [if_pos (by decide +kernel)]; kernel_rfl) | (rw [if_neg (by decide +kernel)]; exact ⟨rfl, rfl⟩))
    (fun os started H enc _ F => by rw [OpenClaim.pre_eq_preRow]; exact lifted os started H enc F)
theorem plain (f : FuncId) (fn : Func) (hf : Tryd.pinned.checked.prog.funcNamed "witting/wittinglaw17.CheckerFixpoint" = some f) (hfn : Tryd.pinned.checked.prog.funcs[f]? = some fn) :
    false = Tryd.pinned.checked.prog.looks [] ∧ ∀ (j : Nat) t, fn.params[j]? = some t → Tryd.pinned.checked.prog.wantsStandIn t = false := by
  obtain rfl : f = 4 := Option.some.inj ((show Tryd.prog.funcNamed "witting/wittinglaw17.CheckerFixpoint" = some 4 by kernel_rfl).symm.trans hf) |>.symm
  obtain rfl : fn = Tryd.f4 := (Option.some.inj (Tryd.func4.symm.trans hfn)).symm
  refine ⟨no_looks, fun j t ht => ?_⟩
  rw [Tryd.params4] at ht
  have hm : t ∈ [25, 26, 26] := by simpa using Array.mem_of_getElem? ht
  have hall : ([25, 26, 26].all fun u => !Tryd.prog.wantsStandIn u) = true := by kernel_rfl
  exact (show Tryd.prog.wantsStandIn t = false by simpa using List.all_eq_true.1 hall t hm)
theorem card : Rows.CheckerFixpointCardSaid :=
  Claim7.holds_tied_plain_at .later [] _ _ _ _ said (fun _ h => by cases h) (by kernel_rfl) (fun _ h => by cases h) checkerFixpoint_row_tie rfl ⟨rfl, rfl⟩ (by kernel_rfl) rfl plain (by kernel_rfl)
#print axioms card
end Go.Proofs.YtjpmhbnikoggaaaDoor.checkerFixpoint
