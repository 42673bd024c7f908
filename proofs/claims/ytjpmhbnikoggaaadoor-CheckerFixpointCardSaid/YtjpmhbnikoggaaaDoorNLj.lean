/- Layer 17: the check of a model and a formula, on both sides. -/
import Derived.Test.YtjpmhbnikoggaaaDoorNIg
import Derived.Test.YtjpmhbnikoggaaaDoorNKc
namespace Go.Proofs.YtjpmhbnikoggaaaDoor
open Go.RowKit Go.Proofs.Ws
set_option maxRecDepth 100000
theorem ret_intC {a b : Int} (h : a = b) : Ending.returned (.int .i64 a) = .returned (.int .i64 b) := by rw [h]
theorem frag_bits (x : Nat) (h : x < 512) : bits .andNot .i64 (x : Int) 15 = ((x &&& 496 : Nat) : Int) := by
  have h2 : ∀ k : Fin 512, bits .andNot .i64 ((k.1 : Nat) : Int) 15 = ((k.1 &&& 496 : Nat) : Int) := by decide +kernel
  exact h2 ⟨x, h⟩
theorem frag_lt (f : List Nd) : maskL fragD (compF f) < 512 := by
  rw [show (512 : Nat) = 2 ^ 9 from rfl, maskL_below]
  intro n _
  unfold fragD
  exact fragN_lt _
set_option maxHeartbeats 8000000 in
theorem pChkC_any (m : Mo) (v : Value) (f : List Nd) (A : Option Addr) (n c : Nat) (w : World) (hM : MoR w w.heap.size v m) (hR : Reads w w.heap.size 6 A n (nds f)) (hn : n ≤ maxLen) :
    Calls Tryd.prog 57 #[v, .slice A n c] w fun e w' => e = .returned (.int .i64 (chkF m f)) ∧ Below w.heap.size w w' := by
  obtain ⟨A1, c1, A2, c2, rfl, hv, hr⟩ := hM.ex
  have HB0 := Lib.hid ((Below.refl w.heap.size w).alloc (Nat.le_refl _) (.cells #[.int .i64 m.n, .slice A1 m.val.length c1, .slice A2 m.rel.length c2] 25))
  have KB0 := Lib.hid (MBox.made w m.n (.slice A1 m.val.length c1) (.slice A2 m.rel.length c2))
  have HMC := Lib.hid (fun W (hb : Below w.heap.size w W) => pCheck_any m _ W (hM.below hb hb.size))
  have HFC := Lib.hid (fun W (hb : Below w.heap.size w W) => fCheck_any f A n c W ((hR.below hb).more hb.size) hn)
  have HFR := Lib.hid (fun W (hb : Below w.heap.size w W) => pFrags_any f A n c W ((hR.below hb).more hb.size) hn)
  have HFI := Lib.hid (fun W (hb : Below w.heap.size w W) => pFits_any f (m.rel.length : Int) (m.val.length : Int) A n c W ((hR.below hb).more hb.size) hn)
  clear hM hR hn hv hr
  by_cases hz : chkM m = 0
  case neg =>
    have HV : Hid (chkF m f = chkM m) := Lib.hid (by unfold chkF; rw [if_pos hz])
    have hz1 : (chkM m != 0) = true := by rw [bne_iff_ne]; exact hz
    clear hz
    generalize chkF m f = V at *
    generalize chkM m = z at *
    clear HFC HFR HFI
    go_enter Tryd.func57, Tryd.ntmps57
    go_wp2_with fail
    refine (HMC.out _ HB0.out).mono ?_
    rintro e w1 ⟨rfl, hb⟩
    have HB1 := Lib.hid (HB0.out.trans (hb.mono HB0.out.size))
    have KB1 := Lib.hid (KB0.out.below hb KB0.out.lt)
    clear hb
    go_wp2
    go_ret
    exact ⟨ret_intC HV.out.symm, HB1.out⟩
  have HV0 := Lib.hid (show chkF m f = if fErr f ≠ 0 then fErr f else if maskL fragD (compF f) &&& 496 ≠ 0 then 10 else if fitsF f m.rel.length m.val.length = false then 2 else 0 by unfold chkF; rw [if_neg (fun h => h hz)])
  rw [hz] at HMC
  clear hz
  by_cases hf : fErr f = 0
  case neg =>
    have HV : Hid (chkF m f = fErr f) := Lib.hid (by rw [HV0.out, if_pos hf])
    have hz1 : (fErr f != 0) = true := by rw [bne_iff_ne]; exact hf
    clear hf HV0
    generalize chkF m f = V at *
    generalize fErr f = z at *
    clear HFR HFI
    go_enter Tryd.func57, Tryd.ntmps57
    go_wp2_with fail
    refine (HMC.out _ HB0.out).mono ?_
    rintro e w1 ⟨rfl, hb⟩
    have HB1 := Lib.hid (HB0.out.trans (hb.mono HB0.out.size))
    have KB1 := Lib.hid (KB0.out.below hb KB0.out.lt)
    clear hb
    go_wp2_with fail
    refine (HFC.out _ HB1.out).mono ?_
    rintro e w2 ⟨rfl, hb⟩
    have HB2 := Lib.hid (HB1.out.trans (hb.mono HB1.out.size))
    have KB2 := Lib.hid (KB1.out.below hb KB1.out.lt)
    clear hb
    go_wp2
    go_ret
    exact ⟨ret_intC HV.out.symm, HB2.out⟩
  rw [hf] at HFC
  rw [if_neg (fun h => h hf)] at HV0
  clear hf
  have hfb := frag_bits _ (frag_lt f)
  obtain ⟨q, hq⟩ : ∃ q, maskL fragD (compF f) = q := ⟨_, rfl⟩
  rw [hq] at hfb HV0 HFR
  clear hq
  by_cases hg : q &&& 496 = 0
  case neg =>
    have HV : Hid (chkF m f = 10) := Lib.hid (by rw [HV0.out, if_pos hg])
    have hz1 : (((q &&& 496 : Nat) : Int) != 0) = true := by rw [bne_iff_ne]; omega
    clear hg HV0
    generalize chkF m f = V at *
    generalize q &&& 496 = q2 at *
    clear HFI
    go_enter Tryd.func57, Tryd.ntmps57
    go_wp2_with fail
    refine (HMC.out _ HB0.out).mono ?_
    rintro e w1 ⟨rfl, hb⟩
    have HB1 := Lib.hid (HB0.out.trans (hb.mono HB0.out.size))
    have KB1 := Lib.hid (KB0.out.below hb KB0.out.lt)
    clear hb
    go_wp2_with fail
    refine (HFC.out _ HB1.out).mono ?_
    rintro e w2 ⟨rfl, hb⟩
    have HB2 := Lib.hid (HB1.out.trans (hb.mono HB1.out.size))
    have KB2 := Lib.hid (KB1.out.below hb KB1.out.lt)
    clear hb
    go_wp2_with fail
    refine (HFR.out _ HB2.out).mono ?_
    rintro e w3 ⟨rfl, hb⟩
    have HB3 := Lib.hid (HB2.out.trans (hb.mono HB2.out.size))
    have KB3 := Lib.hid (KB2.out.below hb KB2.out.lt)
    clear hb
    go_wp2
    go_ret
    exact ⟨ret_intC HV.out.symm, HB3.out⟩
  rw [if_neg (fun h => h hg)] at HV0
  rw [hg] at hfb
  clear hg
  generalize chkF m f = V at *
  generalize m.val.length = vl at *
  generalize m.rel.length = rl at *
  generalize fitsF f rl vl = fi at *
  cases fi with
  | false =>
    have HV : Hid (V = 2) := Lib.hid (by rw [HV0.out]; rfl)
    go_enter Tryd.func57, Tryd.ntmps57
    go_wp2_with fail
    refine (HMC.out _ HB0.out).mono ?_
    rintro e w1 ⟨rfl, hb⟩
    have HB1 := Lib.hid (HB0.out.trans (hb.mono HB0.out.size))
    have KB1 := Lib.hid (KB0.out.below hb KB0.out.lt)
    clear hb
    go_wp2_with fail
    refine (HFC.out _ HB1.out).mono ?_
    rintro e w2 ⟨rfl, hb⟩
    have HB2 := Lib.hid (HB1.out.trans (hb.mono HB1.out.size))
    have KB2 := Lib.hid (KB1.out.below hb KB1.out.lt)
    clear hb
    go_wp2_with fail
    refine (HFR.out _ HB2.out).mono ?_
    rintro e w3 ⟨rfl, hb⟩
    have HB3 := Lib.hid (HB2.out.trans (hb.mono HB2.out.size))
    have KB3 := Lib.hid (KB2.out.below hb KB2.out.lt)
    clear hb
    have b0 := KB3.out.c0
    have b1 := KB3.out.c1
    have b2 := KB3.out.c2
    go_wp2_with fail
    refine (HFI.out _ HB3.out).mono ?_
    rintro e w4 ⟨rfl, hb⟩
    have HB4 := Lib.hid (HB3.out.trans (hb.mono HB3.out.size))
    have KB4 := Lib.hid (KB3.out.below hb KB3.out.lt)
    clear hb
    go_wp2
    go_ret
    exact ⟨ret_intC HV.out.symm, HB4.out⟩
  | true =>
    have HV : Hid (V = 0) := Lib.hid (by rw [HV0.out]; rfl)
    go_enter Tryd.func57, Tryd.ntmps57
    go_wp2_with fail
    refine (HMC.out _ HB0.out).mono ?_
    rintro e w1 ⟨rfl, hb⟩
    have HB1 := Lib.hid (HB0.out.trans (hb.mono HB0.out.size))
    have KB1 := Lib.hid (KB0.out.below hb KB0.out.lt)
    clear hb
    go_wp2_with fail
    refine (HFC.out _ HB1.out).mono ?_
    rintro e w2 ⟨rfl, hb⟩
    have HB2 := Lib.hid (HB1.out.trans (hb.mono HB1.out.size))
    have KB2 := Lib.hid (KB1.out.below hb KB1.out.lt)
    clear hb
    go_wp2_with fail
    refine (HFR.out _ HB2.out).mono ?_
    rintro e w3 ⟨rfl, hb⟩
    have HB3 := Lib.hid (HB2.out.trans (hb.mono HB2.out.size))
    have KB3 := Lib.hid (KB2.out.below hb KB2.out.lt)
    clear hb
    have b0 := KB3.out.c0
    have b1 := KB3.out.c1
    have b2 := KB3.out.c2
    go_wp2_with fail
    refine (HFI.out _ HB3.out).mono ?_
    rintro e w4 ⟨rfl, hb⟩
    have HB4 := Lib.hid (HB3.out.trans (hb.mono HB3.out.size))
    have KB4 := Lib.hid (KB3.out.below hb KB3.out.lt)
    clear hb
    go_wp2
    go_ret
    exact ⟨ret_intC HV.out.symm, HB4.out⟩
end Go.Proofs.YtjpmhbnikoggaaaDoor
