/- Layer 17: Holds, At and Valid by the reference. -/
import Derived.Test.YtjpmhbnikoggaaaGreatDoorCp
import Derived.Test.YtjpmhbnikoggaaaGreatDoorNKe
namespace Go.Proofs.YtjpmhbnikoggaaaGreatDoor
open Go.RowKit Go.Proofs.Ws
set_option maxRecDepth 100000
theorem rSets_anyC (m : Mo) (v : Value) (f : List Nd) (A : Option Addr) (n c : Nat) (w : World) (hM : MoR w w.heap.size v m) (hR : Reads w w.heap.size 6 A n (nds f)) (hn : n ≤ maxLen) :
    Calls Tryz.prog 29 #[v, .slice A n c] w (GivesT m f w) := by
  by_cases hz : chkF m f = 0
  · exact rSetsOk_any m v f A n c w hM hR hn hz
  · exact rSetsBad_any m v f A n c w hM hR hn hz
theorem hold_tree {f : List Nd} (hz : fErr f = 0) : treeAt (compF f) ((compF f).length - 1) = treeAt f (f.length - 1) := by
  have hne : f.length ≠ 0 := by simpa using (fErr_ok hz).1
  rw [compF_tree hz]
  exact canT_tree (treeAt_ok (fErr_ops hz) (f.length - 1 + 1) (f.length - 1) (by omega) (by omega))
theorem comp_comp {f : List Nd} (hz : fErr f = 0) : compF (compF f) = compF f := by
  have h := compF_tree (compF_ok hz)
  rw [hold_tree hz] at h
  rw [h, compF_tree hz]
theorem comp_bad {f : List Nd} (hz : fErr f ≠ 0) : compF f = [] := by unfold compF; rw [if_neg hz]
theorem chk_comp (m : Mo) (f : List Nd) : chkF m (compF f) = 0 ↔ chkF m f = 0 := by
  by_cases hz : fErr f = 0
  · have h1 := compF_ok hz
    have h2 := comp_comp hz
    unfold chkF fitsF
    rw [h1, h2, hz]
  · constructor
    · intro h
      have h2 := (fErr_ok (chkF_zero h).2.1).1
      rw [comp_bad hz] at h2
      exact absurd rfl h2
    · intro h
      exact absurd (chkF_zero h).2.1 hz
set_option maxHeartbeats 8000000 in
theorem rHolds_anyC (m : Mo) (v : Value) (f : List Nd) (A : Option Addr) (n c : Nat) (w : World) (hM : MoR w w.heap.size v m) (hR : Reads w w.heap.size 6 A n (nds f)) (hn : n ≤ maxLen) :
    Calls Tryz.prog 23 #[v, .slice A n c] w fun e w' => e = .returned (.tuple #[.int .u64 ((holdV m f : Nat) : Int), .int .i64 (chkF m f)]) ∧ Below w.heap.size w w' := by
  obtain ⟨A1, c1, A2, c2, rfl, hv, hr⟩ := hM.ex
  have HB0 := Lib.hid ((Below.refl w.heap.size w).alloc (Nat.le_refl _) (.cells #[.int .i64 m.n, .slice A1 m.val.length c1, .slice A2 m.rel.length c2] 25))
  have KB0 := Lib.hid (MBox.made w m.n (.slice A1 m.val.length c1) (.slice A2 m.rel.length c2))
  have hlen := hR.nd_len
  have hcl : (compF f).length ≤ maxLen := Nat.le_trans (compF_le f) (by omega)
  have HCO := Lib.hid (fun W (hb : Below w.heap.size w W) => rCompact_any f A n c W ((hR.below hb).more hb.size) hn)
  have HS := Lib.hid (fun W A' c' (hb : Below w.heap.size w W) (h : Reads W W.heap.size 6 A' (compF f).length (nds (compF f))) => rSets_anyC m _ (compF f) A' (compF f).length c' W (hM.below hb hb.size) h hcl)
  unfold GivesT at HS
  have HCK := Lib.hid (fun W (hb : Below w.heap.size w W) => rChkC_any m _ f A n c W (hM.below hb hb.size) ((hR.below hb).more hb.size) hn)
  have KB1 : Hid (MBox (w.alloc (.cells #[.int .i64 m.n, .slice A1 m.val.length c1, .slice A2 m.rel.length c2] 25)).drew w.heap.size m.n (.slice A1 m.val.length c1) (.slice A2 m.rel.length c2)) := KB0
  have HB1 := Lib.hid HB0.out.drew
  by_cases hz : chkF m f = 0
  case neg =>
    have HV : Hid (holdV m f = 0) := Lib.hid (by unfold holdV; rw [if_neg hz])
    have hzc : (chkF m (compF f) != 0) = true := by rw [bne_iff_ne]; exact fun h => hz ((chk_comp m f).1 h)
    rw [HV.out]
    clear hM hR hn hv hr hz HV hlen hcl
    generalize chkF m (compF f) = zc at *
    generalize chkF m f = z at *
    generalize (setsR m (compF f)).length = L at *
    generalize (compF f).length = cl at *
    have b0 := KB1.out.c0
    have b1 := KB1.out.c1
    have b2 := KB1.out.c2
    have HC1 := HCO.out _ HB1.out
    go_enter Tryz.func23, Tryz.ntmps23
    go_wp2
    go_region_with (first | (go_at_call 48; refine (HC1).mono ?_; rintro e w2 ⟨A', c', rfl, hrd, hb⟩; have hb2 := HB1.out.trans (hb.mono HB1.out.size); have KB2 := KB1.out.below hb KB1.out.lt; have d0 := KB2.c0; have d1 := KB2.c1; have d2 := KB2.c2) | (go_at_call 29; refine (HS.out _ A' c' hb2 hrd).mono ?_; rintro e w3 ⟨A3, c3, rfl, _, hb3⟩))
    all_goals
      have HB3 := Lib.hid (hb2.trans (hb3.mono hb2.size))
      have KB3 := Lib.hid (KB2.below hb3 KB2.lt)
      clear hb2 hb3 hb hrd KB2 d0 d1 d2 b0 b1 b2 HC1
      have b0 := KB3.out.c0
      have b1 := KB3.out.c1
      have b2 := KB3.out.c2
      go_wp2_with fail
      refine (HCK.out _ HB3.out).mono ?_
      rintro e w4 ⟨rfl, hb⟩
      have HB4 := Lib.hid (HB3.out.trans (hb.mono HB3.out.size))
      clear hb b0 b1 b2
      go_wp2
      go_ret2
      exact ⟨rfl, HB4.out⟩
  have hzc : chkF m (compF f) = 0 := (chk_comp m f).2 hz
  have hf0 := (chkF_zero hzc).2.1
  have hne := List.length_pos_iff.2 (fErr_ok hf0).1
  have hl2 := (fErr_ok hf0).2.1
  obtain ⟨X, hX⟩ : ∃ X, (compF f).length = X + 1 := ⟨(compF f).length - 1, by omega⟩
  have HV : Hid (holdV m f = valT m (treeAt (compF f) X)) := Lib.hid (by
    have h := hold_tree (chkF_zero hz).2.1
    rw [hX] at h
    unfold holdV
    rw [if_pos hz, ← h]
    rfl)
  have hsr : setsR m (compF f) = valsL m (compF f) (X + 1) := by unfold setsR; rw [if_pos hzc, hX]
  rw [hsr, valsL_len, hzc, hX] at HS
  rw [hX] at HCO
  rw [HV.out, hz]
  have HVA := Lib.hid (valsL_at m (compF f) (show X < X + 1 by omega))
  have hx1 : wrap64 (X : Int) = (X : Int) := IntWalk.wrap64_in _ ⟨by omega, by omega⟩
  clear hM hR hn hv hr hz hzc HV hsr hne hl2 hX hlen hcl hf0 HCK
  generalize valT m (treeAt (compF f) X) = z at *
  generalize valsL m (compF f) (X + 1) = L at *
  have b0 := KB1.out.c0
  have b1 := KB1.out.c1
  have b2 := KB1.out.c2
  have HC1 := HCO.out _ HB1.out
  go_enter Tryz.func23, Tryz.ntmps23
  go_wp2
  go_region_with (first | (go_at_call 48; refine (HC1).mono ?_; rintro e w2 ⟨A', c', rfl, hrd, hb⟩; have hb2 := HB1.out.trans (hb.mono HB1.out.size); have KB2 := KB1.out.below hb KB1.out.lt; have d0 := KB2.c0; have d1 := KB2.c1; have d2 := KB2.c2) | (go_at_call 29; refine (HS.out _ A' c' hb2 hrd).mono ?_; rintro e w3 ⟨A3, c3, rfl, hrd3, hb3⟩))
  all_goals
    have HB3 := Lib.hid (hb2.trans (hb3.mono hb2.size))
    obtain ⟨ad, rfl, _, hc⟩ := hrd3.word_k (show X < X + 1 by omega)
    rw [HVA.out] at hc
    clear hb2 hb3 hb hrd hrd3 KB2 d0 d1 d2 b0 b1 b2 HC1
    go_wp2
    go_ret2
    exact ⟨rfl, HB3.out⟩
set_option maxHeartbeats 8000000 in
theorem rAt_anyC (m : Mo) (v : Value) (i : Int) (f : List Nd) (A : Option Addr) (n c : Nat) (w : World) (hM : MoR w w.heap.size v m) (hR : Reads w w.heap.size 6 A n (nds f)) (hn : n ≤ maxLen) :
    Calls Tryz.prog 25 #[v, .int .i64 i, .slice A n c] w fun e w' => e = .returned (.tuple #[.bool (atV m f i), .int .i64 (atE m f i)]) ∧ Below w.heap.size w w' := by
  obtain ⟨A1, c1, A2, c2, rfl, hv, hr⟩ := hM.ex
  have HB0 := Lib.hid ((Below.refl w.heap.size w).alloc (Nat.le_refl _) (.cells #[.int .i64 m.n, .slice A1 m.val.length c1, .slice A2 m.rel.length c2] 25))
  have KB0 := Lib.hid (MBox.made w m.n (.slice A1 m.val.length c1) (.slice A2 m.rel.length c2))
  have HS := Lib.hid (fun W (hb : Below w.heap.size w W) => rHolds_anyC m _ f A n c W (hM.below hb hb.size) ((hR.below hb).more hb.size) hn)
  have hhl := holdV_lt hM.wval f
  have hok : chkF m f = 0 → m.n ≤ 64 := fun h => by have := (chkM_ok (chkF_zero h).1).le; have h2 := (chkM_ok (chkF_zero h).1).num; omega
  unfold atV atE
  clear hM hR hn hv hr
  generalize holdV m f = hd at *
  generalize chkF m f = z at *
  generalize m.n = nn at *
  by_cases hz : z = 0
  case neg =>
    have hz1 : (z != 0) = true := by rw [bne_iff_ne]; exact hz
    rw [if_pos hz, decide_eq_false hz]
    clear hz hok
    go_enter Tryz.func25, Tryz.ntmps25
    go_wp2_with fail
    refine (HS.out _ HB0.out).mono ?_
    rintro e w1 ⟨rfl, hb⟩
    have HB1 := Lib.hid (HB0.out.trans (hb.mono HB0.out.size))
    clear hb
    go_wp2
    go_ret2
    exact ⟨rfl, HB1.out⟩
  have h64 := hok hz
  subst hz
  rw [if_neg (fun h => h rfl)]
  clear hok
  by_cases hi : i < 0
  · have d1 : decide (i < 0) = true := decide_eq_true hi
    rw [if_pos (.inl hi)]
    clear hi
    go_enter Tryz.func25, Tryz.ntmps25
    go_wp2_with fail
    refine (HS.out _ HB0.out).mono ?_
    rintro e w1 ⟨rfl, hb⟩
    have HB1 := Lib.hid (HB0.out.trans (hb.mono HB0.out.size))
    have KB1 := Lib.hid (KB0.out.below hb KB0.out.lt)
    clear hb
    have b0 := KB1.out.c0
    go_wp2
    go_ret2
    exact ⟨rfl, HB1.out⟩
  have d1 : decide (i < 0) = false := decide_eq_false hi
  by_cases hi2 : nn ≤ i
  · have d2 : decide (nn ≤ i) = true := decide_eq_true hi2
    rw [if_pos (.inr hi2)]
    clear hi hi2
    go_enter Tryz.func25, Tryz.ntmps25
    go_wp2_with fail
    refine (HS.out _ HB0.out).mono ?_
    rintro e w1 ⟨rfl, hb⟩
    have HB1 := Lib.hid (HB0.out.trans (hb.mono HB0.out.size))
    have KB1 := Lib.hid (KB0.out.below hb KB0.out.lt)
    clear hb
    have b0 := KB1.out.c0
    go_wp2
    go_ret2
    exact ⟨rfl, HB1.out⟩
  have d2 : decide (nn ≤ i) = false := decide_eq_false hi2
  rw [if_neg (fun h => h.elim hi hi2)]
  obtain ⟨k, rfl⟩ : ∃ k : Nat, i = (k : Int) := ⟨i.toNat, by omega⟩
  have HH := Lib.hid (fun W => rHas_any hd k W hhl (by omega))
  rw [show (decide ((0 : Int) = 0) && hd.testBit ((k : Int)).toNat) = hd.testBit k from rfl]
  clear hi hi2 hhl
  generalize hd.testBit k = b at *
  go_enter Tryz.func25, Tryz.ntmps25
  go_wp2_with fail
  refine (HS.out _ HB0.out).mono ?_
  rintro e w1 ⟨rfl, hb⟩
  have HB1 := Lib.hid (HB0.out.trans (hb.mono HB0.out.size))
  have KB1 := Lib.hid (KB0.out.below hb KB0.out.lt)
  clear hb
  have b0 := KB1.out.c0
  go_wp2_with fail
  refine (HH.out _).mono ?_
  rintro e w2 ⟨rfl, rfl⟩
  go_wp2
  go_ret2
  exact ⟨rfl, HB1.out⟩
set_option maxHeartbeats 8000000 in
theorem rValid_anyC (m : Mo) (v : Value) (f : List Nd) (A : Option Addr) (n c : Nat) (w : World) (hM : MoR w w.heap.size v m) (hR : Reads w w.heap.size 6 A n (nds f)) (hn : n ≤ maxLen) :
    Calls Tryz.prog 27 #[v, .slice A n c] w fun e w' => e = .returned (.tuple #[.bool (validV m f), .int .i64 (chkF m f)]) ∧ Below w.heap.size w w' := by
  obtain ⟨A1, c1, A2, c2, rfl, hv, hr⟩ := hM.ex
  have HB0 := Lib.hid ((Below.refl w.heap.size w).alloc (Nat.le_refl _) (.cells #[.int .i64 m.n, .slice A1 m.val.length c1, .slice A2 m.rel.length c2] 25))
  have KB0 := Lib.hid (MBox.made w m.n (.slice A1 m.val.length c1) (.slice A2 m.rel.length c2))
  have HS := Lib.hid (fun W (hb : Below w.heap.size w W) => rHolds_anyC m _ f A n c W (hM.below hb hb.size) ((hR.below hb).more hb.size) hn)
  have hok : chkF m f = 0 → OkM m.n.toNat m := fun h => chkM_ok (chkF_zero h).1
  unfold validV
  clear hM hR hn hv hr
  by_cases hz : chkF m f = 0
  case neg =>
    have hz1 : (chkF m f == 0) = false := by rw [beq_eq_false_iff_ne]; exact hz
    rw [decide_eq_false hz]
    clear hz hok
    generalize holdV m f = hd at *
    generalize chkF m f = z at *
    go_enter Tryz.func27, Tryz.ntmps27
    go_wp2_with fail
    refine (HS.out _ HB0.out).mono ?_
    rintro e w1 ⟨rfl, hb⟩
    have HB1 := Lib.hid (HB0.out.trans (hb.mono HB0.out.size))
    clear hb
    go_wp2
    go_ret2
    exact ⟨rfl, HB1.out⟩
  have ok := hok hz
  have HAL : Hid (∀ W, Calls Tryz.prog 69 #[.int .i64 m.n] W fun e w' => e = .returned (.int .u64 (allV m.n : Int)) ∧ W = w') := Lib.hid (fun W => by
    have h := rAll_any m.n.toNat W ok.le
    rw [← allV_natC ok.le, ← ok.num] at h
    exact h)
  rw [hz] at HS
  rw [hz, decide_eq_true rfl]
  clear hok hz ok
  rw [Bool.true_and]
  generalize holdV m f = hd at *
  have he : (((hd : Nat) : Int) == ((allV m.n : Nat) : Int)) = decide (hd = allV m.n) := by
    rw [Bool.eq_iff_iff, beq_iff_eq, decide_eq_true_eq]
    omega
  generalize allV m.n = al at *
  go_enter Tryz.func27, Tryz.ntmps27
  go_wp2_with fail
  refine (HS.out _ HB0.out).mono ?_
  rintro e w1 ⟨rfl, hb⟩
  have HB1 := Lib.hid (HB0.out.trans (hb.mono HB0.out.size))
  have KB1 := Lib.hid (KB0.out.below hb KB0.out.lt)
  clear hb
  have b0 := KB1.out.c0
  go_wp2_with fail
  refine (HAL.out _).mono ?_
  rintro e w2 ⟨rfl, rfl⟩
  go_wp2
  go_ret2
  exact ⟨by first | rfl | rw [he], HB1.out⟩
end Go.Proofs.YtjpmhbnikoggaaaGreatDoor
