/- PrinterMinimal (P7.3): if a pair of parentheses is left out, the text is not one of the same formula any more (60 nodes, 300 bytes). Conditions: the package variables that the row lists hold what the program's text lays in them. -/
import Derived.Test.YtenbhalnpiahaaaGreatDoorJk
import Derived.Test.YtenbhalnpiahaaaGreatDoorPf
import Derived.Test.YtenbhalnpiahaaaGreatDoorPj
namespace Go.Proofs.YtenbhalnpiahaaaGreatDoor.printerMinimal
open Go.ChangeShapes Go.WideShapes Go.ChangeAt Go.RowKit Go.Proofs.YtenbhalnpiahaaaGreatDoor Go.Proofs.YtenbhalnpiahaaaGreatDoor.prn Go.Proofs.Ws Go.Maps
open Go.ChangeMaps (open_string shut_string)

theorem print_text {A F X : List ByteArray} {f : List Nd} (h : (printV A F X f).2 = 0) : sigErr A F X = 0 ∧ fErr f = 0 ∧ Bal (printV A F X f).1.data.toList := by
  unfold printV at h ⊢
  by_cases h1 : sigErr A F X = 0
  · rw [if_neg (fun e => e h1)] at h ⊢
    by_cases h2 : fErr f = 0
    · rw [if_neg (fun e => e h2)] at h ⊢
      cases h3 : namedB A F X f with
      | false => rw [h3, if_pos rfl] at h; exact absurd h (show ¬ ((2 : Int) = 0) by decide)
      | true =>
        rw [h3, if_neg (by decide)] at h
        rw [if_neg (by decide)]
        by_cases h4 : 4000 < (textP A F X (treeAt f (f.length - 1))).length
        · rw [if_pos h4] at h; exact absurd h (show ¬ ((8 : Int) = 0) by decide)
        · rw [if_neg h4]
          refine ⟨h1, h2, ?_⟩
          have := text_bal (PlN.of_sig h1) (named_tree h2 h3).2.2
          simpa using this
    · rw [if_pos h2] at h; exact absurd h h2
  · rw [if_pos h1] at h; exact absurd h h1
theorem cutA (t : ByteArray) (i : Nat) (h : i ≤ t.size) (W : World) : (Instr.slice 9 (.string t) none (some (.int .i64 (i : Int))) none).run Tryz.prog W = .ok (.string (t.extract 0 i)) W := by
  have h1 := run_slice_string_to_if (P := Tryz.prog) W 9 t .i64 (i : Int) Tryz.underlying9
  rw [h1, if_pos ⟨by omega, by omega⟩, Int.toNat_natCast]
theorem cutB (t : ByteArray) (i k : Nat) (h : i + 1 ≤ k) (h2 : k ≤ t.size) (W : World) : (Instr.slice 9 (.string t) (some (.int .i64 ((i : Int) + 1))) (some (.int .i64 (k : Int))) none).run Tryz.prog W = .ok (.string (t.extract (i + 1) k)) W := by
  have h1 := run_slice_string (P := Tryz.prog) W 9 t .i64 .i64 ((i : Int) + 1) (k : Int) Tryz.underlying9 (by omega) (by omega) (by omega)
  rw [h1, Int.toNat_natCast, show ((i : Int) + 1).toNat = i + 1 from by omega]
theorem cutC (t : ByteArray) (k : Nat) (h2 : k + 1 ≤ t.size) (W : World) : (Instr.slice 9 (.string t) (some (.int .i64 ((k : Int) + 1))) none none).run Tryz.prog W = .ok (.string (t.extract (k + 1) t.size)) W := by
  have h1 := run_slice_string_from_if (P := Tryz.prog) W 9 t .i64 ((k : Int) + 1) Tryz.underlying9
  rw [h1, if_pos ⟨by omega, by omega⟩, show ((k : Int) + 1).toNat = k + 1 from by omega]
theorem cut_list (t : ByteArray) (i j : Nat) (_h : i + 1 + j < t.size) : (t.extract 0 i ++ t.extract (i + 1) (i + 1 + j) ++ t.extract (i + 1 + j + 1) t.size).data.toList = t.data.toList.take i ++ ((t.data.toList.drop (i + 1)).take j ++ t.data.toList.drop (i + 1 + j + 1)) := by
  rw [ext_take, ext_take, ext_take]
  have e : t.data.toList.length = t.size := ba_len t
  simp only [ByteArray.data_append, Array.toList_append]
  rw [List.drop_zero, Nat.sub_zero, Nat.add_sub_cancel_left, List.append_assoc]
  congr 2
  rw [List.take_of_length_le (by rw [List.length_drop, e]; exact Nat.le_refl _)]
set_option maxRecDepth 100000 in
set_option maxHeartbeats 8000000 in
theorem walk (a0 : Option Addr) (n0 c0 : Nat) (a1 : Option Addr) (n1 c1 : Nat) (a2 : Option Addr) (n2 c2 : Nat) (A F X : List ByteArray) (f : List Nd) (af : Option Addr) (nf cf : Nat) (w : World) (s0 : SL0 w a0 n0 c0 A) (s1 : SL0 w a1 n1 c1 F) (s2 : SL0 w a2 n2 c2 X) (rf : NdRow w af nf cf f) (hE : EnvP w) :
    Calls Tryz.prog 5 #[.agg #[.slice a0 n0 c0, .slice a1 n1 c1, .slice a2 n2 c2], .slice af nf cf] w fun e w' => e = .returned (.bool true) ∧ Below w.heap.size w w' := by
  have HX := Lib.hid (@boxed w a0 a1 a2 n0 c0 n1 c1 n2 c2 24)
  have HG : Hid (∀ W, Below (w.heap.size + 1) (w.alloc (.cells #[.slice a0 n0 c0, .slice a1 n1 c1, .slice a2 n2 c2] 24)) W → EnvP W ∧ Below w.heap.size w W ∧ w.heap.size + 1 ≤ W.heap.size ∧ (fewS n0 n1 n2 = true → SigR W W.heap.size (.agg #[.slice a0 n0 c0, .slice a1 n1 c1, .slice a2 n2 c2]) A F X) ∧ Reads W W.heap.size 6 af nf (nds f)) := Lib.hid (fun W hW => by
    have h1 : Below w.heap.size w W := ((Below.refl _ w).alloc (Nat.le_refl _) _).trans (hW.mono (by omega))
    have q : ∀ {a : Option Addr} {n c : Nat} {l : List ByteArray}, SL0 w a n c l → n ≤ 20 → SL W W.heap.size a n c l := fun h hn => ((h.small hn).below h1).more h1.size
    refine ⟨hE.below h1, h1, by have := hW.size; simpa using this, fun hf => ?_, (rf.1.below h1).more h1.size⟩
    unfold fewS at hf
    simp only [Bool.and_eq_true, decide_eq_true_eq] at hf
    exact ⟨_, _, _, _, _, _, _, _, _, rfl, q s0 (by omega), q s1 (by omega), q s2 (by omega)⟩)
  have HB0 := Lib.hid (Below.refl (w.heap.size + 1) (w.alloc (.cells #[.slice a0 n0 c0, .slice a1 n1 c1, .slice a2 n2 c2] 24)))
  have hmf := rf.2.2.2
  have hlf := rf.1.nd_len
  have HFWf := Lib.hid (fun W => kFewP_any a0 a1 a2 n0 c0 n1 c1 n2 c2 af nf cf W s0.2.2.1 s1.2.2.1 s2.2.2.1 rf.2.2.2)
  have hcpf := rf.2.2.1
  clear hE s0 s1 s2 rf
  by_cases hfew : fewP nf n0 n1 n2 = true
  · rw [hfew] at HFWf
    have hfs : fewS n0 n1 n2 = true := by unfold fewP at hfew; rw [Bool.and_eq_true] at hfew; exact hfew.2
    have HP := Lib.hid (fun W (hW : Below (w.heap.size + 1) (w.alloc (.cells #[.slice a0 n0 c0, .slice a1 n1 c1, .slice a2 n2 c2] 24)) W) => pPrint_any a0 n0 c0 a1 n1 c1 a2 n2 c2 A F X f af nf cf W ((HG.out W hW).2.2.2.1 hfs) (HG.out W hW).1 (HG.out W hW).2.2.2.2 hmf)
    have HPA := Lib.hid (fun t (ht : t.size ≤ maxLen) W (hW : Below (w.heap.size + 1) (w.alloc (.cells #[.slice a0 n0 c0, .slice a1 n1 c1, .slice a2 n2 c2] 24)) W) => kParse_own a0 n0 c0 a1 n1 c1 a2 n2 c2 A F X t W ((HG.out W hW).2.2.2.1 hfs) (HG.out W hW).1.1 ht)
    have HPT := Lib.hid (@print_text A F X f)
    have HPM := Lib.hid (fun s => @print_minimal A F X f s)
    have HSM := Lib.hid (fun (g : List Nd) ag cg W (hW : Below (w.heap.size + 1) (w.alloc (.cells #[.slice a0 n0 c0, .slice a1 n1 c1, .slice a2 n2 c2] 24)) W) (hg : Reads W W.heap.size 6 ag g.length (nds g)) (hm : g.length ≤ maxLen) => pSame_any f g af ag nf g.length cf cg W (HG.out W hW).2.2.2.2 hg hmf hm)
    generalize hP : printV A F X f = P at *
    obtain ⟨s, z⟩ := P
    dsimp only at HP HPT HPM
    clear hP hfew hfs hlf hcpf
    by_cases hz : z = 0
    · subst hz
      by_cases h3 : s.size ≤ 300
      · have d1 : decide ((300 : Int) < (s.size : Int)) = false := decide_eq_false (by omega)
        have d2 : decide (300 < s.size) = false := decide_eq_false (by omega)
        obtain ⟨hs0, hf0, hbal⟩ := HPT.out rfl
        have HBL := Lib.hid hbal
        have HF0 := Lib.hid hf0
        have HPM2 := Lib.hid (fun s => HPM.out s rfl)
        have HSZ := Lib.hid (ba_len s)
        have HPN := Lib.hid (fun q => @parse_named A F X q)
        clear hbal hf0 hs0 HPT HPM hmf
        go_enter Tryz.func5, Tryz.ntmps5
        obtain ⟨q0, q1, q2⟩ := HX.out _ HB0.out
        go_wp2_with fail
        refine (HFWf.out _).mono ?_
        rintro e w1 ⟨rfl, hb⟩
        have HB1 : Hid (Below (w.heap.size + 1) (w.alloc (.cells #[.slice a0 n0 c0, .slice a1 n1 c1, .slice a2 n2 c2] 24)) w1) := Lib.hid (HB0.out.trans (hb.mono (HG.out _ HB0.out).2.2.1))
        clear hb HFWf q0 q1 q2
        obtain ⟨q0, q1, q2⟩ := HX.out w1 HB1.out
        go_wp2_with fail
        refine (HP.out _ HB1.out).mono ?_
        rintro e w2 ⟨rfl, hb⟩
        have HB2 : Hid (Below (w.heap.size + 1) (w.alloc (.cells #[.slice a0 n0 c0, .slice a1 n1 c1, .slice a2 n2 c2] 24)) w2) := Lib.hid (HB1.out.trans (hb.mono (HG.out _ HB1.out).2.2.1))
        clear hb HP q0 q1 q2
        go_wp2
        generalize hw0 : (w.alloc (.cells #[.slice a0 n0 c0, .slice a1 n1 c1, .slice a2 n2 c2] 24)) = wz at *
        clear hw0
        go_loopw [7, 8, 9, 10, 11] (fun i _ _ _ _ wr => ∃ k : Nat, k ≤ s.size ∧ i = .int .i64 k ∧ Hid (Below (w.heap.size + 1) wz wr)) (fun i _ _ _ _ _ => s.size - (intOf i).toNat)
        case atStart => exact ⟨0, Nat.zero_le _, rfl, HB2⟩
        case round =>
          obtain ⟨k, hk, rfl, HB⟩ := hrel
          by_cases hlt : k < s.size
          · by_cases h40 : s[k].toNat = 40
            · have b1 : ((s[k].toNat : Int) != 40) = false := by rw [h40]; rfl
              have hk40 : s.data.toList[k]? = some 40 := by
                rw [List.getElem?_eq_getElem (by rw [HSZ.out]; exact hlt)]
                have : s[k] = 40 := UInt8.toNat_inj.1 h40
                exact congrArg some this
              obtain ⟨j, hj1, hj2⟩ := bal_close HBL.out hk40
              have hjs : k + 1 + j < s.size := by have := (List.getElem?_eq_some_iff.1 hj2).1; rw [HSZ.out] at this; exact this
              have HCL := Lib.hid (fun W => kClosing_any s k (by omega) (by omega) W)
              rw [hj1] at HCL
              have HCT := Lib.hid (cut_count hk40 hj2)
              have hcl := cut_list s k j hjs
              have r1 : ∀ W, _ := cutA s k (by omega)
              have r2 : ∀ W, _ := cutB s k (k + 1 + j) (by omega) (by omega)
              have r3 : ∀ W, _ := cutC s (k + 1 + j) (by omega)
              have z1 : (s.extract 0 k).size ≤ 300 := by rw [ByteArray.size_extract]; omega
              have z2 : (s.extract (k + 1) (k + 1 + j)).size ≤ 300 := by rw [ByteArray.size_extract]; omega
              have z3 : (s.extract (k + 1 + j + 1) s.size).size ≤ 300 := by rw [ByteArray.size_extract]; omega
              have HCC : Hid ((s.extract 0 k ++ s.extract (k + 1) (k + 1 + j) ++ s.extract (k + 1 + j + 1) s.size).data.toList.count 40 < s.data.toList.count 40) := Lib.hid (by rw [hcl]; exact HCT.out)
              clear hcl HCT hj1 hj2 hk40 h40
              generalize hkk : k + 1 + j = kk at *
              have hkk1 : k + 1 ≤ kk := by omega
              clear hkk
              generalize s.extract 0 k = t1 at *
              generalize s.extract (k + 1) kk = t2 at *
              generalize s.extract (kk + 1) s.size = t3 at *
              have zz : (t1 ++ t2 ++ t3).size ≤ 900 := by simp only [ByteArray.size_append]; omega
              have y1 : ¬ 9223372036854775807 < t1.size + t2.size := by omega
              have y2 : ¬ 9223372036854775807 < t1.size + t2.size + t3.size := by omega
              have y3 : ¬ 9223372036854775807 < (t1 ++ t2).size + t3.size := by simp only [ByteArray.size_append]; omega
              obtain ⟨hw1, hw2⟩ : wrap64 ((k : Int) + 1) = (k : Int) + 1 ∧ IntKind.i64.wrap ((k : Int) + 1) = (k : Int) + 1 := ⟨by rw [wrap64_small (by omega) (by omega)], by rw [wrap_small (by omega) (by omega)]⟩
              obtain ⟨hw3, hw4⟩ : wrap64 ((kk : Int) + 1) = (kk : Int) + 1 ∧ IntKind.i64.wrap ((kk : Int) + 1) = (kk : Int) + 1 := ⟨by rw [wrap64_small (by omega) (by omega)], by rw [wrap_small (by omega) (by omega)]⟩
              have HTB : Hid (Below (w.heap.size + 1) wz wr.drew) := Lib.hid HB.out.drew
              have HPQ := Lib.hid (HPA.out (t1 ++ t2 ++ t3) (by unfold maxLen; omega))
              have HNE := Lib.hid (fun h => HPM2.out (t1 ++ t2 ++ t3) h HCC.out)
              have HNN := Lib.hid (HPN.out (t1 ++ t2 ++ t3))
              generalize hpv : parseV A F X (t1 ++ t2 ++ t3) = PV at *
              obtain ⟨g, po, er⟩ := PV
              dsimp only at HPQ HNE HNN
              have HPR : Hid (Calls Tryz.prog 14 #[.agg #[.slice a0 n0 c0, .slice a1 n1 c1, .slice a2 n2 c2], .string (t1 ++ t2 ++ t3)] wr.drew fun e W' => (∃ A' c', e = .returned (.tuple #[.slice A' g.length c', .int .i64 (po : Int), .int .i64 er]) ∧ Hid (Reads W' W'.heap.size 6 A' g.length (nds g))) ∧ W'.cell? ⟨w.heap.size, 0, none⟩ = some (.slice a0 n0 c0) ∧ W'.cell? ⟨w.heap.size, 1, none⟩ = some (.slice a1 n1 c1) ∧ W'.cell? ⟨w.heap.size, 2, none⟩ = some (.slice a2 n2 c2) ∧ Hid (Below (w.heap.size + 1) wz W')) := Lib.hid (by
                refine (HPQ.out _ HTB.out).mono ?_
                rintro e w' ⟨A', c', he, hO, hb⟩
                have hb' := HTB.out.trans (hb.mono (HG.out _ HTB.out).2.2.1)
                obtain ⟨g0, g1, g2⟩ := HX.out w' hb'
                exact ⟨⟨A', c', he, Lib.hid (Reads.of_own hO)⟩, g0, g1, g2, Lib.hid hb'⟩)
              obtain ⟨q0, q1, q2⟩ := HX.out _ HB.out
              obtain ⟨p0, p1, p2⟩ := HX.out _ HTB.out
              clear hpv HPQ HCC
              go_wp2_with fail
              refine (HCL.out _).mono ?_
              rintro e wc ⟨rfl, hwc⟩
              subst wc
              go_wp2_with fail
              go_region_held3 (fun W => (W.cell? ⟨w.heap.size, 0, none⟩ = some (.slice a0 n0 c0) ∧ W.cell? ⟨w.heap.size, 1, none⟩ = some (.slice a1 n1 c1) ∧ W.cell? ⟨w.heap.size, 2, none⟩ = some (.slice a2 n2 c2))) (first | assumption | (refine ⟨?_, ?_, ?_⟩ <;> first | assumption | go_keep) | go_keep)
                (first
                  | (go_at_call 14; refine (HPR.out).mono ?_; rintro e Wp ⟨⟨A', c', rfl, hRg⟩, v0, v1, v2, v3⟩))
              clear q0 q1 q2 p0 p1 p2 v0 v1 v2 HPR HCL r1 r2 r3
              by_cases her : er = 0
              · subst her
                obtain ⟨_, hg0, hgc, _⟩ := HNN.out rfl
                have hgl := (fErr_ok hg0).2.1
                have HSQ := Lib.hid (HSM.out g A' c' Wp v3.out hRg.out (by unfold maxLen; omega))
                have hsf : sameF f g = false := by
                  unfold sameF
                  refine decide_eq_false (fun hh => HNE.out rfl ?_)
                  rw [← hgc]; exact hh.2.2.symm
                rw [hsf] at HSQ
                clear hg0 hgc hgl hsf HNE HNN hRg
                go_wp2_with fail
                refine (HSQ.out).mono ?_
                rintro e Wq ⟨rfl, hb⟩
                have HBq : Hid (Below (w.heap.size + 1) wz Wq) := Lib.hid (v3.out.trans (hb.mono (HG.out _ v3.out).2.2.1))
                clear hb HSQ
                go_wp2
                go_roundw
                case rel => exact ⟨k + 1, by omega, by go_num, HBq⟩
                case measure => simp [intOf]; omega
              · have hne : (er == 0) = false := by rw [beq_eq_false_iff_ne]; exact her
                clear her HNE HNN hRg
                go_wp2
                go_roundw
                case rel => exact ⟨k + 1, by omega, by go_num, v3⟩
                case measure => simp [intOf]; omega
            · have b1 : ((s[k].toNat : Int) != 40) = true := by rw [bne_iff_ne]; omega
              clear h40
              go_wp2
              go_roundw
              case rel => exact ⟨k + 1, by omega, by go_num, HB⟩
              case measure => simp [intOf]; omega
          · have hkn : k = s.size := by omega
            subst hkn
            go_wp2_with fail
            refine (awakeP_any _ (HG.out _ HB.out).1).mono ?_
            rintro e w9 ⟨rfl, hb⟩
            have HB9 : Hid (Below (w.heap.size + 1) wz w9) := Lib.hid (HB.out.trans (hb.mono (HG.out _ HB.out).2.2.1))
            clear hb
            go_wp2
            go_ret
            exact ⟨rfl, (HG.out _ HB9.out).2.1⟩
      · have d1 : decide ((300 : Int) < (s.size : Int)) = true := decide_eq_true (by omega)
        have d2 : decide (300 < s.size) = true := decide_eq_true (by omega)
        clear h3 HPT HPM HSM HPA hmf
        go_enter Tryz.func5, Tryz.ntmps5
        obtain ⟨q0, q1, q2⟩ := HX.out _ HB0.out
        go_wp2_with fail
        refine (HFWf.out _).mono ?_
        rintro e w1 ⟨rfl, hb⟩
        have HB1 : Hid (Below (w.heap.size + 1) (w.alloc (.cells #[.slice a0 n0 c0, .slice a1 n1 c1, .slice a2 n2 c2] 24)) w1) := Lib.hid (HB0.out.trans (hb.mono (HG.out _ HB0.out).2.2.1))
        clear hb HFWf q0 q1 q2
        obtain ⟨q0, q1, q2⟩ := HX.out w1 HB1.out
        go_wp2_with fail
        refine (HP.out _ HB1.out).mono ?_
        rintro e w2 ⟨rfl, hb⟩
        have HB2 : Hid (Below (w.heap.size + 1) (w.alloc (.cells #[.slice a0 n0 c0, .slice a1 n1 c1, .slice a2 n2 c2] 24)) w2) := Lib.hid (HB1.out.trans (hb.mono (HG.out _ HB1.out).2.2.1))
        clear hb HP q0 q1 q2
        go_wp2_with fail
        refine (awakeP_any _ (HG.out _ HB2.out).1).mono ?_
        rintro e w3 ⟨rfl, hb⟩
        have HB3 : Hid (Below (w.heap.size + 1) (w.alloc (.cells #[.slice a0 n0 c0, .slice a1 n1 c1, .slice a2 n2 c2] 24)) w3) := Lib.hid (HB2.out.trans (hb.mono (HG.out _ HB2.out).2.2.1))
        clear hb
        go_wp2
        go_ret
        exact ⟨rfl, (HG.out _ HB3.out).2.1⟩
    · have hne : (z != 0) = true := by rw [bne_iff_ne]; exact hz
      clear hz HPT HPM HSM HPA hmf
      go_enter Tryz.func5, Tryz.ntmps5
      obtain ⟨q0, q1, q2⟩ := HX.out _ HB0.out
      go_wp2_with fail
      refine (HFWf.out _).mono ?_
      rintro e w1 ⟨rfl, hb⟩
      have HB1 : Hid (Below (w.heap.size + 1) (w.alloc (.cells #[.slice a0 n0 c0, .slice a1 n1 c1, .slice a2 n2 c2] 24)) w1) := Lib.hid (HB0.out.trans (hb.mono (HG.out _ HB0.out).2.2.1))
      clear hb HFWf q0 q1 q2
      obtain ⟨q0, q1, q2⟩ := HX.out w1 HB1.out
      go_wp2_with fail
      refine (HP.out _ HB1.out).mono ?_
      rintro e w2 ⟨rfl, hb⟩
      have HB2 : Hid (Below (w.heap.size + 1) (w.alloc (.cells #[.slice a0 n0 c0, .slice a1 n1 c1, .slice a2 n2 c2] 24)) w2) := Lib.hid (HB1.out.trans (hb.mono (HG.out _ HB1.out).2.2.1))
      clear hb HP q0 q1 q2
      go_wp2_with fail
      refine (awakeP_any _ (HG.out _ HB2.out).1).mono ?_
      rintro e w3 ⟨rfl, hb⟩
      have HB3 : Hid (Below (w.heap.size + 1) (w.alloc (.cells #[.slice a0 n0 c0, .slice a1 n1 c1, .slice a2 n2 c2] 24)) w3) := Lib.hid (HB2.out.trans (hb.mono (HG.out _ HB2.out).2.2.1))
      clear hb
      go_wp2
      go_ret
      exact ⟨rfl, (HG.out _ HB3.out).2.1⟩
  · have hff : fewP nf n0 n1 n2 = false := by simpa using hfew
    rw [hff] at HFWf
    clear hfew hff hmf hlf hcpf
    go_enter Tryz.func5, Tryz.ntmps5
    obtain ⟨q0, q1, q2⟩ := HX.out _ HB0.out
    go_wp2_with fail
    refine (HFWf.out _).mono ?_
    rintro e w1 ⟨rfl, hb⟩
    have HB1 : Hid (Below (w.heap.size + 1) (w.alloc (.cells #[.slice a0 n0 c0, .slice a1 n1 c1, .slice a2 n2 c2] 24)) w1) := Lib.hid (HB0.out.trans (hb.mono (HG.out _ HB0.out).2.2.1))
    clear hb HFWf q0 q1 q2
    go_wp2_with fail
    refine (awakeP_any _ (HG.out _ HB1.out).1).mono ?_
    rintro e w2 ⟨rfl, hb⟩
    have HB2 : Hid (Below (w.heap.size + 1) (w.alloc (.cells #[.slice a0 n0 c0, .slice a1 n1 c1, .slice a2 n2 c2] 24)) w2) := Lib.hid (HB1.out.trans (hb.mono (HG.out _ HB1.out).2.2.1))
    clear hb
    go_wp2
    go_ret
    exact ⟨rfl, (HG.out _ HB2.out).2.1⟩
set_option maxRecDepth 100000 in
theorem contract (H : Type) (enc : TypeId × Value → H) (W : World) (base : Nat) (args : Array Value) (ds gs : List (DataW H)) (before : List MemPlace)
    (hval : ∀ (j : Nat) t v, Tryz.f5.params[j]? = some t → args[j]? = some v → Value.okWide Tryz.prog W .any base t v)
    (hW : DataW.Whole enc Tryz.prog Tryz.f5.params.toList Rows.printerMinimalSpec.vars false W args.toList ds gs before) (hE : EnvP W) :
    Calls Tryz.prog 5 args W fun e W' => ∃ v, e = .returned v ∧ Rows.printerMinimalSpec.post enc Tryz.prog Tryz.f5 false true false false W args v W' := by
  have hW' := hW
  obtain ⟨p, q, hA0, hV, rfl, hfz, hnd⟩ := hW
  have hA : DataW.TrodAll enc Tryz.prog W 0 (fun _ => true) true Tryz.f5.params.toList args.toList ds p := hA0
  rw [Tryz.params5] at hA hval
  obtain ⟨v0, vs0, d0, ds0, p0, q0, hargs, rfl, rfl, h0, r0⟩ := trodAll_cons hA
  obtain ⟨v1, vs1, d1, ds1, p1, q1, rfl, rfl, rfl, h1, r1⟩ := trodAll_cons r0
  obtain ⟨rfl, rfl, rfl⟩ := trodAll_nil r1
  obtain rfl : args = #[v0, v1] := by cases args; simp_all
  obtain ⟨rfl, rfl⟩ := trodVars_none hV
  obtain ⟨a0, n0, c0, a1, n1, c1, a2, n2, c2, A, F, X, rfl, s0, s1, s2⟩ := open_sig (hval 0 24 v0 rfl rfl) h0
  have k0 := h0
  have lt0 : ∀ x ∈ p0, x.block < W.heap.size := by obtain ⟨m, hm⟩ := k0; exact DataW.trod_lt m _ _ _ hm
  obtain ⟨af1, nf1, cf1, rfl⟩ := okWide_slice Tryz.underlying25 (hval 1 25 v1 rfl rfl)
  obtain ⟨f1, w1⟩ : ∃ l, NdRow W af1 nf1 cf1 l := by
    obtain ⟨fuel, hf⟩ := h1
    exact open_nodes hf
  have k1 := h1
  have lt1 : ∀ x ∈ p1, x.block < W.heap.size := by obtain ⟨m, hm⟩ := k1; exact DataW.trod_lt m _ _ _ hm
  clear hA0
  have hwalk := walk a0 n0 c0 a1 n1 c1 a2 n2 c2 A F X f1 af1 nf1 cf1 W s0 s1 s2 w1 hE
  refine hwalk.mono fun e W' ⟨he, hg⟩ => ?_
  subst he
  exact ⟨_, rfl, _, _, _, [], _, [], hW', trodAll_mk1 (shut_bool Tryz.underlying4 _), (trodAll_cons_mk (Below.trod laidOut (by kernel_rfl) (of_decide_eq_true (by kernel_rfl)) k0 hg lt0) (trodAll_cons_mk (Below.trod laidOut (by kernel_rfl) (of_decide_eq_true (by kernel_rfl)) k1 hg lt1) trodAll_mk0)), rfl, hg.frame _, fun h => by cases h⟩
theorem reads (os : Os) {H : Type} (enc : TypeId × Value → H) : ∃ places, DataW.whole enc Tryz.prog ((laidW os).forCall (fun _ _ => 0) ⟨#[], #[.agg #[.slice none 0 0, .slice none 0 0, .slice none 0 0], .slice none 0 0], []⟩).memory Tryz.f5.params.toList Rows.printerMinimalSpec.vars false #[(.agg #[.slice none 0 0, .slice none 0 0, .slice none 0 0] : Value), (.slice none 0 0 : Value)].toList 8 = some ([.agg [.nil, .nil, .nil], .nil], [], places) :=
  ⟨[], by kernel_rfl⟩
set_option maxRecDepth 100000 in
theorem lifted (os : Os) (started : os.Started) (H : Type) (enc : TypeId × Value → H) (F : Stop.Interp) :
    ReturnsInHanded {} Tryz.checked os 5 .any ((OpenSpec.ofChange Rows.printerMinimalSpec).preRow enc Tryz.prog Tryz.f5 Rows.printerMinimalRow.domain false Rows.printerMinimalRow.laid) (((OpenSpec.ofChange Rows.printerMinimalSpec).at F).post enc Tryz.prog Tryz.f5 false true false false) := by
  obtain ⟨places, hx⟩ := reads os enc
  refine returnsInHanded_of_row (C := Tryz.checked) (s := OpenSpec.ofChange Rows.printerMinimalSpec) own started (by kernel_rfl) Tryz.func5
    (witness_row_atRef (enc := enc) (C := Tryz.checked) false (laidW os) #[.agg #[.slice none 0 0, .slice none 0 0, .slice none 0 0], .slice none 0 0] (laidW_os os) (vars_ok os _) (heap_ok os _) (by kernel_rfl)
      (OpenSpec.preRow_of_cond 8 hx (by kernel_rfl) (fun k hk => by cases hk) (by kernel_rfl) (laid_met os _))) ?_
  intro W base args ds gs before hval hW _ _ _ hL hsh _
  exact contract H enc W base args ds gs before hval hW (env_of hL hsh)
theorem said : Rows.PrinterMinimalSaid :=
  OpenClaim.holds_of_cond 5 Tryz.f5 rfl rfl rfl rfl rfl rfl rfl ⟨rfl, rfl, rfl, rfl, rfl⟩ rfl rfl rfl rfl rfl (by kernel_rfl) Tryz.func5 (by kernel_rfl)
    (of_decide_eq_true (by kernel_rfl)) (by unfold Func.isWrapper; first | (rw [if_pos (by decide +kernel)]; kernel_rfl) | (rw [if_neg (by decide +kernel)]; exact ⟨rfl, rfl⟩))
    (fun os started H enc _ F => by rw [OpenClaim.pre_eq_preRow]; exact lifted os started H enc F)
theorem plain (f : FuncId) (fn : Func) (hf : Tryz.pinned.checked.prog.funcNamed "witting/wittinglaw07.PrinterMinimal" = some f) (hfn : Tryz.pinned.checked.prog.funcs[f]? = some fn) :
    false = Tryz.pinned.checked.prog.looks [] ∧ ∀ (j : Nat) t, fn.params[j]? = some t → Tryz.pinned.checked.prog.wantsStandIn t = false := by
  obtain rfl : f = 5 := Option.some.inj ((show Tryz.prog.funcNamed "witting/wittinglaw07.PrinterMinimal" = some 5 by kernel_rfl).symm.trans hf) |>.symm
  obtain rfl : fn = Tryz.f5 := (Option.some.inj (Tryz.func5.symm.trans hfn)).symm
  refine ⟨no_looks, fun j t ht => ?_⟩
  rw [Tryz.params5] at ht
  have hm : t ∈ [24, 25] := by simpa using Array.mem_of_getElem? ht
  have hall : ([24, 25].all fun u => !Tryz.prog.wantsStandIn u) = true := by kernel_rfl
  exact (show Tryz.prog.wantsStandIn t = false by simpa using List.all_eq_true.1 hall t hm)
theorem card : Rows.PrinterMinimalCardSaid :=
  Claim7.holds_tied_plain_at .later [] _ _ _ _ said (fun _ h => by cases h) (by kernel_rfl) (fun _ h => by cases h) printerMinimal_row_tie rfl ⟨rfl, rfl⟩ (by kernel_rfl) rfl plain (by kernel_rfl)
#print axioms card
end Go.Proofs.YtenbhalnpiahaaaGreatDoor.printerMinimal
