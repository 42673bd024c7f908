/- PrinterNames (P7.1, P7.2): the text has only names of the signature, and has every name that occurs in the formula (60 nodes). Conditions: the package variables that the row lists hold what the program's text lays in them. -/
import Derived.Test.YtenbhalnpiahaaaGreatDoorJf
import Derived.Test.YtenbhalnpiahaaaGreatDoorJn
import Derived.Test.YtenbhalnpiahaaaGreatDoorPf
import Derived.Test.YtenbhalnpiahaaaGreatDoorPk
namespace Go.Proofs.YtenbhalnpiahaaaGreatDoor.printerNames
open Go.ChangeShapes Go.WideShapes Go.ChangeAt Go.RowKit Go.Proofs.YtenbhalnpiahaaaGreatDoor Go.Proofs.YtenbhalnpiahaaaGreatDoor.prn Go.Proofs.Ws Go.Maps
open Go.ChangeMaps (open_string shut_string)

theorem print_words {A F X : List ByteArray} {f : List Nd} (h : (printV A F X f).2 = 0) : sigErr A F X = 0 ∧ fErr f = 0 ∧ namedB A F X f = true ∧ (printV A F X f).1.size ≤ 4000 ∧ (tokV (printV A F X f).1).err = 0 ∧ (tokV (printV A F X f).1).words = prW A F X (treeAt f (f.length - 1)) := by
  have hb := (print_back h).2
  unfold printV at h hb ⊢
  by_cases h1 : sigErr A F X = 0
  · rw [if_neg (fun e => e h1)] at h hb ⊢
    by_cases h2 : fErr f = 0
    · rw [if_neg (fun e => e h2)] at h hb ⊢
      cases h3 : namedB A F X f with
      | false => rw [h3, if_pos rfl] at h; exact absurd h (show ¬ ((2 : Int) = 0) by decide)
      | true =>
        rw [h3, if_neg (by decide)] at h hb
        rw [if_neg (by decide)]
        by_cases h4 : 4000 < (textP A F X (treeAt f (f.length - 1))).length
        · rw [if_pos h4] at h; exact absurd h (show ¬ ((8 : Int) = 0) by decide)
        · rw [if_neg h4] at hb ⊢
          have hp := (named_tree h2 h3).2.2
          obtain ⟨k1, k2⟩ := tokV_W (t := ⟨(textP A F X (treeAt f (f.length - 1))).toArray⟩) (text_tok (NmT.of_sig h1) hp) (Nat.not_lt.1 h4)
          exact ⟨h1, h2, rfl, hb, k1, k2⟩
    · rw [if_pos h2] at h; exact absurd h h2
  · rw [if_pos h1] at h; exact absurd h h1
theorem sig_nodup {A F X : List ByteArray} (h : sigErr A F X = 0) : (A ++ (F ++ X)).Nodup := (sigErr_ok h).2.2.2.2
theorem nm_ok {A F X : List ByteArray} (h : sigErr A F X = 0) : ∀ x ∈ A ++ (F ++ X), nameOk x = true := fun x hx => by
  obtain ⟨h1, h2⟩ := (sigErr_ok h).2.2.2.1 x hx
  exact Ws.name_ok h1 h2
theorem get_mem {l : List ByteArray} {i : Nat} (h : i < l.length) : l.getD i ByteArray.empty ∈ l := by
  rw [List.getD_eq_getElem?_getD, List.getElem?_eq_getElem h]; exact List.getElem_mem h
def memB (x : ByteArray) (l : List ByteArray) : Bool := l.any (fun y => decide (y = x))
theorem memB_iff {x : ByteArray} {l : List ByteArray} : memB x l = true ↔ x ∈ l := by
  unfold memB
  rw [List.any_eq_true]
  exact ⟨fun ⟨y, hy, h⟩ => of_decide_eq_true h ▸ hy, fun h => ⟨x, h, decide_eq_true rfl⟩⟩
theorem facts_in {A F X : List ByteArray} {f : List Nd} (h : (printV A F X f).2 = 0) {i : Nat} (hi : i < F.length) : memB (F.getD i ByteArray.empty) (tokV (printV A F X f).1).words = (maskL factD (compF f)).testBit i := by
  obtain ⟨h1, h2, h3, _, _, h5⟩ := print_words h
  obtain ⟨ht, hc, hp⟩ := named_tree h2 h3
  have hn := sig_nodup h1
  rw [List.nodup_append] at hn
  obtain ⟨_, hn2, hn3⟩ := hn
  rw [List.nodup_append] at hn2
  obtain ⟨hF, _, hFX⟩ := hn2
  have hm := get_mem hi
  rw [h5, hc, Bool.eq_iff_iff, memB_iff]
  exact fact_names hi hF (nm_ok h1 _ (List.mem_append_right _ (List.mem_append_left _ hm))) (fun hA => hn3 _ hA _ (List.mem_append_left _ hm) rfl) (fun hX => hFX _ hm _ hX rfl) ht hp
theorem agents_in {A F X : List ByteArray} {f : List Nd} (h : (printV A F X f).2 = 0) {i : Nat} (hi : i < A.length) : memB (A.getD i ByteArray.empty) (tokV (printV A F X f).1).words = (maskL agentD (compF f)).testBit i := by
  obtain ⟨h1, h2, h3, _, _, h5⟩ := print_words h
  obtain ⟨ht, hc, hp⟩ := named_tree h2 h3
  have hn := sig_nodup h1
  rw [List.nodup_append] at hn
  obtain ⟨hA, hn2, hn3⟩ := hn
  have hm := get_mem hi
  rw [h5, hc, Bool.eq_iff_iff, memB_iff]
  exact agent_names hi hA (nm_ok h1 _ (List.mem_append_left _ hm)) (fun hF => hn3 _ hm _ (List.mem_append_left _ hF) rfl) (fun hX => hn3 _ hm _ (List.mem_append_right _ hX) rfl) ht hp
theorem take_mem {l : List ByteArray} {x : ByteArray} {k : Nat} (h : k < l.length) : memB x (l.take (k + 1)) = (memB x (l.take k) || decide (l.getD k ByteArray.empty = x)) := by
  rw [List.take_add_one, List.getD_eq_getElem?_getD, List.getElem?_eq_getElem h]
  rw [Bool.eq_iff_iff, Bool.or_eq_true, decide_eq_true_eq, memB_iff, memB_iff]
  show x ∈ l.take k ++ [l[k]] ↔ x ∈ l.take k ∨ l[k] = x
  rw [List.mem_append, List.mem_singleton]
  exact ⟨fun h => h.imp id Eq.symm, fun h => h.imp id Eq.symm⟩
theorem bit_512 : ∀ m : Fin 512, ∀ j : Fin 9, (bits BinOp.and IntKind.i64 ((m.1 : Int) / 2 ^ j.1) 1 == 1) = m.1.testBit j.1 := by decide +kernel
set_option maxRecDepth 100000 in
set_option maxHeartbeats 16000000 in
theorem walk (a0 : Option Addr) (n0 c0 : Nat) (a1 : Option Addr) (n1 c1 : Nat) (a2 : Option Addr) (n2 c2 : Nat) (A F X : List ByteArray) (f : List Nd) (af : Option Addr) (nf cf : Nat) (w : World) (s0 : SL0 w a0 n0 c0 A) (s1 : SL0 w a1 n1 c1 F) (s2 : SL0 w a2 n2 c2 X) (rf : NdRow w af nf cf f) (hE : EnvP w) :
    Calls Tryz.prog 8 #[.agg #[.slice a0 n0 c0, .slice a1 n1 c1, .slice a2 n2 c2], .slice af nf cf] w fun e w' => e = .returned (.bool true) ∧ Below w.heap.size w w' := by
  have HX := Lib.hid (@boxed w a0 a1 a2 n0 c0 n1 c1 n2 c2 24)
  have HG : Hid (∀ W, Below (w.heap.size + 1) (w.alloc (.cells #[.slice a0 n0 c0, .slice a1 n1 c1, .slice a2 n2 c2] 24)) W → EnvP W ∧ Below w.heap.size w W ∧ w.heap.size + 1 ≤ W.heap.size ∧ (fewS n0 n1 n2 = true → SigR W W.heap.size (.agg #[.slice a0 n0 c0, .slice a1 n1 c1, .slice a2 n2 c2]) A F X) ∧ Reads W W.heap.size 6 af nf (nds f)) := Lib.hid (fun W hW => by
    have h1 : Below w.heap.size w W := ((Below.refl _ w).alloc (Nat.le_refl _) _).trans (hW.mono (by omega))
    have q : ∀ {a : Option Addr} {n c : Nat} {l : List ByteArray}, SL0 w a n c l → n ≤ 20 → SL W W.heap.size a n c l := fun h hn => ((h.small hn).below h1).more h1.size
    refine ⟨hE.below h1, h1, by have := hW.size; simpa using this, fun hf => ?_, (rf.1.below h1).more h1.size⟩
    unfold fewS at hf
    simp only [Bool.and_eq_true, decide_eq_true_eq] at hf
    exact ⟨_, _, _, _, _, _, _, _, _, rfl, q s0 (by omega), q s1 (by omega), q s2 (by omega)⟩)
  have HB0 := Lib.hid (Below.refl (w.heap.size + 1) (w.alloc (.cells #[.slice a0 n0 c0, .slice a1 n1 c1, .slice a2 n2 c2] 24)))
  have hmf := rf.2.2.2
  have hlf := rf.1.nd_len
  have HFWf := Lib.hid (fun W => kFewP_any a0 a1 a2 n0 c0 n1 c1 n2 c2 af nf cf W s0.2.2.1 s1.2.2.1 s2.2.2.1 rf.2.2.2)
  have hcpf := rf.2.2.1
  have hA0 := s0.1.str_len
  have hF0 := s1.1.str_len
  have HA0 := Lib.hid s0.1
  have HA1 := Lib.hid s1.1
  clear hE s0 s1 s2 rf
  by_cases hfew : fewP nf n0 n1 n2 = true
  · rw [hfew] at HFWf
    have hfs : fewS n0 n1 n2 = true := by unfold fewP at hfew; rw [Bool.and_eq_true] at hfew; exact hfew.2
    have HP := Lib.hid (fun W (hW : Below (w.heap.size + 1) (w.alloc (.cells #[.slice a0 n0 c0, .slice a1 n1 c1, .slice a2 n2 c2] 24)) W) => pPrint_any a0 n0 c0 a1 n1 c1 a2 n2 c2 A F X f af nf cf W ((HG.out W hW).2.2.2.1 hfs) (HG.out W hW).1 (HG.out W hW).2.2.2.2 hmf)
    have HPW := Lib.hid (@print_words A F X f)
    have HFI := Lib.hid (fun h i => @facts_in A F X f h i)
    have HAI := Lib.hid (fun h i => @agents_in A F X f h i)
    have HFT := Lib.hid (fun W (hW : Below (w.heap.size + 1) (w.alloc (.cells #[.slice a0 n0 c0, .slice a1 n1 c1, .slice a2 n2 c2] 24)) W) => pFits_any f (n0 : Int) (n1 : Int) af nf cf W (HG.out W hW).2.2.2.2 hmf)
    have HFA := Lib.hid (fun W (hW : Below (w.heap.size + 1) (w.alloc (.cells #[.slice a0 n0 c0, .slice a1 n1 c1, .slice a2 n2 c2] 24)) W) => pFacts_any f af nf cf W (HG.out W hW).2.2.2.2 hmf)
    have HAG := Lib.hid (fun W (hW : Below (w.heap.size + 1) (w.alloc (.cells #[.slice a0 n0 c0, .slice a1 n1 c1, .slice a2 n2 c2] 24)) W) => pAgents_any f af nf cf W (HG.out W hW).2.2.2.2 hmf)
    have hmf5 := factM_lt f
    have hma5 := agentM_lt f
    generalize hP : printV A F X f = P at *
    obtain ⟨s, z⟩ := P
    dsimp only at HP HPW HFI HAI
    clear hP hfew hfs hlf hcpf
    by_cases hz : z = 0
    · subst hz
      obtain ⟨hs1, hf1, hn1, hs4, ht0, hw6⟩ := HPW.out rfl
      clear hw6
      obtain ⟨hA4, hF8, hz9⟩ := sigErr_ok hs1
      clear hz9
      have hfit : fitsF f (n0 : Int) (n1 : Int) = true := by unfold namedB at hn1; rw [Bool.and_eq_true, hA0, hF0] at hn1; exact hn1.1
      rw [hfit] at HFT
      have HFI2 := Lib.hid (fun i hi => HFI.out rfl i hi)
      have HAI2 := Lib.hid (fun i hi => HAI.out rfl i hi)
      have HTK := Lib.hid (fun W => kTokens_any s W (by unfold maxLen; omega))
      rw [ht0] at HTK
      have hwl := (tokV_bound s).2.1
      have hn04 : n0 ≤ 4 := by omega
      have hn18 : n1 ≤ 8 := by omega
      generalize (tokV s).words = ws at *
      generalize (tokV s).ats.length = na at *
      generalize (tokV s).pos = po at *
      generalize maskL factD (compF f) = mf at *
      generalize maskL agentD (compF f) = ma at *
      clear hs1 hf1 hn1 hs4 ht0 hA4 hF8 hfit HFI HAI HPW hmf
      go_enter Tryz.func8, Tryz.ntmps8
      obtain ⟨q0, q1, q2⟩ := HX.out _ HB0.out
      go_wp2_with fail
      refine (HFWf.out _).mono ?_
      rintro e w1 ⟨rfl, hb⟩
      have HB1 : Hid (Below (w.heap.size + 1) (w.alloc (.cells #[.slice a0 n0 c0, .slice a1 n1 c1, .slice a2 n2 c2] 24)) w1) := Lib.hid (HB0.out.trans (hb.mono (HG.out _ HB0.out).2.2.1))
      clear hb HFWf q0 q1 q2
      obtain ⟨q0, q1, q2⟩ := HX.out w1 HB1.out
      go_wp2_with fail
      refine (HP.out _ HB1.out).mono ?_
      rintro e w2 ⟨rfl, hb⟩
      have HB2 : Hid (Below (w.heap.size + 1) (w.alloc (.cells #[.slice a0 n0 c0, .slice a1 n1 c1, .slice a2 n2 c2] 24)) w2) := Lib.hid (HB1.out.trans (hb.mono (HG.out _ HB1.out).2.2.1))
      clear hb HP q0 q1 q2
      go_wp2_with fail
      refine (HTK.out _).mono ?_
      rintro e w3 ⟨A1, k1, A2, k2, rfl, hRW, _, hb⟩
      have HB3 : Hid (Below (w.heap.size + 1) (w.alloc (.cells #[.slice a0 n0 c0, .slice a1 n1 c1, .slice a2 n2 c2] 24)) w3) := Lib.hid (HB2.out.trans (hb.mono (HG.out _ HB2.out).2.2.1))
      have HRW := Lib.hid hRW
      clear hb hRW HTK
      obtain ⟨q0, q1, q2⟩ := HX.out w3 HB3.out
      go_wp2_with fail
      refine (HFT.out _ HB3.out).mono ?_
      rintro e w4 ⟨rfl, hb⟩
      have HB4 : Hid (Below (w.heap.size + 1) (w.alloc (.cells #[.slice a0 n0 c0, .slice a1 n1 c1, .slice a2 n2 c2] 24)) w4) := Lib.hid (HB3.out.trans (hb.mono (HG.out _ HB3.out).2.2.1))
      have HRW4 := Lib.hid ((HRW.out.below hb).more hb.size)
      clear hb HFT q0 q1 q2 HRW
      generalize hw0 : (w.alloc (.cells #[.slice a0 n0 c0, .slice a1 n1 c1, .slice a2 n2 c2] 24)) = wz at *
      clear hw0
      go_wp2
      go_loopw [11, 12, 13] (fun i _ _ wr => ∃ k : Nat, k ≤ n1 ∧ i = .int .i64 k ∧ Hid (Below (w.heap.size + 1) wz wr) ∧ Hid (Below w4.heap.size w4 wr)) (fun i _ _ _ => n1 - (intOf i).toNat)
      case atStart => exact ⟨0, Nat.zero_le _, rfl, HB4, Lib.hid (Below.refl _ _)⟩
      case round =>
        obtain ⟨k, hk, rfl, HB, HBF⟩ := hrel
        obtain ⟨q0, q1, q2⟩ := HX.out _ HB.out
        by_cases hlt : k < n1
        · obtain ⟨ad, hA, hbk, hc⟩ := HA1.out.str_at hlt
          have HCX : Hid (∀ W, Below (w.heap.size + 1) wz W → W.cell? (ad.add k) = some (.string (F.getD k ByteArray.empty))) := Lib.hid (fun W hW => ((HG.out W hW).2.1.cell (p := ad.add k) (by rw [block_of_add]; exact hbk)).trans hc)
          have HBIT := Lib.hid (HFI2.out k (by omega))
          have hb9 := bit_512 ⟨mf, by omega⟩ ⟨k, by omega⟩
          dsimp only at hb9
          have b0 : (0 : Int) ≤ (k : Int) := by omega
          have b1 : (k : Int) < (n1 : Int) := by omega
          have hd31 : decide ((k : Int) < 31) = true := decide_eq_true (by omega)
          generalize F.getD k ByteArray.empty = xx at *
          clear hc hbk
          subst hA
          go_wp2
          rename World => wo
          go_loopw [12, 13] (fun fd j wr => ∃ k2 : Nat, k2 ≤ ws.length ∧ j = .int .i64 k2 ∧ fd = .bool (memB xx (ws.take k2)) ∧ Hid (Below (w.heap.size + 1) wz wr) ∧ Hid (Below w4.heap.size w4 wr)) (fun _ j _ => ws.length - (intOf j).toNat)
          case atStart => exact ⟨0, Nat.zero_le _, rfl, by rw [List.take_zero]; rfl, HB, HBF⟩
          case round =>
            obtain ⟨k2, hk2, rfl, rfl, HBI, HBJ⟩ := hrel
            obtain ⟨v0, v1, v2⟩ := HX.out _ HBI.out
            have hcx := HCX.out _ HBI.out
            by_cases hl2 : k2 < ws.length
            · obtain ⟨aw, hAw, hbw, hcw⟩ := (HRW4.out.below HBJ.out).str_at hl2
              have HTM := Lib.hid (take_mem (x := xx) hl2)
              have e0 : (0 : Int) ≤ (k2 : Int) := by omega
              have e1 : (k2 : Int) < (ws.length : Int) := by omega
              subst hAw
              generalize ws.getD k2 ByteArray.empty = yy at *
              cases hfd : memB xx (ws.take k2) with
              | true =>
                rw [hfd] at HTM
                clear hfd hbw
                go_wp2_with fail
                go_quiet (fail)
                go_wp2
                go_roundw
                case rel => exact ⟨k2 + 1, by omega, by go_num, by rw [HTM.out]; rfl, Lib.hid (below_drewN HBI.out _), Lib.hid (below_drewN HBJ.out _)⟩
                case measure => simp [intOf]; omega
              | false =>
                rw [hfd] at HTM
                clear hfd hbw
                by_cases hyx : yy = xx
                · have d1 : (yy.toList == xx.toList) = true := by rw [hyx]; exact beq_self_eq_true _
                  rw [decide_eq_true hyx] at HTM
                  clear hyx
                  go_wp2_with fail
                  go_quiet (fail)
                  go_wp2
                  go_roundw
                  case rel => exact ⟨k2 + 1, by omega, by go_num, by rw [HTM.out]; rfl, Lib.hid (below_drewN HBI.out _), Lib.hid (below_drewN HBJ.out _)⟩
                  case measure => simp [intOf]; omega
                · have d1 : (yy.toList == xx.toList) = false := by cases hq : (yy.toList == xx.toList) with | false => rfl | true => exact absurd ((Lib.bytes_beq_iff yy xx).1 hq) hyx
                  rw [decide_eq_false hyx] at HTM
                  clear hyx
                  go_wp2_with fail
                  go_quiet (fail)
                  go_wp2
                  go_roundw
                  case rel => exact ⟨k2 + 1, by omega, by go_num, by rw [HTM.out]; rfl, Lib.hid (below_drewN HBI.out _), Lib.hid (below_drewN HBJ.out _)⟩
                  case measure => simp [intOf]; omega
            · have hkw : ws.length = k2 := by omega
              have hfd : memB xx (ws.take k2) = mf.testBit k := by rw [List.take_of_length_le (by omega)]; exact HBIT.out
              rw [hfd]
              subst hkw
              generalize mf.testBit k = tb at *
              have hne : (tb != tb) = false := by cases tb <;> rfl
              clear hfd HBIT hl2
              go_wp2_with fail
              refine (HFA.out _ HBI.out).mono ?_
              rintro e w8 ⟨rfl, hb⟩
              have HB8 : Hid (Below (w.heap.size + 1) wz w8) := Lib.hid (HBI.out.trans (hb.mono (HG.out _ HBI.out).2.2.1))
              have HF8 : Hid (Below w4.heap.size w4 w8) := Lib.hid (HBJ.out.trans (hb.mono HBJ.out.size))
              clear hb
              go_wp2
              go_roundw
              case rel => exact ⟨k + 1, by omega, by go_num, HB8, HF8⟩
              case measure => simp [intOf]; omega
        · have hkn : k = n1 := by omega
          subst hkn
          clear hk hlt
          go_wp2
          rename World => wq
          go_loopw [14, 15, 16] (fun i _ _ wr => ∃ k : Nat, k ≤ n0 ∧ i = .int .i64 k ∧ Hid (Below (w.heap.size + 1) wz wr) ∧ Hid (Below w4.heap.size w4 wr)) (fun i _ _ _ => n0 - (intOf i).toNat)
          case atStart => exact ⟨0, Nat.zero_le _, rfl, HB, HBF⟩
          case round =>
            obtain ⟨k, hk, rfl, HB, HBF⟩ := hrel
            obtain ⟨q0, q1, q2⟩ := HX.out _ HB.out
            by_cases hlt : k < n0
            · obtain ⟨ad, hA, hbk, hc⟩ := HA0.out.str_at hlt
              have HCX : Hid (∀ W, Below (w.heap.size + 1) wz W → W.cell? (ad.add k) = some (.string (A.getD k ByteArray.empty))) := Lib.hid (fun W hW => ((HG.out W hW).2.1.cell (p := ad.add k) (by rw [block_of_add]; exact hbk)).trans hc)
              have HBIT := Lib.hid (HAI2.out k (by omega))
              have hb9 := bit_512 ⟨ma, by omega⟩ ⟨k, by omega⟩
              dsimp only at hb9
              have b0 : (0 : Int) ≤ (k : Int) := by omega
              have b1 : (k : Int) < (n0 : Int) := by omega
              have hd31 : decide ((k : Int) < 31) = true := decide_eq_true (by omega)
              generalize A.getD k ByteArray.empty = xx at *
              clear hc hbk
              subst hA
              go_wp2
              rename World => wo
              go_loopw [15, 16] (fun fd j wr => ∃ k2 : Nat, k2 ≤ ws.length ∧ j = .int .i64 k2 ∧ fd = .bool (memB xx (ws.take k2)) ∧ Hid (Below (w.heap.size + 1) wz wr) ∧ Hid (Below w4.heap.size w4 wr)) (fun _ j _ => ws.length - (intOf j).toNat)
              case atStart => exact ⟨0, Nat.zero_le _, rfl, by rw [List.take_zero]; rfl, HB, HBF⟩
              case round =>
                obtain ⟨k2, hk2, rfl, rfl, HBI, HBJ⟩ := hrel
                obtain ⟨v0, v1, v2⟩ := HX.out _ HBI.out
                have hcx := HCX.out _ HBI.out
                by_cases hl2 : k2 < ws.length
                · obtain ⟨aw, hAw, hbw, hcw⟩ := (HRW4.out.below HBJ.out).str_at hl2
                  have HTM := Lib.hid (take_mem (x := xx) hl2)
                  have e0 : (0 : Int) ≤ (k2 : Int) := by omega
                  have e1 : (k2 : Int) < (ws.length : Int) := by omega
                  subst hAw
                  generalize ws.getD k2 ByteArray.empty = yy at *
                  cases hfd : memB xx (ws.take k2) with
                  | true =>
                    rw [hfd] at HTM
                    clear hfd hbw
                    go_wp2_with fail
                    go_quiet (fail)
                    go_wp2
                    go_roundw
                    case rel => exact ⟨k2 + 1, by omega, by go_num, by rw [HTM.out]; rfl, Lib.hid (below_drewN HBI.out _), Lib.hid (below_drewN HBJ.out _)⟩
                    case measure => simp [intOf]; omega
                  | false =>
                    rw [hfd] at HTM
                    clear hfd hbw
                    by_cases hyx : yy = xx
                    · have d1 : (yy.toList == xx.toList) = true := by rw [hyx]; exact beq_self_eq_true _
                      rw [decide_eq_true hyx] at HTM
                      clear hyx
                      go_wp2_with fail
                      go_quiet (fail)
                      go_wp2
                      go_roundw
                      case rel => exact ⟨k2 + 1, by omega, by go_num, by rw [HTM.out]; rfl, Lib.hid (below_drewN HBI.out _), Lib.hid (below_drewN HBJ.out _)⟩
                      case measure => simp [intOf]; omega
                    · have d1 : (yy.toList == xx.toList) = false := by cases hq : (yy.toList == xx.toList) with | false => rfl | true => exact absurd ((Lib.bytes_beq_iff yy xx).1 hq) hyx
                      rw [decide_eq_false hyx] at HTM
                      clear hyx
                      go_wp2_with fail
                      go_quiet (fail)
                      go_wp2
                      go_roundw
                      case rel => exact ⟨k2 + 1, by omega, by go_num, by rw [HTM.out]; rfl, Lib.hid (below_drewN HBI.out _), Lib.hid (below_drewN HBJ.out _)⟩
                      case measure => simp [intOf]; omega
                · have hkw : ws.length = k2 := by omega
                  have hfd : memB xx (ws.take k2) = ma.testBit k := by rw [List.take_of_length_le (by omega)]; exact HBIT.out
                  rw [hfd]
                  subst hkw
                  generalize ma.testBit k = tb at *
                  have hne : (tb != tb) = false := by cases tb <;> rfl
                  clear hfd HBIT hl2
                  go_wp2_with fail
                  refine (HAG.out _ HBI.out).mono ?_
                  rintro e w8 ⟨rfl, hb⟩
                  have HB8 : Hid (Below (w.heap.size + 1) wz w8) := Lib.hid (HBI.out.trans (hb.mono (HG.out _ HBI.out).2.2.1))
                  have HF8 : Hid (Below w4.heap.size w4 w8) := Lib.hid (HBJ.out.trans (hb.mono HBJ.out.size))
                  clear hb
                  go_wp2
                  go_roundw
                  case rel => exact ⟨k + 1, by omega, by go_num, HB8, HF8⟩
                  case measure => simp [intOf]; omega
            · have hkn : k = n0 := by omega
              subst hkn
              go_wp2_with fail
              refine (awakeP_any _ (HG.out _ HB.out).1).mono ?_
              rintro e w9 ⟨rfl, hb⟩
              have HB9 : Hid (Below (w.heap.size + 1) wz w9) := Lib.hid (HB.out.trans (hb.mono (HG.out _ HB.out).2.2.1))
              clear hb
              go_wp2
              go_ret
              exact ⟨rfl, (HG.out _ HB9.out).2.1⟩
    · have hne : (z != 0) = true := by rw [bne_iff_ne]; exact hz
      clear hz HPW HFI HAI HFT HFA HAG hmf
      go_enter Tryz.func8, Tryz.ntmps8
      obtain ⟨q0, q1, q2⟩ := HX.out _ HB0.out
      go_wp2_with fail
      refine (HFWf.out _).mono ?_
      rintro e w1 ⟨rfl, hb⟩
      have HB1 : Hid (Below (w.heap.size + 1) (w.alloc (.cells #[.slice a0 n0 c0, .slice a1 n1 c1, .slice a2 n2 c2] 24)) w1) := Lib.hid (HB0.out.trans (hb.mono (HG.out _ HB0.out).2.2.1))
      clear hb HFWf q0 q1 q2
      obtain ⟨q0, q1, q2⟩ := HX.out w1 HB1.out
      go_wp2_with fail
      refine (HP.out _ HB1.out).mono ?_
      rintro e w2 ⟨rfl, hb⟩
      have HB2 : Hid (Below (w.heap.size + 1) (w.alloc (.cells #[.slice a0 n0 c0, .slice a1 n1 c1, .slice a2 n2 c2] 24)) w2) := Lib.hid (HB1.out.trans (hb.mono (HG.out _ HB1.out).2.2.1))
      clear hb HP q0 q1 q2
      go_wp2_with fail
      refine (awakeP_any _ (HG.out _ HB2.out).1).mono ?_
      rintro e w3 ⟨rfl, hb⟩
      have HB3 : Hid (Below (w.heap.size + 1) (w.alloc (.cells #[.slice a0 n0 c0, .slice a1 n1 c1, .slice a2 n2 c2] 24)) w3) := Lib.hid (HB2.out.trans (hb.mono (HG.out _ HB2.out).2.2.1))
      clear hb
      go_wp2
      go_ret
      exact ⟨rfl, (HG.out _ HB3.out).2.1⟩
  · have hff : fewP nf n0 n1 n2 = false := by simpa using hfew
    rw [hff] at HFWf
    clear hfew hff hmf hlf hcpf
    go_enter Tryz.func8, Tryz.ntmps8
    obtain ⟨q0, q1, q2⟩ := HX.out _ HB0.out
    go_wp2_with fail
    refine (HFWf.out _).mono ?_
    rintro e w1 ⟨rfl, hb⟩
    have HB1 : Hid (Below (w.heap.size + 1) (w.alloc (.cells #[.slice a0 n0 c0, .slice a1 n1 c1, .slice a2 n2 c2] 24)) w1) := Lib.hid (HB0.out.trans (hb.mono (HG.out _ HB0.out).2.2.1))
    clear hb HFWf q0 q1 q2
    go_wp2_with fail
    refine (awakeP_any _ (HG.out _ HB1.out).1).mono ?_
    rintro e w2 ⟨rfl, hb⟩
    have HB2 : Hid (Below (w.heap.size + 1) (w.alloc (.cells #[.slice a0 n0 c0, .slice a1 n1 c1, .slice a2 n2 c2] 24)) w2) := Lib.hid (HB1.out.trans (hb.mono (HG.out _ HB1.out).2.2.1))
    clear hb
    go_wp2
    go_ret
    exact ⟨rfl, (HG.out _ HB2.out).2.1⟩
set_option maxRecDepth 100000 in
theorem contract (H : Type) (enc : TypeId × Value → H) (W : World) (base : Nat) (args : Array Value) (ds gs : List (DataW H)) (before : List MemPlace)
    (hval : ∀ (j : Nat) t v, Tryz.f8.params[j]? = some t → args[j]? = some v → Value.okWide Tryz.prog W .any base t v)
    (hW : DataW.Whole enc Tryz.prog Tryz.f8.params.toList Rows.printerNamesSpec.vars false W args.toList ds gs before) (hE : EnvP W) :
    Calls Tryz.prog 8 args W fun e W' => ∃ v, e = .returned v ∧ Rows.printerNamesSpec.post enc Tryz.prog Tryz.f8 false true false false W args v W' := by
  have hW' := hW
  obtain ⟨p, q, hA0, hV, rfl, hfz, hnd⟩ := hW
  have hA : DataW.TrodAll enc Tryz.prog W 0 (fun _ => true) true Tryz.f8.params.toList args.toList ds p := hA0
  rw [Tryz.params8] at hA hval
  obtain ⟨v0, vs0, d0, ds0, p0, q0, hargs, rfl, rfl, h0, r0⟩ := trodAll_cons hA
  obtain ⟨v1, vs1, d1, ds1, p1, q1, rfl, rfl, rfl, h1, r1⟩ := trodAll_cons r0
  obtain ⟨rfl, rfl, rfl⟩ := trodAll_nil r1
  obtain rfl : args = #[v0, v1] := by cases args; simp_all
  obtain ⟨rfl, rfl⟩ := trodVars_none hV
  obtain ⟨a0, n0, c0, a1, n1, c1, a2, n2, c2, A, F, X, rfl, s0, s1, s2⟩ := open_sig (hval 0 24 v0 rfl rfl) h0
  have k0 := h0
  have lt0 : ∀ x ∈ p0, x.block < W.heap.size := by obtain ⟨m, hm⟩ := k0; exact DataW.trod_lt m _ _ _ hm
  obtain ⟨af1, nf1, cf1, rfl⟩ := okWide_slice Tryz.underlying25 (hval 1 25 v1 rfl rfl)
  obtain ⟨f1, w1⟩ : ∃ l, NdRow W af1 nf1 cf1 l := by
    obtain ⟨fuel, hf⟩ := h1
    exact open_nodes hf
  have k1 := h1
  have lt1 : ∀ x ∈ p1, x.block < W.heap.size := by obtain ⟨m, hm⟩ := k1; exact DataW.trod_lt m _ _ _ hm
  clear hA0
  have hwalk := walk a0 n0 c0 a1 n1 c1 a2 n2 c2 A F X f1 af1 nf1 cf1 W s0 s1 s2 w1 hE
  refine hwalk.mono fun e W' ⟨he, hg⟩ => ?_
  subst he
  exact ⟨_, rfl, _, _, _, [], _, [], hW', trodAll_mk1 (shut_bool Tryz.underlying4 _), (trodAll_cons_mk (Below.trod laidOut (by kernel_rfl) (of_decide_eq_true (by kernel_rfl)) k0 hg lt0) (trodAll_cons_mk (Below.trod laidOut (by kernel_rfl) (of_decide_eq_true (by kernel_rfl)) k1 hg lt1) trodAll_mk0)), rfl, hg.frame _, fun h => by cases h⟩
theorem reads (os : Os) {H : Type} (enc : TypeId × Value → H) : ∃ places, DataW.whole enc Tryz.prog ((laidW os).forCall (fun _ _ => 0) ⟨#[], #[.agg #[.slice none 0 0, .slice none 0 0, .slice none 0 0], .slice none 0 0], []⟩).memory Tryz.f8.params.toList Rows.printerNamesSpec.vars false #[(.agg #[.slice none 0 0, .slice none 0 0, .slice none 0 0] : Value), (.slice none 0 0 : Value)].toList 8 = some ([.agg [.nil, .nil, .nil], .nil], [], places) :=
  ⟨[], by kernel_rfl⟩
set_option maxRecDepth 100000 in
theorem lifted (os : Os) (started : os.Started) (H : Type) (enc : TypeId × Value → H) (F : Stop.Interp) :
    ReturnsInHanded {} Tryz.checked os 8 .any ((OpenSpec.ofChange Rows.printerNamesSpec).preRow enc Tryz.prog Tryz.f8 Rows.printerNamesRow.domain false Rows.printerNamesRow.laid) (((OpenSpec.ofChange Rows.printerNamesSpec).at F).post enc Tryz.prog Tryz.f8 false true false false) := by
  obtain ⟨places, hx⟩ := reads os enc
  refine returnsInHanded_of_row (C := Tryz.checked) (s := OpenSpec.ofChange Rows.printerNamesSpec) own started (by kernel_rfl) Tryz.func8
    (witness_row_atRef (enc := enc) (C := Tryz.checked) false (laidW os) #[.agg #[.slice none 0 0, .slice none 0 0, .slice none 0 0], .slice none 0 0] (laidW_os os) (vars_ok os _) (heap_ok os _) (by kernel_rfl)
      (OpenSpec.preRow_of_cond 8 hx (by kernel_rfl) (fun k hk => by cases hk) (by kernel_rfl) (laid_met os _))) ?_
  intro W base args ds gs before hval hW _ _ _ hL hsh _
  exact contract H enc W base args ds gs before hval hW (env_of hL hsh)
theorem said : Rows.PrinterNamesSaid :=
  OpenClaim.holds_of_cond 8 Tryz.f8 rfl rfl rfl rfl rfl rfl rfl ⟨rfl, rfl, rfl, rfl, rfl⟩ rfl rfl rfl rfl rfl (by kernel_rfl) Tryz.func8 (by kernel_rfl)
    (of_decide_eq_true (by kernel_rfl)) (by unfold Func.isWrapper; first | (rw [if_pos (by decide +kernel)]; kernel_rfl) | (rw [if_neg (by decide +kernel)]; exact ⟨rfl, rfl⟩))
    (fun os started H enc _ F => by rw [OpenClaim.pre_eq_preRow]; exact lifted os started H enc F)
theorem plain (f : FuncId) (fn : Func) (hf : Tryz.pinned.checked.prog.funcNamed "witting/wittinglaw07.PrinterNames" = some f) (hfn : Tryz.pinned.checked.prog.funcs[f]? = some fn) :
    false = Tryz.pinned.checked.prog.looks [] ∧ ∀ (j : Nat) t, fn.params[j]? = some t → Tryz.pinned.checked.prog.wantsStandIn t = false := by
  obtain rfl : f = 8 := Option.some.inj ((show Tryz.prog.funcNamed "witting/wittinglaw07.PrinterNames" = some 8 by kernel_rfl).symm.trans hf) |>.symm
  obtain rfl : fn = Tryz.f8 := (Option.some.inj (Tryz.func8.symm.trans hfn)).symm
  refine ⟨no_looks, fun j t ht => ?_⟩
  rw [Tryz.params8] at ht
  have hm : t ∈ [24, 25] := by simpa using Array.mem_of_getElem? ht
  have hall : ([24, 25].all fun u => !Tryz.prog.wantsStandIn u) = true := by kernel_rfl
  exact (show Tryz.prog.wantsStandIn t = false by simpa using List.all_eq_true.1 hall t hm)
theorem card : Rows.PrinterNamesCardSaid :=
  Claim7.holds_tied_plain_at .later [] _ _ _ _ said (fun _ h => by cases h) (by kernel_rfl) (fun _ h => by cases h) printerNames_row_tie rfl ⟨rfl, rfl⟩ (by kernel_rfl) rfl plain (by kernel_rfl)
#print axioms card
end Go.Proofs.YtenbhalnpiahaaaGreatDoor.printerNames
