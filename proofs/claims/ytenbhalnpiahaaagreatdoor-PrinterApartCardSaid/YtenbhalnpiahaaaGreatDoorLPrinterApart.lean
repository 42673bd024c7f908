/- PrinterApart (P7.3): formulas have the same text exactly if they are equal (60 nodes). Conditions: the package variables that the row lists hold what the program's text lays in them. -/
import Derived.Test.YtenbhalnpiahaaaGreatDoorJk
import Derived.Test.YtenbhalnpiahaaaGreatDoorJy
import Derived.Test.YtenbhalnpiahaaaGreatDoorPf
namespace Go.Proofs.YtenbhalnpiahaaaGreatDoor.printerApart
open Go.ChangeShapes Go.WideShapes Go.ChangeAt Go.RowKit Go.Proofs.YtenbhalnpiahaaaGreatDoor Go.Proofs.YtenbhalnpiahaaaGreatDoor.prn Go.Proofs.Ws Go.Maps
open Go.ChangeMaps (open_string shut_string)

theorem print_err {A F X : List ByteArray} {f : List Nd} (h : (printV A F X f).2 = 0) : fErr f = 0 := by
  unfold printV at h
  split at h
  · rename_i h1; exact absurd h h1
  · split at h
    · rename_i h2; exact absurd h h2
    · rename_i h2; exact Decidable.not_not.1 h2
set_option maxRecDepth 100000 in
set_option maxHeartbeats 8000000 in
theorem walk (a0 : Option Addr) (n0 c0 : Nat) (a1 : Option Addr) (n1 c1 : Nat) (a2 : Option Addr) (n2 c2 : Nat) (A F X : List ByteArray) (f : List Nd) (af : Option Addr) (nf cf : Nat) (g : List Nd) (ag : Option Addr) (ng cg : Nat) (w : World) (s0 : SL0 w a0 n0 c0 A) (s1 : SL0 w a1 n1 c1 F) (s2 : SL0 w a2 n2 c2 X) (rf : NdRow w af nf cf f) (rg : NdRow w ag ng cg g) (hE : EnvP w) :
    Calls Tryz.prog 7 #[.agg #[.slice a0 n0 c0, .slice a1 n1 c1, .slice a2 n2 c2], .slice af nf cf, .slice ag ng cg] w fun e w' => e = .returned (.bool true) ∧ Below w.heap.size w w' := by
  have HX := Lib.hid (@boxed w a0 a1 a2 n0 c0 n1 c1 n2 c2 24)
  have HG : Hid (∀ W, Below (w.heap.size + 1) (w.alloc (.cells #[.slice a0 n0 c0, .slice a1 n1 c1, .slice a2 n2 c2] 24)) W → EnvP W ∧ Below w.heap.size w W ∧ w.heap.size + 1 ≤ W.heap.size ∧ (fewS n0 n1 n2 = true → SigR W W.heap.size (.agg #[.slice a0 n0 c0, .slice a1 n1 c1, .slice a2 n2 c2]) A F X) ∧ Reads W W.heap.size 6 af nf (nds f) ∧ Reads W W.heap.size 6 ag ng (nds g)) := Lib.hid (fun W hW => by
    have h1 : Below w.heap.size w W := ((Below.refl _ w).alloc (Nat.le_refl _) _).trans (hW.mono (by omega))
    have q : ∀ {a : Option Addr} {n c : Nat} {l : List ByteArray}, SL0 w a n c l → n ≤ 20 → SL W W.heap.size a n c l := fun h hn => ((h.small hn).below h1).more h1.size
    refine ⟨hE.below h1, h1, by have := hW.size; simpa using this, fun hf => ?_, (rf.1.below h1).more h1.size, (rg.1.below h1).more h1.size⟩
    unfold fewS at hf
    simp only [Bool.and_eq_true, decide_eq_true_eq] at hf
    exact ⟨_, _, _, _, _, _, _, _, _, rfl, q s0 (by omega), q s1 (by omega), q s2 (by omega)⟩)
  have HB0 := Lib.hid (Below.refl (w.heap.size + 1) (w.alloc (.cells #[.slice a0 n0 c0, .slice a1 n1 c1, .slice a2 n2 c2] 24)))
  have hmf := rf.2.2.2
  have hlf := rf.1.nd_len
  have HFWf := Lib.hid (fun W => kFewP_any a0 a1 a2 n0 c0 n1 c1 n2 c2 af nf cf W s0.2.2.1 s1.2.2.1 s2.2.2.1 rf.2.2.2)
  have hcpf := rf.2.2.1
  have hmg := rg.2.2.2
  have hlg := rg.1.nd_len
  have HFWg := Lib.hid (fun W => kFewP_any a0 a1 a2 n0 c0 n1 c1 n2 c2 ag ng cg W s0.2.2.1 s1.2.2.1 s2.2.2.1 rg.2.2.2)
  have hcpg := rg.2.2.1
  clear hE s0 s1 s2 rf rg
  by_cases hfew : fewP nf n0 n1 n2 = true
  · rw [hfew] at HFWf
    by_cases hfew2 : fewP ng n0 n1 n2 = true
    · rw [hfew2] at HFWg
      have hfs : fewS n0 n1 n2 = true := by unfold fewP at hfew; rw [Bool.and_eq_true] at hfew; exact hfew.2
      have HPf := Lib.hid (fun W (hW : Below (w.heap.size + 1) (w.alloc (.cells #[.slice a0 n0 c0, .slice a1 n1 c1, .slice a2 n2 c2] 24)) W) => pPrint_any a0 n0 c0 a1 n1 c1 a2 n2 c2 A F X f af nf cf W ((HG.out W hW).2.2.2.1 hfs) (HG.out W hW).1 (HG.out W hW).2.2.2.2.1 hmf)
      have HPg := Lib.hid (fun W (hW : Below (w.heap.size + 1) (w.alloc (.cells #[.slice a0 n0 c0, .slice a1 n1 c1, .slice a2 n2 c2] 24)) W) => pPrint_any a0 n0 c0 a1 n1 c1 a2 n2 c2 A F X g ag ng cg W ((HG.out W hW).2.2.2.1 hfs) (HG.out W hW).1 (HG.out W hW).2.2.2.2.2 hmg)
      have HSM := Lib.hid (fun W (hW : Below (w.heap.size + 1) (w.alloc (.cells #[.slice a0 n0 c0, .slice a1 n1 c1, .slice a2 n2 c2] 24)) W) => pSame_any f g af ag nf ng cf cg W (HG.out W hW).2.2.2.2.1 (HG.out W hW).2.2.2.2.2 hmf hmg)
      have HAP : Hid ((printV A F X f).2 = 0 → (printV A F X g).2 = 0 → sameF f g = decide ((printV A F X f).1 = (printV A F X g).1)) := Lib.hid (fun h1 h2 => by
        unfold sameF
        rw [decide_eq_decide, print_apart h1 h2]
        exact ⟨fun h => h.2.2, fun h => ⟨print_err h1, print_err h2, h⟩⟩)
      generalize hP1 : printV A F X f = P1 at *
      generalize hP2 : printV A F X g = P2 at *
      obtain ⟨a, e1⟩ := P1
      obtain ⟨b, e2⟩ := P2
      dsimp only at HPf HPg HAP
      clear hP1 hP2 hfew hfew2 hfs hmf hlf hcpf hmg hlg hcpg
      by_cases hz1 : e1 = 0
      · by_cases hz2 : e2 = 0
        · subst hz1 hz2
          rw [HAP.out rfl rfl] at HSM
          by_cases hab : a = b
          · subst hab
            have d1 : (a.toList == a.toList) = true := beq_self_eq_true _
            rw [decide_eq_true rfl] at HSM
            clear HAP
            go_enter Tryz.func7, Tryz.ntmps7
            obtain ⟨q0, q1, q2⟩ := HX.out _ HB0.out
            go_wp2_with fail
            refine (HFWf.out _).mono ?_
            rintro e w1 ⟨rfl, hb⟩
            have HB1 : Hid (Below (w.heap.size + 1) (w.alloc (.cells #[.slice a0 n0 c0, .slice a1 n1 c1, .slice a2 n2 c2] 24)) w1) := Lib.hid (HB0.out.trans (hb.mono (HG.out _ HB0.out).2.2.1))
            clear hb HFWf q0 q1 q2
            obtain ⟨q0, q1, q2⟩ := HX.out w1 HB1.out
            go_wp2_with fail
            refine (HFWg.out _).mono ?_
            rintro e w2 ⟨rfl, hb⟩
            have HB2 : Hid (Below (w.heap.size + 1) (w.alloc (.cells #[.slice a0 n0 c0, .slice a1 n1 c1, .slice a2 n2 c2] 24)) w2) := Lib.hid (HB1.out.trans (hb.mono (HG.out _ HB1.out).2.2.1))
            clear hb HFWg q0 q1 q2
            obtain ⟨q0, q1, q2⟩ := HX.out w2 HB2.out
            go_wp2_with fail
            refine (HPf.out _ HB2.out).mono ?_
            rintro e w3 ⟨rfl, hb⟩
            have HB3 : Hid (Below (w.heap.size + 1) (w.alloc (.cells #[.slice a0 n0 c0, .slice a1 n1 c1, .slice a2 n2 c2] 24)) w3) := Lib.hid (HB2.out.trans (hb.mono (HG.out _ HB2.out).2.2.1))
            clear hb HPf q0 q1 q2
            obtain ⟨q0, q1, q2⟩ := HX.out w3 HB3.out
            go_wp2_with fail
            refine (HPg.out _ HB3.out).mono ?_
            rintro e w4 ⟨rfl, hb⟩
            have HB4 : Hid (Below (w.heap.size + 1) (w.alloc (.cells #[.slice a0 n0 c0, .slice a1 n1 c1, .slice a2 n2 c2] 24)) w4) := Lib.hid (HB3.out.trans (hb.mono (HG.out _ HB3.out).2.2.1))
            clear hb HPg q0 q1 q2
            go_wp2_with fail
            refine (HSM.out _ HB4.out).mono ?_
            rintro e w5 ⟨rfl, hb⟩
            have HB5 : Hid (Below (w.heap.size + 1) (w.alloc (.cells #[.slice a0 n0 c0, .slice a1 n1 c1, .slice a2 n2 c2] 24)) w5) := Lib.hid (HB4.out.trans (hb.mono (HG.out _ HB4.out).2.2.1))
            clear hb HSM
            go_wp2_with fail
            refine (awakeP_any _ (HG.out _ HB5.out).1).mono ?_
            rintro e w6 ⟨rfl, hb⟩
            have HB6 : Hid (Below (w.heap.size + 1) (w.alloc (.cells #[.slice a0 n0 c0, .slice a1 n1 c1, .slice a2 n2 c2] 24)) w6) := Lib.hid (HB5.out.trans (hb.mono (HG.out _ HB5.out).2.2.1))
            clear hb
            go_wp2
            go_ret
            exact ⟨rfl, (HG.out _ HB6.out).2.1⟩
          · have d1 : (a.toList == b.toList) = false := by cases hq : (a.toList == b.toList) with | false => rfl | true => exact absurd ((Lib.bytes_beq_iff a b).1 hq) hab
            rw [decide_eq_false hab] at HSM
            clear HAP hab
            go_enter Tryz.func7, Tryz.ntmps7
            obtain ⟨q0, q1, q2⟩ := HX.out _ HB0.out
            go_wp2_with fail
            refine (HFWf.out _).mono ?_
            rintro e w1 ⟨rfl, hb⟩
            have HB1 : Hid (Below (w.heap.size + 1) (w.alloc (.cells #[.slice a0 n0 c0, .slice a1 n1 c1, .slice a2 n2 c2] 24)) w1) := Lib.hid (HB0.out.trans (hb.mono (HG.out _ HB0.out).2.2.1))
            clear hb HFWf q0 q1 q2
            obtain ⟨q0, q1, q2⟩ := HX.out w1 HB1.out
            go_wp2_with fail
            refine (HFWg.out _).mono ?_
            rintro e w2 ⟨rfl, hb⟩
            have HB2 : Hid (Below (w.heap.size + 1) (w.alloc (.cells #[.slice a0 n0 c0, .slice a1 n1 c1, .slice a2 n2 c2] 24)) w2) := Lib.hid (HB1.out.trans (hb.mono (HG.out _ HB1.out).2.2.1))
            clear hb HFWg q0 q1 q2
            obtain ⟨q0, q1, q2⟩ := HX.out w2 HB2.out
            go_wp2_with fail
            refine (HPf.out _ HB2.out).mono ?_
            rintro e w3 ⟨rfl, hb⟩
            have HB3 : Hid (Below (w.heap.size + 1) (w.alloc (.cells #[.slice a0 n0 c0, .slice a1 n1 c1, .slice a2 n2 c2] 24)) w3) := Lib.hid (HB2.out.trans (hb.mono (HG.out _ HB2.out).2.2.1))
            clear hb HPf q0 q1 q2
            obtain ⟨q0, q1, q2⟩ := HX.out w3 HB3.out
            go_wp2_with fail
            refine (HPg.out _ HB3.out).mono ?_
            rintro e w4 ⟨rfl, hb⟩
            have HB4 : Hid (Below (w.heap.size + 1) (w.alloc (.cells #[.slice a0 n0 c0, .slice a1 n1 c1, .slice a2 n2 c2] 24)) w4) := Lib.hid (HB3.out.trans (hb.mono (HG.out _ HB3.out).2.2.1))
            clear hb HPg q0 q1 q2
            go_wp2_with fail
            refine (HSM.out _ HB4.out).mono ?_
            rintro e w5 ⟨rfl, hb⟩
            have HB5 : Hid (Below (w.heap.size + 1) (w.alloc (.cells #[.slice a0 n0 c0, .slice a1 n1 c1, .slice a2 n2 c2] 24)) w5) := Lib.hid (HB4.out.trans (hb.mono (HG.out _ HB4.out).2.2.1))
            clear hb HSM
            go_wp2_with fail
            refine (awakeP_any _ (HG.out _ HB5.out).1).mono ?_
            rintro e w6 ⟨rfl, hb⟩
            have HB6 : Hid (Below (w.heap.size + 1) (w.alloc (.cells #[.slice a0 n0 c0, .slice a1 n1 c1, .slice a2 n2 c2] 24)) w6) := Lib.hid (HB5.out.trans (hb.mono (HG.out _ HB5.out).2.2.1))
            clear hb
            go_wp2
            go_ret
            exact ⟨rfl, (HG.out _ HB6.out).2.1⟩
        · have hne2 : (e2 != 0) = true := by rw [bne_iff_ne]; exact hz2
          subst hz1
          clear hz2 HAP HSM
          go_enter Tryz.func7, Tryz.ntmps7
          obtain ⟨q0, q1, q2⟩ := HX.out _ HB0.out
          go_wp2_with fail
          refine (HFWf.out _).mono ?_
          rintro e w1 ⟨rfl, hb⟩
          have HB1 : Hid (Below (w.heap.size + 1) (w.alloc (.cells #[.slice a0 n0 c0, .slice a1 n1 c1, .slice a2 n2 c2] 24)) w1) := Lib.hid (HB0.out.trans (hb.mono (HG.out _ HB0.out).2.2.1))
          clear hb HFWf q0 q1 q2
          obtain ⟨q0, q1, q2⟩ := HX.out w1 HB1.out
          go_wp2_with fail
          refine (HFWg.out _).mono ?_
          rintro e w2 ⟨rfl, hb⟩
          have HB2 : Hid (Below (w.heap.size + 1) (w.alloc (.cells #[.slice a0 n0 c0, .slice a1 n1 c1, .slice a2 n2 c2] 24)) w2) := Lib.hid (HB1.out.trans (hb.mono (HG.out _ HB1.out).2.2.1))
          clear hb HFWg q0 q1 q2
          obtain ⟨q0, q1, q2⟩ := HX.out w2 HB2.out
          go_wp2_with fail
          refine (HPf.out _ HB2.out).mono ?_
          rintro e w3 ⟨rfl, hb⟩
          have HB3 : Hid (Below (w.heap.size + 1) (w.alloc (.cells #[.slice a0 n0 c0, .slice a1 n1 c1, .slice a2 n2 c2] 24)) w3) := Lib.hid (HB2.out.trans (hb.mono (HG.out _ HB2.out).2.2.1))
          clear hb HPf q0 q1 q2
          obtain ⟨q0, q1, q2⟩ := HX.out w3 HB3.out
          go_wp2_with fail
          refine (HPg.out _ HB3.out).mono ?_
          rintro e w4 ⟨rfl, hb⟩
          have HB4 : Hid (Below (w.heap.size + 1) (w.alloc (.cells #[.slice a0 n0 c0, .slice a1 n1 c1, .slice a2 n2 c2] 24)) w4) := Lib.hid (HB3.out.trans (hb.mono (HG.out _ HB3.out).2.2.1))
          clear hb HPg q0 q1 q2
          go_wp2_with fail
          refine (awakeP_any _ (HG.out _ HB4.out).1).mono ?_
          rintro e w5 ⟨rfl, hb⟩
          have HB5 : Hid (Below (w.heap.size + 1) (w.alloc (.cells #[.slice a0 n0 c0, .slice a1 n1 c1, .slice a2 n2 c2] 24)) w5) := Lib.hid (HB4.out.trans (hb.mono (HG.out _ HB4.out).2.2.1))
          clear hb
          go_wp2
          go_ret
          exact ⟨rfl, (HG.out _ HB5.out).2.1⟩
      · have hne1 : (e1 != 0) = true := by rw [bne_iff_ne]; exact hz1
        clear hz1 HAP HSM
        go_enter Tryz.func7, Tryz.ntmps7
        obtain ⟨q0, q1, q2⟩ := HX.out _ HB0.out
        go_wp2_with fail
        refine (HFWf.out _).mono ?_
        rintro e w1 ⟨rfl, hb⟩
        have HB1 : Hid (Below (w.heap.size + 1) (w.alloc (.cells #[.slice a0 n0 c0, .slice a1 n1 c1, .slice a2 n2 c2] 24)) w1) := Lib.hid (HB0.out.trans (hb.mono (HG.out _ HB0.out).2.2.1))
        clear hb HFWf q0 q1 q2
        obtain ⟨q0, q1, q2⟩ := HX.out w1 HB1.out
        go_wp2_with fail
        refine (HFWg.out _).mono ?_
        rintro e w2 ⟨rfl, hb⟩
        have HB2 : Hid (Below (w.heap.size + 1) (w.alloc (.cells #[.slice a0 n0 c0, .slice a1 n1 c1, .slice a2 n2 c2] 24)) w2) := Lib.hid (HB1.out.trans (hb.mono (HG.out _ HB1.out).2.2.1))
        clear hb HFWg q0 q1 q2
        obtain ⟨q0, q1, q2⟩ := HX.out w2 HB2.out
        go_wp2_with fail
        refine (HPf.out _ HB2.out).mono ?_
        rintro e w3 ⟨rfl, hb⟩
        have HB3 : Hid (Below (w.heap.size + 1) (w.alloc (.cells #[.slice a0 n0 c0, .slice a1 n1 c1, .slice a2 n2 c2] 24)) w3) := Lib.hid (HB2.out.trans (hb.mono (HG.out _ HB2.out).2.2.1))
        clear hb HPf q0 q1 q2
        obtain ⟨q0, q1, q2⟩ := HX.out w3 HB3.out
        go_wp2_with fail
        refine (HPg.out _ HB3.out).mono ?_
        rintro e w4 ⟨rfl, hb⟩
        have HB4 : Hid (Below (w.heap.size + 1) (w.alloc (.cells #[.slice a0 n0 c0, .slice a1 n1 c1, .slice a2 n2 c2] 24)) w4) := Lib.hid (HB3.out.trans (hb.mono (HG.out _ HB3.out).2.2.1))
        clear hb HPg q0 q1 q2
        go_wp2_with fail
        refine (awakeP_any _ (HG.out _ HB4.out).1).mono ?_
        rintro e w5 ⟨rfl, hb⟩
        have HB5 : Hid (Below (w.heap.size + 1) (w.alloc (.cells #[.slice a0 n0 c0, .slice a1 n1 c1, .slice a2 n2 c2] 24)) w5) := Lib.hid (HB4.out.trans (hb.mono (HG.out _ HB4.out).2.2.1))
        clear hb
        go_wp2
        go_ret
        exact ⟨rfl, (HG.out _ HB5.out).2.1⟩
    · have hff : fewP ng n0 n1 n2 = false := by simpa using hfew2
      rw [hff] at HFWg
      clear hfew hfew2 hff hmf hlf hcpf hmg hlg hcpg
      go_enter Tryz.func7, Tryz.ntmps7
      obtain ⟨q0, q1, q2⟩ := HX.out _ HB0.out
      go_wp2_with fail
      refine (HFWf.out _).mono ?_
      rintro e w1 ⟨rfl, hb⟩
      have HB1 : Hid (Below (w.heap.size + 1) (w.alloc (.cells #[.slice a0 n0 c0, .slice a1 n1 c1, .slice a2 n2 c2] 24)) w1) := Lib.hid (HB0.out.trans (hb.mono (HG.out _ HB0.out).2.2.1))
      clear hb HFWf q0 q1 q2
      obtain ⟨q0, q1, q2⟩ := HX.out w1 HB1.out
      go_wp2_with fail
      refine (HFWg.out _).mono ?_
      rintro e w2 ⟨rfl, hb⟩
      have HB2 : Hid (Below (w.heap.size + 1) (w.alloc (.cells #[.slice a0 n0 c0, .slice a1 n1 c1, .slice a2 n2 c2] 24)) w2) := Lib.hid (HB1.out.trans (hb.mono (HG.out _ HB1.out).2.2.1))
      clear hb HFWg q0 q1 q2
      go_wp2_with fail
      refine (awakeP_any _ (HG.out _ HB2.out).1).mono ?_
      rintro e w3 ⟨rfl, hb⟩
      have HB3 : Hid (Below (w.heap.size + 1) (w.alloc (.cells #[.slice a0 n0 c0, .slice a1 n1 c1, .slice a2 n2 c2] 24)) w3) := Lib.hid (HB2.out.trans (hb.mono (HG.out _ HB2.out).2.2.1))
      clear hb
      go_wp2
      go_ret
      exact ⟨rfl, (HG.out _ HB3.out).2.1⟩
  · have hff : fewP nf n0 n1 n2 = false := by simpa using hfew
    rw [hff] at HFWf
    clear hfew hff hmf hlf hcpf hmg hlg hcpg
    go_enter Tryz.func7, Tryz.ntmps7
    obtain ⟨q0, q1, q2⟩ := HX.out _ HB0.out
    go_wp2_with fail
    refine (HFWf.out _).mono ?_
    rintro e w1 ⟨rfl, hb⟩
    have HB1 : Hid (Below (w.heap.size + 1) (w.alloc (.cells #[.slice a0 n0 c0, .slice a1 n1 c1, .slice a2 n2 c2] 24)) w1) := Lib.hid (HB0.out.trans (hb.mono (HG.out _ HB0.out).2.2.1))
    clear hb HFWf q0 q1 q2
    go_wp2_with fail
    refine (awakeP_any _ (HG.out _ HB1.out).1).mono ?_
    rintro e w2 ⟨rfl, hb⟩
    have HB2 : Hid (Below (w.heap.size + 1) (w.alloc (.cells #[.slice a0 n0 c0, .slice a1 n1 c1, .slice a2 n2 c2] 24)) w2) := Lib.hid (HB1.out.trans (hb.mono (HG.out _ HB1.out).2.2.1))
    clear hb
    go_wp2
    go_ret
    exact ⟨rfl, (HG.out _ HB2.out).2.1⟩
set_option maxRecDepth 100000 in
theorem contract (H : Type) (enc : TypeId × Value → H) (W : World) (base : Nat) (args : Array Value) (ds gs : List (DataW H)) (before : List MemPlace)
    (hval : ∀ (j : Nat) t v, Tryz.f7.params[j]? = some t → args[j]? = some v → Value.okWide Tryz.prog W .any base t v)
    (hW : DataW.Whole enc Tryz.prog Tryz.f7.params.toList Rows.printerApartSpec.vars false W args.toList ds gs before) (hE : EnvP W) :
    Calls Tryz.prog 7 args W fun e W' => ∃ v, e = .returned v ∧ Rows.printerApartSpec.post enc Tryz.prog Tryz.f7 false true false false W args v W' := by
  have hW' := hW
  obtain ⟨p, q, hA0, hV, rfl, hfz, hnd⟩ := hW
  have hA : DataW.TrodAll enc Tryz.prog W 0 (fun _ => true) true Tryz.f7.params.toList args.toList ds p := hA0
  rw [Tryz.params7] at hA hval
  obtain ⟨v0, vs0, d0, ds0, p0, q0, hargs, rfl, rfl, h0, r0⟩ := trodAll_cons hA
  obtain ⟨v1, vs1, d1, ds1, p1, q1, rfl, rfl, rfl, h1, r1⟩ := trodAll_cons r0
  obtain ⟨v2, vs2, d2, ds2, p2, q2, rfl, rfl, rfl, h2, r2⟩ := trodAll_cons r1
  obtain ⟨rfl, rfl, rfl⟩ := trodAll_nil r2
  obtain rfl : args = #[v0, v1, v2] := by cases args; simp_all
  obtain ⟨rfl, rfl⟩ := trodVars_none hV
  obtain ⟨a0, n0, c0, a1, n1, c1, a2, n2, c2, A, F, X, rfl, s0, s1, s2⟩ := open_sig (hval 0 24 v0 rfl rfl) h0
  have k0 := h0
  have lt0 : ∀ x ∈ p0, x.block < W.heap.size := by obtain ⟨m, hm⟩ := k0; exact DataW.trod_lt m _ _ _ hm
  obtain ⟨af1, nf1, cf1, rfl⟩ := okWide_slice Tryz.underlying25 (hval 1 25 v1 rfl rfl)
  obtain ⟨f1, w1⟩ : ∃ l, NdRow W af1 nf1 cf1 l := by
    obtain ⟨fuel, hf⟩ := h1
    exact open_nodes hf
  have k1 := h1
  have lt1 : ∀ x ∈ p1, x.block < W.heap.size := by obtain ⟨m, hm⟩ := k1; exact DataW.trod_lt m _ _ _ hm
  obtain ⟨af2, nf2, cf2, rfl⟩ := okWide_slice Tryz.underlying25 (hval 2 25 v2 rfl rfl)
  obtain ⟨f2, w2⟩ : ∃ l, NdRow W af2 nf2 cf2 l := by
    obtain ⟨fuel, hf⟩ := h2
    exact open_nodes hf
  have k2 := h2
  have lt2 : ∀ x ∈ p2, x.block < W.heap.size := by obtain ⟨m, hm⟩ := k2; exact DataW.trod_lt m _ _ _ hm
  clear hA0
  have hwalk := walk a0 n0 c0 a1 n1 c1 a2 n2 c2 A F X f1 af1 nf1 cf1 f2 af2 nf2 cf2 W s0 s1 s2 w1 w2 hE
  refine hwalk.mono fun e W' ⟨he, hg⟩ => ?_
  subst he
  exact ⟨_, rfl, _, _, _, [], _, [], hW', trodAll_mk1 (shut_bool Tryz.underlying4 _), (trodAll_cons_mk (Below.trod laidOut (by kernel_rfl) (of_decide_eq_true (by kernel_rfl)) k0 hg lt0) (trodAll_cons_mk (Below.trod laidOut (by kernel_rfl) (of_decide_eq_true (by kernel_rfl)) k1 hg lt1) (trodAll_cons_mk (Below.trod laidOut (by kernel_rfl) (of_decide_eq_true (by kernel_rfl)) k2 hg lt2) trodAll_mk0))), rfl, hg.frame _, fun h => by cases h⟩
theorem reads (os : Os) {H : Type} (enc : TypeId × Value → H) : ∃ places, DataW.whole enc Tryz.prog ((laidW os).forCall (fun _ _ => 0) ⟨#[], #[.agg #[.slice none 0 0, .slice none 0 0, .slice none 0 0], .slice none 0 0, .slice none 0 0], []⟩).memory Tryz.f7.params.toList Rows.printerApartSpec.vars false #[(.agg #[.slice none 0 0, .slice none 0 0, .slice none 0 0] : Value), (.slice none 0 0 : Value), (.slice none 0 0 : Value)].toList 8 = some ([.agg [.nil, .nil, .nil], .nil, .nil], [], places) :=
  ⟨[], by kernel_rfl⟩
set_option maxRecDepth 100000 in
theorem lifted (os : Os) (started : os.Started) (H : Type) (enc : TypeId × Value → H) (F : Stop.Interp) :
    ReturnsInHanded {} Tryz.checked os 7 .any ((OpenSpec.ofChange Rows.printerApartSpec).preRow enc Tryz.prog Tryz.f7 Rows.printerApartRow.domain false Rows.printerApartRow.laid) (((OpenSpec.ofChange Rows.printerApartSpec).at F).post enc Tryz.prog Tryz.f7 false true false false) := by
  obtain ⟨places, hx⟩ := reads os enc
  refine returnsInHanded_of_row (C := Tryz.checked) (s := OpenSpec.ofChange Rows.printerApartSpec) own started (by kernel_rfl) Tryz.func7
    (witness_row_atRef (enc := enc) (C := Tryz.checked) false (laidW os) #[.agg #[.slice none 0 0, .slice none 0 0, .slice none 0 0], .slice none 0 0, .slice none 0 0] (laidW_os os) (vars_ok os _) (heap_ok os _) (by kernel_rfl)
      (OpenSpec.preRow_of_cond 8 hx (by kernel_rfl) (fun k hk => by cases hk) (by kernel_rfl) (laid_met os _))) ?_
  intro W base args ds gs before hval hW _ _ _ hL hsh _
  exact contract H enc W base args ds gs before hval hW (env_of hL hsh)
theorem said : Rows.PrinterApartSaid :=
  OpenClaim.holds_of_cond 7 Tryz.f7 rfl rfl rfl rfl rfl rfl rfl ⟨rfl, rfl, rfl, rfl, rfl⟩ rfl rfl rfl rfl rfl (by kernel_rfl) Tryz.func7 (by kernel_rfl)
    (of_decide_eq_true (by kernel_rfl)) (by unfold Func.isWrapper; first | (rw [if_pos (by decide +kernel)]; kernel_rfl) | (rw [if_neg (by decide +kernel)]; exact ⟨rfl, rfl⟩))
    (fun os started H enc _ F => by rw [OpenClaim.pre_eq_preRow]; exact lifted os started H enc F)
theorem plain (f : FuncId) (fn : Func) (hf : Tryz.pinned.checked.prog.funcNamed "witting/wittinglaw07.PrinterApart" = some f) (hfn : Tryz.pinned.checked.prog.funcs[f]? = some fn) :
    false = Tryz.pinned.checked.prog.looks [] ∧ ∀ (j : Nat) t, fn.params[j]? = some t → Tryz.pinned.checked.prog.wantsStandIn t = false := by
  obtain rfl : f = 7 := Option.some.inj ((show Tryz.prog.funcNamed "witting/wittinglaw07.PrinterApart" = some 7 by kernel_rfl).symm.trans hf) |>.symm
  obtain rfl : fn = Tryz.f7 := (Option.some.inj (Tryz.func7.symm.trans hfn)).symm
  refine ⟨no_looks, fun j t ht => ?_⟩
  rw [Tryz.params7] at ht
  have hm : t ∈ [24, 25, 25] := by simpa using Array.mem_of_getElem? ht
  have hall : ([24, 25, 25].all fun u => !Tryz.prog.wantsStandIn u) = true := by kernel_rfl
  exact (show Tryz.prog.wantsStandIn t = false by simpa using List.all_eq_true.1 hall t hm)
theorem card : Rows.PrinterApartCardSaid :=
  Claim7.holds_tied_plain_at .later [] _ _ _ _ said (fun _ h => by cases h) (by kernel_rfl) (fun _ h => by cases h) printerApart_row_tie rfl ⟨rfl, rfl⟩ (by kernel_rfl) rfl plain (by kernel_rfl)
#print axioms card
end Go.Proofs.YtenbhalnpiahaaaGreatDoor.printerApart
