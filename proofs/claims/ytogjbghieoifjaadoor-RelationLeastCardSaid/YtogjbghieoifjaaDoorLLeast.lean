/- RelationLeast (P2.3, P2.6): a closure contains the relation and has the property, and any relation that contains the relation and has the property contains it, for all lists of words. Condition: the listed package variables hold what the program's text lays in them. -/
import Derived.Test.YtogjbghieoifjaaDoorLc
namespace Go.Proofs.YtogjbghieoifjaaDoor.relationLeast
open Go.ChangeShapes Go.WideShapes Go.ChangeAt Go.RowKit Go.Proofs.YtogjbghieoifjaaDoor Go.Proofs.Ws
set_option maxRecDepth 100000 in
set_option maxHeartbeats 3200000 in
theorem walk_big1 (A As : Option Addr) (m ms c cs : Nat) (w : World) (h1 : 64 < m) (hT : Tab w) :
    Calls Tryd.prog 9 #[.slice A m c, .slice As ms cs] w fun e w' => e = .returned (.bool true) ∧ Below w.heap.size w w' := by
  have HB : Hid (Below w.heap.size w w) := Lib.hid (Below.refl _ w)
  have HT := Lib.hid hT
  clear hT
  go_enter Tryd.func9, Tryd.ntmps9
  have HX := Lib.hid (awake_any w HT.out)
  go_wp2_with fail
  refine (HX.out).mono ?_
  rintro e w1 ⟨rfl, hb⟩
  clear HX
  replace HB := Lib.hid (HB.out.trans (hb.mono HB.out.size))
  replace HT := Lib.hid (HT.out.below hb)
  clear hb
  go_wp2
  go_ret
  exact ⟨rfl, HB.out⟩
set_option maxRecDepth 100000 in
set_option maxHeartbeats 3200000 in
theorem walk_big2 (A As : Option Addr) (m ms c cs : Nat) (w : World) (h1 : m ≤ 64) (h2 : 64 < ms) (hT : Tab w) :
    Calls Tryd.prog 9 #[.slice A m c, .slice As ms cs] w fun e w' => e = .returned (.bool true) ∧ Below w.heap.size w w' := by
  have HB : Hid (Below w.heap.size w w) := Lib.hid (Below.refl _ w)
  have HT := Lib.hid hT
  clear hT
  go_enter Tryd.func9, Tryd.ntmps9
  have HX := Lib.hid (awake_any w HT.out)
  go_wp2_with fail
  refine (HX.out).mono ?_
  rintro e w1 ⟨rfl, hb⟩
  clear HX
  replace HB := Lib.hid (HB.out.trans (hb.mono HB.out.size))
  replace HT := Lib.hid (HT.out.below hb)
  clear hb
  go_wp2
  go_ret
  exact ⟨rfl, HB.out⟩
set_option maxRecDepth 100000 in
set_option maxHeartbeats 3200000 in
theorem walk_big3 (l s : List Nat) (A As : Option Addr) (m ms c cs : Nat) (w : World) (hR : Reads w w.heap.size 1 A m (us l)) (hS : Reads w w.heap.size 1 As ms (us s)) (hw : Words l) (hw2 : Words s) (h1 : m ≤ 64) (h2 : ms ≤ 64) (h0 : relErr m l ≠ 0) (hT : Tab w) :
    Calls Tryd.prog 9 #[.slice A m c, .slice As ms cs] w fun e w' => e = .returned (.bool true) ∧ Below w.heap.size w w' := by
  have HR := Lib.hid hR
  have HS := Lib.hid hS
  have HW := Lib.hid hw
  have HW2 := Lib.hid hw2
  clear hR hS hw hw2
  have hne : (relErr m l != 0) = true := by simp [h0]
  clear h0
  have HB : Hid (Below w.heap.size w w) := Lib.hid (Below.refl _ w)
  have HT := Lib.hid hT
  clear hT
  go_enter Tryd.func9, Tryd.ntmps9
  have HX := Lib.hid (toB_same (check_any (m : Nat) l A m c _ w HR.out HW.out (by unfold maxLen; omega)))
  go_wp2_with fail
  refine (HX.out).mono ?_
  rintro e w1 ⟨rfl, hb⟩
  clear HX
  replace HR := Lib.hid (HR.out.step hb)
  replace HS := Lib.hid (HS.out.step hb)
  replace HB := Lib.hid (HB.out.trans (hb.mono HB.out.size))
  replace HT := Lib.hid (HT.out.below hb)
  clear hb
  have HX := Lib.hid (awake_any w1 HT.out)
  go_wp2_with fail
  refine (HX.out).mono ?_
  rintro e w2 ⟨rfl, hb⟩
  clear HX
  replace HR := Lib.hid (HR.out.step hb)
  replace HS := Lib.hid (HS.out.step hb)
  replace HB := Lib.hid (HB.out.trans (hb.mono HB.out.size))
  replace HT := Lib.hid (HT.out.below hb)
  clear hb
  go_wp2
  go_ret
  exact ⟨rfl, HB.out⟩
set_option maxRecDepth 100000 in
set_option maxHeartbeats 3200000 in
theorem walk_big4 (l s : List Nat) (A As : Option Addr) (m ms c cs : Nat) (w : World) (hR : Reads w w.heap.size 1 A m (us l)) (hS : Reads w w.heap.size 1 As ms (us s)) (hw : Words l) (hw2 : Words s) (h1 : m ≤ 64) (h2 : ms ≤ 64) (h0 : relErr m l = 0) (h0' : relErr ms s ≠ 0) (hT : Tab w) :
    Calls Tryd.prog 9 #[.slice A m c, .slice As ms cs] w fun e w' => e = .returned (.bool true) ∧ Below w.heap.size w w' := by
  have HR := Lib.hid hR
  have HS := Lib.hid hS
  have HW := Lib.hid hw
  have HW2 := Lib.hid hw2
  clear hR hS hw hw2
  have hne : (relErr ms s != 0) = true := by simp [h0']
  clear h0'
  have HB : Hid (Below w.heap.size w w) := Lib.hid (Below.refl _ w)
  have HT := Lib.hid hT
  clear hT
  go_enter Tryd.func9, Tryd.ntmps9
  have HX := Lib.hid (toB_same (check_any (m : Nat) l A m c _ w HR.out HW.out (by unfold maxLen; omega)))
  go_wp2_with fail
  refine (HX.out).mono ?_
  rintro e w1 ⟨rfl, hb⟩
  clear HX
  replace HR := Lib.hid (HR.out.step hb)
  replace HS := Lib.hid (HS.out.step hb)
  replace HB := Lib.hid (HB.out.trans (hb.mono HB.out.size))
  replace HT := Lib.hid (HT.out.below hb)
  clear hb
  have HX := Lib.hid (toB_same (check_any (ms : Nat) s As ms cs _ w1 HS.out HW2.out (by unfold maxLen; omega)))
  go_wp2_with fail
  refine (HX.out).mono ?_
  rintro e w2 ⟨rfl, hb⟩
  clear HX
  replace HR := Lib.hid (HR.out.step hb)
  replace HS := Lib.hid (HS.out.step hb)
  replace HB := Lib.hid (HB.out.trans (hb.mono HB.out.size))
  replace HT := Lib.hid (HT.out.below hb)
  clear hb
  have HX := Lib.hid (awake_any w2 HT.out)
  go_wp2_with fail
  refine (HX.out).mono ?_
  rintro e w3 ⟨rfl, hb⟩
  clear HX
  replace HR := Lib.hid (HR.out.step hb)
  replace HS := Lib.hid (HS.out.step hb)
  replace HB := Lib.hid (HB.out.trans (hb.mono HB.out.size))
  replace HT := Lib.hid (HT.out.below hb)
  clear hb
  go_wp2
  go_ret
  exact ⟨rfl, HB.out⟩
set_option maxRecDepth 100000 in
set_option maxHeartbeats 6400000 in
theorem walk_small (l s : List Nat) (A As : Option Addr) (m ms c cs : Nat) (w : World) (hR : Reads w w.heap.size 1 A m (us l)) (hS : Reads w w.heap.size 1 As ms (us s)) (hw : Words l) (hw2 : Words s) (h1 : m ≤ 64) (h2 : ms ≤ 64) (h0 : relErr m l = 0) (h0' : relErr ms s = 0) (hT : Tab w) :
    Calls Tryd.prog 9 #[.slice A m c, .slice As ms cs] w fun e w' => e = .returned (.bool true) ∧ Below w.heap.size w w' := by
  have HL : Hid (Sh m l) := Lib.hid (rel_sh h0 hR.word_len)
  have HLS : Hid (Sh ms s) := Lib.hid (rel_sh h0' hS.word_len)
  have HR := Lib.hid hR
  have HS := Lib.hid hS
  have HW := Lib.hid hw
  have HW2 := Lib.hid hw2
  clear hR hS hw hw2
  have HB : Hid (Below w.heap.size w w) := Lib.hid (Below.refl _ w)
  have HT := Lib.hid hT
  clear hT
  go_enter Tryd.func9, Tryd.ntmps9
  have HX := Lib.hid (toB_same (check_any (m : Nat) l A m c _ w HR.out HW.out (by unfold maxLen; omega)))
  go_wp2_with fail
  refine (HX.out).mono ?_
  rintro e w1 ⟨rfl, hb⟩
  clear HX
  replace HR := Lib.hid (HR.out.step hb)
  replace HS := Lib.hid (HS.out.step hb)
  replace HB := Lib.hid (HB.out.trans (hb.mono HB.out.size))
  replace HT := Lib.hid (HT.out.below hb)
  clear hb
  have HX := Lib.hid (toB_same (check_any (ms : Nat) s As ms cs _ w1 HS.out HW2.out (by unfold maxLen; omega)))
  go_wp2_with fail
  refine (HX.out).mono ?_
  rintro e w2 ⟨rfl, hb⟩
  clear HX
  replace HR := Lib.hid (HR.out.step hb)
  replace HS := Lib.hid (HS.out.step hb)
  replace HB := Lib.hid (HB.out.trans (hb.mono HB.out.size))
  replace HT := Lib.hid (HT.out.below hb)
  clear hb
  go_wp2
  go_loopw [5] (fun i wr => ∃ k : Nat, k ≤ 4 ∧ i = .int .i64 k ∧ Hid (Reads wr wr.heap.size 1 A m (us l) ∧ Reads wr wr.heap.size 1 As ms (us s) ∧ Below w.heap.size w wr ∧ Tab wr)) (fun i _ => 4 - (intOf i).toNat)
  case atStart => exact ⟨0, by omega, rfl, Lib.hid ⟨HR.out, HS.out, HB.out, HT.out⟩⟩
  case round =>
    clear HR HS HB HT
    obtain ⟨k, hk, rfl, HI⟩ := hrel
    have HR := Lib.hid HI.out.1
    have HS := Lib.hid HI.out.2.1
    have HB := Lib.hid HI.out.2.2.1
    have HT := Lib.hid HI.out.2.2.2
    clear HI
    by_cases hlt : k < 4
    · have HX := Lib.hid (k_closure k hlt l A m c wr HR.out h1 HL.out HT.out)
      go_wp2_with fail
      refine (HX.out).mono ?_
      rintro e w21 ⟨L, hL, A1, c1, rfl, hr1, hb⟩
      clear HX
      replace HR := Lib.hid (HR.out.step hb)
      replace HS := Lib.hid (HS.out.step hb)
      replace HB := Lib.hid (HB.out.trans (hb.mono HB.out.size))
      replace HT := Lib.hid (HT.out.below hb)
      have H1 := Lib.hid hr1
      clear hr1
      have HLL := Lib.hid hL
      clear hL
      clear hb
      have HX := Lib.hid (inside_any l L A A1 m m c c1 w21 HR.out H1.out HW.out (sh_words h1 HLL.out.sh) h1)
      go_wp2_with fail
      refine (HX.out).mono ?_
      rintro e w22 ⟨b1, rfl, hb1, hb⟩
      clear HX
      replace HR := Lib.hid (HR.out.step hb)
      replace HS := Lib.hid (HS.out.step hb)
      replace H1 := Lib.hid (H1.out.step hb)
      replace HB := Lib.hid (HB.out.trans (hb.mono HB.out.size))
      replace HT := Lib.hid (HT.out.below hb)
      clear hb
      obtain rfl : b1 = true := hb1.2 ⟨by first | rfl | trivial, HLL.out.up⟩
      clear hb1
      have HX := Lib.hid (k_has k L A1 m c1 w22 H1.out h1 HLL.out.sh HT.out)
      go_wp2_with fail
      refine (HX.out).mono ?_
      rintro e w23 ⟨b1, rfl, hb1, hb⟩
      clear HX
      replace HR := Lib.hid (HR.out.step hb)
      replace HS := Lib.hid (HS.out.step hb)
      replace H1 := Lib.hid (H1.out.step hb)
      replace HB := Lib.hid (HB.out.trans (hb.mono HB.out.size))
      replace HT := Lib.hid (HT.out.below hb)
      clear hb
      obtain rfl : b1 = true := hb1.2 HLL.out.has
      clear hb1
      have HX := Lib.hid (k_closure k hlt s As ms cs w23 HS.out h2 HLS.out HT.out)
      go_wp2_with fail
      refine (HX.out).mono ?_
      rintro e w24 ⟨M, hM, A2, c2, rfl, hr2, hb⟩
      clear HX
      replace HR := Lib.hid (HR.out.step hb)
      replace HS := Lib.hid (HS.out.step hb)
      replace H1 := Lib.hid (H1.out.step hb)
      replace HB := Lib.hid (HB.out.trans (hb.mono HB.out.size))
      replace HT := Lib.hid (HT.out.below hb)
      have H2 := Lib.hid hr2
      clear hr2
      have HMM := Lib.hid hM
      clear hM
      clear hb
      have HX := Lib.hid (inside_any l M A A2 m ms c c2 w24 HR.out H2.out HW.out (sh_words h2 HMM.out.sh) h1)
      go_wp2_with fail
      refine (HX.out).mono ?_
      rintro e w25 ⟨b3, rfl, hb3, hb⟩
      clear HX
      replace HR := Lib.hid (HR.out.step hb)
      replace HS := Lib.hid (HS.out.step hb)
      replace H1 := Lib.hid (H1.out.step hb)
      replace H2 := Lib.hid (H2.out.step hb)
      replace HB := Lib.hid (HB.out.trans (hb.mono HB.out.size))
      replace HT := Lib.hid (HT.out.below hb)
      have HB3 := Lib.hid hb3
      clear hb3
      clear hb
      cases b3
      · have HX := Lib.hid (inside_any l s A As m ms c cs w25 HR.out HS.out HW.out HW2.out h1)
        go_wp2_with fail
        refine (HX.out).mono ?_
        rintro e w26 ⟨b5, rfl, hb5, hb⟩
        clear HX
        replace HR := Lib.hid (HR.out.step hb)
        replace HS := Lib.hid (HS.out.step hb)
        replace H1 := Lib.hid (H1.out.step hb)
        replace H2 := Lib.hid (H2.out.step hb)
        replace HB := Lib.hid (HB.out.trans (hb.mono HB.out.size))
        replace HT := Lib.hid (HT.out.below hb)
        have HB5 := Lib.hid hb5
        clear hb5
        clear hb
        cases b5
        · go_wp2
          go_roundw
          case rel => exact ⟨k + 1, by omega, by go_num, Lib.hid ⟨HR.out, HS.out, HB.out, HT.out⟩⟩
          case measure => simp [intOf]; omega
        · have HX := Lib.hid (k_has k s As ms cs w26 HS.out h2 HLS.out HT.out)
          go_wp2_with fail
          refine (HX.out).mono ?_
          rintro e w27 ⟨b6, rfl, hb6, hb⟩
          clear HX
          replace HR := Lib.hid (HR.out.step hb)
          replace HS := Lib.hid (HS.out.step hb)
          replace H1 := Lib.hid (H1.out.step hb)
          replace H2 := Lib.hid (H2.out.step hb)
          replace HB := Lib.hid (HB.out.trans (hb.mono HB.out.size))
          replace HT := Lib.hid (HT.out.below hb)
          have HB6 := Lib.hid hb6
          clear hb6
          clear hb
          cases b6
          · go_wp2
            go_roundw
            case rel => exact ⟨k + 1, by omega, by go_num, Lib.hid ⟨HR.out, HS.out, HB.out, HT.out⟩⟩
            case measure => simp [intOf]; omega
          · have HX := Lib.hid (inside_any L s A1 As m ms c1 cs w27 H1.out HS.out (sh_words h1 HLL.out.sh) HW2.out h1)
            go_wp2_with fail
            refine (HX.out).mono ?_
            rintro e w28 ⟨b7, rfl, hb7, hb⟩
            clear HX
            replace HR := Lib.hid (HR.out.step hb)
            replace HS := Lib.hid (HS.out.step hb)
            replace H1 := Lib.hid (H1.out.step hb)
            replace H2 := Lib.hid (H2.out.step hb)
            replace HB := Lib.hid (HB.out.trans (hb.mono HB.out.size))
            replace HT := Lib.hid (HT.out.below hb)
            clear hb
            obtain rfl : b7 = true := hb7.2 ⟨(HB5.out.1 (by first | rfl | trivial)).1, HLL.out.least s (by rw [(HB5.out.1 (by first | rfl | trivial)).1]; exact HLS.out) (by rw [(HB5.out.1 (by first | rfl | trivial)).1]; exact HB6.out.1 (by first | rfl | trivial)) (HB5.out.1 (by first | rfl | trivial)).2⟩
            clear hb7
            go_wp2
            go_roundw
            case rel => exact ⟨k + 1, by omega, by go_num, Lib.hid ⟨HR.out, HS.out, HB.out, HT.out⟩⟩
            case measure => simp [intOf]; omega
      · have HX := Lib.hid (inside_any L M A1 A2 m ms c1 c2 w25 H1.out H2.out (sh_words h1 HLL.out.sh) (sh_words h2 HMM.out.sh) h1)
        go_wp2_with fail
        refine (HX.out).mono ?_
        rintro e w26 ⟨b4, rfl, hb4, hb⟩
        clear HX
        replace HR := Lib.hid (HR.out.step hb)
        replace HS := Lib.hid (HS.out.step hb)
        replace H1 := Lib.hid (H1.out.step hb)
        replace H2 := Lib.hid (H2.out.step hb)
        replace HB := Lib.hid (HB.out.trans (hb.mono HB.out.size))
        replace HT := Lib.hid (HT.out.below hb)
        clear hb
        obtain rfl : b4 = true := hb4.2 ⟨(HB3.out.1 (by first | rfl | trivial)).1, HLL.out.least M (by rw [(HB3.out.1 (by first | rfl | trivial)).1]; exact HMM.out.sh) (by rw [(HB3.out.1 (by first | rfl | trivial)).1]; exact HMM.out.has) (HB3.out.1 (by first | rfl | trivial)).2⟩
        clear hb4
        have HX := Lib.hid (inside_any l s A As m ms c cs w26 HR.out HS.out HW.out HW2.out h1)
        go_wp2_with fail
        refine (HX.out).mono ?_
        rintro e w27 ⟨b5, rfl, hb5, hb⟩
        clear HX
        replace HR := Lib.hid (HR.out.step hb)
        replace HS := Lib.hid (HS.out.step hb)
        replace H1 := Lib.hid (H1.out.step hb)
        replace H2 := Lib.hid (H2.out.step hb)
        replace HB := Lib.hid (HB.out.trans (hb.mono HB.out.size))
        replace HT := Lib.hid (HT.out.below hb)
        have HB5 := Lib.hid hb5
        clear hb5
        clear hb
        cases b5
        · go_wp2
          go_roundw
          case rel => exact ⟨k + 1, by omega, by go_num, Lib.hid ⟨HR.out, HS.out, HB.out, HT.out⟩⟩
          case measure => simp [intOf]; omega
        · have HX := Lib.hid (k_has k s As ms cs w27 HS.out h2 HLS.out HT.out)
          go_wp2_with fail
          refine (HX.out).mono ?_
          rintro e w28 ⟨b6, rfl, hb6, hb⟩
          clear HX
          replace HR := Lib.hid (HR.out.step hb)
          replace HS := Lib.hid (HS.out.step hb)
          replace H1 := Lib.hid (H1.out.step hb)
          replace H2 := Lib.hid (H2.out.step hb)
          replace HB := Lib.hid (HB.out.trans (hb.mono HB.out.size))
          replace HT := Lib.hid (HT.out.below hb)
          have HB6 := Lib.hid hb6
          clear hb6
          clear hb
          cases b6
          · go_wp2
            go_roundw
            case rel => exact ⟨k + 1, by omega, by go_num, Lib.hid ⟨HR.out, HS.out, HB.out, HT.out⟩⟩
            case measure => simp [intOf]; omega
          · have HX := Lib.hid (inside_any L s A1 As m ms c1 cs w28 H1.out HS.out (sh_words h1 HLL.out.sh) HW2.out h1)
            go_wp2_with fail
            refine (HX.out).mono ?_
            rintro e w29 ⟨b7, rfl, hb7, hb⟩
            clear HX
            replace HR := Lib.hid (HR.out.step hb)
            replace HS := Lib.hid (HS.out.step hb)
            replace H1 := Lib.hid (H1.out.step hb)
            replace H2 := Lib.hid (H2.out.step hb)
            replace HB := Lib.hid (HB.out.trans (hb.mono HB.out.size))
            replace HT := Lib.hid (HT.out.below hb)
            clear hb
            obtain rfl : b7 = true := hb7.2 ⟨(HB5.out.1 (by first | rfl | trivial)).1, HLL.out.least s (by rw [(HB5.out.1 (by first | rfl | trivial)).1]; exact HLS.out) (by rw [(HB5.out.1 (by first | rfl | trivial)).1]; exact HB6.out.1 (by first | rfl | trivial)) (HB5.out.1 (by first | rfl | trivial)).2⟩
            clear hb7
            go_wp2
            go_roundw
            case rel => exact ⟨k + 1, by omega, by go_num, Lib.hid ⟨HR.out, HS.out, HB.out, HT.out⟩⟩
            case measure => simp [intOf]; omega
    · have HX := Lib.hid (awake_any wr HT.out)
      go_wp2_with fail
      refine (HX.out).mono ?_
      rintro e w61 ⟨rfl, hb⟩
      clear HX
      replace HR := Lib.hid (HR.out.step hb)
      replace HS := Lib.hid (HS.out.step hb)
      replace HB := Lib.hid (HB.out.trans (hb.mono HB.out.size))
      replace HT := Lib.hid (HT.out.below hb)
      clear hb
      go_wp2
      go_ret
      exact ⟨rfl, HB.out⟩
set_option maxRecDepth 100000 in
theorem contract (H : Type) (enc : TypeId × Value → H) (W : World) (base : Nat) (args : Array Value) (ds gs : List (DataW H)) (before : List MemPlace)
    (hval : ∀ (j : Nat) t v, Tryd.f9.params[j]? = some t → args[j]? = some v → Value.okWide Tryd.prog W .any base t v)
    (hW : DataW.Whole enc Tryd.prog Tryd.f9.params.toList Rows.relationLeastSpec.vars false W args.toList ds gs before) (hE : Tab W) :
    Calls Tryd.prog 9 args W fun e W' => ∃ v, e = .returned v ∧ Rows.relationLeastSpec.post enc Tryd.prog Tryd.f9 false true false false W args v W' := by
  have hW' := hW
  obtain ⟨p, q, hA0, hV, rfl, hfz, hnd⟩ := hW
  have hA : DataW.TrodAll enc Tryd.prog W 0 (fun _ => true) true Tryd.f9.params.toList args.toList ds p := hA0
  rw [Tryd.params9] at hA hval
  obtain ⟨v0, vs0, d0, ds0, p0, q0, hargs, rfl, rfl, h0, r0⟩ := trodAll_cons hA
  obtain ⟨v1, vs1, d1, ds1, p1, q1, rfl, rfl, rfl, h1, r1⟩ := trodAll_cons r0
  obtain ⟨rfl, rfl, rfl⟩ := trodAll_nil r1
  obtain rfl : args = #[v0, v1] := by cases args; simp_all
  obtain ⟨rfl, rfl⟩ := trodVars_none hV
  obtain ⟨A0, n0, c0, rfl⟩ := okWide_slice Tryd.underlying22 (hval 0 22 v0 rfl rfl)
  have k0 := h0
  have lt0 : ∀ x ∈ p0, x.block < W.heap.size := by obtain ⟨m, hm⟩ := k0; exact DataW.trod_lt m _ _ _ hm
  obtain ⟨z0, w0⟩ : ∃ zs, IsRow .u64 W A0 n0 c0 zs := by
    obtain ⟨fuel, hf⟩ := h0
    rcases open_ints Tryd.underlying22 Tryd.underlying34 (by kernel_rfl) hf with ⟨hcs, _⟩ | ⟨x, l, c, zs, hcs, _, hl, hm, hz, _, hcell, hwz⟩
    · simp [Value.cells] at hcs
      obtain ⟨rfl, rfl, rfl⟩ := hcs
      exact ⟨[], .inl ⟨rfl, rfl, rfl, rfl⟩⟩
    · simp [Value.cells] at hcs
      obtain ⟨rfl, rfl, rfl⟩ := hcs
      exact ⟨zs, .inr ⟨_, rfl, hl, hm, by simpa using hz, hcell, hwz⟩⟩
  obtain ⟨A1, n1, c1, rfl⟩ := okWide_slice Tryd.underlying22 (hval 1 22 v1 rfl rfl)
  have k1 := h1
  have lt1 : ∀ x ∈ p1, x.block < W.heap.size := by obtain ⟨m, hm⟩ := k1; exact DataW.trod_lt m _ _ _ hm
  obtain ⟨z1, w1⟩ : ∃ zs, IsRow .u64 W A1 n1 c1 zs := by
    obtain ⟨fuel, hf⟩ := h1
    rcases open_ints Tryd.underlying22 Tryd.underlying34 (by kernel_rfl) hf with ⟨hcs, _⟩ | ⟨x, l, c, zs, hcs, _, hl, hm, hz, _, hcell, hwz⟩
    · simp [Value.cells] at hcs
      obtain ⟨rfl, rfl, rfl⟩ := hcs
      exact ⟨[], .inl ⟨rfl, rfl, rfl, rfl⟩⟩
    · simp [Value.cells] at hcs
      obtain ⟨rfl, rfl, rfl⟩ := hcs
      exact ⟨zs, .inr ⟨_, rfl, hl, hm, by simpa using hz, hcell, hwz⟩⟩
  clear hA0
  obtain ⟨l0, hR0, hw0, hm0, hN0⟩ := w0.words
  obtain ⟨l1, hR1, hw1, hm1, hN1⟩ := w1.words
  have hwalk : Calls Tryd.prog 9 #[.slice A0 n0 c0, .slice A1 n1 c1] W fun e w' => e = .returned (.bool true) ∧ Below W.heap.size W w' := by
    by_cases h1 : n0 ≤ 64
    · by_cases h2 : n1 ≤ 64
      · by_cases h4 : relErr n0 l0 = 0
        · by_cases h5 : relErr n1 l1 = 0
          · exact walk_small l0 l1 A0 A1 n0 n1 c0 c1 W hR0 hR1 hw0 hw1 h1 h2 h4 h5 hE
          · exact walk_big4 l0 l1 A0 A1 n0 n1 c0 c1 W hR0 hR1 hw0 hw1 h1 h2 h4 h5 hE
        · exact walk_big3 l0 l1 A0 A1 n0 n1 c0 c1 W hR0 hR1 hw0 hw1 h1 h2 h4 hE
      · exact walk_big2 A0 A1 n0 n1 c0 c1 W h1 (by omega) hE
    · exact walk_big1 A0 A1 n0 n1 c0 c1 W (by omega) hE
  refine hwalk.mono fun e W' ⟨he, hg⟩ => ?_
  subst he
  exact ⟨_, rfl, _, _, _, [], _, [], hW', trodAll_mk1 (shut_bool Tryd.underlying4 _), (trodAll_cons_mk (Below.trod laidOut (by kernel_rfl) (of_decide_eq_true (by kernel_rfl)) k0 hg lt0) (trodAll_cons_mk (Below.trod laidOut (by kernel_rfl) (of_decide_eq_true (by kernel_rfl)) k1 hg lt1) trodAll_mk0)), rfl, hg.frame _, fun h => by cases h⟩
theorem reads (os : Os) {H : Type} (enc : TypeId × Value → H) : ∃ places, DataW.whole enc Tryd.prog ((laidW os).forCall (fun _ _ => 0) ⟨#[], #[.slice none 0 0, .slice none 0 0], []⟩).memory Tryd.f9.params.toList Rows.relationLeastSpec.vars false #[Value.slice none 0 0, Value.slice none 0 0].toList 8 = some ([.nil, .nil], [], places) :=
  ⟨[], by kernel_rfl⟩
set_option maxRecDepth 100000 in
theorem lifted (os : Os) (started : os.Started) (H : Type) (enc : TypeId × Value → H) (F : Stop.Interp) :
    ReturnsInHanded {} Tryd.checked os 9 .any ((OpenSpec.ofChange Rows.relationLeastSpec).preRow enc Tryd.prog Tryd.f9 Rows.relationLeastRow.domain false Rows.relationLeastRow.laid) (((OpenSpec.ofChange Rows.relationLeastSpec).at F).post enc Tryd.prog Tryd.f9 false true false false) := by
  obtain ⟨places, hx⟩ := reads os enc
  refine returnsInHanded_of_row (C := Tryd.checked) (s := OpenSpec.ofChange Rows.relationLeastSpec) own started (by kernel_rfl) Tryd.func9
    (witness_row_at (enc := enc) (C := Tryd.checked) false (laidW os) #[.slice none 0 0, .slice none 0 0] (laidW_os os) (vars_ok os _) (heap_ok os _) (by kernel_rfl)
      (OpenSpec.preRow_of_cond 8 hx (by kernel_rfl) (fun k hk => by cases hk) (by kernel_rfl) (laid_met os _))) ?_
  intro W base args ds gs before hval hW _ _ _ hL hsh _
  exact contract H enc W base args ds gs before hval hW (env_of hL)
theorem said : Rows.RelationLeastSaid :=
  OpenClaim.holds_of_cond 9 Tryd.f9 rfl rfl rfl rfl rfl rfl rfl ⟨rfl, rfl, rfl, rfl, rfl⟩ rfl rfl rfl rfl rfl (by kernel_rfl) Tryd.func9 (by kernel_rfl)
    (of_decide_eq_true (by kernel_rfl)) (by unfold Func.isWrapper; first | (rw [if_pos (by decide +kernel)]; kernel_rfl) | (rw [if_neg (by decide +kernel)]; exact ⟨rfl, rfl⟩))
    (fun os started H enc _ F => by rw [OpenClaim.pre_eq_preRow]; exact lifted os started H enc F)
theorem plain (f : FuncId) (fn : Func) (hf : Tryd.pinned.checked.prog.funcNamed "witting/wittinglaw02.RelationLeast" = some f) (hfn : Tryd.pinned.checked.prog.funcs[f]? = some fn) :
    false = Tryd.pinned.checked.prog.looks [] ∧ ∀ (j : Nat) t, fn.params[j]? = some t → Tryd.pinned.checked.prog.wantsStandIn t = false := by
  obtain rfl : f = 9 := Option.some.inj ((show Tryd.prog.funcNamed "witting/wittinglaw02.RelationLeast" = some 9 by kernel_rfl).symm.trans hf) |>.symm
  obtain rfl : fn = Tryd.f9 := (Option.some.inj (Tryd.func9.symm.trans hfn)).symm
  refine ⟨no_looks, fun j t ht => ?_⟩
  rw [Tryd.params9] at ht
  have hm : t ∈ [22, 22] := by simpa using Array.mem_of_getElem? ht
  have hall : ([22, 22].all fun u => !Tryd.prog.wantsStandIn u) = true := by kernel_rfl
  exact (show Tryd.prog.wantsStandIn t = false by simpa using List.all_eq_true.1 hall t hm)
theorem card : Rows.RelationLeastCardSaid :=
  Claim7.holds_tied_plain_at .later [] _ _ _ _ said (fun _ h => by cases h) (by kernel_rfl) (fun _ h => by cases h) relationLeast_row_tie rfl ⟨rfl, rfl⟩ (by kernel_rfl) rfl plain (by kernel_rfl)
#print axioms card
end Go.Proofs.YtogjbghieoifjaaDoor.relationLeast
