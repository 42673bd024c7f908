/- PrinterTexts (P7.3): the text of a formula that was read is read as the same formula, and printing it again gives the same text (600 bytes). Conditions: the package variables that the row lists hold what the program's text lays in them. -/
import Derived.Test.YtenbhalnpiahaaaGreatDoorJk
import Derived.Test.YtenbhalnpiahaaaGreatDoorJy
import Derived.Test.YtenbhalnpiahaaaGreatDoorPf
namespace Go.Proofs.YtenbhalnpiahaaaGreatDoor.printerTexts
open Go.ChangeShapes Go.WideShapes Go.ChangeAt Go.RowKit Go.Proofs.YtenbhalnpiahaaaGreatDoor Go.Proofs.YtenbhalnpiahaaaGreatDoor.prn Go.Proofs.Ws Go.Maps
open Go.ChangeMaps (open_string shut_string)

set_option maxRecDepth 100000 in
set_option maxHeartbeats 8000000 in
theorem walk (a0 : Option Addr) (n0 c0 : Nat) (a1 : Option Addr) (n1 c1 : Nat) (a2 : Option Addr) (n2 c2 : Nat) (A F X : List ByteArray) (t : ByteArray) (w : World) (s0 : SL0 w a0 n0 c0 A) (s1 : SL0 w a1 n1 c1 F) (s2 : SL0 w a2 n2 c2 X) (ht : t.size ≤ maxLen) (hE : EnvP w) :
    Calls Tryz.prog 6 #[.agg #[.slice a0 n0 c0, .slice a1 n1 c1, .slice a2 n2 c2], .string t] w fun e w' => e = .returned (.bool true) ∧ Below w.heap.size w w' := by
  have HX := Lib.hid (@boxed w a0 a1 a2 n0 c0 n1 c1 n2 c2 24)
  have HG : Hid (∀ W, Below (w.heap.size + 1) (w.alloc (.cells #[.slice a0 n0 c0, .slice a1 n1 c1, .slice a2 n2 c2] 24)) W → EnvP W ∧ Below w.heap.size w W ∧ w.heap.size + 1 ≤ W.heap.size ∧ (fewS n0 n1 n2 = true → SigR W W.heap.size (.agg #[.slice a0 n0 c0, .slice a1 n1 c1, .slice a2 n2 c2]) A F X)) := Lib.hid (fun W hW => by
    have h1 : Below w.heap.size w W := ((Below.refl _ w).alloc (Nat.le_refl _) _).trans (hW.mono (by omega))
    have q : ∀ {a : Option Addr} {n c : Nat} {l : List ByteArray}, SL0 w a n c l → n ≤ 20 → SL W W.heap.size a n c l := fun h hn => ((h.small hn).below h1).more h1.size
    refine ⟨hE.below h1, h1, by have := hW.size; simpa using this, fun hf => ?_⟩
    unfold fewS at hf
    simp only [Bool.and_eq_true, decide_eq_true_eq] at hf
    exact ⟨_, _, _, _, _, _, _, _, _, rfl, q s0 (by omega), q s1 (by omega), q s2 (by omega)⟩)
  have HB0 := Lib.hid (Below.refl (w.heap.size + 1) (w.alloc (.cells #[.slice a0 n0 c0, .slice a1 n1 c1, .slice a2 n2 c2] 24)))
  have HFW := Lib.hid (fun W => pFew_any a0 a1 a2 n0 c0 n1 c1 n2 c2 W s0.2.2.1 s1.2.2.1 s2.2.2.1)
  unfold sv at HFW
  have hfsd : fewS n0 n1 n2 = (decide (n0 ≤ 12) && decide (n1 ≤ 12) && decide (n2 ≤ 12)) := rfl
  rw [← hfsd] at HFW
  clear hE s0 s1 s2 hfsd
  by_cases h6 : t.size ≤ 600
  · have d1 : decide ((600 : Int) < (t.size : Int)) = false := decide_eq_false (by omega)
    have d2 : decide (600 < t.size) = false := decide_eq_false (by omega)
    cases hfs : fewS n0 n1 n2 with
    | true =>
      rw [hfs] at HFW
      have HPA := Lib.hid (fun t (ht : t.size ≤ maxLen) W (hW : Below (w.heap.size + 1) (w.alloc (.cells #[.slice a0 n0 c0, .slice a1 n1 c1, .slice a2 n2 c2] 24)) W) => kParse_own a0 n0 c0 a1 n1 c1 a2 n2 c2 A F X t W ((HG.out W hW).2.2.2 hfs) (HG.out W hW).1.1 ht)
      have HPT := Lib.hid (HPA.out t ht)
      have HP := Lib.hid (fun af nf cf W (hW : Below (w.heap.size + 1) (w.alloc (.cells #[.slice a0 n0 c0, .slice a1 n1 c1, .slice a2 n2 c2] 24)) W) hR hm => pPrint_any a0 n0 c0 a1 n1 c1 a2 n2 c2 A F X (parseV A F X t).nodes af nf cf W ((HG.out W hW).2.2.2 hfs) (HG.out W hW).1 hR hm)
      have HPR := Lib.hid (@print_read A F X t)
      have HPN := Lib.hid (@parse_named A F X t)
      have HPB := Lib.hid (@print_back A F X (parseV A F X t).nodes)
      have HSM := Lib.hid (fun A1 A2 c1 c2 W h1 h2 (hm : (parseV A F X t).nodes.length ≤ maxLen) => pSame_any (parseV A F X t).nodes (parseV A F X t).nodes A1 A2 (parseV A F X t).nodes.length (parseV A F X t).nodes.length c1 c2 W h1 h2 hm hm)
      have HSS : Hid (fErr (parseV A F X t).nodes = 0 → sameF (parseV A F X t).nodes (parseV A F X t).nodes = true) := Lib.hid (fun h => by unfold sameF; exact decide_eq_true ⟨h, h, rfl⟩)
      generalize hPV : parseV A F X t = PV at *
      obtain ⟨l, po, er⟩ := PV
      dsimp only at HPT HP HPR HPN HPB HSM HSS
      by_cases her : er = 0
      · subst her
        obtain ⟨_, hf0, _, _⟩ := HPN.out rfl
        have hll := (fErr_ok hf0).2.1
        have hpr := HPR.out rfl
        rw [HSS.out hf0] at HSM
        have hlm : l.length ≤ maxLen := by unfold maxLen; omega
        generalize hQ : printV A F X l = Q at *
        obtain ⟨s, z⟩ := Q
        dsimp only at HP hpr HPB
        by_cases h8 : z = 8
        · subst h8
          clear hpr HPB HSM HSS HPN HPR HPA hQ hPV hf0 h6 hfs
          go_enter Tryz.func6, Tryz.ntmps6
          obtain ⟨q0, q1, q2⟩ := HX.out _ HB0.out
          go_wp2_with fail
          refine (HFW.out _).mono ?_
          rintro e w1 ⟨rfl, hb⟩
          have HB1 : Hid (Below (w.heap.size + 1) (w.alloc (.cells #[.slice a0 n0 c0, .slice a1 n1 c1, .slice a2 n2 c2] 24)) w1) := Lib.hid (HB0.out.trans (hb.mono (HG.out _ HB0.out).2.2.1))
          clear hb HFW q0 q1 q2
          obtain ⟨q0, q1, q2⟩ := HX.out w1 HB1.out
          go_wp2_with fail
          refine (HPT.out _ HB1.out).mono ?_
          rintro e w2 ⟨A1, k1, rfl, hO, hb⟩
          have HB2 : Hid (Below (w.heap.size + 1) (w.alloc (.cells #[.slice a0 n0 c0, .slice a1 n1 c1, .slice a2 n2 c2] 24)) w2) := Lib.hid (HB1.out.trans (hb.mono (HG.out _ HB1.out).2.2.1))
          have HR2 := Lib.hid (Reads.of_own hO)
          clear hb hO HPT q0 q1 q2
          obtain ⟨q0, q1, q2⟩ := HX.out w2 HB2.out
          go_wp2_with fail
          refine (HP.out _ _ _ _ HB2.out HR2.out hlm).mono ?_
          rintro e w3 ⟨rfl, hb⟩
          have HB3 : Hid (Below (w.heap.size + 1) (w.alloc (.cells #[.slice a0 n0 c0, .slice a1 n1 c1, .slice a2 n2 c2] 24)) w3) := Lib.hid (HB2.out.trans (hb.mono (HG.out _ HB2.out).2.2.1))
          clear hb HP HR2 q0 q1 q2
          go_wp2_with fail
          refine (awakeP_any _ (HG.out _ HB3.out).1).mono ?_
          rintro e w4 ⟨rfl, hb⟩
          have HB4 : Hid (Below (w.heap.size + 1) (w.alloc (.cells #[.slice a0 n0 c0, .slice a1 n1 c1, .slice a2 n2 c2] 24)) w4) := Lib.hid (HB3.out.trans (hb.mono (HG.out _ HB3.out).2.2.1))
          clear hb
          go_wp2
          go_ret
          exact ⟨rfl, (HG.out _ HB4.out).2.1⟩
        · rcases hpr with hpr | ⟨hz0, hps⟩
          · exact absurd hpr h8
          · subst hz0
            have hs4 := (HPB.out rfl).2
            have HPS := Lib.hid (HPA.out s (by unfold maxLen; omega))
            rw [hps] at HPS
            have d3 : (s.toList == s.toList) = true := beq_self_eq_true _
            clear HPB HSS HPN HPR HPA hQ hPV hf0 h6 hfs hps h8
            dsimp only at HPS
            go_enter Tryz.func6, Tryz.ntmps6
            obtain ⟨q0, q1, q2⟩ := HX.out _ HB0.out
            go_wp2_with fail
            refine (HFW.out _).mono ?_
            rintro e w1 ⟨rfl, hb⟩
            have HB1 : Hid (Below (w.heap.size + 1) (w.alloc (.cells #[.slice a0 n0 c0, .slice a1 n1 c1, .slice a2 n2 c2] 24)) w1) := Lib.hid (HB0.out.trans (hb.mono (HG.out _ HB0.out).2.2.1))
            clear hb HFW q0 q1 q2
            obtain ⟨q0, q1, q2⟩ := HX.out w1 HB1.out
            go_wp2_with fail
            refine (HPT.out _ HB1.out).mono ?_
            rintro e w2 ⟨A1, k1, rfl, hO, hb⟩
            have HB2 : Hid (Below (w.heap.size + 1) (w.alloc (.cells #[.slice a0 n0 c0, .slice a1 n1 c1, .slice a2 n2 c2] 24)) w2) := Lib.hid (HB1.out.trans (hb.mono (HG.out _ HB1.out).2.2.1))
            have HR2 := Lib.hid (Reads.of_own hO)
            clear hb hO HPT q0 q1 q2
            obtain ⟨q0, q1, q2⟩ := HX.out w2 HB2.out
            go_wp2_with fail
            refine (HP.out _ _ _ _ HB2.out HR2.out hlm).mono ?_
            rintro e w3 ⟨rfl, hb⟩
            have HB3 : Hid (Below (w.heap.size + 1) (w.alloc (.cells #[.slice a0 n0 c0, .slice a1 n1 c1, .slice a2 n2 c2] 24)) w3) := Lib.hid (HB2.out.trans (hb.mono (HG.out _ HB2.out).2.2.1))
            have HR3 := Lib.hid ((HR2.out.below hb).more hb.size)
            clear hb HR2 q0 q1 q2
            obtain ⟨q0, q1, q2⟩ := HX.out w3 HB3.out
            go_wp2_with fail
            refine (HPS.out _ HB3.out).mono ?_
            rintro e w4 ⟨A2, k2, rfl, hO, hb⟩
            have HB4 : Hid (Below (w.heap.size + 1) (w.alloc (.cells #[.slice a0 n0 c0, .slice a1 n1 c1, .slice a2 n2 c2] 24)) w4) := Lib.hid (HB3.out.trans (hb.mono (HG.out _ HB3.out).2.2.1))
            have HR4 := Lib.hid ((HR3.out.below hb).more hb.size)
            have HT4 := Lib.hid (Reads.of_own hO)
            clear hb hO HPS HR3 q0 q1 q2
            obtain ⟨q0, q1, q2⟩ := HX.out w4 HB4.out
            go_wp2_with fail
            refine (HP.out _ _ _ _ HB4.out HT4.out hlm).mono ?_
            rintro e w5 ⟨rfl, hb⟩
            have HB5 : Hid (Below (w.heap.size + 1) (w.alloc (.cells #[.slice a0 n0 c0, .slice a1 n1 c1, .slice a2 n2 c2] 24)) w5) := Lib.hid (HB4.out.trans (hb.mono (HG.out _ HB4.out).2.2.1))
            have HR5 := Lib.hid ((HR4.out.below hb).more hb.size)
            have HT5 := Lib.hid ((HT4.out.below hb).more hb.size)
            clear hb HP HR4 HT4 q0 q1 q2
            go_wp2_with fail
            refine (HSM.out _ _ _ _ _ HR5.out HT5.out hlm).mono ?_
            rintro e w6 ⟨rfl, hb⟩
            have HB6 : Hid (Below (w.heap.size + 1) (w.alloc (.cells #[.slice a0 n0 c0, .slice a1 n1 c1, .slice a2 n2 c2] 24)) w6) := Lib.hid (HB5.out.trans (hb.mono (HG.out _ HB5.out).2.2.1))
            clear hb HSM HR5 HT5
            go_wp2_with fail
            refine (awakeP_any _ (HG.out _ HB6.out).1).mono ?_
            rintro e w7 ⟨rfl, hb⟩
            have HB7 : Hid (Below (w.heap.size + 1) (w.alloc (.cells #[.slice a0 n0 c0, .slice a1 n1 c1, .slice a2 n2 c2] 24)) w7) := Lib.hid (HB6.out.trans (hb.mono (HG.out _ HB6.out).2.2.1))
            clear hb
            go_wp2
            go_ret
            exact ⟨rfl, (HG.out _ HB7.out).2.1⟩
      · have hne : (er != 0) = true := by rw [bne_iff_ne]; exact her
        clear HP HPR HPN HPB HSM HSS HPA hPV her h6 hfs
        go_enter Tryz.func6, Tryz.ntmps6
        obtain ⟨q0, q1, q2⟩ := HX.out _ HB0.out
        go_wp2_with fail
        refine (HFW.out _).mono ?_
        rintro e w1 ⟨rfl, hb⟩
        have HB1 : Hid (Below (w.heap.size + 1) (w.alloc (.cells #[.slice a0 n0 c0, .slice a1 n1 c1, .slice a2 n2 c2] 24)) w1) := Lib.hid (HB0.out.trans (hb.mono (HG.out _ HB0.out).2.2.1))
        clear hb HFW q0 q1 q2
        obtain ⟨q0, q1, q2⟩ := HX.out w1 HB1.out
        go_wp2_with fail
        refine (HPT.out _ HB1.out).mono ?_
        rintro e w2 ⟨A1, k1, rfl, hO, hb⟩
        have HB2 : Hid (Below (w.heap.size + 1) (w.alloc (.cells #[.slice a0 n0 c0, .slice a1 n1 c1, .slice a2 n2 c2] 24)) w2) := Lib.hid (HB1.out.trans (hb.mono (HG.out _ HB1.out).2.2.1))
        have HR2 := Lib.hid (Reads.of_own hO)
        clear hb hO HPT q0 q1 q2
        clear HR2
        go_wp2_with fail
        refine (awakeP_any _ (HG.out _ HB2.out).1).mono ?_
        rintro e w3 ⟨rfl, hb⟩
        have HB3 : Hid (Below (w.heap.size + 1) (w.alloc (.cells #[.slice a0 n0 c0, .slice a1 n1 c1, .slice a2 n2 c2] 24)) w3) := Lib.hid (HB2.out.trans (hb.mono (HG.out _ HB2.out).2.2.1))
        clear hb
        go_wp2
        go_ret
        exact ⟨rfl, (HG.out _ HB3.out).2.1⟩
    | false =>
      rw [hfs] at HFW
      clear hfs h6
      go_enter Tryz.func6, Tryz.ntmps6
      obtain ⟨q0, q1, q2⟩ := HX.out _ HB0.out
      go_wp2_with fail
      refine (HFW.out _).mono ?_
      rintro e w1 ⟨rfl, hb⟩
      have HB1 : Hid (Below (w.heap.size + 1) (w.alloc (.cells #[.slice a0 n0 c0, .slice a1 n1 c1, .slice a2 n2 c2] 24)) w1) := Lib.hid (HB0.out.trans (hb.mono (HG.out _ HB0.out).2.2.1))
      clear hb HFW q0 q1 q2
      go_wp2_with fail
      refine (awakeP_any _ (HG.out _ HB1.out).1).mono ?_
      rintro e w2 ⟨rfl, hb⟩
      have HB2 : Hid (Below (w.heap.size + 1) (w.alloc (.cells #[.slice a0 n0 c0, .slice a1 n1 c1, .slice a2 n2 c2] 24)) w2) := Lib.hid (HB1.out.trans (hb.mono (HG.out _ HB1.out).2.2.1))
      clear hb
      go_wp2
      go_ret
      exact ⟨rfl, (HG.out _ HB2.out).2.1⟩
  · have d1 : decide ((600 : Int) < (t.size : Int)) = true := decide_eq_true (by omega)
    have d2 : decide (600 < t.size) = true := decide_eq_true (by omega)
    clear h6 HFW
    go_enter Tryz.func6, Tryz.ntmps6
    go_wp2_with fail
    refine (awakeP_any _ (HG.out _ HB0.out).1).mono ?_
    rintro e w1 ⟨rfl, hb⟩
    have HB1 : Hid (Below (w.heap.size + 1) (w.alloc (.cells #[.slice a0 n0 c0, .slice a1 n1 c1, .slice a2 n2 c2] 24)) w1) := Lib.hid (HB0.out.trans (hb.mono (HG.out _ HB0.out).2.2.1))
    clear hb
    go_wp2
    go_ret
    exact ⟨rfl, (HG.out _ HB1.out).2.1⟩
set_option maxRecDepth 100000 in
theorem contract (H : Type) (enc : TypeId × Value → H) (W : World) (base : Nat) (args : Array Value) (ds gs : List (DataW H)) (before : List MemPlace)
    (hval : ∀ (j : Nat) t v, Tryz.f6.params[j]? = some t → args[j]? = some v → Value.okWide Tryz.prog W .any base t v)
    (hW : DataW.Whole enc Tryz.prog Tryz.f6.params.toList Rows.printerTextsSpec.vars false W args.toList ds gs before) (hE : EnvP W) :
    Calls Tryz.prog 6 args W fun e W' => ∃ v, e = .returned v ∧ Rows.printerTextsSpec.post enc Tryz.prog Tryz.f6 false true false false W args v W' := by
  have hW' := hW
  obtain ⟨p, q, hA0, hV, rfl, hfz, hnd⟩ := hW
  have hA : DataW.TrodAll enc Tryz.prog W 0 (fun _ => true) true Tryz.f6.params.toList args.toList ds p := hA0
  rw [Tryz.params6] at hA hval
  obtain ⟨v0, vs0, d0, ds0, p0, q0, hargs, rfl, rfl, h0, r0⟩ := trodAll_cons hA
  obtain ⟨v1, vs1, d1, ds1, p1, q1, rfl, rfl, rfl, h1, r1⟩ := trodAll_cons r0
  obtain ⟨rfl, rfl, rfl⟩ := trodAll_nil r1
  obtain rfl : args = #[v0, v1] := by cases args; simp_all
  obtain ⟨rfl, rfl⟩ := trodVars_none hV
  obtain ⟨a0, n0, c0, a1, n1, c1, a2, n2, c2, A, F, X, rfl, s0, s1, s2⟩ := open_sig (hval 0 24 v0 rfl rfl) h0
  have k0 := h0
  have lt0 : ∀ x ∈ p0, x.block < W.heap.size := by obtain ⟨m, hm⟩ := k0; exact DataW.trod_lt m _ _ _ hm
  obtain ⟨t1, rfl, rfl, rfl, w1⟩ := open_string Tryz.underlying9 (hval 1 9 v1 rfl rfl) h1
  clear hA0
  simp only [List.append_nil] at hW'
  have hwalk := walk a0 n0 c0 a1 n1 c1 a2 n2 c2 A F X t1 W s0 s1 s2 w1 hE
  refine hwalk.mono fun e W' ⟨he, hg⟩ => ?_
  subst he
  exact ⟨_, rfl, _, _, _, [], _, [], hW', trodAll_mk1 (shut_bool Tryz.underlying4 _), (trodAll_cons_mk (Below.trod laidOut (by kernel_rfl) (of_decide_eq_true (by kernel_rfl)) k0 hg lt0) (trodAll_cons_mk (shut_string Tryz.underlying9 w1) trodAll_mk0)), rfl, hg.frame _, fun h => by cases h⟩
theorem reads (os : Os) {H : Type} (enc : TypeId × Value → H) : ∃ places, DataW.whole enc Tryz.prog ((laidW os).forCall (fun _ _ => 0) ⟨#[], #[.agg #[.slice none 0 0, .slice none 0 0, .slice none 0 0], .string ⟨#[]⟩], []⟩).memory Tryz.f6.params.toList Rows.printerTextsSpec.vars false #[(.agg #[.slice none 0 0, .slice none 0 0, .slice none 0 0] : Value), (.string ⟨#[]⟩ : Value)].toList 8 = some ([.agg [.nil, .nil, .nil], .lit (.string [])], [], places) :=
  ⟨[], by kernel_rfl⟩
set_option maxRecDepth 100000 in
theorem lifted (os : Os) (started : os.Started) (H : Type) (enc : TypeId × Value → H) (F : Stop.Interp) :
    ReturnsInHanded {} Tryz.checked os 6 .any ((OpenSpec.ofChange Rows.printerTextsSpec).preRow enc Tryz.prog Tryz.f6 Rows.printerTextsRow.domain false Rows.printerTextsRow.laid) (((OpenSpec.ofChange Rows.printerTextsSpec).at F).post enc Tryz.prog Tryz.f6 false true false false) := by
  obtain ⟨places, hx⟩ := reads os enc
  refine returnsInHanded_of_row (C := Tryz.checked) (s := OpenSpec.ofChange Rows.printerTextsSpec) own started (by kernel_rfl) Tryz.func6
    (witness_row_atRef (enc := enc) (C := Tryz.checked) false (laidW os) #[.agg #[.slice none 0 0, .slice none 0 0, .slice none 0 0], .string ⟨#[]⟩] (laidW_os os) (vars_ok os _) (heap_ok os _) (by kernel_rfl)
      (OpenSpec.preRow_of_cond 8 hx (by kernel_rfl) (fun k hk => by cases hk) (by kernel_rfl) (laid_met os _))) ?_
  intro W base args ds gs before hval hW _ _ _ hL hsh _
  exact contract H enc W base args ds gs before hval hW (env_of hL hsh)
theorem said : Rows.PrinterTextsSaid :=
  OpenClaim.holds_of_cond 6 Tryz.f6 rfl rfl rfl rfl rfl rfl rfl ⟨rfl, rfl, rfl, rfl, rfl⟩ rfl rfl rfl rfl rfl (by kernel_rfl) Tryz.func6 (by kernel_rfl)
    (of_decide_eq_true (by kernel_rfl)) (by unfold Func.isWrapper; first | (rw [if_pos (by decide +kernel)]; kernel_rfl) | (rw [if_neg (by decide +kernel)]; exact ⟨rfl, rfl⟩))
    (fun os started H enc _ F => by rw [OpenClaim.pre_eq_preRow]; exact lifted os started H enc F)
theorem plain (f : FuncId) (fn : Func) (hf : Tryz.pinned.checked.prog.funcNamed "witting/wittinglaw07.PrinterTexts" = some f) (hfn : Tryz.pinned.checked.prog.funcs[f]? = some fn) :
    false = Tryz.pinned.checked.prog.looks [] ∧ ∀ (j : Nat) t, fn.params[j]? = some t → Tryz.pinned.checked.prog.wantsStandIn t = false := by
  obtain rfl : f = 6 := Option.some.inj ((show Tryz.prog.funcNamed "witting/wittinglaw07.PrinterTexts" = some 6 by kernel_rfl).symm.trans hf) |>.symm
  obtain rfl : fn = Tryz.f6 := (Option.some.inj (Tryz.func6.symm.trans hfn)).symm
  refine ⟨no_looks, fun j t ht => ?_⟩
  rw [Tryz.params6] at ht
  have hm : t ∈ [24, 9] := by simpa using Array.mem_of_getElem? ht
  have hall : ([24, 9].all fun u => !Tryz.prog.wantsStandIn u) = true := by kernel_rfl
  exact (show Tryz.prog.wantsStandIn t = false by simpa using List.all_eq_true.1 hall t hm)
theorem card : Rows.PrinterTextsCardSaid :=
  Claim7.holds_tied_plain_at .later [] _ _ _ _ said (fun _ h => by cases h) (by kernel_rfl) (fun _ h => by cases h) printerTexts_row_tie rfl ⟨rfl, rfl⟩ (by kernel_rfl) rfl plain (by kernel_rfl)
#print axioms card
end Go.Proofs.YtenbhalnpiahaaaGreatDoor.printerTexts
