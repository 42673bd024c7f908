/- Layer 10: ResolutionTables. -/
import Derived.Test.YtopkmcoblndokaaDoorNTq
import Derived.Test.YtopkmcoblndokaaDoorNVo
namespace Go.Proofs.YtopkmcoblndokaaDoor.resolutionTables
open Go.ChangeShapes Go.WideShapes Go.ChangeAt Go.RowKit Go.Proofs.YtopkmcoblndokaaDoor Go.Proofs.YtopkmcoblndokaaDoor.rsl Go.Proofs.YtopkmcoblndokaaDoor.bol Go.Proofs.Ws Go.Maps
open Go.ChangeMaps (open_string shut_string)
set_option maxRecDepth 100000
theorem tbl_ok {f : List Nd} {n : Int} (h : tblE f n = 0) : ∃ m : Nat, n = (m : Int) ∧ m ≤ 6 ∧ tblV f n < 18446744073709551616 := by
  have h0 := h
  unfold tblE at h
  split at h
  · rename_i h1; exact absurd h h1
  · split at h
    · cases h
    · split at h
      · rename_i h3
        refine ⟨n.toNat, by omega, by omega, ?_⟩
        unfold tblV
        rw [if_pos h0]
        exact Nat.lt_of_le_of_lt Nat.and_le_right (fullN_lt (by omega))
      · cases h
set_option maxHeartbeats 8000000 in
theorem walk (f : List Nd) (A0 : Option Addr) (n0 c0 : Nat) (n : Int) (w : World) (hE : EnvB w w.heap.size) (h0 : NdRow w A0 n0 c0 f) :
    Calls Tryd.prog 3 #[.slice A0 n0 c0, .int .i64 n] w fun e w' => e = .returned (.bool true) ∧ Below w.heap.size w w' := by
  obtain ⟨hR, _, _, hm⟩ := h0
  have HB0 := Lib.hid (Below.refl w.heap.size w)
  have HAW : Hid (∀ W, Below w.heap.size w W → Calls Tryd.prog 4 #[] W fun e w' => e = .returned (.bool true) ∧ Below W.heap.size W w') := Lib.hid (fun W _ => rsl.awake_any W)
  have HTB : Hid (∀ W, Below w.heap.size w W → Calls Tryd.prog 6 #[.slice A0 n0 c0, .int .i64 n] W fun e w' => e = .returned (.tuple #[.int .u64 ((tblV f n : Nat) : Int), .int .i64 (tblE f n)]) ∧ Below W.heap.size W w') := Lib.hid (fun W h => pTable_any f n A0 n0 c0 W ((hE.below h).up h.size) ((hR.below h).more h.size) hm)
  have hok := @tbl_ok f n
  unfold maxLen at hm
  by_cases hn : 24 < n0
  · have q1 : decide ((24 : Int) < (n0 : Int)) = true := decide_eq_true (by omega)
    have q2 : decide (24 < n0) = true := decide_eq_true (by omega)
    clear hR hE HTB hok hn
    go_enter Tryd.func3, Tryd.ntmps3
    go_wp2_with fail
    refine (HAW.out _ HB0.out).mono ?_
    rintro e w1 ⟨rfl, hb⟩
    have HB1 := Lib.hid (rsl.belowNext HB0.out hb)
    clear hb
    go_wp2
    go_ret
    exact ⟨rfl, HB1.out⟩
  · have q1 : decide ((24 : Int) < (n0 : Int)) = false := decide_eq_false (by omega)
    have q2 : decide (24 < n0) = false := decide_eq_false (by omega)
    clear hR hE hn
    by_cases hz : tblE f n = 0
    case neg =>
      have HCL : Hid (∀ W, Below w.heap.size w W → Calls Tryd.prog 5 #[.slice A0 n0 c0, .int .i64 n] W fun e w' => e = .returned (.tuple #[.slice none 0 0, .int .i64 (tblE f n)]) ∧ Below W.heap.size W w') := Lib.hid (fun W h => rsl.xClauses_bad (tblE f n) n (tblV f n : Nat) (.slice A0 n0 c0) W hz (HTB.out W h))
      have e1 : (tblE f n == tblE f n) = true := beq_self_eq_true _
      have e2 : (tblE f n != tblE f n) = false := bne_self_eq_false _
      have e3 : (tblE f n != 0) = true := bne_iff_ne.2 hz
      clear hok hz
      generalize tblE f n = E at *
      generalize tblV f n = T at *
      go_enter Tryd.func3, Tryd.ntmps3
      go_wp2_with fail
      refine (HCL.out _ HB0.out).mono ?_
      rintro e w1 ⟨rfl, hb⟩
      have HB1 := Lib.hid (rsl.belowNext HB0.out hb)
      clear hb
      go_wp2_with fail
      refine (HTB.out _ HB1.out).mono ?_
      rintro e w2 ⟨rfl, hb⟩
      have HB2 := Lib.hid (rsl.belowNext HB1.out hb)
      clear hb
      go_wp2_with fail
      refine (HAW.out _ HB2.out).mono ?_
      rintro e w3 ⟨rfl, hb⟩
      have HB3 := Lib.hid (rsl.belowNext HB2.out hb)
      clear hb
      go_wp2
      go_ret
      exact ⟨rfl, HB3.out⟩
    case pos =>
      obtain ⟨m, rfl, hm6, hT⟩ := hok hz
      rw [hz] at HTB
      generalize tblV f (m : Int) = T at *
      have HCL : Hid (∀ W, Below w.heap.size w W → Calls Tryd.prog 5 #[.slice A0 n0 c0, .int .i64 (m : Int)] W (fun e w' => ∃ A c, e = .returned (.tuple #[.slice A (Ws.rsl.clausesOf T m).length c, .int .i64 0]) ∧ rsl.ZsO w' W.heap.size (.slice A (Ws.rsl.clausesOf T m).length c) (Ws.rsl.clausesOf T m) ∧ Below W.heap.size W w')) := Lib.hid (fun W h => rsl.xClauses_ok T m (.slice A0 n0 c0) W hm6 hT (HTB.out W h))
      obtain ⟨P, hP⟩ : ∃ P : Nat, 2 ^ m = P := ⟨_, rfl⟩
      obtain ⟨hsh, _⟩ := rsl.pow_shift (k := m) (by omega) hP
      have hP64 : P ≤ 64 := by rw [← hP]; exact Nat.pow_le_pow_right (n := 2) (by decide) hm6
      have hlen := Ws.rsl.clauses_len T m
      rw [hP] at hlen
      have hsm : ∀ c ∈ Ws.rsl.clausesOf T m, ∀ x ∈ c, x ≠ 0 ∧ -12 ≤ x ∧ x ≤ 12 := fun c hc x hx => by
        unfold Ws.rsl.clausesOf at hc
        obtain ⟨v, _, rfl⟩ := List.mem_map.1 hc
        have := (Ws.rsl.falseAt_ok v m).lits x hx
        omega
      have HSAT : Hid (∀ v, v < P → Ws.rsl.satB v (Ws.rsl.clausesOf T m) = T.testBit v) := Lib.hid (fun v hv => by
        rw [Bool.eq_iff_iff, Ws.rsl.satB_iff]
        exact Ws.rsl.clauses_sat (by rw [hP]; exact hv))
      have HBT := Lib.hid (fun v => rsl.bit_u641 T v hT)
      have HSM := Lib.hid hsm
      have HSH := Lib.hid hsh
      clear hok hz hP hsh hsm
      generalize Ws.rsl.clausesOf T m = L at *
      have q3 : decide ((m : Int) < 0) = false := decide_eq_false (by omega)
      have q4 : decide ((6 : Int) < (m : Int)) = false := decide_eq_false (by omega)
      have q5 : decide (6 < m) = false := decide_eq_false (by omega)
      go_enter Tryd.func3, Tryd.ntmps3
      go_wp2_with fail
      refine (HCL.out _ HB0.out).mono ?_
      rintro e w1 ⟨A9, c9, rfl, hz9, hb⟩
      have HB1 := Lib.hid (rsl.belowNext HB0.out hb)
      have hz1 := hz9.zs
      have HZ1 := Lib.hid hz1
      clear hb hz9 hz1
      go_wp2_with fail
      refine (HTB.out _ HB1.out).mono ?_
      rintro e w2 ⟨rfl, hb⟩
      have HB2 := Lib.hid (rsl.belowNext HB1.out hb)
      have HZ2 := Lib.hid (HZ1.out.below hb hb.size)
      clear hb
      obtain ⟨k, HK⟩ : ∃ k, Hid (L.length = k) := ⟨_, Lib.hid rfl⟩
      rw [HK.out] at HZ2 hlen ⊢
      have hk64 : k ≤ 64 := by omega
      have q6 : decide ((64 : Int) < (k : Int)) = false := decide_eq_false (by omega)
      have q7 : decide (64 < k) = false := decide_eq_false (by omega)
      go_wp2
      rw [HSH.out]
      clear HSH
      go_loopw [61] (fun i wr => ∃ v : Nat, v ≤ P ∧ i = .int .i64 v ∧ Hid (Below w2.heap.size w2 wr)) (fun i _ => P - (intOf i).toNat)
      case atStart => exact ⟨0, Nat.zero_le _, rfl, Lib.hid (Below.refl _ _)⟩
      case round =>
        obtain ⟨v, hv, rfl, HO⟩ := hrel
        by_cases hlt : v < P
        · go_wp2
          go_loopw [10, 66] (fun b i wr2 => ∃ (j : Nat) (bb : Bool), j ≤ k ∧ i = .int .i64 j ∧ b = .bool bb ∧ Hid (Ws.rsl.satB v L = (bb && Ws.rsl.satB v (L.drop j))) ∧ Hid (Below w2.heap.size w2 wr2)) (fun _ i _ => k - (intOf i).toNat)
          case atStart => exact ⟨0, true, Nat.zero_le _, rfl, rfl, Lib.hid (by rw [Bool.true_and]; rfl), HO⟩
          case round =>
            obtain ⟨j, bb, hj, rfl, rfl, HI, HO2⟩ := hrel
            by_cases hltj : j < k
            · obtain ⟨ad, Aj, cj, rfl, _, hcj, hrj, hlj⟩ := (HZ2.out.below HO2.out HO2.out.size).at_ hltj
              have HD := Lib.hid (rsl.dropZ L j (by have := HK.out; omega))
              have hx := HSM.out _ (rsl.getDZ_mem (l := L) (k := j) (by have := HK.out; omega))
              have HSJ := Lib.hid (rsl.xSfd_any v (L.getD j []) Aj _ cj _ _ (by omega) hx hrj hlj)
              have HI3 : Hid (Ws.rsl.satB v (L.drop j) = ((L.getD j []).any (Ws.rsl.litT v) && Ws.rsl.satB v (L.drop (j + 1)))) := Lib.hid (by rw [HD.out]; rfl)
              generalize (L.getD j []).any (Ws.rsl.litT v) = b2 at *
              generalize (L.getD j []).length = nj at *
              clear hrj HD hx
              cases bb with
              | false =>
                go_wp2
                go_roundw
                case rel => exact ⟨j + 1, false, by omega, by go_num, rfl, Lib.hid (by rw [HI.out]; rfl), HO2⟩
                case measure => first | (simp [intOf]; done) | (simp [intOf]; omega)
              | true =>
                go_wp2_with fail
                refine HSJ.out.mono ?_
                rintro e w5 ⟨rfl, hb⟩
                have HO3 := Lib.hid (rsl.belowNext HO2.out hb)
                clear hb
                go_wp2
                go_roundw
                case rel => exact ⟨j + 1, b2, by omega, by go_num, rfl, Lib.hid (by rw [HI.out, HI3.out, Bool.true_and]), HO3⟩
                case measure => first | (simp [intOf]; done) | (simp [intOf]; omega)
            · have hbb : T.testBit v = bb := by
                have h1 := HI.out
                rw [List.drop_eq_nil_of_le (by have := HK.out; omega), show Ws.rsl.satB v [] = true from rfl, Bool.and_true, HSAT.out v hlt] at h1
                exact h1
              have hbt := HBT.out v
              rw [hbb] at hbt
              have hv64 : v < 64 := by omega
              have e9 : (bb != bb) = false := bne_self_eq_false _
              clear hbb HI
              go_wp2
              go_roundw
              case rel => exact ⟨v + 1, by omega, by go_num, HO2⟩
              case measure => first | (simp [intOf]; done) | (simp [intOf]; omega)
        · have HB3 := Lib.hid (rsl.belowNext HB2.out HO.out)
          clear HO
          go_wp2_with fail
          refine (HAW.out _ HB3.out).mono ?_
          rintro e w4 ⟨rfl, hb⟩
          have HB4 := Lib.hid (rsl.belowNext HB3.out hb)
          clear hb
          go_wp2
          go_ret
          exact ⟨rfl, HB4.out⟩
set_option maxRecDepth 100000 in
theorem contract (H : Type) (enc : TypeId × Value → H) (W : World) (base : Nat) (args : Array Value) (ds gs : List (DataW H)) (before : List MemPlace)
    (hval : ∀ (j : Nat) t v, Tryd.f3.params[j]? = some t → args[j]? = some v → Value.okWide Tryd.prog W .any base t v)
    (hW : DataW.Whole enc Tryd.prog Tryd.f3.params.toList Rows.resolutionTablesSpec.vars false W args.toList ds gs before) (hE : EnvB W W.heap.size) :
    Calls Tryd.prog 3 args W fun e W' => ∃ v, e = .returned v ∧ Rows.resolutionTablesSpec.post enc Tryd.prog Tryd.f3 false true false false W args v W' := by
  have hW' := hW
  obtain ⟨p, q, hA0, hV, rfl, hfz, hnd⟩ := hW
  have hA : DataW.TrodAll enc Tryd.prog W 0 (fun _ => true) true Tryd.f3.params.toList args.toList ds p := hA0
  rw [Tryd.params3] at hA hval
  obtain ⟨v0, vs0, d0, ds0, p0, q0, hargs, rfl, rfl, h0, r0⟩ := trodAll_cons hA
  obtain ⟨v1, vs1, d1, ds1, p1, q1, rfl, rfl, rfl, h1, r1⟩ := trodAll_cons r0
  obtain ⟨rfl, rfl, rfl⟩ := trodAll_nil r1
  obtain rfl : args = #[v0, v1] := by cases args; simp_all
  obtain ⟨rfl, rfl⟩ := trodVars_none hV
  obtain ⟨af0, nf0, cf0, rfl⟩ := okWide_slice Tryd.underlying22 (hval 0 22 v0 rfl rfl)
  obtain ⟨f0, w0⟩ : ∃ l, NdRow W af0 nf0 cf0 l := by
    obtain ⟨fuel, hf⟩ := h0
    exact open_nodes hf
  have k0 := h0
  have lt0 : ∀ x ∈ p0, x.block < W.heap.size := by obtain ⟨m, hm⟩ := k0; exact DataW.trod_lt m _ _ _ hm
  obtain ⟨g1, rfl, rfl, rfl, w1⟩ := open_int Tryd.underlying3 (hval 1 3 v1 rfl rfl) h1
  clear hA0
  simp only [List.append_nil] at hW'
  have hwalk := walk f0 af0 nf0 cf0 g1 W hE w0
  refine hwalk.mono fun e W' ⟨he, hg⟩ => ?_
  subst he
  exact ⟨_, rfl, _, _, _, [], _, [], hW', trodAll_mk1 (shut_bool Tryd.underlying4 _), (trodAll_cons_mk (Below.trod laidOut (by kernel_rfl) (of_decide_eq_true (by kernel_rfl)) k0 hg lt0) (trodAll_cons_mk (shut_int Tryd.underlying3 w1) trodAll_mk0)), rfl, hg.frame _, fun h => by cases h⟩
theorem reads (os : Os) {H : Type} (enc : TypeId × Value → H) : ∃ places, DataW.whole enc Tryd.prog ((laidW os).forCall (fun _ _ => 0) ⟨#[], #[.slice none 0 0, .int .i64 0], []⟩).memory Tryd.f3.params.toList Rows.resolutionTablesSpec.vars false #[(.slice none 0 0 : Value), (.int .i64 0 : Value)].toList 8 = some ([.nil, .lit (.int .i64 0)], [], places) :=
  ⟨[], by kernel_rfl⟩
set_option maxRecDepth 100000 in
theorem lifted (os : Os) (started : os.Started) (H : Type) (enc : TypeId × Value → H) (F : Stop.Interp) :
    ReturnsInHanded {} Tryd.checked os 3 .any ((OpenSpec.ofChange Rows.resolutionTablesSpec).preRow enc Tryd.prog Tryd.f3 Rows.resolutionTablesRow.domain false Rows.resolutionTablesRow.laid) (((OpenSpec.ofChange Rows.resolutionTablesSpec).at F).post enc Tryd.prog Tryd.f3 false true false false) := by
  obtain ⟨places, hx⟩ := reads os enc
  refine returnsInHanded_of_row (C := Tryd.checked) (s := OpenSpec.ofChange Rows.resolutionTablesSpec) own started (by kernel_rfl) Tryd.func3
    (witness_row_atRef (enc := enc) (C := Tryd.checked) false (laidW os) #[.slice none 0 0, .int .i64 0] (laidW_os os) (vars_ok os _) (heap_ok os _) (by kernel_rfl)
      (OpenSpec.preRow_of_cond 8 hx (by kernel_rfl) (fun k hk => by cases hk) (by kernel_rfl) (laid_met os _))) ?_
  intro W base args ds gs before hval hW _ _ _ hL hsh _
  exact contract H enc W base args ds gs before hval hW (env_of hL)
theorem said : Rows.ResolutionTablesSaid :=
  OpenClaim.holds_of_cond 3 Tryd.f3 rfl rfl rfl rfl rfl rfl rfl ⟨rfl, rfl, rfl, rfl, rfl⟩ rfl rfl rfl rfl rfl (by kernel_rfl) Tryd.func3 (by kernel_rfl)
    (of_decide_eq_true (by kernel_rfl)) (by unfold Func.isWrapper; first | (rw [if_pos (by decide +kernel)]; kernel_rfl) | (rw [if_neg (by decide +kernel)]; exact ⟨rfl, rfl⟩))
    (fun os started H enc _ F => by rw [OpenClaim.pre_eq_preRow]; exact lifted os started H enc F)
theorem plain (f : FuncId) (fn : Func) (hf : Tryd.pinned.checked.prog.funcNamed "witting/wittinglaw10.ResolutionTables" = some f) (hfn : Tryd.pinned.checked.prog.funcs[f]? = some fn) :
    false = Tryd.pinned.checked.prog.looks [] ∧ ∀ (j : Nat) t, fn.params[j]? = some t → Tryd.pinned.checked.prog.wantsStandIn t = false := by
  obtain rfl : f = 3 := Option.some.inj ((show Tryd.prog.funcNamed "witting/wittinglaw10.ResolutionTables" = some 3 by kernel_rfl).symm.trans hf) |>.symm
  obtain rfl : fn = Tryd.f3 := (Option.some.inj (Tryd.func3.symm.trans hfn)).symm
  refine ⟨no_looks, fun j t ht => ?_⟩
  rw [Tryd.params3] at ht
  have hm : t ∈ [22, 3] := by simpa using Array.mem_of_getElem? ht
  have hall : ([22, 3].all fun u => !Tryd.prog.wantsStandIn u) = true := by kernel_rfl
  exact (show Tryd.prog.wantsStandIn t = false by simpa using List.all_eq_true.1 hall t hm)
theorem card : Rows.ResolutionTablesCardSaid :=
  Claim7.holds_tied_plain_at .later [] _ _ _ _ said (fun _ h => by cases h) (by kernel_rfl) (fun _ h => by cases h) resolutionTables_row_tie rfl ⟨rfl, rfl⟩ (by kernel_rfl) rfl plain (by kernel_rfl)
#print axioms card
end Go.Proofs.YtopkmcoblndokaaDoor.resolutionTables
