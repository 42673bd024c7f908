/- Layer 15: FramesAxioms: the axioms of properties, and what refutes them. -/
import Derived.Test.YtjpmhbnikoggaaaGreatDoorFr44
import Derived.Test.YtjpmhbnikoggaaaGreatDoorNIq
import Derived.Test.YtjpmhbnikoggaaaGreatDoorNJi
import Derived.Test.YtjpmhbnikoggaaaGreatDoorNJp
namespace Go.Proofs.YtjpmhbnikoggaaaGreatDoor.framesAxioms
open Go.ChangeShapes Go.WideShapes Go.ChangeAt Go.RowKit Go.Proofs.YtjpmhbnikoggaaaGreatDoor Go.Proofs.YtjpmhbnikoggaaaGreatDoor.fra Go.Proofs.Ws
open Go.ChangeMaps (open_string shut_string)
theorem axR_lenA (p a : Int) (f : List Nd) : (axR p a f).length ≤ maxLen := by
  have h : (axL p a f).length ≤ 200 := by
    unfold axL impF
    repeat' split
    all_goals exact buildF_len _ _
  unfold axR maxLen
  split
  · omega
  · simp
theorem cnt_unique {n : Nat} {p : Int} {l : List Nat} {a s r a2 s2 r2 : Int} (h : CntV n p l a s r) (k : CntV n p l a2 s2 r2) : a2 = a ∧ s2 = s ∧ r2 = r := by
  unfold CntV at h k
  rcases h with ⟨h0, rfl, rfl, rfl⟩ | ⟨h0, hp, rfl, rfl, rfl⟩ | ⟨h0, hp, hh, rfl, rfl, rfl⟩ | ⟨h0, hp, hh, x, hx, rfl, rfl, rfl⟩ <;>
    rcases k with ⟨k0, rfl, rfl, rfl⟩ | ⟨k0, kp, rfl, rfl, rfl⟩ | ⟨k0, kp, kh, rfl, rfl, rfl⟩ | ⟨k0, kp, kh, y, hy, rfl, rfl, rfl⟩ <;>
    first
      | exact ⟨rfl, rfl, rfl⟩
      | (exfalso; exact h0 k0)
      | (exfalso; exact k0 h0)
      | (exfalso; omega)
      | (exfalso; exact kh hh)
      | (exfalso; exact hh kh)
      | (obtain rfl := hx.unique hy; exact ⟨rfl, rfl, rfl⟩)
set_option maxRecDepth 100000
set_option maxHeartbeats 16000000 in
theorem walk (l : List Nat) (A : Option Addr) (n c : Nat) (x0 x1 : Int) (f : List Nd) (AF : Option Addr) (nf cf : Nat) (w : World) (hR : Reads w w.heap.size 1 A n (us l)) (hw : Words l) (hm : n ≤ maxLen) (hF : Reads w w.heap.size 6 AF nf (nds f)) (hfm : nf ≤ maxLen) (hT : Tab w) :
    Calls Tryz.prog 4 #[.slice A n c, .agg #[.int .i64 x0, .int .i64 x1], .slice AF nf cf] w fun e w' => e = .returned (.bool true) ∧ Below w.heap.size w w' := by
  have HAW : Hid (∀ W, Below w.heap.size w W → Calls Tryz.prog 8 #[] W fun e w' => e = .returned (.bool true) ∧ Below W.heap.size W w') := Lib.hid (fun W hb => awake_any W (hT.below hb))
  have HB0 := Lib.hid ((Below.refl w.heap.size w).alloc (Nat.le_refl _) (.cells #[.int .i64 x0, .int .i64 x1] 33))
  have KB0 : Hid ((w.alloc (.cells #[.int .i64 x0, .int .i64 x1] 33)).heap[w.heap.size]? = some (.cells #[.int .i64 x0, .int .i64 x1] 33)) := Lib.hid (heap_alloc_new w _)
  have HLT : Hid (w.heap.size < (w.alloc (.cells #[.int .i64 x0, .int .i64 x1] 33)).heap.size) := Lib.hid (by simp)
  have HU : Hid (∀ W, Below (w.heap.size + 1) (w.alloc (.cells #[.int .i64 x0, .int .i64 x1] 33)) W → Below w.heap.size w W ∧ W.cell? ⟨w.heap.size, 0, none⟩ = some (.int .i64 x0) ∧ W.cell? ⟨w.heap.size, 1, none⟩ = some (.int .i64 x1)) := Lib.hid (fun W hb => by
    have kb := (hb.block w.heap.size (by omega)).trans KB0.out
    exact ⟨HB0.out.trans (hb.mono (by omega)), (Lib.cell_of_heap kb 0).trans rfl, (Lib.cell_of_heap kb 1).trans rfl⟩)
  have HPA := Lib.hid (fun W (hb : Below w.heap.size w W) => pAxiom_any f AF nf cf W ((hF.below hb).more hb.size) hfm x0 x1)
  have HRA := Lib.hid (fun W (hb : Below w.heap.size w W) => rAxiom_any f AF nf cf W ((hF.below hb).more hb.size) hfm x0 x1)
  unfold GivesX at HPA HRA
  have HPC := Lib.hid (fun W (hb : Below w.heap.size w W) => pCounter_any l A n c W ((hR.below hb).more hb.size) hw hm (hT.below hb) x0)
  have HRC := Lib.hid (fun W (hb : Below w.heap.size w W) => rCounter_any l A n c W ((hR.below hb).more hb.size) hw hm x0)
  unfold GivesC at HPC HRC
  have HLR : Hid ((axR x0 x1 f).length ≤ maxLen) := Lib.hid (axR_lenA x0 x1 f)
  have HSZ : Hid ((w.alloc (.cells #[.int .i64 x0, .int .i64 x1] 33)).heap.size = w.heap.size + 1) := Lib.hid (by simp)
  clear hR hw hm hF hfm hT
  go_enter Tryz.func4, Tryz.ntmps4
  by_cases hn : n ≤ 12
  case neg =>
    have d1 : decide ((12 : Int) < (n : Int)) = true := decide_eq_true (by omega)
    clear hn
    go_wp2_with fail
    refine (HAW.out _ HB0.out).mono ?_
    rintro e w9 ⟨rfl, hb⟩
    have HB9 := Lib.hid (HB0.out.trans (hb.mono HB0.out.size))
    clear hb
    go_wp2
    go_ret
    exact ⟨rfl, HB9.out⟩
  have d1 : decide ((12 : Int) < (n : Int)) = false := decide_eq_false (by omega)
  by_cases hn2 : nf ≤ 60
  case neg =>
    have d2 : decide ((60 : Int) < (nf : Int)) = true := decide_eq_true (by omega)
    clear hn hn2
    go_wp2_with fail
    refine (HAW.out _ HB0.out).mono ?_
    rintro e w9 ⟨rfl, hb⟩
    have HB9 := Lib.hid (HB0.out.trans (hb.mono HB0.out.size))
    clear hb
    go_wp2
    go_ret
    exact ⟨rfl, HB9.out⟩
  have d2 : decide ((60 : Int) < (nf : Int)) = false := decide_eq_false (by omega)
  clear hn hn2
  have HZ0 : Hid (Below (w.heap.size + 1) (w.alloc (.cells #[.int .i64 x0, .int .i64 x1] 33)) (w.alloc (.cells #[.int .i64 x0, .int .i64 x1] 33))) := Lib.hid (Below.refl _ _)
  generalize axE x0 x1 f = xe at *
  generalize axR x0 x1 f = xl at *
  have HXL : Hid (∀ A1 A2 c1 c2 W, Reads W W.heap.size 6 A1 xl.length (nds xl) → Reads W W.heap.size 6 A2 xl.length (nds xl) → Calls Tryz.prog 19 #[.slice A1 xl.length c1, .slice A2 xl.length c2] W fun e w' => e = .returned (.bool true) ∧ Below W.heap.size W w') := Lib.hid (fun A1 A2 c1 c2 W h1 h2 => by
    have h := rEqual_any xl xl A1 A2 xl.length xl.length c1 c2 W h1 h2 HLR.out HLR.out
    rw [decide_eq_true rfl] at h
    exact h)
  obtain ⟨L, hL⟩ : ∃ L, xl.length = L := ⟨_, rfl⟩
  rw [hL] at HPA HRA HXL
  clear hL HLR
  obtain ⟨wa, hWA⟩ : ∃ W, w.alloc (.cells #[.int .i64 x0, .int .i64 x1] 33) = W := ⟨_, rfl⟩
  rw [hWA] at HB0 KB0 HLT HU HSZ HZ0
  have HWA := Lib.hid hWA
  clear hWA
  go_wp2_with fail
  rw [HWA.out]
  clear HWA
  refine (HPA.out _ HB0.out).mono ?_
  rintro e w1 ⟨A1, c1, rfl, hr1, hb⟩
  have HZ1 := Lib.hid (HZ0.out.trans (hb.mono (by have := HSZ.out; omega)))
  have HR1 := Lib.hid hr1
  clear hb hr1 HPA
  obtain ⟨u1, u2, u3⟩ := HU.out _ HZ1.out
  have HB1 := Lib.hid u1
  clear u1
  go_wp2_with fail
  refine (HRA.out _ HB1.out).mono ?_
  rintro e w2 ⟨A2, c2, rfl, hr2, hb⟩
  have HZ2 := Lib.hid (HZ1.out.trans (hb.mono (by have := HZ1.out.size; have := HSZ.out; omega)))
  have HR1 := Lib.hid ((HR1.out.below hb).more hb.size)
  have HR2 := Lib.hid hr2
  clear hb hr2 u2 u3 HRA
  obtain ⟨u1, u2, u3⟩ := HU.out _ HZ2.out
  have HB2 := Lib.hid u1
  clear u1
  go_wp2_with fail
  refine (HPC.out _ HB2.out).mono ?_
  rintro e w3 ⟨⟨a, s, r, rfl, hcv⟩, hb⟩
  have HZ3 := Lib.hid (HZ2.out.trans (hb.mono (by have := HZ2.out.size; have := HSZ.out; omega)))
  have HR1 := Lib.hid ((HR1.out.below hb).more hb.size)
  have HR2 := Lib.hid ((HR2.out.below hb).more hb.size)
  have HCV := Lib.hid hcv
  clear hb hcv u2 u3 HPC
  obtain ⟨u1, u2, u3⟩ := HU.out _ HZ3.out
  have HB3 := Lib.hid u1
  clear u1
  go_wp2_with fail
  refine (HRC.out _ HB3.out).mono ?_
  rintro e w4 ⟨⟨a2, s2, r2, rfl, hcv2⟩, hb⟩
  obtain ⟨rfl, rfl, rfl⟩ := cnt_unique HCV.out hcv2
  have HB4 := Lib.hid (HB3.out.trans (hb.mono HB3.out.size))
  have HR1 := Lib.hid ((HR1.out.below hb).more hb.size)
  have HR2 := Lib.hid ((HR2.out.below hb).more hb.size)
  clear hb hcv2 u2 u3 HRC HCV
  have HEQ := Lib.hid (HXL.out A1 A2 c1 c2 w4 HR1.out HR2.out)
  go_wp2_with fail
  refine (HEQ.out).mono ?_
  rintro e w5 ⟨rfl, hb⟩
  have HB5 := Lib.hid (HB4.out.trans (hb.mono HB4.out.size))
  clear hb
  go_wp2_with fail
  refine (HAW.out _ HB5.out).mono ?_
  rintro e w9 ⟨rfl, hb⟩
  have HB9 := Lib.hid (HB5.out.trans (hb.mono HB5.out.size))
  clear hb
  go_wp2
  go_ret
  exact ⟨rfl, HB9.out⟩
set_option maxRecDepth 100000 in
theorem contract (H : Type) (enc : TypeId × Value → H) (W : World) (base : Nat) (args : Array Value) (ds gs : List (DataW H)) (before : List MemPlace)
    (hval : ∀ (j : Nat) t v, Tryz.f4.params[j]? = some t → args[j]? = some v → Value.okWide Tryz.prog W .any base t v)
    (hW : DataW.Whole enc Tryz.prog Tryz.f4.params.toList Rows.framesAxiomsSpec.vars false W args.toList ds gs before) (hE : Tab W) :
    Calls Tryz.prog 4 args W fun e W' => ∃ v, e = .returned v ∧ Rows.framesAxiomsSpec.post enc Tryz.prog Tryz.f4 false true false false W args v W' := by
  have hW' := hW
  obtain ⟨p, q, hA0, hV, rfl, hfz, hnd⟩ := hW
  have hA : DataW.TrodAll enc Tryz.prog W 0 (fun _ => true) true Tryz.f4.params.toList args.toList ds p := hA0
  rw [Tryz.params4] at hA hval
  obtain ⟨v0, vs0, d0, ds0, p0, q0, hargs, rfl, rfl, h0, r0⟩ := trodAll_cons hA
  obtain ⟨v1, vs1, d1, ds1, p1, q1, rfl, rfl, rfl, h1, r1⟩ := trodAll_cons r0
  obtain ⟨v2, vs2, d2, ds2, p2, q2, rfl, rfl, rfl, h2, r2⟩ := trodAll_cons r1
  obtain ⟨rfl, rfl, rfl⟩ := trodAll_nil r2
  obtain rfl : args = #[v0, v1, v2] := by cases args; simp_all
  obtain ⟨rfl, rfl⟩ := trodVars_none hV
  obtain ⟨A0, n0, c0, l0, rfl, w0⟩ : ∃ A n c l, v0 = .slice A n c ∧ WRow W A n c l := by
    obtain ⟨fuel, hf⟩ := h0
    have hv9 := hval 0 22 v0 rfl rfl
    obtain ⟨A9, n9, c9, rfl⟩ := okWide_slice Tryz.underlying22 hv9
    exact open_words hf
  have k0 := h0
  have lt0 : ∀ x ∈ p0, x.block < W.heap.size := by obtain ⟨m, hm⟩ := k0; exact DataW.trod_lt m _ _ _ hm
  obtain ⟨x0, x1, rfl⟩ := open_arr2 (hval 1 33 v1 rfl rfl) h1
  have k1 := h1
  have lt1 : ∀ x ∈ p1, x.block < W.heap.size := by obtain ⟨m, hm⟩ := k1; exact DataW.trod_lt m _ _ _ hm
  obtain ⟨af2, nf2, cf2, rfl⟩ := okWide_slice Tryz.underlying34 (hval 2 34 v2 rfl rfl)
  obtain ⟨f2, w2⟩ : ∃ l, NdRow W af2 nf2 cf2 l := by
    obtain ⟨fuel, hf⟩ := h2
    exact open_nodes hf
  have k2 := h2
  have lt2 : ∀ x ∈ p2, x.block < W.heap.size := by obtain ⟨m, hm⟩ := k2; exact DataW.trod_lt m _ _ _ hm
  clear hA0
  have hwalk := walk l0 A0 n0 c0 x0 x1 f2 af2 nf2 cf2 W w0.1 w0.2.1 w0.2.2.2 w2.1 w2.2.2.2 hE
  refine hwalk.mono fun e W' ⟨he, hg⟩ => ?_
  subst he
  exact ⟨_, rfl, _, _, _, [], _, [], hW', trodAll_mk1 (shut_bool Tryz.underlying4 _), (trodAll_cons_mk (Below.trod laidOut (by kernel_rfl) (of_decide_eq_true (by kernel_rfl)) k0 hg lt0) (trodAll_cons_mk (Below.trod laidOut (by kernel_rfl) (of_decide_eq_true (by kernel_rfl)) k1 hg lt1) (trodAll_cons_mk (Below.trod laidOut (by kernel_rfl) (of_decide_eq_true (by kernel_rfl)) k2 hg lt2) trodAll_mk0))), rfl, hg.frame _, fun h => by cases h⟩
theorem reads (os : Os) {H : Type} (enc : TypeId × Value → H) : ∃ places, DataW.whole enc Tryz.prog ((laidW os).forCall (fun _ _ => 0) ⟨#[], #[.slice none 0 0, .agg #[.int .i64 0, .int .i64 0], .slice none 0 0], []⟩).memory Tryz.f4.params.toList Rows.framesAxiomsSpec.vars false #[(.slice none 0 0 : Value), (.agg #[.int .i64 0, .int .i64 0] : Value), (.slice none 0 0 : Value)].toList 8 = some ([.nil, .agg [.lit (.int .i64 0), .lit (.int .i64 0)], .nil], [], places) :=
  ⟨[], by kernel_rfl⟩
set_option maxRecDepth 100000 in
theorem lifted (os : Os) (started : os.Started) (H : Type) (enc : TypeId × Value → H) (F : Stop.Interp) :
    ReturnsInHanded {} Tryz.checked os 4 .any ((OpenSpec.ofChange Rows.framesAxiomsSpec).preRow enc Tryz.prog Tryz.f4 Rows.framesAxiomsRow.domain false Rows.framesAxiomsRow.laid) (((OpenSpec.ofChange Rows.framesAxiomsSpec).at F).post enc Tryz.prog Tryz.f4 false true false false) := by
  obtain ⟨places, hx⟩ := reads os enc
  refine returnsInHanded_of_row (C := Tryz.checked) (s := OpenSpec.ofChange Rows.framesAxiomsSpec) own started (by kernel_rfl) Tryz.func4
    (witness_row_atRef (enc := enc) (C := Tryz.checked) false (laidW os) #[.slice none 0 0, .agg #[.int .i64 0, .int .i64 0], .slice none 0 0] (laidW_os os) (vars_ok os _) (heap_ok os _) (by kernel_rfl)
      (OpenSpec.preRow_of_cond 8 hx (by kernel_rfl) (fun k hk => by cases hk) (by kernel_rfl) (laid_met os _))) ?_
  intro W base args ds gs before hval hW _ _ _ hL hsh _
  exact contract H enc W base args ds gs before hval hW (env_of hL)
theorem said : Rows.FramesAxiomsSaid :=
  OpenClaim.holds_of_cond 4 Tryz.f4 rfl rfl rfl rfl rfl rfl rfl ⟨rfl, rfl, rfl, rfl, rfl⟩ rfl rfl rfl rfl rfl (by kernel_rfl) Tryz.func4 (by kernel_rfl)
    (of_decide_eq_true (by kernel_rfl)) (by unfold Func.isWrapper; first | (rw [if_pos (by decide +kernel)]; kernel_rfl) | (rw [if_neg (by decide +kernel)]; exact ⟨rfl, rfl⟩))
    (fun os started H enc _ F => by rw [OpenClaim.pre_eq_preRow]; exact lifted os started H enc F)
theorem plain (f : FuncId) (fn : Func) (hf : Tryz.pinned.checked.prog.funcNamed "witting/wittinglaw15.FramesAxioms" = some f) (hfn : Tryz.pinned.checked.prog.funcs[f]? = some fn) :
    false = Tryz.pinned.checked.prog.looks [] ∧ ∀ (j : Nat) t, fn.params[j]? = some t → Tryz.pinned.checked.prog.wantsStandIn t = false := by
  obtain rfl : f = 4 := Option.some.inj ((show Tryz.prog.funcNamed "witting/wittinglaw15.FramesAxioms" = some 4 by kernel_rfl).symm.trans hf) |>.symm
  obtain rfl : fn = Tryz.f4 := (Option.some.inj (Tryz.func4.symm.trans hfn)).symm
  refine ⟨no_looks, fun j t ht => ?_⟩
  rw [Tryz.params4] at ht
  have hm : t ∈ [22, 33, 34] := by simpa using Array.mem_of_getElem? ht
  have hall : ([22, 33, 34].all fun u => !Tryz.prog.wantsStandIn u) = true := by kernel_rfl
  exact (show Tryz.prog.wantsStandIn t = false by simpa using List.all_eq_true.1 hall t hm)
theorem card : Rows.FramesAxiomsCardSaid :=
  Claim7.holds_tied_plain_at .later [] _ _ _ _ said (fun _ h => by cases h) (by kernel_rfl) (fun _ h => by cases h) framesAxioms_row_tie rfl ⟨rfl, rfl⟩ (by kernel_rfl) rfl plain (by kernel_rfl)
#print axioms card
end Go.Proofs.YtjpmhbnikoggaaaGreatDoor.framesAxioms
