/- Layer 24: AgreementPosteriors. -/
import Derived.Test.YtfbgabcdeecpoaaDoorNMu
namespace Go.Proofs.YtfbgabcdeecpoaaDoor.agreementPosteriors
open Go.ChangeShapes Go.WideShapes Go.ChangeAt Go.RowKit Go.Proofs.YtfbgabcdeecpoaaDoor Go.Proofs.YtfbgabcdeecpoaaDoor.agr Go.Proofs.Ws
open Go.ChangeMaps (open_string shut_string)
set_option maxRecDepth 100000
set_option maxHeartbeats 8000000 in
theorem walk (P : Pri) (v : Value) (a x : Int) (s : Nat) (w : World) (hM : PrR w w.heap.size v P) (hs : s < 18446744073709551616) (hE : EnvW w) :
    Calls Tryd.prog 4 #[v, .agg #[.int .i64 a, .int .i64 x], .int .u64 (s : Int)] w fun e w' => e = .returned (.bool true) ∧ Below w.heap.size w w' := by
  have HFW := Lib.hid (fun (u : Value) (x : Int) (W : World) (h : PrR W W.heap.size u P) => rFew_any P u x W h)
  have HAW := Lib.hid (fun (W : World) (hb : Below w.heap.size w W) => awake_any W (hE.below hb).1 (hE.below hb).2)
  have HN1 : Hid (∀ (u : Value) (W : World), Below w.heap.size w W → PrR W W.heap.size u P → Calls Tryd.prog 22 #[u, .int .i64 a, .int .i64 x, .int .u64 (s : Int)] W fun e w' => e = .returned (.tuple #[.agg #[.int .i64 ((postV P a x s).1 : Int), .int .i64 ((postV P a x s).2 : Int)], .int .i64 (postE P a x s)]) ∧ Below W.heap.size W w') := Lib.hid (fun u W hb h => (aPosterior_any P u a x s W h hs (hE.below hb).1))
  have HN2 : Hid (∀ (u : Value) (W : World), PrR W W.heap.size u P → Calls Tryd.prog 23 #[u, .int .i64 a, .int .i64 x, .int .u64 (s : Int)] W fun e w' => e = .returned (.tuple #[.agg #[.int .i64 ((postV P a x s).1 : Int), .int .i64 ((postV P a x s).2 : Int)], .int .i64 (postE P a x s)]) ∧ Below W.heap.size W w') := Lib.hid (fun u W h => (rPosterior_any P u a x s W h hs))
  have HN3 : Hid (∀ (u : Value) (W : World), Below w.heap.size w W → PrR W W.heap.size u P → Calls Tryd.prog 24 #[u, .int .i64 a, .int .u64 (s : Int)] W (GivesLF (postsL P a s) (postsL P a s).length (postsE P a s) W)) := Lib.hid (fun u W hb h => (aPostsE_any P u a s W h hs (hE.below hb).1))
  have HN4 : Hid (∀ (u : Value) (W : World), PrR W W.heap.size u P → Calls Tryd.prog 25 #[u, .int .i64 a, .int .u64 (s : Int)] W (GivesLF (postsL P a s) (postsL P a s).length (postsE P a s) W)) := Lib.hid (fun u W h => (rPostsE_any P u a s W h hs))
  have HN5 : Hid (∀ (u : Value) (W : World), Below w.heap.size w W → PrR W W.heap.size u P → Calls Tryd.prog 26 #[u, .int .i64 x, .int .u64 (s : Int)] W fun e w' => e = .returned (.tuple #[.bool (agV P x s), .int .i64 (agE P x s)]) ∧ Below W.heap.size W w') := Lib.hid (fun u W hb h => (aAgree_any P u x s W h hs (hE.below hb).1))
  have HN6 : Hid (∀ (u : Value) (W : World), PrR W W.heap.size u P → Calls Tryd.prog 27 #[u, .int .i64 x, .int .u64 (s : Int)] W fun e w' => e = .returned (.tuple #[.bool (agV P x s), .int .i64 (agE P x s)]) ∧ Below W.heap.size W w') := Lib.hid (fun u W h => (rAgree_any P u x s W h hs))
  have HSF := Lib.hid sameFr_self
  have hpl := postsL_len P a s
  obtain ⟨A1, c1, A2, c2, rfl, hv, hr⟩ := hM.ex
  have hb1 : Below w.heap.size w (w.alloc (.cells #[.slice A1 P.wt.length c1, .slice A2 P.cells.length c2] 25)) := (Below.refl _ w).alloc (Nat.le_refl _) _
  have hx0 := BoxP.made hM
  have hsz : (w.alloc (.cells #[.slice A1 P.wt.length c1, .slice A2 P.cells.length c2] 25)).heap.size = w.heap.size + 1 := by simp
  have hb2 : Below (w.alloc (.cells #[.slice A1 P.wt.length c1, .slice A2 P.cells.length c2] 25)).heap.size (w.alloc (.cells #[.slice A1 P.wt.length c1, .slice A2 P.cells.length c2] 25)) ((w.alloc (.cells #[.slice A1 P.wt.length c1, .slice A2 P.cells.length c2] 25)).alloc (.cells #[.int .i64 a, .int .i64 x] 39)) := (Below.refl _ _).alloc (Nat.le_refl _) _
  have hy0 := BoxA.made (w.alloc (.cells #[.slice A1 P.wt.length c1, .slice A2 P.cells.length c2] 25)) a x
  rw [hsz] at hy0
  have HB0 := Lib.hid (belowNext hb1 hb2)
  have X0 := Lib.hid (hx0.step hb2)
  have Y0 := Lib.hid hy0
  clear hM hv hr hE hs hb1 hb2 hx0 hy0 hsz
  generalize P.wt.length = n at *
  generalize P.cells.length = m at *
  generalize (postsL P a s).length = k at *
  generalize postV P a x s = Q at *
  generalize postsL P a s = L at *
  generalize agV P x s = AG at *
  generalize postE P a x s = E1 at *
  generalize postsE P a s = E2 at *
  generalize agE P x s = E3 at *
  obtain ⟨q1, q2⟩ := Q
  dsimp only at HN1 HN2
  have HEQ : Hid (∀ W : World, (binOp .eql 41 (.agg #[.int .i64 (q1 : Int), .int .i64 (q2 : Int)]) (.agg #[.int .i64 (q1 : Int), .int .i64 (q2 : Int)])).run Tryd.prog W = .ok (.bool true) W) := Lib.hid (fun W => by
    have h := eqFrB (q1, q2) (q1, q2) W
    rw [show eqQ (q1, q2) (q1, q2) = true by unfold eqQ; exact decide_eq_true rfl] at h
    exact h)
  go_enter Tryd.func4, Tryd.ntmps4
  have x0_0 := X0.out.1.c0
  have x0_1 := X0.out.1.c1
  go_wp2_with fail
  clear x0_0 x0_1
  refine (HFW.out _ 20 _ X0.out.2).mono ?_
  rintro e w1 ⟨b, rfl, hb⟩
  have HB1 := Lib.hid (belowNext HB0.out hb)
  have hX0 := X0.out.step hb
  clear X0
  have X0 := Lib.hid hX0
  clear hX0
  have hY0 := Y0.out.step hb
  clear Y0
  have Y0 := Lib.hid hY0
  clear hY0
  clear HB0
  clear hb
  cases b
  case false =>
    go_wp2_with fail
    refine (HAW.out _ HB1.out).mono ?_
    rintro e w2 ⟨rfl, hb⟩
    have HB2 := Lib.hid (belowNext HB1.out hb)
    have hX0 := X0.out.step hb
    clear X0
    have X0 := Lib.hid hX0
    clear hX0
    have hY0 := Y0.out.step hb
    clear Y0
    have Y0 := Lib.hid hY0
    clear hY0
    clear HB1
    clear hb
    go_wp2
    go_ret
    exact ⟨rfl, HB2.out⟩
  case true =>
    have x0_0 := X0.out.1.c0
    have x0_1 := X0.out.1.c1
    have y0_0 := Y0.out.c0
    have y0_1 := Y0.out.c1
    go_wp2_with fail
    clear x0_0 x0_1 y0_0 y0_1
    refine (HN1.out _ _ HB1.out X0.out.2).mono ?_
    rintro e w2 ⟨rfl, hb⟩
    have HB2 := Lib.hid (belowNext HB1.out hb)
    have hX0 := X0.out.step hb
    clear X0
    have X0 := Lib.hid hX0
    clear hX0
    have hY0 := Y0.out.step hb
    clear Y0
    have Y0 := Lib.hid hY0
    clear hY0
    clear HB1
    clear hb
    have hb : Below w2.heap.size w2 (w2.alloc (.cells #[.int .i64 (q1 : Int), .int .i64 (q2 : Int)] 41)) := (Below.refl _ w2).alloc (Nat.le_refl _) _
    have HB3 := Lib.hid (belowNext HB2.out hb)
    have hX0 := X0.out.step hb
    clear X0
    have X0 := Lib.hid hX0
    clear hX0
    have hY0 := Y0.out.step hb
    clear Y0
    have Y0 := Lib.hid hY0
    clear hY0
    clear HB2
    have F1 := Lib.hid (BoxF.made w2 (q1, q2))
    clear hb
    dsimp only at F1
    have x0_0 := X0.out.1.c0
    have x0_1 := X0.out.1.c1
    have y0_0 := Y0.out.c0
    have y0_1 := Y0.out.c1
    go_wp2_with fail
    clear x0_0 x0_1 y0_0 y0_1
    generalize w2.alloc (.cells #[.int .i64 (q1 : Int), .int .i64 (q2 : Int)] 41) = w3 at *
    generalize w2.heap.size = GF1 at *
    refine (HN2.out _ _ X0.out.2).mono ?_
    rintro e w4 ⟨rfl, hb⟩
    have HB4 := Lib.hid (belowNext HB3.out hb)
    have hX0 := X0.out.step hb
    clear X0
    have X0 := Lib.hid hX0
    clear hX0
    have hY0 := Y0.out.step hb
    clear Y0
    have Y0 := Lib.hid hY0
    clear hY0
    have hF1 := F1.out.step hb
    clear F1
    have F1 := Lib.hid hF1
    clear hF1
    clear HB3
    clear hb
    have hb : Below w4.heap.size w4 (w4.alloc (.cells #[.int .i64 (q1 : Int), .int .i64 (q2 : Int)] 41)) := (Below.refl _ w4).alloc (Nat.le_refl _) _
    have HB5 := Lib.hid (belowNext HB4.out hb)
    have hX0 := X0.out.step hb
    clear X0
    have X0 := Lib.hid hX0
    clear hX0
    have hY0 := Y0.out.step hb
    clear Y0
    have Y0 := Lib.hid hY0
    clear hY0
    have hF1 := F1.out.step hb
    clear F1
    have F1 := Lib.hid hF1
    clear hF1
    clear HB4
    have F2 := Lib.hid (BoxF.made w4 (q1, q2))
    clear hb
    dsimp only at F2
    have x0_0 := X0.out.1.c0
    have x0_1 := X0.out.1.c1
    have y0_0 := Y0.out.c0
    have y0_1 := Y0.out.c1
    go_wp2_with fail
    clear x0_0 x0_1 y0_0 y0_1
    generalize w4.alloc (.cells #[.int .i64 (q1 : Int), .int .i64 (q2 : Int)] 41) = w5 at *
    generalize w4.heap.size = GF2 at *
    refine (HN3.out _ _ HB5.out X0.out.2).mono ?_
    rintro e w6 ⟨B1, e1, rfl, hl, hb⟩
    have HB6 := Lib.hid (belowNext HB5.out hb)
    have hX0 := X0.out.step hb
    clear X0
    have X0 := Lib.hid hX0
    clear hX0
    have hY0 := Y0.out.step hb
    clear Y0
    have Y0 := Lib.hid hY0
    clear hY0
    have hF1 := F1.out.step hb
    clear F1
    have F1 := Lib.hid hF1
    clear hF1
    have hF2 := F2.out.step hb
    clear F2
    have F2 := Lib.hid hF2
    clear hF2
    clear HB5
    have L1 := Lib.hid hl
    clear hb hl
    have x0_0 := X0.out.1.c0
    have x0_1 := X0.out.1.c1
    have y0_0 := Y0.out.c0
    have y0_1 := Y0.out.c1
    go_wp2_with fail
    clear x0_0 x0_1 y0_0 y0_1
    refine (HN4.out _ _ X0.out.2).mono ?_
    rintro e w7 ⟨B2, e2, rfl, hl, hb⟩
    have HB7 := Lib.hid (belowNext HB6.out hb)
    have hX0 := X0.out.step hb
    clear X0
    have X0 := Lib.hid hX0
    clear hX0
    have hY0 := Y0.out.step hb
    clear Y0
    have Y0 := Lib.hid hY0
    clear hY0
    have hF1 := F1.out.step hb
    clear F1
    have F1 := Lib.hid hF1
    clear hF1
    have hF2 := F2.out.step hb
    clear F2
    have F2 := Lib.hid hF2
    clear hF2
    have hL1 := L1.out.step hb
    clear L1
    have L1 := Lib.hid hL1
    clear hL1
    clear HB6
    have L2 := Lib.hid hl
    clear hb hl
    have x0_0 := X0.out.1.c0
    have x0_1 := X0.out.1.c1
    have y0_0 := Y0.out.c0
    have y0_1 := Y0.out.c1
    go_wp2_with fail
    clear x0_0 x0_1 y0_0 y0_1
    refine (HN5.out _ _ HB7.out X0.out.2).mono ?_
    rintro e w8 ⟨rfl, hb⟩
    have HB8 := Lib.hid (belowNext HB7.out hb)
    have hX0 := X0.out.step hb
    clear X0
    have X0 := Lib.hid hX0
    clear hX0
    have hY0 := Y0.out.step hb
    clear Y0
    have Y0 := Lib.hid hY0
    clear hY0
    have hF1 := F1.out.step hb
    clear F1
    have F1 := Lib.hid hF1
    clear hF1
    have hF2 := F2.out.step hb
    clear F2
    have F2 := Lib.hid hF2
    clear hF2
    have hL1 := L1.out.step hb
    clear L1
    have L1 := Lib.hid hL1
    clear hL1
    have hL2 := L2.out.step hb
    clear L2
    have L2 := Lib.hid hL2
    clear hL2
    clear HB7
    clear hb
    have x0_0 := X0.out.1.c0
    have x0_1 := X0.out.1.c1
    have y0_0 := Y0.out.c0
    have y0_1 := Y0.out.c1
    go_wp2_with fail
    clear x0_0 x0_1 y0_0 y0_1
    refine (HN6.out _ _ X0.out.2).mono ?_
    rintro e w9 ⟨rfl, hb⟩
    have HB9 := Lib.hid (belowNext HB8.out hb)
    have hX0 := X0.out.step hb
    clear X0
    have X0 := Lib.hid hX0
    clear hX0
    have hY0 := Y0.out.step hb
    clear Y0
    have Y0 := Lib.hid hY0
    clear hY0
    have hF1 := F1.out.step hb
    clear F1
    have F1 := Lib.hid hF1
    clear hF1
    have hF2 := F2.out.step hb
    clear F2
    have F2 := Lib.hid hF2
    clear hF2
    have hL1 := L1.out.step hb
    clear L1
    have L1 := Lib.hid hL1
    clear hL1
    have hL2 := L2.out.step hb
    clear L2
    have L2 := Lib.hid hL2
    clear hL2
    clear HB8
    clear hb
    have f1_0 := F1.out.1.c0
    have f1_1 := F1.out.1.c1
    have f2_0 := F2.out.1.c0
    have f2_1 := F2.out.1.c1
    have hEQ := HEQ.out
    go_wp2_with fail
    clear f1_0 f1_1 f2_0 f2_1
    clear hEQ
    refine (HSF.out _ _ _ _ _ _ _ L1.out L2.out (by omega)).mono ?_
    rintro e w10 ⟨rfl, hb⟩
    have HB10 := Lib.hid (belowNext HB9.out hb)
    have hX0 := X0.out.step hb
    clear X0
    have X0 := Lib.hid hX0
    clear hX0
    have hY0 := Y0.out.step hb
    clear Y0
    have Y0 := Lib.hid hY0
    clear hY0
    have hF1 := F1.out.step hb
    clear F1
    have F1 := Lib.hid hF1
    clear hF1
    have hF2 := F2.out.step hb
    clear F2
    have F2 := Lib.hid hF2
    clear hF2
    have hL1 := L1.out.step hb
    clear L1
    have L1 := Lib.hid hL1
    clear hL1
    have hL2 := L2.out.step hb
    clear L2
    have L2 := Lib.hid hL2
    clear hL2
    clear HB9
    clear hb
    go_wp2_with fail
    refine (HAW.out _ HB10.out).mono ?_
    rintro e w12 ⟨rfl, hb⟩
    have HB11 := Lib.hid (belowNext HB10.out hb)
    have hX0 := X0.out.step hb
    clear X0
    have X0 := Lib.hid hX0
    clear hX0
    have hY0 := Y0.out.step hb
    clear Y0
    have Y0 := Lib.hid hY0
    clear hY0
    have hF1 := F1.out.step hb
    clear F1
    have F1 := Lib.hid hF1
    clear hF1
    have hF2 := F2.out.step hb
    clear F2
    have F2 := Lib.hid hF2
    clear hF2
    have hL1 := L1.out.step hb
    clear L1
    have L1 := Lib.hid hL1
    clear hL1
    have hL2 := L2.out.step hb
    clear L2
    have L2 := Lib.hid hL2
    clear hL2
    clear HB10
    clear hb
    go_wp2
    go_ret
    exact ⟨rfl, HB11.out⟩
set_option maxRecDepth 100000 in
theorem contract (H : Type) (enc : TypeId × Value → H) (W : World) (base : Nat) (args : Array Value) (ds gs : List (DataW H)) (before : List MemPlace)
    (hval : ∀ (j : Nat) t v, Tryd.f4.params[j]? = some t → args[j]? = some v → Value.okWide Tryd.prog W .any base t v)
    (hW : DataW.Whole enc Tryd.prog Tryd.f4.params.toList Rows.agreementPosteriorsSpec.vars false W args.toList ds gs before) (hE : Tab W ∧ FinW W) :
    Calls Tryd.prog 4 args W fun e W' => ∃ v, e = .returned v ∧ Rows.agreementPosteriorsSpec.post enc Tryd.prog Tryd.f4 false true false false W args v W' := by
  have hW' := hW
  obtain ⟨p, q, hA0, hV, rfl, hfz, hnd⟩ := hW
  have hA : DataW.TrodAll enc Tryd.prog W 0 (fun _ => true) true Tryd.f4.params.toList args.toList ds p := hA0
  rw [Tryd.params4] at hA hval
  obtain ⟨v0, vs0, d0, ds0, p0, q0, hargs, rfl, rfl, h0, r0⟩ := trodAll_cons hA
  obtain ⟨v1, vs1, d1, ds1, p1, q1, rfl, rfl, rfl, h1, r1⟩ := trodAll_cons r0
  obtain ⟨v2, vs2, d2, ds2, p2, q2, rfl, rfl, rfl, h2, r2⟩ := trodAll_cons r1
  obtain ⟨rfl, rfl, rfl⟩ := trodAll_nil r2
  obtain rfl : args = #[v0, v1, v2] := by cases args; simp_all
  obtain ⟨rfl, rfl⟩ := trodVars_none hV
  obtain ⟨P0, w0⟩ := open_prior (hval 0 25 v0 rfl rfl) h0
  have k0 := h0
  have lt0 : ∀ x ∈ p0, x.block < W.heap.size := by obtain ⟨m, hm⟩ := k0; exact DataW.trod_lt m _ _ _ hm
  obtain ⟨x0, x1, rfl⟩ := open_arr2 (hval 1 39 v1 rfl rfl) h1
  have k1 := h1
  have lt1 : ∀ x ∈ p1, x.block < W.heap.size := by obtain ⟨m, hm⟩ := k1; exact DataW.trod_lt m _ _ _ hm
  obtain ⟨g2, rfl, rfl, rfl, w2⟩ := open_int Tryd.underlying28 (hval 2 28 v2 rfl rfl) h2
  obtain ⟨g2, rfl, hu2⟩ : ∃ n : Nat, g2 = (n : Int) ∧ n < 18446744073709551616 := by have hz := w2; have q1 : IntKind.u64.min = 0 := rfl; have q2 : IntKind.u64.max = 18446744073709551615 := rfl; simp [Lit.wf] at hz; exact ⟨g2.toNat, by omega, by omega⟩
  clear hA0
  simp only [List.append_nil] at hW'
  have hwalk := walk P0 v0 x0 x1 g2 W w0 hu2 hE
  refine hwalk.mono fun e W' ⟨he, hg⟩ => ?_
  subst he
  exact ⟨_, rfl, _, _, _, [], _, [], hW', trodAll_mk1 (shut_bool Tryd.underlying4 _), (trodAll_cons_mk (Below.trod laidOut (by kernel_rfl) (of_decide_eq_true (by kernel_rfl)) k0 hg lt0) (trodAll_cons_mk (Below.trod laidOut (by kernel_rfl) (of_decide_eq_true (by kernel_rfl)) k1 hg lt1) (trodAll_cons_mk (shut_int Tryd.underlying28 w2) trodAll_mk0))), rfl, hg.frame _, fun h => by cases h⟩
theorem reads (os : Os) {H : Type} (enc : TypeId × Value → H) : ∃ places, DataW.whole enc Tryd.prog ((laidW os).forCall (fun _ _ => 0) ⟨#[], #[.agg #[.slice none 0 0, .slice none 0 0], .agg #[.int .i64 0, .int .i64 0], .int .u64 0], []⟩).memory Tryd.f4.params.toList Rows.agreementPosteriorsSpec.vars false #[(.agg #[.slice none 0 0, .slice none 0 0] : Value), (.agg #[.int .i64 0, .int .i64 0] : Value), (.int .u64 0 : Value)].toList 8 = some ([.agg [.nil, .nil], .agg [.lit (.int .i64 0), .lit (.int .i64 0)], .lit (.int .u64 0)], [], places) :=
  ⟨[], by kernel_rfl⟩
set_option maxRecDepth 100000 in
theorem lifted (os : Os) (started : os.Started) (H : Type) (enc : TypeId × Value → H) (F : Stop.Interp) :
    ReturnsInHanded {} Tryd.checked os 4 .any ((OpenSpec.ofChange Rows.agreementPosteriorsSpec).preRow enc Tryd.prog Tryd.f4 Rows.agreementPosteriorsRow.domain false Rows.agreementPosteriorsRow.laid) (((OpenSpec.ofChange Rows.agreementPosteriorsSpec).at F).post enc Tryd.prog Tryd.f4 false true false false) := by
  obtain ⟨places, hx⟩ := reads os enc
  refine returnsInHanded_of_row (C := Tryd.checked) (s := OpenSpec.ofChange Rows.agreementPosteriorsSpec) own started (by kernel_rfl) Tryd.func4
    (witness_row_atRef (enc := enc) (C := Tryd.checked) false (laidW os) #[.agg #[.slice none 0 0, .slice none 0 0], .agg #[.int .i64 0, .int .i64 0], .int .u64 0] (laidW_os os) (vars_ok os _) (heap_ok os _) (by kernel_rfl)
      (OpenSpec.preRow_of_cond 8 hx (by kernel_rfl) (fun k hk => by cases hk) (by kernel_rfl) (laid_met os _))) ?_
  intro W base args ds gs before hval hW _ _ _ hL hsh _
  exact contract H enc W base args ds gs before hval hW (env_of hL)
theorem said : Rows.AgreementPosteriorsSaid :=
  OpenClaim.holds_of_cond 4 Tryd.f4 rfl rfl rfl rfl rfl rfl rfl ⟨rfl, rfl, rfl, rfl, rfl⟩ rfl rfl rfl rfl rfl (by kernel_rfl) Tryd.func4 (by kernel_rfl)
    (of_decide_eq_true (by kernel_rfl)) (by unfold Func.isWrapper; first | (rw [if_pos (by decide +kernel)]; kernel_rfl) | (rw [if_neg (by decide +kernel)]; exact ⟨rfl, rfl⟩))
    (fun os started H enc _ F => by rw [OpenClaim.pre_eq_preRow]; exact lifted os started H enc F)
theorem plain (f : FuncId) (fn : Func) (hf : Tryd.pinned.checked.prog.funcNamed "witting/wittinglaw24.AgreementPosteriors" = some f) (hfn : Tryd.pinned.checked.prog.funcs[f]? = some fn) :
    false = Tryd.pinned.checked.prog.looks [] ∧ ∀ (j : Nat) t, fn.params[j]? = some t → Tryd.pinned.checked.prog.wantsStandIn t = false := by
  obtain rfl : f = 4 := Option.some.inj ((show Tryd.prog.funcNamed "witting/wittinglaw24.AgreementPosteriors" = some 4 by kernel_rfl).symm.trans hf) |>.symm
  obtain rfl : fn = Tryd.f4 := (Option.some.inj (Tryd.func4.symm.trans hfn)).symm
  refine ⟨no_looks, fun j t ht => ?_⟩
  rw [Tryd.params4] at ht
  have hm : t ∈ [25, 39, 28] := by simpa using Array.mem_of_getElem? ht
  have hall : ([25, 39, 28].all fun u => !Tryd.prog.wantsStandIn u) = true := by kernel_rfl
  exact (show Tryd.prog.wantsStandIn t = false by simpa using List.all_eq_true.1 hall t hm)
theorem card : Rows.AgreementPosteriorsCardSaid :=
  Claim7.holds_tied_plain_at .later [] _ _ _ _ said (fun _ h => by cases h) (by kernel_rfl) (fun _ h => by cases h) agreementPosteriors_row_tie rfl ⟨rfl, rfl⟩ (by kernel_rfl) rfl plain (by kernel_rfl)
#print axioms card
end Go.Proofs.YtfbgabcdeecpoaaDoor.agreementPosteriors
