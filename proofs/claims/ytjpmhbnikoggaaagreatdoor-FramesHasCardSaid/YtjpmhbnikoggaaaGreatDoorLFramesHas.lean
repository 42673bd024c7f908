/- Layer 15: FramesHas: the properties of logics, and which relations and models satisfy them. -/
import Derived.Test.YtjpmhbnikoggaaaGreatDoorNIi
import Derived.Test.YtjpmhbnikoggaaaGreatDoorNIq
import Derived.Test.YtjpmhbnikoggaaaGreatDoorNJo
namespace Go.Proofs.YtjpmhbnikoggaaaGreatDoor.framesHas
open Go.ChangeShapes Go.WideShapes Go.ChangeAt Go.RowKit Go.Proofs.YtjpmhbnikoggaaaGreatDoor Go.Proofs.YtjpmhbnikoggaaaGreatDoor.fra Go.Proofs.Ws
open Go.ChangeMaps (open_string shut_string)
section
variable {H : Type} {enc : TypeId × Value → H} {w : World} {base : Nat} {spare : Nat → Bool} {held : Bool}
theorem nil_words {fuel : Nat} {A : Option Addr} {n c : Nat} {x : DataW H × List MemPlace} (h : DataW.trod enc Tryz.prog w base spare held fuel 22 [.slice A n c] = some x) : A = none → c = 0 := by
  rcases open_ints Tryz.underlying22 Tryz.underlying37 (by kernel_rfl) h with ⟨hcs, _⟩ | ⟨a, len, cap, zs, hcs, _, hl, hm, hz, _, hcell, hwz⟩
  · simp at hcs
    exact fun _ => hcs.2.2
  · simp at hcs
    intro e
    rw [e] at hcs
    exact absurd hcs.1 (by simp)
end
set_option maxRecDepth 100000
set_option maxHeartbeats 16000000 in
theorem walk (m : Mo) (v : Value) (l : List Nat) (A : Option Addr) (n c : Nat) (g : Int) (w : World) (hM : MoR w w.heap.size v m) (hR : Reads w w.heap.size 1 A n (us l)) (hw : Words l) (hm : n ≤ maxLen) (hA : A = none → c = 0) (hT : Tab w) :
    Calls Tryz.prog 3 #[v, .slice A n c, .int .i64 g] w fun e w' => e = .returned (.bool true) ∧ Below w.heap.size w w' := by
  obtain ⟨A1, c1, A2, c2, rfl, hv, hr⟩ := hM.ex
  have HMW := Lib.hid (fun W (hb : Below w.heap.size w W) => hM.below hb hb.size)
  have HTW := Lib.hid (fun W (hb : Below w.heap.size w W) => hT.below hb)
  have HAW : Hid (∀ W, Below w.heap.size w W → Calls Tryz.prog 8 #[] W fun e w' => e = .returned (.bool true) ∧ Below W.heap.size W w') := Lib.hid (fun W hb => awake_any W (hT.below hb))
  have HFW : Hid (∀ W, Below w.heap.size w W → Calls Tryz.prog 7 #[.agg #[.int .i64 m.n, .slice A1 m.val.length c1, .slice A2 m.rel.length c2], .int .i64 12] W fun e w' => e = .returned (.bool (fewK m 12)) ∧ Below W.heap.size W w') := Lib.hid (fun W hb => rFewK_any m _ 12 W (HMW.out W hb))
  have HB0 := Lib.hid ((Below.refl w.heap.size w).alloc (Nat.le_refl _) (.cells #[.int .i64 m.n, .slice A1 m.val.length c1, .slice A2 m.rel.length c2] 25))
  have KB0 : Hid ((w.alloc (.cells #[.int .i64 m.n, .slice A1 m.val.length c1, .slice A2 m.rel.length c2] 25)).heap[w.heap.size]? = some (.cells #[.int .i64 m.n, .slice A1 m.val.length c1, .slice A2 m.rel.length c2] 25)) := Lib.hid (heap_alloc_new w _)
  have HLT : Hid (w.heap.size < (w.alloc (.cells #[.int .i64 m.n, .slice A1 m.val.length c1, .slice A2 m.rel.length c2] 25)).heap.size) := Lib.hid (by simp)
  have LB0 := Lib.hid (MBox.made w m.n (.slice A1 m.val.length c1) (.slice A2 m.rel.length c2))
  have HPP := Lib.hid (fun W => pPro_any g W)
  have HRP := Lib.hid (fun W => rPro_any g W)
  unfold GivesP at HPP HRP
  have HPH := Lib.hid (fun W (hb : Below w.heap.size w W) => pHas_any l A n c g W ((hR.below hb).more hb.size) hw hm (hT.below hb))
  have HRH := Lib.hid (fun W (hb : Below w.heap.size w W) => rHasG_any l A n c g W ((hR.below hb).more hb.size) hw hm hA)
  have HPI := Lib.hid (fun W (hb : Below w.heap.size w W) => pIn_any m _ g W (HMW.out W hb) (HTW.out W hb))
  have HRI := Lib.hid (fun W (hb : Below w.heap.size w W) => rInG_any m _ g W (HMW.out W hb))
  have hk3 := proL_len g
  clear hM hv hr hT hR hw hm hA
  generalize qB (HasG l g) = bh at *
  generalize qB (InG m g) = bi at *
  go_enter Tryz.func3, Tryz.ntmps3
  by_cases hf : fewK m 12 = true
  case neg =>
    have hf2 : fewK m 12 = false := by simpa using hf
    rw [hf2] at HFW
    clear hf hf2
    go_wp2_with fail
    refine (HFW.out _ HB0.out).mono ?_
    rintro e w3 ⟨rfl, hb⟩
    have HB3 := Lib.hid (HB0.out.trans (hb.mono HB0.out.size))
    clear hb
    go_wp2_with fail
    refine (HAW.out _ HB3.out).mono ?_
    rintro e w9 ⟨rfl, hb⟩
    have HB9 := Lib.hid (HB3.out.trans (hb.mono HB3.out.size))
    clear hb
    go_wp2
    go_ret
    exact ⟨rfl, HB9.out⟩
  rw [hf] at HFW
  clear hf
  by_cases hn : n ≤ 12
  case neg =>
    have d1 : decide ((12 : Int) < (n : Int)) = true := decide_eq_true (by omega)
    clear hn
    go_wp2_with fail
    refine (HFW.out _ HB0.out).mono ?_
    rintro e w3 ⟨rfl, hb⟩
    have HB3 := Lib.hid (HB0.out.trans (hb.mono HB0.out.size))
    clear hb
    go_wp2_with fail
    refine (HAW.out _ HB3.out).mono ?_
    rintro e w9 ⟨rfl, hb⟩
    have HB9 := Lib.hid (HB3.out.trans (hb.mono HB3.out.size))
    clear hb
    go_wp2
    go_ret
    exact ⟨rfl, HB9.out⟩
  have d1 : decide ((12 : Int) < (n : Int)) = false := decide_eq_false (by omega)
  clear hn
  go_wp2_with fail
  refine (HFW.out _ HB0.out).mono ?_
  rintro e w1 ⟨rfl, hb⟩
  have HB1 := Lib.hid (HB0.out.trans (hb.mono HB0.out.size))
  have KB1 := Lib.hid ((hb.block _ HLT.out).trans KB0.out)
  have HL1 := Lib.hid (Nat.lt_of_lt_of_le HLT.out hb.size)
  clear hb HFW
  generalize hPL : proL g = PL at *
  generalize hk : PL.length = k at *
  clear hPL
  have HKK := Lib.hid hk
  clear hk
  go_wp2_with fail
  refine (HPP.out _).mono ?_
  rintro e w2 ⟨D, d, rfl, hr, hb⟩
  have HB2 := Lib.hid (HB1.out.trans (hb.mono HB1.out.size))
  have HR2 := Lib.hid hr
  have HU2 := Lib.hid hb
  clear hb hr
  go_wp2_with fail
  refine (HRP.out _).mono ?_
  rintro e w3 ⟨D2, d2, rfl, hr, hb⟩
  have HB3 := Lib.hid (HB2.out.trans (hb.mono HB2.out.size))
  have HR3 := Lib.hid ((HR2.out.below hb).more hb.size)
  have HS3 := Lib.hid hr
  have KB3 := Lib.hid (((HU2.out.trans (hb.mono HU2.out.size)).block _ HL1.out).trans KB1.out)
  have HL3 := Lib.hid (Nat.lt_of_lt_of_le HL1.out (HU2.out.trans (hb.mono HU2.out.size)).size)
  have HU : Hid (∀ W, Below w3.heap.size w3 W → Below w.heap.size w W ∧ W.heap[w.heap.size]? = some (.cells #[.int .i64 m.n, .slice A1 m.val.length c1, .slice A2 m.rel.length c2] 25)) := Lib.hid (fun W hb => ⟨HB3.out.trans (hb.mono HB3.out.size), (hb.block _ HL3.out).trans KB3.out⟩)
  clear hb hr HR2 HU2 HPP HRP d1
  generalize proE g = eg at *
  go_wp2
  go_loopw [11] (fun i wr => ∃ j : Nat, j ≤ k ∧ i = .int .i64 (j : Int) ∧ Hid (Below w3.heap.size w3 wr)) (fun i _ => k - (intOf i).toNat)
  case atStart => exact ⟨0, Nat.zero_le _, rfl, Lib.hid (Below.refl _ _)⟩
  case round =>
    obtain ⟨j, hj, rfl, HBr⟩ := hrel
    by_cases hlt : j < k
    · obtain ⟨a1, rfl, _, hc1⟩ := ((HR3.out.below HBr.out).more HBr.out.size).int_k hlt
      obtain ⟨a2, rfl, _, hc2⟩ := ((HS3.out.below HBr.out).more HBr.out.size).int_k hlt
      generalize PL.getD j 0 = p at *
      go_wp2
      go_quiet (fail)
      go_wp2
      have HBq := Lib.hid (below_drewN HBr.out nq)
      clear hc1 hc2
      go_roundw
      case rel => exact ⟨j + 1, by omega, by go_num, HBq⟩
      case measure => first | (simp [intOf]; done) | (simp [intOf]; omega)
    · have HPH1 := Lib.hid (fun W (hb : Below w3.heap.size w3 W) => HPH.out W (HU.out W hb).1)
      have HRH1 := Lib.hid (fun W (hb : Below w3.heap.size w3 W) => HRH.out W (HU.out W hb).1)
      have HPI1 := Lib.hid (fun W (hb : Below w3.heap.size w3 W) => HPI.out W (HU.out W hb).1)
      have HRI1 := Lib.hid (fun W (hb : Below w3.heap.size w3 W) => HRI.out W (HU.out W hb).1)
      have HAK := Lib.hid (fun W (hb : Below w3.heap.size w3 W) => HAW.out W (HU.out W hb).1)
      clear HPH HRH HPI HRI HAW HMW HTW
      have e1 : (bh == bh) = true := by simp
      have e2 : (bi == bi) = true := by simp
      go_wp2
      refine wp_region_mix [.slice A n c, .int .i64 g, .bool bh, .slice A n c, .int .i64 g, .bool bh, .bool true, .bool true, .agg #[.int .i64 m.n, .slice A1 m.val.length c1, .slice A2 m.rel.length c2], .int .i64 g, .bool bi, .agg #[.int .i64 m.n, .slice A1 m.val.length c1, .slice A2 m.rel.length c2], .int .i64 g, .bool bi, .bool true, .bool true, .bool true, .bool true, .bool true, .bool true] [56, 57, 58, 59, 60, 61, 62, 63, 64, 65, 66, 67, 68, 69, 70, 71, 72, 73, 74, 6] [2, 5, 6, 8, 10, 11, 13, 14, 17] (fun W => Below w3.heap.size w3 W) (fun W W' => Below W.heap.size W W') 20 75 rfl rfl rfl rfl (by decide) (by decide) (by kernel_rfl) (by kernel_rfl) (by kernel_rfl) (fun W => Below.refl _ W) (fun W1 W2 W3 h1 h2 => h1.trans (h2.mono h1.size)) (fun W W' h h2 => h.trans (h2.mono h.size)) HBr.out.drew (by kernel_rfl) [] rfl ?hop ?fin
      case hop =>
        refine (And.intro ?s2 (And.intro ?s5 (And.intro ?s6 (And.intro ?s8 (And.intro ?s10 (And.intro ?s11 (And.intro ?s13 (And.intro ?s14 (And.intro ?s17 trivial)))))))))
        case s2 =>
          refine And.intro (by rfl) (fun tm W hS hsz hfr hdep K hK => ?_)
          change tm.size = 75 at hsz
          have t56 : tm.getD 56 undef = .slice A n c := hdep 0 (by rfl) (by decide)
          have t57 : tm.getD 57 undef = .int .i64 g := hdep 1 (by rfl) (by decide)
          clear hdep hfr
          refine wp_call _ _ _ _ _ rfl rfl (by simp [Act.eval, t56, t57]) (by kernel_rfl) (HPH1.out W hS) (fun e W9 h9 => ?_)
          obtain ⟨rfl, hb9⟩ := h9
          exact ⟨_, rfl, hK W9 hb9⟩
        case s5 =>
          refine And.intro (by rfl) (fun tm W hS hsz hfr hdep K hK => ?_)
          change tm.size = 75 at hsz
          have t59 : tm.getD 59 undef = .slice A n c := hdep 3 (by rfl) (by decide)
          have t60 : tm.getD 60 undef = .int .i64 g := hdep 4 (by rfl) (by decide)
          clear hdep hfr
          refine wp_call _ _ _ _ _ rfl rfl (by simp [Act.eval, t59, t60]) (by kernel_rfl) (HRH1.out W hS) (fun e W9 h9 => ?_)
          obtain ⟨rfl, hb9⟩ := h9
          exact ⟨_, rfl, hK W9 hb9⟩
        case s6 =>
          refine And.intro (by rfl) (fun tm W hS hsz hfr hdep K hK => ?_)
          change tm.size = 75 at hsz
          have t58 : tm.getD 58 undef = .bool bh := hdep 2 (by rfl) (by decide)
          have t61 : tm.getD 61 undef = .bool bh := hdep 5 (by rfl) (by decide)
          clear hdep hfr
          go_simp
          exact hK W (Below.refl _ W)
        case s8 =>
          refine And.intro (by rfl) (fun tm W hS hsz hfr hdep K hK => ?_)
          change tm.size = 75 at hsz
          have t3 : tm.getD 3 undef = .pointer (some ⟨w.heap.size, 0, none⟩) := hfr 3 (by rfl)
          have kb := (HU.out W hS).2
          have y0 := (Lib.cell_of_heap kb 0).trans (show _ = some (.int .i64 m.n) from rfl)
          have y1 := (Lib.cell_of_heap kb 1).trans (show _ = some (.slice A1 m.val.length c1) from rfl)
          have y2 := (Lib.cell_of_heap kb 2).trans (show _ = some (.slice A2 m.rel.length c2) from rfl)
          clear kb
          clear hdep hfr
          go_simp
          exact hK W (Below.refl _ W)
        case s10 =>
          refine And.intro (by rfl) (fun tm W hS hsz hfr hdep K hK => ?_)
          change tm.size = 75 at hsz
          have t64 : tm.getD 64 undef = .agg #[.int .i64 m.n, .slice A1 m.val.length c1, .slice A2 m.rel.length c2] := hdep 8 (by rfl) (by decide)
          have t65 : tm.getD 65 undef = .int .i64 g := hdep 9 (by rfl) (by decide)
          clear hdep hfr
          refine wp_call _ _ _ _ _ rfl rfl (by simp [Act.eval, t64, t65]) (by kernel_rfl) (HPI1.out W hS) (fun e W9 h9 => ?_)
          obtain ⟨rfl, hb9⟩ := h9
          exact ⟨_, rfl, hK W9 hb9⟩
        case s11 =>
          refine And.intro (by rfl) (fun tm W hS hsz hfr hdep K hK => ?_)
          change tm.size = 75 at hsz
          have t3 : tm.getD 3 undef = .pointer (some ⟨w.heap.size, 0, none⟩) := hfr 3 (by rfl)
          have kb := (HU.out W hS).2
          have y0 := (Lib.cell_of_heap kb 0).trans (show _ = some (.int .i64 m.n) from rfl)
          have y1 := (Lib.cell_of_heap kb 1).trans (show _ = some (.slice A1 m.val.length c1) from rfl)
          have y2 := (Lib.cell_of_heap kb 2).trans (show _ = some (.slice A2 m.rel.length c2) from rfl)
          clear kb
          clear hdep hfr
          go_simp
          exact hK W (Below.refl _ W)
        case s13 =>
          refine And.intro (by rfl) (fun tm W hS hsz hfr hdep K hK => ?_)
          change tm.size = 75 at hsz
          have t67 : tm.getD 67 undef = .agg #[.int .i64 m.n, .slice A1 m.val.length c1, .slice A2 m.rel.length c2] := hdep 11 (by rfl) (by decide)
          have t68 : tm.getD 68 undef = .int .i64 g := hdep 12 (by rfl) (by decide)
          clear hdep hfr
          refine wp_call _ _ _ _ _ rfl rfl (by simp [Act.eval, t67, t68]) (by kernel_rfl) (HRI1.out W hS) (fun e W9 h9 => ?_)
          obtain ⟨rfl, hb9⟩ := h9
          exact ⟨_, rfl, hK W9 hb9⟩
        case s14 =>
          refine And.intro (by rfl) (fun tm W hS hsz hfr hdep K hK => ?_)
          change tm.size = 75 at hsz
          have t66 : tm.getD 66 undef = .bool bi := hdep 10 (by rfl) (by decide)
          have t69 : tm.getD 69 undef = .bool bi := hdep 13 (by rfl) (by decide)
          clear hdep hfr
          go_simp
          exact hK W (Below.refl _ W)
        case s17 =>
          refine And.intro (by rfl) (fun tm W hS hsz hfr hdep K hK => ?_)
          change tm.size = 75 at hsz
          clear hdep hfr
          refine wp_call _ _ _ _ _ rfl rfl (by rfl) (by kernel_rfl) (HAK.out W hS) (fun e W9 h9 => ?_)
          obtain ⟨rfl, hb9⟩ := h9
          exact ⟨_, rfl, hK W9 hb9⟩
      case fin =>
        intro W hS
        have HS := Lib.hid hS
        clear hS
        simp only [fillD]
        go_simp
        go_wp2
        go_ret
        exact ⟨rfl, (HU.out _ HS.out).1⟩
set_option maxRecDepth 100000 in
theorem contract (H : Type) (enc : TypeId × Value → H) (W : World) (base : Nat) (args : Array Value) (ds gs : List (DataW H)) (before : List MemPlace)
    (hval : ∀ (j : Nat) t v, Tryz.f3.params[j]? = some t → args[j]? = some v → Value.okWide Tryz.prog W .any base t v)
    (hW : DataW.Whole enc Tryz.prog Tryz.f3.params.toList Rows.framesHasSpec.vars false W args.toList ds gs before) (hE : Tab W) :
    Calls Tryz.prog 3 args W fun e W' => ∃ v, e = .returned v ∧ Rows.framesHasSpec.post enc Tryz.prog Tryz.f3 false true false false W args v W' := by
  have hW' := hW
  obtain ⟨p, q, hA0, hV, rfl, hfz, hnd⟩ := hW
  have hA : DataW.TrodAll enc Tryz.prog W 0 (fun _ => true) true Tryz.f3.params.toList args.toList ds p := hA0
  rw [Tryz.params3] at hA hval
  obtain ⟨v0, vs0, d0, ds0, p0, q0, hargs, rfl, rfl, h0, r0⟩ := trodAll_cons hA
  obtain ⟨v1, vs1, d1, ds1, p1, q1, rfl, rfl, rfl, h1, r1⟩ := trodAll_cons r0
  obtain ⟨v2, vs2, d2, ds2, p2, q2, rfl, rfl, rfl, h2, r2⟩ := trodAll_cons r1
  obtain ⟨rfl, rfl, rfl⟩ := trodAll_nil r2
  obtain rfl : args = #[v0, v1, v2] := by cases args; simp_all
  obtain ⟨rfl, rfl⟩ := trodVars_none hV
  obtain ⟨m0, w0⟩ := open_mo (hval 0 25 v0 rfl rfl) h0
  have k0 := h0
  have lt0 : ∀ x ∈ p0, x.block < W.heap.size := by obtain ⟨m, hm⟩ := k0; exact DataW.trod_lt m _ _ _ hm
  obtain ⟨A1, n1, c1, l1, rfl, w1⟩ : ∃ A n c l, v1 = .slice A n c ∧ WRow W A n c l := by
    obtain ⟨fuel, hf⟩ := h1
    have hv9 := hval 1 22 v1 rfl rfl
    obtain ⟨A9, n9, c9, rfl⟩ := okWide_slice Tryz.underlying22 hv9
    exact open_words hf
  have z1 : A1 = none → c1 = 0 := by
    obtain ⟨fuel, hf⟩ := h1
    exact nil_words hf
  have k1 := h1
  have lt1 : ∀ x ∈ p1, x.block < W.heap.size := by obtain ⟨m, hm⟩ := k1; exact DataW.trod_lt m _ _ _ hm
  obtain ⟨g2, rfl, rfl, rfl, w2⟩ := open_int Tryz.underlying3 (hval 2 3 v2 rfl rfl) h2
  clear hA0
  simp only [List.append_nil] at hW'
  have hwalk := walk m0 _ l1 A1 n1 c1 g2 W w0 w1.1 w1.2.1 w1.2.2.2 z1 hE
  refine hwalk.mono fun e W' ⟨he, hg⟩ => ?_
  subst he
  exact ⟨_, rfl, _, _, _, [], _, [], hW', trodAll_mk1 (shut_bool Tryz.underlying4 _), (trodAll_cons_mk (Below.trod laidOut (by kernel_rfl) (of_decide_eq_true (by kernel_rfl)) k0 hg lt0) (trodAll_cons_mk (Below.trod laidOut (by kernel_rfl) (of_decide_eq_true (by kernel_rfl)) k1 hg lt1) (trodAll_cons_mk (shut_int Tryz.underlying3 w2) trodAll_mk0))), rfl, hg.frame _, fun h => by cases h⟩
theorem reads (os : Os) {H : Type} (enc : TypeId × Value → H) : ∃ places, DataW.whole enc Tryz.prog ((laidW os).forCall (fun _ _ => 0) ⟨#[], #[.agg #[.int .i64 0, .slice none 0 0, .slice none 0 0], .slice none 0 0, .int .i64 0], []⟩).memory Tryz.f3.params.toList Rows.framesHasSpec.vars false #[(.agg #[.int .i64 0, .slice none 0 0, .slice none 0 0] : Value), (.slice none 0 0 : Value), (.int .i64 0 : Value)].toList 8 = some ([.agg [.lit (.int .i64 0), .nil, .nil], .nil, .lit (.int .i64 0)], [], places) :=
  ⟨[], by kernel_rfl⟩
set_option maxRecDepth 100000 in
theorem lifted (os : Os) (started : os.Started) (H : Type) (enc : TypeId × Value → H) (F : Stop.Interp) :
    ReturnsInHanded {} Tryz.checked os 3 .any ((OpenSpec.ofChange Rows.framesHasSpec).preRow enc Tryz.prog Tryz.f3 Rows.framesHasRow.domain false Rows.framesHasRow.laid) (((OpenSpec.ofChange Rows.framesHasSpec).at F).post enc Tryz.prog Tryz.f3 false true false false) := by
  obtain ⟨places, hx⟩ := reads os enc
  refine returnsInHanded_of_row (C := Tryz.checked) (s := OpenSpec.ofChange Rows.framesHasSpec) own started (by kernel_rfl) Tryz.func3
    (witness_row_atRef (enc := enc) (C := Tryz.checked) false (laidW os) #[.agg #[.int .i64 0, .slice none 0 0, .slice none 0 0], .slice none 0 0, .int .i64 0] (laidW_os os) (vars_ok os _) (heap_ok os _) (by kernel_rfl)
      (OpenSpec.preRow_of_cond 8 hx (by kernel_rfl) (fun k hk => by cases hk) (by kernel_rfl) (laid_met os _))) ?_
  intro W base args ds gs before hval hW _ _ _ hL hsh _
  exact contract H enc W base args ds gs before hval hW (env_of hL)
theorem said : Rows.FramesHasSaid :=
  OpenClaim.holds_of_cond 3 Tryz.f3 rfl rfl rfl rfl rfl rfl rfl ⟨rfl, rfl, rfl, rfl, rfl⟩ rfl rfl rfl rfl rfl (by kernel_rfl) Tryz.func3 (by kernel_rfl)
    (of_decide_eq_true (by kernel_rfl)) (by unfold Func.isWrapper; first | (rw [if_pos (by decide +kernel)]; kernel_rfl) | (rw [if_neg (by decide +kernel)]; exact ⟨rfl, rfl⟩))
    (fun os started H enc _ F => by rw [OpenClaim.pre_eq_preRow]; exact lifted os started H enc F)
theorem plain (f : FuncId) (fn : Func) (hf : Tryz.pinned.checked.prog.funcNamed "witting/wittinglaw15.FramesHas" = some f) (hfn : Tryz.pinned.checked.prog.funcs[f]? = some fn) :
    false = Tryz.pinned.checked.prog.looks [] ∧ ∀ (j : Nat) t, fn.params[j]? = some t → Tryz.pinned.checked.prog.wantsStandIn t = false := by
  obtain rfl : f = 3 := Option.some.inj ((show Tryz.prog.funcNamed "witting/wittinglaw15.FramesHas" = some 3 by kernel_rfl).symm.trans hf) |>.symm
  obtain rfl : fn = Tryz.f3 := (Option.some.inj (Tryz.func3.symm.trans hfn)).symm
  refine ⟨no_looks, fun j t ht => ?_⟩
  rw [Tryz.params3] at ht
  have hm : t ∈ [25, 22, 3] := by simpa using Array.mem_of_getElem? ht
  have hall : ([25, 22, 3].all fun u => !Tryz.prog.wantsStandIn u) = true := by kernel_rfl
  exact (show Tryz.prog.wantsStandIn t = false by simpa using List.all_eq_true.1 hall t hm)
theorem card : Rows.FramesHasCardSaid :=
  Claim7.holds_tied_plain_at .later [] _ _ _ _ said (fun _ h => by cases h) (by kernel_rfl) (fun _ h => by cases h) framesHas_row_tie rfl ⟨rfl, rfl⟩ (by kernel_rfl) rfl plain (by kernel_rfl)
#print axioms card
end Go.Proofs.YtjpmhbnikoggaaaGreatDoor.framesHas
