/- Layer 15: FramesShows: a model has no defects exactly if it is one of the logic; closing removes all of them; axioms are formulas of knowledge. -/
import Derived.Test.YtkhalapppkhopaaDoorNJq
import Derived.Test.YtkhalapppkhopaaDoorNJz
namespace Go.Proofs.YtkhalapppkhopaaDoor.framesShows
open Go.ChangeShapes Go.WideShapes Go.ChangeAt Go.RowKit Go.Proofs.YtkhalapppkhopaaDoor Go.Proofs.YtkhalapppkhopaaDoor.fra Go.Proofs.Ws
open Go.ChangeMaps (open_string shut_string)
theorem axR_len (p a : Int) (f : List Nd) : (axR p a f).length ≤ maxLen := by
  have h : (axL p a f).length ≤ 200 := by
    unfold axL impF
    repeat' split
    all_goals exact buildF_len _ _
  unfold axR maxLen
  split
  · omega
  · simp
/-- what is known of the values of the region that builds the axiom -/
def vSh (pr : Int) : Nat → Value → World → Prop
  | 2, v, W => ∃ A c, v = .slice A fct.length c ∧ Reads W W.heap.size 6 A fct.length (nds fct)
  | 3, v, W => ∃ A c, v = .tuple #[.slice A (axR pr 1 fct).length c, .int .i64 0] ∧ Reads W W.heap.size 6 A (axR pr 1 fct).length (nds (axR pr 1 fct))
  | 4, v, W => ∃ A c, v = .tuple #[.slice A (axR pr 1 fct).length c, .int .i64 0] ∧ Reads W W.heap.size 6 A (axR pr 1 fct).length (nds (axR pr 1 fct))
  | 5, v, W => ∃ A c, v = .slice A (axR pr 1 fct).length c ∧ Reads W W.heap.size 6 A (axR pr 1 fct).length (nds (axR pr 1 fct))
  | 7, v, W => ∃ A c, v = .slice A (axR pr 1 fct).length c ∧ Reads W W.heap.size 6 A (axR pr 1 fct).length (nds (axR pr 1 fct))
  | _, _, _ => True
theorem vSh_up {pr : Int} : ∀ i v W W', vSh pr i v W → Below W.heap.size W W' → vSh pr i v W' := fun i v W W' h hb => by
  match i, h with
  | 0, _ => trivial
  | 1, _ => trivial
  | 2, ⟨A, c, e, h⟩ => exact ⟨A, c, e, (h.below hb).more hb.size⟩
  | 3, ⟨A, c, e, h⟩ => exact ⟨A, c, e, (h.below hb).more hb.size⟩
  | 4, ⟨A, c, e, h⟩ => exact ⟨A, c, e, (h.below hb).more hb.size⟩
  | 5, ⟨A, c, e, h⟩ => exact ⟨A, c, e, (h.below hb).more hb.size⟩
  | 6, _ => trivial
  | 7, ⟨A, c, e, h⟩ => exact ⟨A, c, e, (h.below hb).more hb.size⟩
  | _ + 8, _ => trivial
set_option maxRecDepth 100000
set_option maxHeartbeats 16000000 in
theorem walk (m : Mo) (v : Value) (g : Int) (w : World) (hM : MoR w w.heap.size v m) (hT : Tab w) :
    Calls Tryd.prog 9 #[v, .int .i64 g] w fun e w' => e = .returned (.bool true) ∧ Below w.heap.size w w' := by
  obtain ⟨A1, c1, A2, c2, rfl, hv, hr⟩ := hM.ex
  have HMW := Lib.hid (fun W (hb : Below w.heap.size w W) => hM.below hb hb.size)
  have HTW := Lib.hid (fun W (hb : Below w.heap.size w W) => hT.below hb)
  have HAW : Hid (∀ W, Below w.heap.size w W → Calls Tryd.prog 11 #[] W fun e w' => e = .returned (.bool true) ∧ Below W.heap.size W w') := Lib.hid (fun W hb => awake_any W (hT.below hb))
  have HFW : Hid (∀ W, Below w.heap.size w W → Calls Tryd.prog 10 #[.agg #[.int .i64 m.n, .slice A1 m.val.length c1, .slice A2 m.rel.length c2], .int .i64 12] W fun e w' => e = .returned (.bool (fewK m 12)) ∧ Below W.heap.size W w') := Lib.hid (fun W hb => rFewK_any m _ 12 W (HMW.out W hb))
  have HB0 := Lib.hid ((Below.refl w.heap.size w).alloc (Nat.le_refl _) (.cells #[.int .i64 m.n, .slice A1 m.val.length c1, .slice A2 m.rel.length c2] 25))
  have KB0 := Lib.hid (MBox.made w m.n (.slice A1 m.val.length c1) (.slice A2 m.rel.length c2))
  have HPD := Lib.hid (fun W (hb : Below w.heap.size w W) => pDef_any m _ g W (HMW.out W hb) (HTW.out W hb))
  unfold GivesD at HPD
  have HPC := Lib.hid (fun W (hb : Below w.heap.size w W) => pClose_any m _ g W (HMW.out W hb) (HTW.out W hb))
  have HIN := Lib.hid (fun W (hb : Below w.heap.size w W) => pIn_any m _ g W (HMW.out W hb) (HTW.out W hb))
  have HRR := Lib.hid hr
  have HWR := Lib.hid hM.wrel
  clear hM hv hr hT
  go_enter Tryd.func9, Tryd.ntmps9
  by_cases hf : fewK m 12 = true
  case neg =>
    have hf2 : fewK m 12 = false := by simpa using hf
    rw [hf2] at HFW
    clear hf hf2
    go_wp2_with fail
    refine (HFW.out _ HB0.out).mono ?_
    rintro e w3 ⟨rfl, hb⟩
    have HB3 := Lib.hid (HB0.out.trans (hb.mono HB0.out.size))
    clear hb
    go_wp2_with fail
    refine (HAW.out _ HB3.out).mono ?_
    rintro e w9 ⟨rfl, hb⟩
    have HB9 := Lib.hid (HB3.out.trans (hb.mono HB3.out.size))
    clear hb
    go_wp2
    go_ret
    exact ⟨rfl, HB9.out⟩
  rw [hf] at HFW
  clear hf
  go_wp2_with fail
  refine (HFW.out _ HB0.out).mono ?_
  rintro e w1 ⟨rfl, hb⟩
  have HB1 := Lib.hid (HB0.out.trans (hb.mono HB0.out.size))
  have KB1 := Lib.hid (KB0.out.below hb KB0.out.lt)
  clear hb HFW
  have b0 := KB1.out.c0
  have b1 := KB1.out.c1
  have b2 := KB1.out.c2
  go_wp2_with fail
  refine (HPD.out _ HB1.out).mono ?_
  rintro e w2 ⟨va, rfl, hda, hb⟩
  have HDA := Lib.hid hda
  have HB2 := Lib.hid (HB1.out.trans (hb.mono HB1.out.size))
  have KB2 := Lib.hid (KB1.out.below hb KB1.out.lt)
  obtain ⟨Al, cl, e1⟩ := hda.form
  subst e1
  clear hb hda b0 b1 b2
  have b0 := KB2.out.c0
  have b1 := KB2.out.c1
  have b2 := KB2.out.c2
  by_cases hz : ckE m g = 0
  case neg =>
    have hin : qB (InG m g) = false := qB_false (fun h => hz h.1)
    rw [hin] at HIN
    have hz1 : (ckE m g != 0) = true := by rw [bne_iff_ne]; exact hz
    clear hz hin HDA
    generalize ckE m g = er at *
    generalize defM m g = ds at *
    go_wp2_with fail
    refine (HIN.out _ HB2.out).mono ?_
    rintro e w3 ⟨rfl, hb⟩
    have HB3 := Lib.hid (HB2.out.trans (hb.mono HB2.out.size))
    clear hb
    go_wp2_with fail
    refine (HAW.out _ HB3.out).mono ?_
    rintro e w9 ⟨rfl, hb⟩
    have HB9 := Lib.hid (HB3.out.trans (hb.mono HB3.out.size))
    clear hb
    go_wp2
    go_ret
    exact ⟨rfl, HB9.out⟩
  have HZ := Lib.hid hz
  rw [hz] at HPC ⊢
  have HLQ : Hid (qB (InG m g) = qB ((defM m g).length = 0)) := Lib.hid (by
    congr 1
    rw [List.length_eq_zero_iff]
    exact propext (defM_nil hz).symm)
  rw [HLQ.out] at HIN
  have HAT := Lib.hid (fun j (hj : j < (defM m g).length) => defM_at hz (getD_memF hj))
  clear hz HLQ HPD
  have hL1 := defM_len m g
  generalize hL : (defM m g).length = L at *
  have HLL := Lib.hid hL
  clear hL
  go_wp2_with fail
  refine (HPC.out _ HB2.out).mono ?_
  rintro e w3 ⟨vc, c, rfl, hdc, hcc, hb⟩
  have HCN := Lib.hid (closed_none HZ.out hcc)
  obtain ⟨VA1, vc1, VA2, vc2, rfl, _, _⟩ := hdc.self.ex
  have hal := (Below.refl w3.heap.size w3).alloc (Nat.le_refl _) (.cells #[.int .i64 c.n, .slice VA1 c.val.length vc1, .slice VA2 c.rel.length vc2] 25)
  have HX3 := Lib.hid (hb.trans (hal.mono hb.size))
  have HB3 := Lib.hid ((HB2.out.trans (hb.mono HB2.out.size)).trans (hal.mono (HB2.out.trans (hb.mono HB2.out.size)).size))
  have KB3 := Lib.hid ((KB2.out.below hb KB2.out.lt).below hal (KB2.out.below hb KB2.out.lt).lt)
  have KA := Lib.hid (MBox.made w3 c.n (.slice VA1 c.val.length vc1) (.slice VA2 c.rel.length vc2))
  have HDK := Lib.hid (pDef_any c _ g _ ((hdc.below hal).self) (HTW.out _ HB3.out))
  unfold GivesD at HDK
  rw [HCN.out.1, HCN.out.2] at HDK
  clear hal hb hdc hcc b0 b1 b2 HPC
  have a0 := KA.out.c0
  have a1 := KA.out.c1
  have a2 := KA.out.c2
  go_wp2_with fail
  refine (HDK.out).mono ?_
  rintro e w4 ⟨vk, rfl, hdk, hb⟩
  obtain ⟨Ak, ck, e1⟩ := hdk.form
  subst e1
  have HX4 := Lib.hid (HX3.out.trans (hb.mono HX3.out.size))
  have HB4 := Lib.hid (HB3.out.trans (hb.mono HB3.out.size))
  have KB4 := Lib.hid (KB3.out.below hb KB3.out.lt)
  rw [show ([] : List Df).length = 0 from rfl]
  clear hb hdk a0 a1 a2 HDK KA
  have b0 := KB4.out.c0
  have b1 := KB4.out.c1
  have b2 := KB4.out.c2
  obtain ⟨tb, htb⟩ : ∃ tb, tb = qB (L = 0) := ⟨_, rfl⟩
  have HTB : Hid ((decide ((L : Int) = 0) != tb) = false ∧ (!(((L : Int) == 0) == tb)) = false) := Lib.hid (by
    have h9 : tb = decide ((L : Int) = 0) := by
      rw [htb, Bool.eq_iff_iff, qB_iff, decide_eq_true_eq]
      omega
    rw [h9]
    constructor
    · simp
    · by_cases h0 : L = 0 <;> simp [h0])
  rw [← htb] at HIN
  clear htb
  go_wp2_with fail
  refine (HIN.out _ HB4.out).mono ?_
  rintro e w5 ⟨rfl, hb⟩
  have HB5 := Lib.hid (HB4.out.trans (hb.mono HB4.out.size))
  have HB25x := Lib.hid (HX4.out.trans (hb.mono HX4.out.size))
  have KB5 := Lib.hid (KB4.out.below hb KB4.out.lt)
  clear hb b0 b1 b2 HIN
  have htb1 := HTB.out.1
  have htb2 := HTB.out.2
  go_wp2
  clear htb1 htb2
  have HB25 : Hid (Below w2.heap.size w2 w5) := Lib.hid HB25x.out
  go_loopw [11, 12, 13, 14] (fun i _ _ _ wr => ∃ j : Nat, j ≤ L ∧ i = .int .i64 (j : Int) ∧ Hid (Below w.heap.size w wr) ∧ Hid (Below w2.heap.size w2 wr) ∧ Hid (Below w5.heap.size w5 wr)) (fun i _ _ _ _ => L - (intOf i).toNat)
  case atStart => exact ⟨0, Nat.zero_le _, rfl, HB5, HB25, Lib.hid (Below.refl _ _)⟩
  case round =>
    obtain ⟨j, hj, rfl, HBr, HBr2, HBr5⟩ := hrel
    by_cases hlt : j < L
    · obtain ⟨b, qc, g3, q3, hev, hb1, hm0, hm1, hm2, _⟩ := HDA.out.at_ (k := j) (by have := HLL.out; omega)
      injection hev with ev e9 e8
      subst ev e8
      clear e9
      have hat := HAT.out j hlt
      obtain ⟨x, hx⟩ : ∃ x, (defM m g).getD j df0 = x := ⟨_, rfl⟩
      rw [hx] at hm0 hm1 hm2 hat
      clear hx
      obtain ⟨ag, pr, ws⟩ := x
      dsimp only at hm0 hm1 hm2 hat
      obtain ⟨hag, hpr, hwl, hnq⟩ := hat
      generalize ws.length = wl at *
      obtain ⟨ad, Aj, cj, rfl, hb, hc0, hrj, hlj⟩ := HRR.out.at_ hag
      have HWO : Hid (Words (m.rel.getD ag [])) := Lib.hid (HWR.out _ (getD_mem' hag))
      have HC0 : Hid (∀ W, Below w.heap.size w W → W.cell? (ad.add ag) = some (.slice Aj (m.rel.getD ag []).length cj)) := Lib.hid (fun W h => (h.cell (p := ad.add ag) (by rw [block_of_add]; exact hb)).trans hc0)
      generalize m.rel.getD ag [] = lr at *
      have HH : Hid (∀ W, Below w.heap.size w W → Calls Tryd.prog 24 #[.slice Aj lr.length cj, .int .i64 pr] W fun e w' => e = .returned (.bool false) ∧ Below W.heap.size W w') := Lib.hid (fun W h => by
        have h9 := hasQ_any lr Aj lr.length cj pr W ((hrj.below h).more h.size) HWO.out (by omega) (HTW.out W h)
        rwa [qB_false hnq] at h9)
      have HAX := Lib.hid (ax_fact hpr)
      generalize lr.length = q at *
      have m0 := (HBr2.out.cell (p := ⟨b, j * 3, none⟩) hb1).trans hm0
      have m1 := (HBr2.out.cell (p := ⟨b, j * 3 + 1, none⟩) hb1).trans hm1
      have m2 := (HBr2.out.cell (p := ⟨b, j * 3 + 2, none⟩) hb1).trans hm2
      clear hb hc0 hrj hlj hm0 hm1 hm2 hb1 hnq
      go_wp2
      clear m0 m1 m2
      have hal := (Below.refl wr.heap.size wr).alloc (Nat.le_refl _) (.cells #[.int .i64 (ag : Int), .int .i64 pr, .slice (some ⟨g3, 0, none⟩) wl q3] 52)
      have HB6 := Lib.hid (HBr.out.trans (hal.mono HBr.out.size))
      have HB62 := Lib.hid (HBr2.out.trans (hal.mono HBr2.out.size))
      have HB56x := Lib.hid (HBr5.out.trans (hal.mono HBr5.out.size))
      have KD := Lib.hid (heap_alloc_new wr (.cells #[.int .i64 (ag : Int), .int .i64 pr, .slice (some ⟨g3, 0, none⟩) wl q3] 52))
      clear hal
      generalize wr.heap.size = DB at *
      generalize wr.alloc (.cells #[.int .i64 (ag : Int), .int .i64 pr, .slice (some ⟨g3, 0, none⟩) wl q3] 52) = w6 at *
      have HU : Hid (∀ W, Below w6.heap.size w6 W → Below w.heap.size w W ∧ W.heap[DB]? = some (.cells #[.int .i64 (ag : Int), .int .i64 pr, .slice (some ⟨g3, 0, none⟩) wl q3] 52)) := Lib.hid (fun W h => ⟨HB6.out.trans (h.mono HB6.out.size), (h.block DB (Array.getElem?_eq_some_iff.1 KD.out).1).trans KD.out⟩)
      have HBX : Hid (∀ W, Below w.heap.size w W → Below w5.heap.size w5 W → W.cell? ⟨w.heap.size, 2, none⟩ = some (.slice (some ad) m.rel.length c2)) := Lib.hid (fun W _ h => (KB5.out.below h KB5.out.lt).c2)
      have HB56 : Hid (Below w5.heap.size w5 w6) := Lib.hid HB56x.out
      refine wp_region_mix [.pointer (some ⟨DB, 0, none⟩), .int .i64 (ag : Int), .bool false, .bool false, .pointer (some ⟨DB, 0, none⟩), .int .i64 (ag : Int), .pointer (some ⟨w.heap.size, 2, none⟩), .slice (some ad) m.rel.length c2, .int .i64 (m.rel.length : Int), .bool false, .bool false, .bool false, .pointer (some ⟨DB, 2, none⟩), .slice (some ⟨g3, 0, none⟩) wl q3, .int .i64 (wl : Int), .bool false, .bool false, .bool false, .pointer (some ⟨w.heap.size, 2, none⟩), .slice (some ad) m.rel.length c2, .pointer (some ⟨DB, 0, none⟩), .int .i64 (ag : Int), .pointer (some (ad.add ag)), .slice Aj q cj, .pointer (some ⟨DB, 1, none⟩), .int .i64 pr, .bool false, .bool false] [74, 75, 76, 77, 78, 79, 80, 81, 82, 83, 84, 85, 86, 87, 88, 89, 90, 91, 92, 93, 94, 95, 96, 97, 98, 99, 100, 101] [0, 1, 2, 4, 5, 6, 7, 8, 9, 12, 13, 14, 15, 18, 19, 20, 21, 22, 23, 24, 25, 26] (fun W => Below w6.heap.size w6 W) (fun W W' => Below W.heap.size W W') 28 117 rfl rfl rfl rfl (by decide) (by decide) (by kernel_rfl) (by kernel_rfl) (by kernel_rfl) (fun W => Below.refl _ W) (fun W1 W2 W3 h1 h2 => h1.trans (h2.mono h1.size)) (fun W W' h h2 => h.trans (h2.mono h.size)) (Below.refl _ w6).drew (by kernel_rfl) [] rfl ?hop ?fin
      case hop =>
        refine (And.intro ?s0 (And.intro ?s1 (And.intro ?s2 (And.intro ?s4 (And.intro ?s5 (And.intro ?s6 (And.intro ?s7 (And.intro ?s8 (And.intro ?s9 (And.intro ?s12 (And.intro ?s13 (And.intro ?s14 (And.intro ?s15 (And.intro ?s18 (And.intro ?s19 (And.intro ?s20 (And.intro ?s21 (And.intro ?s22 (And.intro ?s23 (And.intro ?s24 (And.intro ?s25 (And.intro ?s26 trivial))))))))))))))))))))))
        case s0 =>
          refine And.intro (by rfl) (fun tm W hS hsz hfr hdep K hK => ?_)
          change tm.size = 117 at hsz
          have t12 : tm.getD 12 undef = .pointer (some ⟨DB, 0, none⟩) := hfr 12 (by rfl)
          clear hdep hfr
          go_simp
          exact hK W (Below.refl _ W)
        case s1 =>
          refine And.intro (by rfl) (fun tm W hS hsz hfr hdep K hK => ?_)
          change tm.size = 117 at hsz
          have t74 : tm.getD 74 undef = .pointer (some ⟨DB, 0, none⟩) := hdep 0 (by rfl) (by decide)
          have kd := (HU.out W hS).2
          have z0 := (Lib.cell_of_heap kd 0).trans (show _ = some (.int .i64 (ag : Int)) from rfl)
          have z1 := (Lib.cell_of_heap kd 1).trans (show _ = some (.int .i64 pr) from rfl)
          have z2 := (Lib.cell_of_heap kd 2).trans (show _ = some (.slice (some ⟨g3, 0, none⟩) wl q3) from rfl)
          have z3 := HBX.out W (HU.out W hS).1 (HB56.out.trans (hS.mono HB56.out.size))
          have z4 := HC0.out W (HU.out W hS).1
          clear kd
          clear hdep hfr
          go_simp
          exact hK W (Below.refl _ W)
        case s2 =>
          refine And.intro (by rfl) (fun tm W hS hsz hfr hdep K hK => ?_)
          change tm.size = 117 at hsz
          have t75 : tm.getD 75 undef = .int .i64 (ag : Int) := hdep 1 (by rfl) (by decide)
          have x1 : ((ag : Int) < 0) = False := eq_false (by omega)
          have x2 : ((m.rel.length : Int) ≤ (ag : Int)) = False := eq_false (by omega)
          have x3 : ((wl : Int) == 0) = false := by rw [beq_eq_false_iff_ne]; omega
          clear hdep hfr
          go_simp
          exact hK W (Below.refl _ W)
        case s4 =>
          refine And.intro (by rfl) (fun tm W hS hsz hfr hdep K hK => ?_)
          change tm.size = 117 at hsz
          have t12 : tm.getD 12 undef = .pointer (some ⟨DB, 0, none⟩) := hfr 12 (by rfl)
          clear hdep hfr
          go_simp
          exact hK W (Below.refl _ W)
        case s5 =>
          refine And.intro (by rfl) (fun tm W hS hsz hfr hdep K hK => ?_)
          change tm.size = 117 at hsz
          have t78 : tm.getD 78 undef = .pointer (some ⟨DB, 0, none⟩) := hdep 4 (by rfl) (by decide)
          have kd := (HU.out W hS).2
          have z0 := (Lib.cell_of_heap kd 0).trans (show _ = some (.int .i64 (ag : Int)) from rfl)
          have z1 := (Lib.cell_of_heap kd 1).trans (show _ = some (.int .i64 pr) from rfl)
          have z2 := (Lib.cell_of_heap kd 2).trans (show _ = some (.slice (some ⟨g3, 0, none⟩) wl q3) from rfl)
          have z3 := HBX.out W (HU.out W hS).1 (HB56.out.trans (hS.mono HB56.out.size))
          have z4 := HC0.out W (HU.out W hS).1
          clear kd
          clear hdep hfr
          go_simp
          exact hK W (Below.refl _ W)
        case s6 =>
          refine And.intro (by rfl) (fun tm W hS hsz hfr hdep K hK => ?_)
          change tm.size = 117 at hsz
          have t2 : tm.getD 2 undef = .pointer (some ⟨w.heap.size, 0, none⟩) := hfr 2 (by rfl)
          clear hdep hfr
          go_simp
          exact hK W (Below.refl _ W)
        case s7 =>
          refine And.intro (by rfl) (fun tm W hS hsz hfr hdep K hK => ?_)
          change tm.size = 117 at hsz
          have t80 : tm.getD 80 undef = .pointer (some ⟨w.heap.size, 2, none⟩) := hdep 6 (by rfl) (by decide)
          have kd := (HU.out W hS).2
          have z0 := (Lib.cell_of_heap kd 0).trans (show _ = some (.int .i64 (ag : Int)) from rfl)
          have z1 := (Lib.cell_of_heap kd 1).trans (show _ = some (.int .i64 pr) from rfl)
          have z2 := (Lib.cell_of_heap kd 2).trans (show _ = some (.slice (some ⟨g3, 0, none⟩) wl q3) from rfl)
          have z3 := HBX.out W (HU.out W hS).1 (HB56.out.trans (hS.mono HB56.out.size))
          have z4 := HC0.out W (HU.out W hS).1
          clear kd
          clear hdep hfr
          go_simp
          exact hK W (Below.refl _ W)
        case s8 =>
          refine And.intro (by rfl) (fun tm W hS hsz hfr hdep K hK => ?_)
          change tm.size = 117 at hsz
          have t81 : tm.getD 81 undef = .slice (some ad) m.rel.length c2 := hdep 7 (by rfl) (by decide)
          clear hdep hfr
          go_simp
          exact hK W (Below.refl _ W)
        case s9 =>
          refine And.intro (by rfl) (fun tm W hS hsz hfr hdep K hK => ?_)
          change tm.size = 117 at hsz
          have t79 : tm.getD 79 undef = .int .i64 (ag : Int) := hdep 5 (by rfl) (by decide)
          have t82 : tm.getD 82 undef = .int .i64 (m.rel.length : Int) := hdep 8 (by rfl) (by decide)
          have x1 : ((ag : Int) < 0) = False := eq_false (by omega)
          have x2 : ((m.rel.length : Int) ≤ (ag : Int)) = False := eq_false (by omega)
          have x3 : ((wl : Int) == 0) = false := by rw [beq_eq_false_iff_ne]; omega
          clear hdep hfr
          go_simp
          exact hK W (Below.refl _ W)
        case s12 =>
          refine And.intro (by rfl) (fun tm W hS hsz hfr hdep K hK => ?_)
          change tm.size = 117 at hsz
          have t12 : tm.getD 12 undef = .pointer (some ⟨DB, 0, none⟩) := hfr 12 (by rfl)
          clear hdep hfr
          go_simp
          exact hK W (Below.refl _ W)
        case s13 =>
          refine And.intro (by rfl) (fun tm W hS hsz hfr hdep K hK => ?_)
          change tm.size = 117 at hsz
          have t86 : tm.getD 86 undef = .pointer (some ⟨DB, 2, none⟩) := hdep 12 (by rfl) (by decide)
          have kd := (HU.out W hS).2
          have z0 := (Lib.cell_of_heap kd 0).trans (show _ = some (.int .i64 (ag : Int)) from rfl)
          have z1 := (Lib.cell_of_heap kd 1).trans (show _ = some (.int .i64 pr) from rfl)
          have z2 := (Lib.cell_of_heap kd 2).trans (show _ = some (.slice (some ⟨g3, 0, none⟩) wl q3) from rfl)
          have z3 := HBX.out W (HU.out W hS).1 (HB56.out.trans (hS.mono HB56.out.size))
          have z4 := HC0.out W (HU.out W hS).1
          clear kd
          clear hdep hfr
          go_simp
          exact hK W (Below.refl _ W)
        case s14 =>
          refine And.intro (by rfl) (fun tm W hS hsz hfr hdep K hK => ?_)
          change tm.size = 117 at hsz
          have t87 : tm.getD 87 undef = .slice (some ⟨g3, 0, none⟩) wl q3 := hdep 13 (by rfl) (by decide)
          clear hdep hfr
          go_simp
          exact hK W (Below.refl _ W)
        case s15 =>
          refine And.intro (by rfl) (fun tm W hS hsz hfr hdep K hK => ?_)
          change tm.size = 117 at hsz
          have t88 : tm.getD 88 undef = .int .i64 (wl : Int) := hdep 14 (by rfl) (by decide)
          have x1 : ((ag : Int) < 0) = False := eq_false (by omega)
          have x2 : ((m.rel.length : Int) ≤ (ag : Int)) = False := eq_false (by omega)
          have x3 : ((wl : Int) == 0) = false := by rw [beq_eq_false_iff_ne]; omega
          clear hdep hfr
          go_simp
          exact hK W (Below.refl _ W)
        case s18 =>
          refine And.intro (by rfl) (fun tm W hS hsz hfr hdep K hK => ?_)
          change tm.size = 117 at hsz
          have t2 : tm.getD 2 undef = .pointer (some ⟨w.heap.size, 0, none⟩) := hfr 2 (by rfl)
          clear hdep hfr
          go_simp
          exact hK W (Below.refl _ W)
        case s19 =>
          refine And.intro (by rfl) (fun tm W hS hsz hfr hdep K hK => ?_)
          change tm.size = 117 at hsz
          have t92 : tm.getD 92 undef = .pointer (some ⟨w.heap.size, 2, none⟩) := hdep 18 (by rfl) (by decide)
          have kd := (HU.out W hS).2
          have z0 := (Lib.cell_of_heap kd 0).trans (show _ = some (.int .i64 (ag : Int)) from rfl)
          have z1 := (Lib.cell_of_heap kd 1).trans (show _ = some (.int .i64 pr) from rfl)
          have z2 := (Lib.cell_of_heap kd 2).trans (show _ = some (.slice (some ⟨g3, 0, none⟩) wl q3) from rfl)
          have z3 := HBX.out W (HU.out W hS).1 (HB56.out.trans (hS.mono HB56.out.size))
          have z4 := HC0.out W (HU.out W hS).1
          clear kd
          clear hdep hfr
          go_simp
          exact hK W (Below.refl _ W)
        case s20 =>
          refine And.intro (by rfl) (fun tm W hS hsz hfr hdep K hK => ?_)
          change tm.size = 117 at hsz
          have t12 : tm.getD 12 undef = .pointer (some ⟨DB, 0, none⟩) := hfr 12 (by rfl)
          clear hdep hfr
          go_simp
          exact hK W (Below.refl _ W)
        case s21 =>
          refine And.intro (by rfl) (fun tm W hS hsz hfr hdep K hK => ?_)
          change tm.size = 117 at hsz
          have t94 : tm.getD 94 undef = .pointer (some ⟨DB, 0, none⟩) := hdep 20 (by rfl) (by decide)
          have kd := (HU.out W hS).2
          have z0 := (Lib.cell_of_heap kd 0).trans (show _ = some (.int .i64 (ag : Int)) from rfl)
          have z1 := (Lib.cell_of_heap kd 1).trans (show _ = some (.int .i64 pr) from rfl)
          have z2 := (Lib.cell_of_heap kd 2).trans (show _ = some (.slice (some ⟨g3, 0, none⟩) wl q3) from rfl)
          have z3 := HBX.out W (HU.out W hS).1 (HB56.out.trans (hS.mono HB56.out.size))
          have z4 := HC0.out W (HU.out W hS).1
          clear kd
          clear hdep hfr
          go_simp
          exact hK W (Below.refl _ W)
        case s22 =>
          refine And.intro (by rfl) (fun tm W hS hsz hfr hdep K hK => ?_)
          change tm.size = 117 at hsz
          have t93 : tm.getD 93 undef = .slice (some ad) m.rel.length c2 := hdep 19 (by rfl) (by decide)
          have t95 : tm.getD 95 undef = .int .i64 (ag : Int) := hdep 21 (by rfl) (by decide)
          clear hdep hfr
          have u93 : tm[93]'(by omega) = .slice (some ad) m.rel.length c2 := getq t93 (by omega)
          have u95 : tm[95]'(by omega) = .int .i64 (ag : Int) := getq t95 (by omega)
          go_simp
          exact hK W (Below.refl _ W)
        case s23 =>
          refine And.intro (by rfl) (fun tm W hS hsz hfr hdep K hK => ?_)
          change tm.size = 117 at hsz
          have t96 : tm.getD 96 undef = .pointer (some (ad.add ag)) := hdep 22 (by rfl) (by decide)
          have kd := (HU.out W hS).2
          have z0 := (Lib.cell_of_heap kd 0).trans (show _ = some (.int .i64 (ag : Int)) from rfl)
          have z1 := (Lib.cell_of_heap kd 1).trans (show _ = some (.int .i64 pr) from rfl)
          have z2 := (Lib.cell_of_heap kd 2).trans (show _ = some (.slice (some ⟨g3, 0, none⟩) wl q3) from rfl)
          have z3 := HBX.out W (HU.out W hS).1 (HB56.out.trans (hS.mono HB56.out.size))
          have z4 := HC0.out W (HU.out W hS).1
          clear kd
          clear hdep hfr
          go_simp
          exact hK W (Below.refl _ W)
        case s24 =>
          refine And.intro (by rfl) (fun tm W hS hsz hfr hdep K hK => ?_)
          change tm.size = 117 at hsz
          have t12 : tm.getD 12 undef = .pointer (some ⟨DB, 0, none⟩) := hfr 12 (by rfl)
          clear hdep hfr
          go_simp
          exact hK W (Below.refl _ W)
        case s25 =>
          refine And.intro (by rfl) (fun tm W hS hsz hfr hdep K hK => ?_)
          change tm.size = 117 at hsz
          have t98 : tm.getD 98 undef = .pointer (some ⟨DB, 1, none⟩) := hdep 24 (by rfl) (by decide)
          have kd := (HU.out W hS).2
          have z0 := (Lib.cell_of_heap kd 0).trans (show _ = some (.int .i64 (ag : Int)) from rfl)
          have z1 := (Lib.cell_of_heap kd 1).trans (show _ = some (.int .i64 pr) from rfl)
          have z2 := (Lib.cell_of_heap kd 2).trans (show _ = some (.slice (some ⟨g3, 0, none⟩) wl q3) from rfl)
          have z3 := HBX.out W (HU.out W hS).1 (HB56.out.trans (hS.mono HB56.out.size))
          have z4 := HC0.out W (HU.out W hS).1
          clear kd
          clear hdep hfr
          go_simp
          exact hK W (Below.refl _ W)
        case s26 =>
          refine And.intro (by rfl) (fun tm W hS hsz hfr hdep K hK => ?_)
          change tm.size = 117 at hsz
          have t97 : tm.getD 97 undef = .slice Aj q cj := hdep 23 (by rfl) (by decide)
          have t99 : tm.getD 99 undef = .int .i64 pr := hdep 25 (by rfl) (by decide)
          clear hdep hfr
          refine wp_call _ _ _ _ _ rfl rfl (by simp [Act.eval, t97, t99]) (by kernel_rfl) (HH.out W (HU.out W hS).1) (fun e W9 h9 => ?_)
          obtain ⟨rfl, hb9⟩ := h9
          exact ⟨_, rfl, hK W9 hb9⟩
      case fin =>
        intro W hS
        have HS6 := Lib.hid hS
        clear hS
        generalize W = w7 at *
        simp only [fillD]
        go_simp
        go_wp2
        refine wp_region_wild [.pointer (some ⟨DB, 1, none⟩), .int .i64 pr, undef, undef, undef, undef, .int .i64 0, undef, .int .i64 0] [103, 104, 105, 106, 102, 107, 108, 13, 14] [0, 1, 2, 3, 4, 5, 6, 7] [2, 3, 4, 5, 7] (vSh pr) (fun W => Below w7.heap.size w7 W) (fun W W' => Below W.heap.size W W') 9 117 rfl rfl rfl (by decide) (by decide) (by kernel_rfl) (by kernel_rfl) (by kernel_rfl) (by kernel_rfl) (fun W => Below.refl _ W) (fun W1 W2 W3 h1 h2 => h1.trans (h2.mono h1.size)) (fun W W' h h2 => h.trans (h2.mono h.size)) vSh_up (Below.refl w7.heap.size w7).drew (by kernel_rfl) [] rfl ?hop ?fin
        case hop =>
          refine (And.intro ?s0 (And.intro ?s1 (And.intro ?s2 (And.intro ?s3 (And.intro ?s4 (And.intro ?s5 (And.intro ?s6 (And.intro ?s7 trivial))))))))
          case s0 =>
            refine And.intro (by rfl) (fun tm W hS hsz hfr hdep K hK => ?_)
            change tm.size = 117 at hsz
            have t12 : tm.getD 12 undef = .pointer (some ⟨DB, 0, none⟩) := hfr 12 (by rfl)
            clear hdep hfr
            go_simp
            exact hK _ W (Below.refl _ W) (wildV_of (by rfl))
          case s1 =>
            refine And.intro (by rfl) (fun tm W hS hsz hfr hdep K hK => ?_)
            change tm.size = 117 at hsz
            have t103 : tm.getD 103 undef = .pointer (some ⟨DB, 1, none⟩) := wildV_known (by rfl) (hdep 0 (by rfl) (by decide))
            have kd := (HU.out W (HS6.out.trans (hS.mono HS6.out.size))).2
            have z1 := (Lib.cell_of_heap kd 1).trans (show _ = some (.int .i64 pr) from rfl)
            clear kd
            clear hdep hfr
            go_simp
            exact hK _ W (Below.refl _ W) (wildV_of (by rfl))
          case s2 =>
            refine And.intro (by rfl) (fun tm W hS hsz hfr hdep K hK => ?_)
            change tm.size = 117 at hsz
            clear hdep hfr
            refine wp_call _ _ _ _ _ rfl rfl (by rfl) (by kernel_rfl) (pFact_any 0 W) (fun e W9 h9 => ?_)
            obtain ⟨A9, c9, rfl, hr9, hb9⟩ := h9
            exact ⟨_, rfl, hK _ W9 hb9 (show vSh pr 2 (.slice A9 fct.length c9) W9 from ⟨A9, c9, rfl, hr9⟩)⟩
          case s3 =>
            refine And.intro (by rfl) (fun tm W hS hsz hfr hdep K hK => ?_)
            change tm.size = 117 at hsz
            have t104 : tm.getD 104 undef = .int .i64 pr := wildV_known (by rfl) (hdep 1 (by rfl) (by decide))
            have h2 : (vSh pr) 2 (tm.getD 105 undef) W := wildV_wild (by rfl) (hdep 2 (by rfl) (by decide))
            clear hdep hfr
            obtain ⟨A2f, c2f, t105, hR2f⟩ := (show ∃ A c, tm.getD 105 undef = .slice A fct.length c ∧ Reads W W.heap.size 6 A fct.length (nds fct) from h2)
            refine wp_call _ _ _ _ _ rfl rfl (by simp [Act.eval, t104, t105]) (by kernel_rfl) (pAxiom_any fct A2f fct.length c2f W hR2f (by decide +kernel) pr 1) (fun e W9 h9 => ?_)
            obtain ⟨A9, c9, rfl, hr9, hb9⟩ := h9
            exact ⟨_, rfl, hK _ W9 hb9 (show vSh pr 3 (.tuple #[.slice A9 (axR pr 1 fct).length c9, .int .i64 (axE pr 1 fct)]) W9 from ⟨A9, c9, by rw [HAX.out.1], hr9⟩)⟩
          case s4 =>
            refine And.intro (by rfl) (fun tm W hS hsz hfr hdep K hK => ?_)
            change tm.size = 117 at hsz
            have h3 : (vSh pr) 3 (tm.getD 106 undef) W := wildV_wild (by rfl) (hdep 3 (by rfl) (by decide))
            clear hdep hfr
            go_simp
            have e106 : tm[106]'(by omega) = tm.getD 106 undef := getq rfl (by omega)
            exact hK _ W (Below.refl _ W) (by show vSh pr 3 _ W; first | exact h3 | (rw [e106]; exact h3))
          case s5 =>
            refine And.intro (by rfl) (fun tm W hS hsz hfr hdep K hK => ?_)
            change tm.size = 117 at hsz
            have h4 : (vSh pr) 4 (tm.getD 102 undef) W := wildV_wild (by rfl) (hdep 4 (by rfl) (by decide))
            clear hdep hfr
            obtain ⟨A4f, c4f, t102, hR4f⟩ := (show ∃ A c, tm.getD 102 undef = .tuple #[.slice A (axR pr 1 fct).length c, .int .i64 0] ∧ Reads W W.heap.size 6 A (axR pr 1 fct).length (nds (axR pr 1 fct)) from h4)
            go_simp
            exact hK _ W (Below.refl _ W) (show vSh pr 5 (.slice A4f (axR pr 1 fct).length c4f) W from ⟨A4f, c4f, rfl, hR4f⟩)
          case s6 =>
            refine And.intro (by rfl) (fun tm W hS hsz hfr hdep K hK => ?_)
            change tm.size = 117 at hsz
            have h4 : (vSh pr) 4 (tm.getD 102 undef) W := wildV_wild (by rfl) (hdep 4 (by rfl) (by decide))
            clear hdep hfr
            obtain ⟨A4f, c4f, t102, hR4f⟩ := (show ∃ A c, tm.getD 102 undef = .tuple #[.slice A (axR pr 1 fct).length c, .int .i64 0] ∧ Reads W W.heap.size 6 A (axR pr 1 fct).length (nds (axR pr 1 fct)) from h4)
            go_simp
            exact hK _ W (Below.refl _ W) (wildV_of (by rfl))
          case s7 =>
            refine And.intro (by rfl) (fun tm W hS hsz hfr hdep K hK => ?_)
            change tm.size = 117 at hsz
            have h5 : (vSh pr) 5 (tm.getD 107 undef) W := wildV_wild (by rfl) (hdep 5 (by rfl) (by decide))
            clear hdep hfr
            go_simp
            have e107 : tm[107]'(by omega) = tm.getD 107 undef := getq rfl (by omega)
            exact hK _ W (Below.refl _ W) (by show vSh pr 5 _ W; first | exact h5 | (rw [e107]; exact h5))
        case fin =>
          intro f W hS hV
          have y2 : (vSh pr) 2 (f 2) W := hV 2 (by decide) (by rfl)
          have y3 : (vSh pr) 3 (f 3) W := hV 3 (by decide) (by rfl)
          have y4 : (vSh pr) 4 (f 4) W := hV 4 (by decide) (by rfl)
          have y5 : (vSh pr) 5 (f 5) W := hV 5 (by decide) (by rfl)
          have y7 : (vSh pr) 7 (f 7) W := hV 7 (by decide) (by rfl)
          clear hV
          have hvl : ((List.range 9).map (fun i => if [2, 3, 4, 5, 7].contains i then f i else ([.pointer (some ⟨DB, 1, none⟩), .int .i64 pr, undef, undef, undef, undef, .int .i64 0, undef, .int .i64 0] : List Value).getD i undef)) = [.pointer (some ⟨DB, 1, none⟩), .int .i64 pr, f 2, f 3, f 4, f 5, .int .i64 0, f 7, .int .i64 0] := by rfl
          rw [hvl]
          clear hvl
          have HS7 := Lib.hid (HS6.out.trans (hS.mono HS6.out.size))
          clear hS y2 y3 y4 y5
          generalize f 2 = f2 at *
          generalize f 3 = f3 at *
          generalize f 4 = f4 at *
          generalize f 5 = f5 at *
          obtain ⟨A7, c7, e7, hR7⟩ := (show ∃ A c, f 7 = .slice A (axR pr 1 fct).length c ∧ Reads W W.heap.size 6 A (axR pr 1 fct).length (nds (axR pr 1 fct)) from y7)
          simp only [fillD]
          rw [e7]
          have HFR := Lib.hid (pFrags_any (axR pr 1 fct) A7 (axR pr 1 fct).length c7 W hR7 (axR_len _ _ _))
          rw [HAX.out.2] at HFR
          clear e7 hR7 y7
          generalize axR pr 1 fct = ax at *
          go_simp
          go_wp2_with fail
          refine (HFR.out).mono ?_
          rintro e w8 ⟨rfl, hb⟩
          have HB8 := Lib.hid ((HU.out W HS7.out).1.trans (hb.mono (HU.out W HS7.out).1.size))
          have HB85 := Lib.hid ((HB56.out.trans (HS7.out.mono HB56.out.size)).trans (hb.mono (HB56.out.trans (HS7.out.mono HB56.out.size)).size))
          have HB82 := Lib.hid ((HB62.out.trans (HS7.out.mono HB62.out.size)).trans (hb.mono (HB62.out.trans (HS7.out.mono HB62.out.size)).size))
          clear hb
          go_wp2
          go_roundw
          case rel => exact ⟨j + 1, by omega, by go_num, HB8, HB82, HB85⟩
          case measure => first | (simp [intOf]; done) | (simp [intOf]; omega)
    · obtain rfl : L = j := by omega
      go_wp2_with fail
      refine (HAW.out _ HBr.out).mono ?_
      rintro e w9 ⟨rfl, hb⟩
      have HB9 := Lib.hid (HBr.out.trans (hb.mono HBr.out.size))
      clear hb
      go_wp2
      go_ret
      exact ⟨rfl, HB9.out⟩
set_option maxRecDepth 100000 in
theorem contract (H : Type) (enc : TypeId × Value → H) (W : World) (base : Nat) (args : Array Value) (ds gs : List (DataW H)) (before : List MemPlace)
    (hval : ∀ (j : Nat) t v, Tryd.f9.params[j]? = some t → args[j]? = some v → Value.okWide Tryd.prog W .any base t v)
    (hW : DataW.Whole enc Tryd.prog Tryd.f9.params.toList Rows.framesShowsSpec.vars false W args.toList ds gs before) (hE : Tab W) :
    Calls Tryd.prog 9 args W fun e W' => ∃ v, e = .returned v ∧ Rows.framesShowsSpec.post enc Tryd.prog Tryd.f9 false true false false W args v W' := by
  have hW' := hW
  obtain ⟨p, q, hA0, hV, rfl, hfz, hnd⟩ := hW
  have hA : DataW.TrodAll enc Tryd.prog W 0 (fun _ => true) true Tryd.f9.params.toList args.toList ds p := hA0
  rw [Tryd.params9] at hA hval
  obtain ⟨v0, vs0, d0, ds0, p0, q0, hargs, rfl, rfl, h0, r0⟩ := trodAll_cons hA
  obtain ⟨v1, vs1, d1, ds1, p1, q1, rfl, rfl, rfl, h1, r1⟩ := trodAll_cons r0
  obtain ⟨rfl, rfl, rfl⟩ := trodAll_nil r1
  obtain rfl : args = #[v0, v1] := by cases args; simp_all
  obtain ⟨rfl, rfl⟩ := trodVars_none hV
  obtain ⟨m0, w0⟩ := open_mo (hval 0 25 v0 rfl rfl) h0
  have k0 := h0
  have lt0 : ∀ x ∈ p0, x.block < W.heap.size := by obtain ⟨m, hm⟩ := k0; exact DataW.trod_lt m _ _ _ hm
  obtain ⟨g1, rfl, rfl, rfl, w1⟩ := open_int Tryd.underlying3 (hval 1 3 v1 rfl rfl) h1
  clear hA0
  simp only [List.append_nil] at hW'
  have hwalk := walk m0 _ g1 W w0 hE
  refine hwalk.mono fun e W' ⟨he, hg⟩ => ?_
  subst he
  exact ⟨_, rfl, _, _, _, [], _, [], hW', trodAll_mk1 (shut_bool Tryd.underlying4 _), (trodAll_cons_mk (Below.trod laidOut (by kernel_rfl) (of_decide_eq_true (by kernel_rfl)) k0 hg lt0) (trodAll_cons_mk (shut_int Tryd.underlying3 w1) trodAll_mk0)), rfl, hg.frame _, fun h => by cases h⟩
theorem reads (os : Os) {H : Type} (enc : TypeId × Value → H) : ∃ places, DataW.whole enc Tryd.prog ((laidW os).forCall (fun _ _ => 0) ⟨#[], #[.agg #[.int .i64 0, .slice none 0 0, .slice none 0 0], .int .i64 0], []⟩).memory Tryd.f9.params.toList Rows.framesShowsSpec.vars false #[(.agg #[.int .i64 0, .slice none 0 0, .slice none 0 0] : Value), (.int .i64 0 : Value)].toList 8 = some ([.agg [.lit (.int .i64 0), .nil, .nil], .lit (.int .i64 0)], [], places) :=
  ⟨[], by kernel_rfl⟩
set_option maxRecDepth 100000 in
theorem lifted (os : Os) (started : os.Started) (H : Type) (enc : TypeId × Value → H) (F : Stop.Interp) :
    ReturnsInHanded {} Tryd.checked os 9 .any ((OpenSpec.ofChange Rows.framesShowsSpec).preRow enc Tryd.prog Tryd.f9 Rows.framesShowsRow.domain false Rows.framesShowsRow.laid) (((OpenSpec.ofChange Rows.framesShowsSpec).at F).post enc Tryd.prog Tryd.f9 false true false false) := by
  obtain ⟨places, hx⟩ := reads os enc
  refine returnsInHanded_of_row (C := Tryd.checked) (s := OpenSpec.ofChange Rows.framesShowsSpec) own started (by kernel_rfl) Tryd.func9
    (witness_row_atRef (enc := enc) (C := Tryd.checked) false (laidW os) #[.agg #[.int .i64 0, .slice none 0 0, .slice none 0 0], .int .i64 0] (laidW_os os) (vars_ok os _) (heap_ok os _) (by kernel_rfl)
      (OpenSpec.preRow_of_cond 8 hx (by kernel_rfl) (fun k hk => by cases hk) (by kernel_rfl) (laid_met os _))) ?_
  intro W base args ds gs before hval hW _ _ _ hL hsh _
  exact contract H enc W base args ds gs before hval hW (env_of hL)
theorem said : Rows.FramesShowsSaid :=
  OpenClaim.holds_of_cond 9 Tryd.f9 rfl rfl rfl rfl rfl rfl rfl ⟨rfl, rfl, rfl, rfl, rfl⟩ rfl rfl rfl rfl rfl (by kernel_rfl) Tryd.func9 (by kernel_rfl)
    (of_decide_eq_true (by kernel_rfl)) (by unfold Func.isWrapper; first | (rw [if_pos (by decide +kernel)]; kernel_rfl) | (rw [if_neg (by decide +kernel)]; exact ⟨rfl, rfl⟩))
    (fun os started H enc _ F => by rw [OpenClaim.pre_eq_preRow]; exact lifted os started H enc F)
theorem plain (f : FuncId) (fn : Func) (hf : Tryd.pinned.checked.prog.funcNamed "witting/wittinglaw15.FramesShows" = some f) (hfn : Tryd.pinned.checked.prog.funcs[f]? = some fn) :
    false = Tryd.pinned.checked.prog.looks [] ∧ ∀ (j : Nat) t, fn.params[j]? = some t → Tryd.pinned.checked.prog.wantsStandIn t = false := by
  obtain rfl : f = 9 := Option.some.inj ((show Tryd.prog.funcNamed "witting/wittinglaw15.FramesShows" = some 9 by kernel_rfl).symm.trans hf) |>.symm
  obtain rfl : fn = Tryd.f9 := (Option.some.inj (Tryd.func9.symm.trans hfn)).symm
  refine ⟨no_looks, fun j t ht => ?_⟩
  rw [Tryd.params9] at ht
  have hm : t ∈ [25, 3] := by simpa using Array.mem_of_getElem? ht
  have hall : ([25, 3].all fun u => !Tryd.prog.wantsStandIn u) = true := by kernel_rfl
  exact (show Tryd.prog.wantsStandIn t = false by simpa using List.all_eq_true.1 hall t hm)
theorem card : Rows.FramesShowsCardSaid :=
  Claim7.holds_tied_plain_at .later [] _ _ _ _ said (fun _ h => by cases h) (by kernel_rfl) (fun _ h => by cases h) framesShows_row_tie rfl ⟨rfl, rfl⟩ (by kernel_rfl) rfl plain (by kernel_rfl)
#print axioms card
end Go.Proofs.YtkhalapppkhopaaDoor.framesShows
