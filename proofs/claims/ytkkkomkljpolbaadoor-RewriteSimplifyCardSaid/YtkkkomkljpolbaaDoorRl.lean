/- Layer 6: texts joined: Gt Gu Gv Gw Gx. -/
import Derived.Test.YtkkkomkljpolbaaDoorJl
import Derived.Test.YtkkkomkljpolbaaDoorJm
import Derived.Test.YtkkkomkljpolbaaDoorQq
import Derived.Test.YtkkkomkljpolbaaDoorRk
/- Layer 8: a list of lists of nodes that came in. -/
namespace Go.Proofs.YtkkkomkljpolbaaDoor.rwl
open Go.ChangeShapes Go.WideShapes Go.ChangeAt Go.RowKit Go.Proofs.Ws Go.Deep
set_option maxRecDepth 100000
section
variable {H : Type} {enc : TypeId × Value → H} {w : World} {base : Nat} {spare : Nat → Bool} {held : Bool}
end
end Go.Proofs.YtkkkomkljpolbaaDoor.rwl
/- Layer 8: the builders of the reference return rows of their own. -/
namespace Go.Proofs.YtkkkomkljpolbaaDoor
open Go.RowKit Go.Proofs.Ws Go.Maps
set_option maxRecDepth 100000 in
set_option maxHeartbeats 4000000 in
theorem rShort_own (f : List Nd) (hne : f ≠ []) (hops : opsL f) (hkn : knownL f) (A : Option Addr) (n c : Nat) (w : World) (hR : Reads w w.heap.size 6 A n (nds f)) (hm : n ≤ 401) :
    Calls Tryd.prog 152 #[.slice A n c] w fun e w' => ∃ A' c', e = .returned (.slice A' (shortF f).length c') ∧ w'.ownsRow 0 62 6 (.slice A' (shortF f).length c') (shortF f).length (nds (shortF f)) ∧ Below w.heap.size w w' := by
  have hl := hR.nd_len
  have HR := Lib.hid hR
  have hn0 : n ≠ 0 := by rw [← hl]; simpa using hne
  obtain ⟨k, hk1⟩ : ∃ k : Nat, k = n - 1 := ⟨_, rfl⟩
  have hk : k < n := by omega
  have HW : Hid (∀ W bw bd base, RW W base bw bd n ⟨[], List.replicate n none⟩ → Reads W w.heap.size 6 A n (nds f) → w.heap.size ≤ bw → w.heap.size ≤ bd → w.heap.size ≤ base →
      Calls Tryd.prog 139 #[.slice A n c, .int .i64 (k : Int), .pointer (some ⟨bw, 0, none⟩)] W fun e w' =>
        e = .returned (.int .i64 ((finW f n k ⟨[], List.replicate n none⟩).1 : Nat)) ∧ RW w' base bw bd n (finW f n k ⟨[], List.replicate n none⟩).2 ∧ Fr bw bd W w') :=
    Lib.hid (fun W bw bd base h2 h3 h4 h5 h6 => rFinish_any f hops hkn A n c w.heap.size base bw bd (by omega) hl h4 h5 h6 n k _ W hk hk (cnt0R n) h2 h3)
  have HE : Hid ((finW f n k ⟨[], List.replicate n none⟩).2.out = canonF f) := Lib.hid (by unfold canonF; rw [hl, hk1])
  have HS : Hid (shortF f = if 200 < (canonF f).length then [] else canonF f) := Lib.hid rfl
  generalize finW f n k ⟨[], List.replicate n none⟩ = r at *
  generalize canonF f = q at *
  generalize shortF f = sf at *
  obtain ⟨r1, out, done⟩ := r
  have HE2 : out = q := HE.out
  subst HE2
  have d0 : decide ((n : Int) > 401) = false := decide_eq_false (by omega)
  have d1 : decide (401 < (n : Int)) = false := decide_eq_false (by omega)
  have d2 : decide (401 < n) = false := decide_eq_false (by omega)
  have hw1 : wrap64 ((n : Int) - 1) = (k : Int) := by unfold wrap64; omega
  have hw2 : IntKind.i64.wrap ((n : Int) - 1) = (k : Int) := by rw [IntKind.wrap_i64]; omega
  have hw3 : (n : Int) - 1 = (k : Int) := by omega
  obtain ⟨i0, hi, hz0, hz1, hz2⟩ := info_parts Tryd.infoIR
  clear HE hR hl hne hops hkn hk1
  have HL0 := Lib.hid (LD.start w w 127 (Below.refl _ _))
  go_enter Tryd.func152, Tryd.ntmps152
  go_wp2
  go_loopw [4] (fun i wr => ∃ m : Nat, m ≤ n ∧ i = .int .i64 m ∧ Hid (LD w wr w.heap.size m)) (fun i _ => n - (intOf i).toNat)
  case atStart => exact ⟨0, Nat.zero_le _, rfl, HL0⟩
  case round =>
    obtain ⟨m, hmn, rfl, HL⟩ := hrel
    by_cases hlt : m < n
    · obtain ⟨A1, c1, hc1, hown⟩ := HL.out.row
      have hf1 := HL.out.f1
      have ebw := HL.out.lt
      have e0 := World.new_ne wr _ hc1
      have hst : Hid (∀ g, (Value.slice A1 m c1).ownBlock = some g → w.heap.size + 1 ≤ g ∧ g < wr.heap.size) := Lib.hid hown.lt
      have HC1 := Lib.hid hc1
      have HF1 := Lib.hid hf1
      go_wp2_with (at_builtin; refine wpList_append_own _ rfl _ _ 60 rfl (w.heap.size + 1) 3 i0 (.int .i64 0) 1 8 Tryd.underlying60 hi hz0 hz1 hz2 rfl (by decide) _ _ _ rfl (hown.alloc _) ⟨wr.heap.size, 0, none⟩ 1 1 [.int .i64 (-1)] rfl rfl ?k1 ?k2 ?k3 ?k4 ?k5 ?_)
      case k2 => rfl
      case k3 => unfold maxLen; omega
      case k4 => omega
      case k5 => first | omega | (simp; omega)
      · intro v' w3 hown' hgrow _
        obtain ⟨A3, c3, rfl⟩ := own_sl hown'
        have hgc := hgrow.cell_far ⟨w.heap.size, 1, none⟩ (by show w.heap.size < (wr.alloc _).heap.size; simp; omega) (fun e => absurd (hst.out w.heap.size e.symm).1 (by omega))
        have hgf := hgrow.frozen_far ⟨w.heap.size, 1, none⟩ (by show w.heap.size < (wr.alloc _).heap.size; simp; omega) (fun e => absurd (hst.out w.heap.size e.symm).1 (by omega))
        have hc3 : w3.cell? ⟨w.heap.size, 1, none⟩ = some (.slice A1 m c1) := hgc.trans ((World.cell?_of_block (a := ⟨w.heap.size, 1, none⟩) (Below.heap_alloc wr _ _ ebw)).trans HC1.out)
        have hf3 : w3.frozen? ⟨w.heap.size, 1, none⟩ = false := hgf.trans ((World.frozen?_of_block (a := ⟨w.heap.size, 1, none⟩) (Below.heap_alloc wr _ _ ebw)).trans HF1.out)
        have HL2 := Lib.hid (HL.out.step HC1.out (fun g hg => (hst.out g hg).1) hown' hgrow)
        clear hgc hgf hown' hgrow hown hc1 hf1 e0
        go_wp2
        go_roundw
        case rel => exact ⟨m + 1, by omega, by go_num, HL2⟩
        case measure => simp [intOf]; omega
    · have hmn2 : m = n := by omega
      subst hmn2
      obtain ⟨bd, hbd, hRW⟩ := HL.out.toRW (by omega)
      have l0 := HL.out.l0
      have HBL := Lib.hid HL.out.be
      have HRW := Lib.hid hRW
      have lsz := HL.out.be.size
      clear hRW
      go_wp2_with fail
      refine (HW.out wr w.heap.size bd wr.heap.size HRW.out (HR.out.below HBL.out) l0 (by omega) (by omega)).mono ?_
      rintro e w4 ⟨rfl, hS, hF⟩
      obtain ⟨A2, c2, h2, hrow⟩ := hS.out
      have HO := Lib.hid hrow
      have HWF := Lib.hid (HBL.out.trans (hF.low (B := w.heap.size) (by omega) l0 (by omega) (fun g hg => by have := (HRW.out.row g hg).1; omega)))
      clear hS hF hrow
      replace h2 : w4.cell? ⟨w.heap.size, 0, none⟩ = some (.slice A2 out.length c2) := h2
      by_cases h20 : 200 < out.length
      · have hd : decide (200 < (out.length : Int)) = true := decide_eq_true (by omega)
        have hd2 : decide (200 < out.length) = true := decide_eq_true h20
        have HQ : Hid (sf = []) := Lib.hid (by rw [HS.out, if_pos h20])
        have HQ2 := HQ.out
        subst HQ2
        clear h20
        go_wp2
        go_ret
        exact ⟨none, 0, rfl, World.ownsRow_nil _ _ _ _, HWF.out⟩
      · have hd : decide (200 < (out.length : Int)) = false := decide_eq_false (by omega)
        have hd2 : decide (200 < out.length) = false := decide_eq_false h20
        have HQ : Hid (sf = out) := Lib.hid (by rw [HS.out, if_neg h20])
        have HQ2 := HQ.out
        subst HQ2
        clear h20
        go_wp2
        go_ret
        exact ⟨A2, c2, rfl, own_base HO.out (Nat.zero_le _), HWF.out⟩
set_option maxRecDepth 100000 in
set_option maxHeartbeats 4000000 in
theorem rOne_own (x : Nd) (w : World) :
    Calls Tryd.prog 117 #[nv x] w fun e w' => ∃ A' c', e = .returned (.slice A' (oneF x).length c') ∧ w'.ownsRow 0 62 6 (.slice A' (oneF x).length c') (oneF x).length (nds (oneF x)) ∧ Below w.heap.size w w' := by
  have HN : Hid (∀ W, Calls Tryd.prog 83 #[nv x, .int .i64 ((0 : Nat) : Int)] W fun e w' => e = .returned (.int .i64 (nodeErr x ((0 : Nat) : Int))) ∧ Below W.heap.size W w') := Lib.hid (fun W => rNode_any x _ W)
  have HB0 : Hid (Below w.heap.size w (w.alloc (.cells #[.int .i64 x.op, .int .i64 x.i, .int .i64 x.e, .int .i64 x.g, .int .i64 x.x, .int .i64 x.y] 62))) := Lib.hid ((Below.refl _ w).alloc (Nat.le_refl _) _)
  have HBX := Lib.hid (Box.made w x 62)
  have hs0 : w.heap.size < (w.alloc (.cells #[.int .i64 x.op, .int .i64 x.i, .int .i64 x.e, .int .i64 x.g, .int .i64 x.x, .int .i64 x.y] 62)).heap.size := by simp
  have HU : Hid (oneF x = if nodeErr x ((0 : Nat) : Int) = 0 then [x] else []) := Lib.hid rfl
  generalize nodeErr x ((0 : Nat) : Int) = z at *
  unfold nv at HN ⊢
  generalize oneF x = q at *
  go_enter Tryd.func117, Tryd.ntmps117
  go_wp2_with fail
  generalize w.alloc (.cells #[.int .i64 x.op, .int .i64 x.i, .int .i64 x.e, .int .i64 x.g, .int .i64 x.x, .int .i64 x.y] 62) = w0 at *
  refine (HN.out _).mono ?_
  rintro e w1 ⟨rfl, hb1⟩
  have HB1 := Lib.hid (HB0.out.trans (hb1.mono (Nat.le_of_lt hs0)))
  have hbx1 := HBX.out.keep (W' := w1) (hb1.block _ hs0)
  obtain ⟨b0, b1, b2, b3, b4, b5, _⟩ := hbx1
  clear hb1
  by_cases hz : z = 0
  · subst hz
    have hq : q = [x] := by rw [HU.out, if_pos rfl]
    subst hq
    go_wp2
    go_ret
    refine ⟨some ⟨w1.heap.size, 0, none⟩, 1, rfl, ?_, HB1.out.alloc (by have := HB1.out.size; omega) _⟩
    exact ⟨by simp [nds, ndC], .inr ⟨w1.heap.size, 1, _, rfl, Nat.zero_le _, heap_alloc_new w1 (.cells #[.int .i64 x.op, .int .i64 x.i, .int .i64 x.e, .int .i64 x.g, .int .i64 x.x, .int .i64 x.y] 62), Nat.le_refl _, by unfold maxLen; omega, rfl, rfl⟩⟩
  · have hq : q = [] := by rw [HU.out, if_neg hz]
    subst hq
    have hzb : (z != 0) = true := by simpa using hz
    clear hz
    go_wp2
    go_ret
    exact ⟨none, 0, rfl, World.ownsRow_nil _ _ _ _, HB1.out⟩
set_option maxRecDepth 100000 in
set_option maxHeartbeats 4000000 in
theorem rUnary_own (x : Nd) (f : List Nd) (A : Option Addr) (n c : Nat) (w : World) (hR : Reads w w.heap.size 6 A n (nds f)) (hm : n ≤ maxLen) :
    Calls Tryd.prog 118 #[nv x, .slice A n c] w fun e w' => ∃ A' c', e = .returned (.slice A' (unaryF x f).length c') ∧ w'.ownsRow 0 62 6 (.slice A' (unaryF x f).length c') (unaryF x f).length (nds (unaryF x f)) ∧ Below w.heap.size w w' := by
  have hl := hR.nd_len
  have HR := Lib.hid hR
  have HC : Hid (∀ W, Below w.heap.size w W → Calls Tryd.prog 30 #[.slice A n c] W fun e w' => e = .returned (.int .i64 (fErr f)) ∧ Below W.heap.size W w') := Lib.hid (fun W h => rCheck_any f A n c W ((hR.below h).more h.size) hm)
  have HB0 : Hid (Below w.heap.size w (w.alloc (.cells #[.int .i64 x.op, .int .i64 x.i, .int .i64 x.e, .int .i64 x.g, .int .i64 x.x, .int .i64 x.y] 62))) := Lib.hid ((Below.refl _ w).alloc (Nat.le_refl _) _)
  have HBX := Lib.hid (Box.made w x 62)
  have hs0 : w.heap.size < (w.alloc (.cells #[.int .i64 x.op, .int .i64 x.i, .int .i64 x.e, .int .i64 x.g, .int .i64 x.x, .int .i64 x.y] 62)).heap.size := by simp
  clear hR
  by_cases hz : fErr f = 0
  · have hne := (fErr_ok hz).1
    have hn0 : f.length ≠ 0 := by simpa using hne
    have h200 := (fErr_ok hz).2.1
    obtain ⟨k, hk⟩ : ∃ k : Nat, (k : Int) = (f.length : Int) - 1 := ⟨f.length - 1, by omega⟩
    have HU : Hid (unaryF x f = if nodeErr { x with x := (k : Int) } (n : Int) = 0 then shortF (f ++ [{ x with x := (k : Int) }]) else []) := Lib.hid (by unfold unaryF; rw [if_pos hz, hk, hl])
    have HN : Hid (∀ W, Calls Tryd.prog 83 #[nv { x with x := (k : Int) }, .int .i64 (n : Int)] W fun e w' => e = .returned (.int .i64 (nodeErr { x with x := (k : Int) } (n : Int))) ∧ Below W.heap.size W w') := Lib.hid (fun W => rNode_any _ _ W)
    have HSH : Hid (nodeErr { x with x := (k : Int) } (n : Int) = 0 → ∀ W A1 c1, Reads W W.heap.size 6 A1 (n + 1) (nds (f ++ [{ x with x := (k : Int) }])) → Calls Tryd.prog 152 #[.slice A1 (n + 1) c1] W fun e w' => ∃ A' c', e = .returned (.slice A' (shortF (f ++ [{ x with x := (k : Int) }])).length c') ∧ w'.ownsRow 0 62 6 (.slice A' (shortF (f ++ [{ x with x := (k : Int) }])).length c') (shortF (f ++ [{ x with x := (k : Int) }])).length (nds (shortF (f ++ [{ x with x := (k : Int) }]))) ∧ Below W.heap.size W w') := Lib.hid (fun he W A1 c1 h1 => by
      have hn := (nodeErr_iff _ _).1 he
      rw [← hl] at hn
      have hok := snoc_ok (fErr_ops hz) (fErr_fld hz) hn.1 hn.2
      exact rShort_own _ hok.ne hok.ops (snoc_kn (fErr_fld hz) hn.2) A1 (n + 1) c1 W h1 (by omega))
    have HCZ : Hid (∀ W, Below w.heap.size w W → Calls Tryd.prog 30 #[.slice A n c] W fun e w' => e = .returned (.int .i64 0) ∧ Below W.heap.size W w') := Lib.hid (fun W h => hz ▸ HC.out W h)
    have HLN := Lib.hid hl
    have hw1 : wrap64 ((n : Int) - 1) = (k : Int) := by unfold wrap64; omega
    have hw2 : IntKind.i64.wrap ((n : Int) - 1) = (k : Int) := by rw [IntKind.wrap_i64]; omega
    have hw3 : (n : Int) - 1 = (k : Int) := by omega
    have hn200 : n ≤ 200 := by omega
    generalize nodeErr { x with x := (k : Int) } (n : Int) = z at *
    unfold nv at HN ⊢
    dsimp only at HN
    generalize unaryF x f = q at *
    clear hz hne hn0 h200 hk hl HC
    go_enter Tryd.func118, Tryd.ntmps118
    go_wp2_with fail
    generalize w.alloc (.cells #[.int .i64 x.op, .int .i64 x.i, .int .i64 x.e, .int .i64 x.g, .int .i64 x.x, .int .i64 x.y] 62) = w0 at *
    refine (HCZ.out _ HB0.out).mono ?_
    rintro e w1 ⟨rfl, hb1⟩
    have HB1 := Lib.hid (HB0.out.trans (hb1.mono (Nat.le_of_lt hs0)))
    have hs1 : w.heap.size < w1.heap.size := Nat.lt_of_lt_of_le hs0 hb1.size
    have hbx1 := HBX.out.keep (W' := w1) (hb1.block _ hs0)
    have HBX1 := Lib.hid (hbx1.setX (k : Int))
    have HB1s : Hid (Below w.heap.size w (w1.setCell ⟨w.heap.size, 4, none⟩ (.int .i64 (k : Int)))) := Lib.hid (HB1.out.setCell (Nat.le_refl _) _)
    have hs1s : w.heap.size < (w1.setCell ⟨w.heap.size, 4, none⟩ (.int .i64 (k : Int))).heap.size := by simpa using hs1
    obtain ⟨b0, b1, b2, b3, b4, b5, bf⟩ := hbx1
    have bf4 := bf 4
    clear hb1 bf
    go_wp2_with fail
    clear b0 b1 b2 b3 b4 b5 bf4
    generalize w1.setCell ⟨w.heap.size, 4, none⟩ (.int .i64 (k : Int)) = w2 at *
    refine (HN.out _).mono ?_
    rintro e w3 ⟨rfl, hb3⟩
    have HB3 := Lib.hid (HB1s.out.trans (hb3.mono (Nat.le_of_lt hs1s)))
    have hs3 : w.heap.size < w3.heap.size := Nat.lt_of_lt_of_le hs1s hb3.size
    have HBX3 := Lib.hid (HBX1.out.keep (W' := w3) (hb3.block _ hs1s))
    clear hb3
    by_cases hz : z = 0
    · subst hz
      have hq : q = shortF (f ++ [{ x with x := (k : Int) }]) := by rw [HU.out, if_pos rfl]
      have HS := Lib.hid (HSH.out rfl)
      rw [← hq] at HS
      clear HU HSH HN hq
      generalize ({ x with x := (k : Int) } : Nd) = x' at *
      go_wp2
      go_loopw [5, 6] (fun u5 i wr => ∃ j : Nat, j ≤ n ∧ i = .int .i64 j ∧ Hid (wr.ownsRow (w.heap.size + 1) 62 6 u5 (f.take j).length (nds (f.take j))) ∧ Hid (Box wr w.heap.size x') ∧ Hid (Below w.heap.size w wr) ∧ w.heap.size < wr.heap.size) (fun _ i _ => n - (intOf i).toNat)
      case atStart => exact ⟨0, Nat.zero_le _, rfl, Lib.hid (World.ownsRow_nil _ _ _ _), HBX3, HB3, hs3⟩
      case round =>
        obtain ⟨j, hj, rfl, HO, HX, HB, hsz⟩ := hrel
        by_cases hlt : j < n
        · obtain ⟨ad, rfl, hb, m0, m1, m2, m3, m4, m5⟩ := (HR.out.below HB.out).nd_at hlt
          have hjf : j < f.length := by have := HLN.out; omega
          have HT : Hid (f.take (j + 1) = f.take j ++ [f.getD j nd0]) := Lib.hid (by
            rw [List.take_succ_eq_append_getElem hjf, show f.getD j nd0 = f[j] from by simp [hjf]])
          have hlen : (f.take j).length = j := by rw [List.length_take]; omega
          generalize f.getD j nd0 = y at *
          generalize hL : f.take j = L at *
          have l1 := add_cell m1
          have l2 := add_cell m2
          have l3 := add_cell m3
          have l4 := add_cell m4
          have l5 := add_cell m5
          have HOW := Lib.hid HO.out
          clear hL
          go_wp2_with (at_builtin; refine wp_appN y _ rfl _ _ rfl (w.heap.size + 1) _ _ rfl (HOW.out.alloc _) rfl ?k1 ?k2 ?k3 ?_)
          case k1 =>
            intro j' u hj'
            have hh := heap_alloc_new wr (.cells #[.int .i64 y.op, .int .i64 y.i, .int .i64 y.e, .int .i64 y.g, .int .i64 y.x, .int .i64 y.y] 62)
            rw [Lib.cell_of_heap hh j', ← hj']
            simp [ndC]
          case k2 => omega
          case k3 => simp; omega
          · intro v' w5 hown5 hgrow
            have HO5 : Hid (w5.ownsRow (w.heap.size + 1) 62 6 v' (f.take (j + 1)).length (nds (f.take (j + 1)))) := Lib.hid (by rw [HT.out, List.length_append, hlen]; exact hown5)
            have HX5 := Lib.hid (HX.out.keep (W' := w5) ((hgrow.block w.heap.size (by simp; omega) (fun e => by have := (HOW.out.lt w.heap.size e.symm).1; omega)).trans (Below.heap_alloc wr _ _ hsz)))
            have HB5 : Hid (Below w.heap.size w w5) := Lib.hid ((HB.out.alloc (by omega) _).grown hgrow (by simp; omega) (fun g hg => by have := (HOW.out.lt g hg).1; omega))
            have hs5 : w.heap.size < w5.heap.size := by have := hgrow.size; simp at this; omega
            clear hown5 hgrow m0 m1 m2 m3 m4 m5 l1 l2 l3 l4 l5
            go_wp2
            go_roundw
            case rel => exact ⟨j + 1, by omega, by go_num, HO5, HX5, HB5, hs5⟩
            case measure => simp [intOf]; omega
        · have hjn : f.take j = f := by rw [List.take_of_length_le]; have := HLN.out; omega
          rw [hjn] at HO
          obtain ⟨b0, b1, b2, b3, b4, b5, _⟩ := HX.out
          have hfl : f.length = n := HLN.out
          rw [hfl] at HO
          go_wp2_with (at_builtin; refine wp_appN x' _ rfl _ _ rfl (w.heap.size + 1) _ _ rfl (by rw [hfl]; exact HO.out.alloc _) rfl ?k1 ?k2 ?k3 ?_)
          case k1 =>
            intro j' u hj'
            have hh := heap_alloc_new wr (.cells #[.int .i64 x'.op, .int .i64 x'.i, .int .i64 x'.e, .int .i64 x'.g, .int .i64 x'.x, .int .i64 x'.y] 62)
            rw [Lib.cell_of_heap hh j', ← hj']
            simp [ndC]
          case k2 => omega
          case k3 => simp; omega
          · intro v' w5 hown5 hgrow
            obtain ⟨A5, c5, rfl⟩ := own_sl hown5
            have HR5 := Lib.hid (Reads.of_own hown5)
            have HB5 : Hid (Below w.heap.size w w5) := Lib.hid ((HB.out.alloc (by omega) _).grown hgrow (by simp; omega) (fun g hg => by have := (HO.out.lt g hg).1; omega))
            clear hown5 hgrow b0 b1 b2 b3 b4 b5
            go_wp2_with fail
            refine (HS.out _ _ _ HR5.out).mono ?_
            rintro e w6 ⟨A6, c6, rfl, hR6, hb6⟩
            have HR6 := Lib.hid hR6
            have HB6 := Lib.hid (HB5.out.trans (hb6.mono HB5.out.size))
            clear hR6 hb6
            go_wp2
            go_ret
            exact ⟨A6, c6, rfl, HR6.out, HB6.out⟩
    · have hq : q = [] := by rw [HU.out, if_neg hz]
      subst hq
      have hzb : (z != 0) = true := by simpa using hz
      clear hz
      go_wp2
      go_ret
      exact ⟨none, 0, rfl, World.ownsRow_nil _ _ _ _, HB3.out⟩
  · have hq : unaryF x f = [] := by unfold unaryF; rw [if_neg hz]
    rw [hq]
    have hzb : (fErr f != 0) = true := by simpa using hz
    generalize fErr f = z at *
    unfold nv
    clear hq hz
    go_enter Tryd.func118, Tryd.ntmps118
    go_wp2_with fail
    generalize w.alloc (.cells #[.int .i64 x.op, .int .i64 x.i, .int .i64 x.e, .int .i64 x.g, .int .i64 x.x, .int .i64 x.y] 62) = w0 at *
    refine (HC.out _ HB0.out).mono ?_
    rintro e w1 ⟨rfl, hb1⟩
    have HB1 := Lib.hid (HB0.out.trans (hb1.mono (Nat.le_of_lt hs0)))
    clear hb1
    go_wp2
    go_ret
    exact ⟨none, 0, rfl, World.ownsRow_nil _ _ _ _, HB1.out⟩
set_option maxRecDepth 100000 in
set_option maxHeartbeats 8000000 in
theorem rBinary_own (x : Nd) (f g : List Nd) (A A2 : Option Addr) (n c n2 c2 : Nat) (w : World) (hR : Reads w w.heap.size 6 A n (nds f)) (hm : n ≤ maxLen) (hR2 : Reads w w.heap.size 6 A2 n2 (nds g)) (hm2 : n2 ≤ maxLen) :
    Calls Tryd.prog 116 #[nv x, .slice A n c, .slice A2 n2 c2] w fun e w' => ∃ A' c', e = .returned (.slice A' (binaryF x f g).length c') ∧ w'.ownsRow 0 62 6 (.slice A' (binaryF x f g).length c') (binaryF x f g).length (nds (binaryF x f g)) ∧ Below w.heap.size w w' := by
  have hl := hR.nd_len
  have hl2 := hR2.nd_len
  have HR := Lib.hid hR
  have HR2 := Lib.hid hR2
  have HC : Hid (∀ W, Below w.heap.size w W → Calls Tryd.prog 30 #[.slice A n c] W fun e w' => e = .returned (.int .i64 (fErr f)) ∧ Below W.heap.size W w') := Lib.hid (fun W h => rCheck_any f A n c W ((hR.below h).more h.size) hm)
  have HC2 : Hid (∀ W, Below w.heap.size w W → Calls Tryd.prog 30 #[.slice A2 n2 c2] W fun e w' => e = .returned (.int .i64 (fErr g)) ∧ Below W.heap.size W w') := Lib.hid (fun W h => rCheck_any g A2 n2 c2 W ((hR2.below h).more h.size) hm2)
  have HB0 : Hid (Below w.heap.size w (w.alloc (.cells #[.int .i64 x.op, .int .i64 x.i, .int .i64 x.e, .int .i64 x.g, .int .i64 x.x, .int .i64 x.y] 62))) := Lib.hid ((Below.refl _ w).alloc (Nat.le_refl _) _)
  have HBX := Lib.hid (Box.made w x 62)
  have hs0 : w.heap.size < (w.alloc (.cells #[.int .i64 x.op, .int .i64 x.i, .int .i64 x.e, .int .i64 x.g, .int .i64 x.x, .int .i64 x.y] 62)).heap.size := by simp
  clear hR hR2
  by_cases hz : fErr f = 0
  · have HCZ : Hid (∀ W, Below w.heap.size w W → Calls Tryd.prog 30 #[.slice A n c] W fun e w' => e = .returned (.int .i64 0) ∧ Below W.heap.size W w') := Lib.hid (fun W h => hz ▸ HC.out W h)
    by_cases hz2 : fErr g = 0
    · have HCZ2 : Hid (∀ W, Below w.heap.size w W → Calls Tryd.prog 30 #[.slice A2 n2 c2] W fun e w' => e = .returned (.int .i64 0) ∧ Below W.heap.size W w') := Lib.hid (fun W h => hz2 ▸ HC2.out W h)
      have hn0 : f.length ≠ 0 := by simpa using (fErr_ok hz).1
      have hn02 : g.length ≠ 0 := by simpa using (fErr_ok hz2).1
      have h200 := (fErr_ok hz).2.1
      have h2002 := (fErr_ok hz2).2.1
      obtain ⟨k, hk⟩ : ∃ k : Nat, (k : Int) = (f.length : Int) - 1 := ⟨f.length - 1, by omega⟩
      obtain ⟨k2, hk2⟩ : ∃ k2 : Nat, (k2 : Int) = (f.length + g.length : Int) - 1 := ⟨f.length + g.length - 1, by omega⟩
      have HU : Hid (binaryF x f g = if nodeErr { x with x := (k : Int), y := (k2 : Int) } ((n : Int) + (n2 : Int)) = 0 then shortF (f ++ g.map (shiftN f.length) ++ [{ x with x := (k : Int), y := (k2 : Int) }]) else []) := Lib.hid (by unfold binaryF; rw [if_pos hz, if_pos hz2, hk, hk2, hl, hl2, Int.natCast_add])
      have HN : Hid (∀ W, Calls Tryd.prog 83 #[nv { x with x := (k : Int), y := (k2 : Int) }, .int .i64 ((n : Int) + (n2 : Int))] W fun e w' => e = .returned (.int .i64 (nodeErr { x with x := (k : Int), y := (k2 : Int) } ((n : Int) + (n2 : Int)))) ∧ Below W.heap.size W w') := Lib.hid (fun W => rNode_any _ _ W)
      have hcl : (f ++ g.map (shiftN f.length)).length = n + n2 := by rw [List.length_append, List.length_map]; omega
      have HSH : Hid (nodeErr { x with x := (k : Int), y := (k2 : Int) } ((n : Int) + (n2 : Int)) = 0 → ∀ W A1 c1, Reads W W.heap.size 6 A1 (n + n2 + 1) (nds (f ++ g.map (shiftN f.length) ++ [{ x with x := (k : Int), y := (k2 : Int) }])) → Calls Tryd.prog 152 #[.slice A1 (n + n2 + 1) c1] W fun e w' => ∃ A' c', e = .returned (.slice A' (shortF (f ++ g.map (shiftN f.length) ++ [{ x with x := (k : Int), y := (k2 : Int) }])).length c') ∧ w'.ownsRow 0 62 6 (.slice A' (shortF (f ++ g.map (shiftN f.length) ++ [{ x with x := (k : Int), y := (k2 : Int) }])).length c') (shortF (f ++ g.map (shiftN f.length) ++ [{ x with x := (k : Int), y := (k2 : Int) }])).length (nds (shortF (f ++ g.map (shiftN f.length) ++ [{ x with x := (k : Int), y := (k2 : Int) }]))) ∧ Below W.heap.size W w') := Lib.hid (fun he W A1 c1 h1 => by
        rw [← Int.natCast_add] at he
        have hn := (nodeErr_iff _ _).1 he
        rw [← hcl] at hn
        obtain ⟨c1', c2'⟩ := catL_ok hz hz2
        have hok := snoc_ok c1' c2' hn.1 hn.2
        exact rShort_own _ hok.ne hok.ops (snoc_kn c2' hn.2) A1 (n + n2 + 1) c1 W h1 (by omega))
      have HGO := Lib.hid (fErr_ops hz2)
      have HGK := Lib.hid (fErr_known hz2)
      have HCL0 : Hid (catL f g 0 = f) := Lib.hid (by simp [catL])
      have HCLE : Hid (catL f g n2 = f ++ g.map (shiftN f.length)) := Lib.hid (by unfold catL; rw [← hl2, List.take_length])
      have HCT : Hid (∀ j, j < n2 → catL f g (j + 1) = catL f g j ++ [shiftN n (g.getD j nd0)] ∧ (catL f g j).length = n + j) := Lib.hid (fun j hj => by
        have hjg : j < g.length := by omega
        refine ⟨?_, by unfold catL; rw [List.length_append, List.length_map, List.length_take]; omega⟩
        unfold catL
        rw [List.take_succ_eq_append_getElem hjg, List.map_append, ← List.append_assoc, show g.getD j nd0 = g[j] from by simp [hjg], hl]; rfl)
      have HLN := Lib.hid hl
      have HLN2 := Lib.hid hl2
      have HCLL := Lib.hid hcl
      have hw1 : wrap64 ((n : Int) - 1) = (k : Int) := by unfold wrap64; omega
      have hw2 : IntKind.i64.wrap ((n : Int) - 1) = (k : Int) := by rw [IntKind.wrap_i64]; omega
      have hw3 : (n : Int) - 1 = (k : Int) := by omega
      have hw4 : wrap64 (((n : Int) + (n2 : Int)) - 1) = (k2 : Int) := by unfold wrap64; omega
      have hw5 : IntKind.i64.wrap (((n : Int) + (n2 : Int)) - 1) = (k2 : Int) := by rw [IntKind.wrap_i64]; omega
      have hw6 : ((n : Int) + (n2 : Int)) - 1 = (k2 : Int) := by omega
      have hn200 : n ≤ 200 := by omega
      have hn2002 : n2 ≤ 200 := by omega
      generalize hcg : f ++ g.map (shiftN f.length) = FG at *
      generalize nodeErr { x with x := (k : Int), y := (k2 : Int) } ((n : Int) + (n2 : Int)) = z at *
      unfold nv at HN ⊢
      dsimp only at HN
      generalize binaryF x f g = q at *
      clear hz hz2 hn0 hn02 h200 h2002 hk hk2 hl hl2 HC HC2 hcl hcg
      go_enter Tryd.func116, Tryd.ntmps116
      go_wp2_with fail
      generalize w.alloc (.cells #[.int .i64 x.op, .int .i64 x.i, .int .i64 x.e, .int .i64 x.g, .int .i64 x.x, .int .i64 x.y] 62) = w0 at *
      refine (HCZ.out _ HB0.out).mono ?_
      rintro e w1 ⟨rfl, hb1⟩
      have HB1 := Lib.hid (HB0.out.trans (hb1.mono (Nat.le_of_lt hs0)))
      have hs1 : w.heap.size < w1.heap.size := Nat.lt_of_lt_of_le hs0 hb1.size
      have HBX1 := Lib.hid (HBX.out.keep (W' := w1) (hb1.block _ hs0))
      clear hb1
      go_wp2_with fail
      refine (HCZ2.out _ HB1.out).mono ?_
      rintro e w2 ⟨rfl, hb2⟩
      have HB2 := Lib.hid (HB1.out.trans (hb2.mono (Nat.le_of_lt hs1)))
      have hs2 : w.heap.size < w2.heap.size := Nat.lt_of_lt_of_le hs1 hb2.size
      have HBX2 := Lib.hid (HBX1.out.keep (W' := w2) (hb2.block _ hs1))
      clear hb2
      go_wp2
      go_loopw [7, 8] (fun u7 i wr => ∃ j : Nat, j ≤ n ∧ i = .int .i64 j ∧ Hid (wr.ownsRow (w.heap.size + 1) 62 6 u7 (f.take j).length (nds (f.take j))) ∧ Hid (Box wr w.heap.size x) ∧ Hid (Below w.heap.size w wr) ∧ w.heap.size < wr.heap.size) (fun _ i _ => n - (intOf i).toNat)
      case atStart => exact ⟨0, Nat.zero_le _, rfl, Lib.hid (World.ownsRow_nil _ _ _ _), HBX2, HB2, hs2⟩
      case round =>
        obtain ⟨j, hj, rfl, HO, HX, HB, hsz⟩ := hrel
        by_cases hlt : j < n
        · obtain ⟨ad, rfl, hb, m0, m1, m2, m3, m4, m5⟩ := (HR.out.below HB.out).nd_at hlt
          have hjf : j < f.length := by have := HLN.out; omega
          have HT : Hid (f.take (j + 1) = f.take j ++ [f.getD j nd0]) := Lib.hid (by
            rw [List.take_succ_eq_append_getElem hjf, show f.getD j nd0 = f[j] from by simp [hjf]])
          have hlen : (f.take j).length = j := by rw [List.length_take]; omega
          generalize f.getD j nd0 = y at *
          generalize hL : f.take j = L at *
          have l1 := add_cell m1
          have l2 := add_cell m2
          have l3 := add_cell m3
          have l4 := add_cell m4
          have l5 := add_cell m5
          have HOW := Lib.hid HO.out
          clear hL
          go_wp2_with (at_builtin; refine wp_appN y _ rfl _ _ rfl (w.heap.size + 1) _ _ rfl (HOW.out.alloc _) rfl ?k1 ?k2 ?k3 ?_)
          case k1 =>
            intro j' u hj'
            have hh := heap_alloc_new wr (.cells #[.int .i64 y.op, .int .i64 y.i, .int .i64 y.e, .int .i64 y.g, .int .i64 y.x, .int .i64 y.y] 62)
            rw [Lib.cell_of_heap hh j', ← hj']
            simp [ndC]
          case k2 => omega
          case k3 => simp; omega
          · intro v' w5 hown5 hgrow
            have HO5 : Hid (w5.ownsRow (w.heap.size + 1) 62 6 v' (f.take (j + 1)).length (nds (f.take (j + 1)))) := Lib.hid (by rw [HT.out, List.length_append, hlen]; exact hown5)
            have HX5 := Lib.hid (HX.out.keep (W' := w5) ((hgrow.block w.heap.size (by simp; omega) (fun e => by have := (HOW.out.lt w.heap.size e.symm).1; omega)).trans (Below.heap_alloc wr _ _ hsz)))
            have HB5 : Hid (Below w.heap.size w w5) := Lib.hid ((HB.out.alloc (by omega) _).grown hgrow (by simp; omega) (fun g hg => by have := (HOW.out.lt g hg).1; omega))
            have hs5 : w.heap.size < w5.heap.size := by have := hgrow.size; simp at this; omega
            clear hown5 hgrow m0 m1 m2 m3 m4 m5 l1 l2 l3 l4 l5
            go_wp2
            go_roundw
            case rel => exact ⟨j + 1, by omega, by go_num, HO5, HX5, HB5, hs5⟩
            case measure => simp [intOf]; omega
        · have hjn : f.take j = f := by rw [List.take_of_length_le]; have := HLN.out; omega
          rw [hjn] at HO
          have HOS := Lib.hid HO.out
          have HXS := Lib.hid HX.out
          have HBS := Lib.hid HB.out
          rw [← HCL0.out] at HOS
          have hszS := hsz
          clear HO HX HB hjn
          go_wp2
          clear hlt hj
          go_loopw [7, 9, 10] (fun u7 i u10 wr => ∃ j : Nat, j ≤ n2 ∧ i = .int .i64 j ∧ Hid (wr.ownsRow (w.heap.size + 1) 62 6 u7 (catL f g j).length (nds (catL f g j))) ∧ Hid (Box wr w.heap.size x) ∧ Hid (Below w.heap.size w wr) ∧ w.heap.size < wr.heap.size) (fun _ i _ _ => n2 - (intOf i).toNat)
          case atStart => exact ⟨0, Nat.zero_le _, rfl, HOS, HXS, HBS, hszS⟩
          case round =>
            obtain ⟨j, hj, rfl, HO, HX, HB, hsz⟩ := hrel
            by_cases hlt : j < n2
            · obtain ⟨ad, rfl, hb, m0, m1, m2, m3, m4, m5⟩ := (HR2.out.below HB.out).nd_at hlt
              have hjg : j < g.length := by have := HLN2.out; omega
              obtain ⟨hct, hlen⟩ := HCT.out j hlt
              have HT := Lib.hid hct
              have hops := HGO.out j hjg
              have hkn := HGK.out j hjg
              clear hct
              generalize g.getD j nd0 = y at *
              generalize hL : catL f g j = L at *
              have HUX := Lib.hid (fun W => rUsesX_any y.op hkn W)
              have HUY := Lib.hid (fun W => rUsesY_any y.op hkn W)
              have l1 := add_cell m1
              have l2 := add_cell m2
              have l3 := add_cell m3
              have l4 := add_cell m4
              have l5 := add_cell m5
              have HOY : Hid ((wr.alloc (.cells #[.int .i64 y.op, .int .i64 y.i, .int .i64 y.e, .int .i64 y.g, .int .i64 y.x, .int .i64 y.y] 62)).ownsRow (w.heap.size + 1) 62 6 u7 L.length (nds L)) := Lib.hid (HO.out.alloc _)
              have HXY : Hid (Box (wr.alloc (.cells #[.int .i64 y.op, .int .i64 y.i, .int .i64 y.e, .int .i64 y.g, .int .i64 y.x, .int .i64 y.y] 62)) w.heap.size x) := Lib.hid (HX.out.keep (Below.heap_alloc wr _ _ hsz))
              have HBWY : Hid (Below w.heap.size w (wr.alloc (.cells #[.int .i64 y.op, .int .i64 y.i, .int .i64 y.e, .int .i64 y.g, .int .i64 y.x, .int .i64 y.y] 62))) := Lib.hid (HB.out.alloc (by omega) _)
              have HBY := Lib.hid (Box.made wr y 62)
              have hsy : (wr.alloc (.cells #[.int .i64 y.op, .int .i64 y.i, .int .i64 y.e, .int .i64 y.g, .int .i64 y.x, .int .i64 y.y] 62)).heap.size = wr.heap.size + 1 := by simp
              have HOG : Hid (∀ g', u7.ownBlock = some g' → g' < wr.heap.size) := Lib.hid (fun g' hg => (HO.out.lt g' hg).2)
              clear hL
              go_wp2_with fail
              clear m0 m1 m2 m3 m4 m5 l1 l2 l3 l4 l5
              generalize wr.alloc (.cells #[.int .i64 y.op, .int .i64 y.i, .int .i64 y.e, .int .i64 y.g, .int .i64 y.x, .int .i64 y.y] 62) = wy at *
              generalize hG : wr.heap.size = G at *
              have HGG := Lib.hid hG
              clear hG
              cases hux : usesX y.op with
              | false =>
                have huy : usesY y.op = false := by cases h : usesY y.op with | false => rfl | true => have := usesY_X h; rw [hux] at this; cases this
                have hz : shiftN n y = ⟨y.op, y.i, y.e, y.g, y.x, y.y⟩ := by unfold shiftN; rw [hux, huy]; rfl
                rw [hz] at HT
                rw [hux] at HUX
                rw [huy] at HUY
                obtain ⟨b0, b1, b2, b3, b4, b5, bf⟩ := HBY.out
                have bf4 := bf 4
                have bf5 := bf 5
                clear bf hz hux huy hops
                refine (HUX.out _).mono ?_
                rintro e w1 ⟨rfl, rfl⟩
                go_wp2_with fail
                refine (HUY.out _).mono ?_
                rintro e w1 ⟨rfl, rfl⟩
                have HOZ : Hid (wy.ownsRow (w.heap.size + 1) 62 6 u7 L.length (nds L)) := Lib.hid (own_keep1 HOY.out (fun g hg => by have hg2 := HOG.out g hg; exact rfl))
                have HXZ : Hid (Box wy w.heap.size x) := Lib.hid (HXY.out.keep (rfl))
                have HBZ : Hid (Below w.heap.size w wy) := Lib.hid HBWY.out
                have hsz9 : w.heap.size + 1 < wy.heap.size := by first | omega | (simp; omega)
                go_wp2_with (at_builtin; refine wp_appN ⟨y.op, y.i, y.e, y.g, y.x, y.y⟩ _ rfl _ _ rfl (w.heap.size + 1) _ _ rfl (HOZ.out.alloc _) rfl ?k1 ?k2 ?k3 ?_)
                case k1 =>
                  intro j' u hj'
                  have hh := heap_alloc_new wy (.cells #[.int .i64 y.op, .int .i64 y.i, .int .i64 y.e, .int .i64 y.g, .int .i64 (y.x), .int .i64 (y.y)] 62)
                  have hs8 : (wy).heap.size = G + 1 := by first | exact hsy | simpa using hsy
                  rw [hs8] at hh
                  rw [Lib.cell_of_heap hh j', ← hj']
                  simp [ndC]
                case k2 => omega
                case k3 => simp; omega
                · intro v' w5 hown5 hgrow
                  have HO5 : Hid (w5.ownsRow (w.heap.size + 1) 62 6 v' (catL f g (j + 1)).length (nds (catL f g (j + 1)))) := Lib.hid (by rw [HT.out, List.length_append, hlen]; exact hown5)
                  have HX5 := Lib.hid (HXZ.out.keep (W' := w5) ((hgrow.block w.heap.size (by simp; omega) (fun e => by have := (HOZ.out.lt w.heap.size e.symm).1; omega)).trans (Below.heap_alloc _ _ _ (by omega))))
                  have HB5 : Hid (Below w.heap.size w w5) := Lib.hid ((HBZ.out.alloc (by omega) _).grown hgrow (by simp; omega) (fun g hg => by have := (HOZ.out.lt g hg).1; omega))
                  have hs5 : w.heap.size < w5.heap.size := by have := hgrow.size; simp at this; omega
                  clear hown5 hgrow b0 b1 b2 b3 b4 b5 bf4 bf5
                  go_wp2
                  go_roundw
                  case rel => exact ⟨j + 1, by omega, by go_num, HO5, HX5, HB5, hs5⟩
                  case measure => simp [intOf]; omega
              | true =>
                cases huy : usesY y.op with
                | false =>
                  have hz : shiftN n y = ⟨y.op, y.i, y.e, y.g, y.x + n, y.y⟩ := by unfold shiftN; rw [hux, huy]; rfl
                  rw [hz] at HT
                  rw [hux] at HUX
                  rw [huy] at HUY
                  have hbx := opsOk_x hops hux
                  have ax1 : wrap64 (y.x + (n : Int)) = y.x + n := by unfold wrap64; omega
                  have ax2 : IntKind.i64.wrap (y.x + (n : Int)) = y.x + n := by rw [IntKind.wrap_i64]; omega
                  obtain ⟨b0, b1, b2, b3, b4, b5, bf⟩ := HBY.out
                  have bf4 := bf 4
                  have bf5 := bf 5
                  clear bf hz hux huy hops
                  refine (HUX.out _).mono ?_
                  rintro e w1 ⟨rfl, rfl⟩
                  go_wp2_with fail
                  refine (HUY.out _).mono ?_
                  rintro e w1 ⟨rfl, rfl⟩
                  have HOZ : Hid ((wy.setCell ⟨G, 4, none⟩ (.int .i64 (y.x + n))).ownsRow (w.heap.size + 1) 62 6 u7 L.length (nds L)) := Lib.hid (own_keep1 HOY.out (fun g hg => by have hg2 := HOG.out g hg; exact Below.heap_setCell _ _ _ _ (by show g ≠ G; omega)))
                  have HXZ : Hid (Box (wy.setCell ⟨G, 4, none⟩ (.int .i64 (y.x + n))) w.heap.size x) := Lib.hid (HXY.out.keep (Below.heap_setCell _ _ _ _ (by show w.heap.size ≠ G; omega)))
                  have HBZ : Hid (Below w.heap.size w (wy.setCell ⟨G, 4, none⟩ (.int .i64 (y.x + n)))) := Lib.hid (HBWY.out.setCell (by show w.heap.size ≤ G; omega) _)
                  have hsz9 : w.heap.size + 1 < (wy.setCell ⟨G, 4, none⟩ (.int .i64 (y.x + n))).heap.size := by first | omega | (simp; omega)
                  go_wp2_with (at_builtin; refine wp_appN ⟨y.op, y.i, y.e, y.g, y.x + n, y.y⟩ _ rfl _ _ rfl (w.heap.size + 1) _ _ rfl (HOZ.out.alloc _) rfl ?k1 ?k2 ?k3 ?_)
                  case k1 =>
                    intro j' u hj'
                    have hh := heap_alloc_new (wy.setCell ⟨G, 4, none⟩ (.int .i64 (y.x + n))) (.cells #[.int .i64 y.op, .int .i64 y.i, .int .i64 y.e, .int .i64 y.g, .int .i64 (y.x + n), .int .i64 (y.y)] 62)
                    have hs8 : ((wy.setCell ⟨G, 4, none⟩ (.int .i64 (y.x + n)))).heap.size = G + 1 := by first | exact hsy | simpa using hsy
                    rw [hs8] at hh
                    rw [Lib.cell_of_heap hh j', ← hj']
                    simp [ndC]
                  case k2 => omega
                  case k3 => simp; omega
                  · intro v' w5 hown5 hgrow
                    have HO5 : Hid (w5.ownsRow (w.heap.size + 1) 62 6 v' (catL f g (j + 1)).length (nds (catL f g (j + 1)))) := Lib.hid (by rw [HT.out, List.length_append, hlen]; exact hown5)
                    have HX5 := Lib.hid (HXZ.out.keep (W' := w5) ((hgrow.block w.heap.size (by simp; omega) (fun e => by have := (HOZ.out.lt w.heap.size e.symm).1; omega)).trans (Below.heap_alloc _ _ _ (by omega))))
                    have HB5 : Hid (Below w.heap.size w w5) := Lib.hid ((HBZ.out.alloc (by omega) _).grown hgrow (by simp; omega) (fun g hg => by have := (HOZ.out.lt g hg).1; omega))
                    have hs5 : w.heap.size < w5.heap.size := by have := hgrow.size; simp at this; omega
                    clear hown5 hgrow b0 b1 b2 b3 b4 b5 bf4 bf5
                    go_wp2
                    go_roundw
                    case rel => exact ⟨j + 1, by omega, by go_num, HO5, HX5, HB5, hs5⟩
                    case measure => simp [intOf]; omega

                | true =>
                  have hz : shiftN n y = ⟨y.op, y.i, y.e, y.g, y.x + n, y.y + n⟩ := by unfold shiftN; rw [hux, huy]; rfl
                  rw [hz] at HT
                  rw [hux] at HUX
                  rw [huy] at HUY
                  have hbx := opsOk_x hops hux
                  have ax1 : wrap64 (y.x + (n : Int)) = y.x + n := by unfold wrap64; omega
                  have ax2 : IntKind.i64.wrap (y.x + (n : Int)) = y.x + n := by rw [IntKind.wrap_i64]; omega
                  have hby := opsOk_y hops huy
                  have ay1 : wrap64 (y.y + (n : Int)) = y.y + n := by unfold wrap64; omega
                  have ay2 : IntKind.i64.wrap (y.y + (n : Int)) = y.y + n := by rw [IntKind.wrap_i64]; omega
                  obtain ⟨b0, b1, b2, b3, b4, b5, bf⟩ := HBY.out
                  have bf4 := bf 4
                  have bf5 := bf 5
                  clear bf hz hux huy hops
                  refine (HUX.out _).mono ?_
                  rintro e w1 ⟨rfl, rfl⟩
                  go_wp2_with fail
                  refine (HUY.out _).mono ?_
                  rintro e w1 ⟨rfl, rfl⟩
                  have HOZ : Hid (((wy.setCell ⟨G, 4, none⟩ (.int .i64 (y.x + n))).setCell ⟨G, 5, none⟩ (.int .i64 (y.y + n))).ownsRow (w.heap.size + 1) 62 6 u7 L.length (nds L)) := Lib.hid (own_keep1 HOY.out (fun g hg => by have hg2 := HOG.out g hg; exact (Below.heap_setCell _ _ _ _ (by show g ≠ G; omega)).trans (Below.heap_setCell _ _ _ _ (by show g ≠ G; omega))))
                  have HXZ : Hid (Box ((wy.setCell ⟨G, 4, none⟩ (.int .i64 (y.x + n))).setCell ⟨G, 5, none⟩ (.int .i64 (y.y + n))) w.heap.size x) := Lib.hid (HXY.out.keep ((Below.heap_setCell _ _ _ _ (by show w.heap.size ≠ G; omega)).trans (Below.heap_setCell _ _ _ _ (by show w.heap.size ≠ G; omega))))
                  have HBZ : Hid (Below w.heap.size w ((wy.setCell ⟨G, 4, none⟩ (.int .i64 (y.x + n))).setCell ⟨G, 5, none⟩ (.int .i64 (y.y + n)))) := Lib.hid ((HBWY.out.setCell (by show w.heap.size ≤ G; omega) _).setCell (by show w.heap.size ≤ G; omega) _)
                  have hsz9 : w.heap.size + 1 < ((wy.setCell ⟨G, 4, none⟩ (.int .i64 (y.x + n))).setCell ⟨G, 5, none⟩ (.int .i64 (y.y + n))).heap.size := by first | omega | (simp; omega)
                  go_wp2_with (at_builtin; refine wp_appN ⟨y.op, y.i, y.e, y.g, y.x + n, y.y + n⟩ _ rfl _ _ rfl (w.heap.size + 1) _ _ rfl (HOZ.out.alloc _) rfl ?k1 ?k2 ?k3 ?_)
                  case k1 =>
                    intro j' u hj'
                    have hh := heap_alloc_new ((wy.setCell ⟨G, 4, none⟩ (.int .i64 (y.x + n))).setCell ⟨G, 5, none⟩ (.int .i64 (y.y + n))) (.cells #[.int .i64 y.op, .int .i64 y.i, .int .i64 y.e, .int .i64 y.g, .int .i64 (y.x + n), .int .i64 (y.y + n)] 62)
                    have hs8 : (((wy.setCell ⟨G, 4, none⟩ (.int .i64 (y.x + n))).setCell ⟨G, 5, none⟩ (.int .i64 (y.y + n)))).heap.size = G + 1 := by first | exact hsy | simpa using hsy
                    rw [hs8] at hh
                    rw [Lib.cell_of_heap hh j', ← hj']
                    simp [ndC]
                  case k2 => omega
                  case k3 => simp; omega
                  · intro v' w5 hown5 hgrow
                    have HO5 : Hid (w5.ownsRow (w.heap.size + 1) 62 6 v' (catL f g (j + 1)).length (nds (catL f g (j + 1)))) := Lib.hid (by rw [HT.out, List.length_append, hlen]; exact hown5)
                    have HX5 := Lib.hid (HXZ.out.keep (W' := w5) ((hgrow.block w.heap.size (by simp; omega) (fun e => by have := (HOZ.out.lt w.heap.size e.symm).1; omega)).trans (Below.heap_alloc _ _ _ (by omega))))
                    have HB5 : Hid (Below w.heap.size w w5) := Lib.hid ((HBZ.out.alloc (by omega) _).grown hgrow (by simp; omega) (fun g hg => by have := (HOZ.out.lt g hg).1; omega))
                    have hs5 : w.heap.size < w5.heap.size := by have := hgrow.size; simp at this; omega
                    clear hown5 hgrow b0 b1 b2 b3 b4 b5 bf4 bf5
                    go_wp2
                    go_roundw
                    case rel => exact ⟨j + 1, by omega, by go_num, HO5, HX5, HB5, hs5⟩
                    case measure => simp [intOf]; omega
            · have hjn : j = n2 := by omega
              rw [hjn, HCLE.out, HCLL.out] at HO
              obtain ⟨b0, b1, b2, b3, b4, b5, bf⟩ := HX.out
              have bf4 := bf 4
              have bf5 := bf 5
              obtain ⟨A7, c7, rfl⟩ := own_sl HO.out
              have HBXk := Lib.hid ((HX.out.setX (k : Int)).setY (k2 : Int))
              have HB2s : Hid (Below w.heap.size w ((wr.setCell ⟨w.heap.size, 4, none⟩ (.int .i64 (k : Int))).setCell ⟨w.heap.size, 5, none⟩ (.int .i64 (k2 : Int)))) := Lib.hid ((HB.out.setCell (Nat.le_refl _) _).setCell (Nat.le_refl _) _)
              have HOs : Hid (((wr.setCell ⟨w.heap.size, 4, none⟩ (.int .i64 (k : Int))).setCell ⟨w.heap.size, 5, none⟩ (.int .i64 (k2 : Int))).ownsRow (w.heap.size + 1) 62 6 (.slice A7 (n + n2) c7) (n + n2) (nds FG)) := Lib.hid (ownsRow_setCell_below (ownsRow_setCell_below HO.out (by show w.heap.size < w.heap.size + 1; omega) _) (by show w.heap.size < w.heap.size + 1; omega) _)
              have hs2s : w.heap.size < ((wr.setCell ⟨w.heap.size, 4, none⟩ (.int .i64 (k : Int))).setCell ⟨w.heap.size, 5, none⟩ (.int .i64 (k2 : Int))).heap.size := by simpa using hsz
              have hd : decide (n2 ≤ j) = true := decide_eq_true (by omega)
              clear bf hjn hj
              go_wp2_with fail
              clear b0 b1 b2 b3 b4 b5 bf4 bf5
              generalize (wr.setCell ⟨w.heap.size, 4, none⟩ (.int .i64 (k : Int))).setCell ⟨w.heap.size, 5, none⟩ (.int .i64 (k2 : Int)) = w4 at *
              refine (HN.out _).mono ?_
              rintro e w5 ⟨rfl, hb5⟩
              have HB5 := Lib.hid (HB2s.out.trans (hb5.mono (Nat.le_of_lt hs2s)))
              have HBX5 := Lib.hid (HBXk.out.keep (W' := w5) (hb5.block _ hs2s))
              have HO5 := Lib.hid (own_keep1 HOs.out (fun g' hg' => hb5.block g' (HOs.out.lt g' hg').2))
              have hs5 := Nat.lt_of_lt_of_le hs2s hb5.size
              clear hb5
              by_cases hz : z = 0
              · subst hz
                have hq : q = shortF (FG ++ [{ x with x := (k : Int), y := (k2 : Int) }]) := by rw [HU.out, if_pos rfl]
                have HS := Lib.hid (HSH.out rfl)
                rw [← hq] at HS
                clear HU HSH HN hq
                generalize ({ x with x := (k : Int), y := (k2 : Int) } : Nd) = x' at *
                obtain ⟨b0, b1, b2, b3, b4, b5, _⟩ := HBX5.out
                have hfl := HCLL.out
                go_wp2_with (at_builtin; refine wp_appN x' _ rfl _ _ rfl (w.heap.size + 1) _ _ rfl (by rw [hfl]; exact HO5.out.alloc _) rfl ?k1 ?k2 ?k3 ?_)
                case k1 =>
                  intro j' u hj'
                  have hh := heap_alloc_new w5 (.cells #[.int .i64 x'.op, .int .i64 x'.i, .int .i64 x'.e, .int .i64 x'.g, .int .i64 x'.x, .int .i64 x'.y] 62)
                  rw [Lib.cell_of_heap hh j', ← hj']
                  simp [ndC]
                case k2 => omega
                case k3 => simp; omega
                · intro v' w6 hown6 hgrow
                  obtain ⟨A6, c6, rfl⟩ := own_sl hown6
                  have HR6 := Lib.hid (Reads.of_own hown6)
                  have HB6 : Hid (Below w.heap.size w w6) := Lib.hid ((HB5.out.alloc (by omega) _).grown hgrow (by simp; omega) (fun g hg => by have := (HO5.out.lt g hg).1; omega))
                  clear hown6 hgrow b0 b1 b2 b3 b4 b5
                  go_wp2_with fail
                  refine (HS.out _ _ _ HR6.out).mono ?_
                  rintro e w7 ⟨A8, c8, rfl, hR8, hb8⟩
                  have HR8 := Lib.hid hR8
                  have HB8 := Lib.hid (HB6.out.trans (hb8.mono HB6.out.size))
                  clear hR8 hb8
                  go_wp2
                  go_ret
                  exact ⟨A8, c8, rfl, HR8.out, HB8.out⟩
              · have hq : q = [] := by rw [HU.out, if_neg hz]
                have hzb : (z != 0) = true := by simpa using hz
                clear hz HU HSH HN
                subst hq
                go_wp2
                go_ret
                exact ⟨none, 0, rfl, World.ownsRow_nil _ _ _ _, HB5.out⟩
    · have hq : binaryF x f g = [] := by unfold binaryF; rw [if_pos hz, if_neg hz2]
      rw [hq]
      have hzb : (fErr g != 0) = true := by simpa using hz2
      generalize fErr g = z at *
      unfold nv
      clear hq hz hz2 hl hl2
      go_enter Tryd.func116, Tryd.ntmps116
      go_wp2_with fail
      generalize w.alloc (.cells #[.int .i64 x.op, .int .i64 x.i, .int .i64 x.e, .int .i64 x.g, .int .i64 x.x, .int .i64 x.y] 62) = w0 at *
      refine (HCZ.out _ HB0.out).mono ?_
      rintro e w1 ⟨rfl, hb1⟩
      have HB1 := Lib.hid (HB0.out.trans (hb1.mono (Nat.le_of_lt hs0)))
      clear hb1
      go_wp2_with fail
      refine (HC2.out _ HB1.out).mono ?_
      rintro e w2 ⟨rfl, hb2⟩
      have HB2 := Lib.hid (HB1.out.trans (hb2.mono HB1.out.size))
      clear hb2
      go_wp2
      go_ret
      exact ⟨none, 0, rfl, World.ownsRow_nil _ _ _ _, HB2.out⟩
  · have hq : binaryF x f g = [] := by unfold binaryF; rw [if_neg hz]
    rw [hq]
    have hzb : (fErr f != 0) = true := by simpa using hz
    generalize fErr f = z at *
    unfold nv
    clear hq hz hl hl2
    go_enter Tryd.func116, Tryd.ntmps116
    go_wp2_with fail
    generalize w.alloc (.cells #[.int .i64 x.op, .int .i64 x.i, .int .i64 x.e, .int .i64 x.g, .int .i64 x.x, .int .i64 x.y] 62) = w0 at *
    refine (HC.out _ HB0.out).mono ?_
    rintro e w1 ⟨rfl, hb1⟩
    have HB1 := Lib.hid (HB0.out.trans (hb1.mono (Nat.le_of_lt hs0)))
    clear hb1
    go_wp2
    go_ret
    exact ⟨none, 0, rfl, World.ownsRow_nil _ _ _ _, HB1.out⟩
end Go.Proofs.YtkkkomkljpolbaaDoor
/- Layer 8: the mathematics of the reference's Rebuild and Subst. -/
namespace Go.Proofs.YtkkkomkljpolbaaDoor
open Go Go.Proofs.Ws
/-- a node and the results of its operands -/
def rebF (n : Nd) (a b : List Nd) : List Nd := if usesY n.op = true then binaryF (bare n) a b else if usesX n.op = true then unaryF (bare n) a else oneF (bare n)
theorem treeOf_can {t : Tr} (h : trOk t) : treeOf (canT t) = t := canT_tree h
theorem unary_nil (x : Nd) : unaryF x [] = [] := rfl
theorem binary_nil1 (x : Nd) (g : List Nd) : binaryF x [] g = [] := rfl
theorem binary_nil2 (x : Nd) (f : List Nd) : binaryF x f [] = [] := by
  unfold binaryF
  split
  · rfl
  · rfl
/-- rebuilding is the node of the trees; what is too long stays empty -/
theorem reb_res {n : Nd} (hn : fldOk n) {a b : Tr} (hx : usesX n.op = true → AllOk a) (hy : usesY n.op = true → AllOk b) : rebF n (resL a) (resL b) = resL (mkT (bare n) a b) := by
  have hk : known (bare n).op = true := hn.1
  have hc : cleanN (bare n) := hn.2.1
  have hr : rangeOk (bare n) = true := hn.2.2
  have hb : bare (bare n) = bare n := rfl
  have hall : AllOk (mkT (bare n) a b) := all_mk hb hn hx hy
  unfold rebF mkT at *
  by_cases h2 : usesY n.op = true
  · have h1 := usesY_X h2
    rw [if_pos h2]
    rw [if_pos (show usesY (bare n).op = true from h2)] at hall ⊢
    have ha := hx h1
    have hbb := hy h2
    by_cases la : 200 < (canT a).length
    · rw [resL_nil.2 la, binary_nil1]
      exact (resL_part hall.1 (sub_bin1 _ a b) (resL_nil.2 la)).symm
    · by_cases lb : 200 < (canT b).length
      · rw [resL_nil.2 lb, binary_nil2]
        exact (resL_part hall.1 (sub_bin2 _ a b) (resL_nil.2 lb)).symm
      · rw [resL_short (by omega : (canT a).length ≤ 200), resL_short (by omega : (canT b).length ≤ 200), ← buildF_bin (n := bare n) hk hc h1 h2, build_bin hk hc hr hb h1 h2 (canT_good ha (by omega)) (canT_good hbb (by omega)), treeOf_can ha.1, treeOf_can hbb.1]
        rfl
  · have h2f : usesY n.op = false := by simpa using h2
    rw [if_neg h2]
    rw [if_neg (show ¬ usesY (bare n).op = true from h2)] at hall ⊢
    by_cases h1 : usesX n.op = true
    · rw [if_pos h1]
      rw [if_pos (show usesX (bare n).op = true from h1)] at hall ⊢
      have ha := hx h1
      by_cases la : 200 < (canT a).length
      · rw [resL_nil.2 la, unary_nil]
        exact (resL_part hall.1 (sub_un _ a) (resL_nil.2 la)).symm
      · rw [resL_short (by omega : (canT a).length ≤ 200), ← buildF_un (n := bare n) hk hc rfl h1 h2f, build_un hk hc hr hb h1 h2f (canT_good ha (by omega)), treeOf_can ha.1]
        rfl
    · have h1f : usesX n.op = false := by simpa using h1
      rw [if_neg h1]
      rw [if_neg (show ¬ usesX (bare n).op = true from h1)]
      rw [← buildF_one (n := bare n) hk hc rfl rfl h1f, build_leaf hk hc hr hb h1f, resL_short]
      simp [canT, finT, putNd]
/-- what the reference's Subst lays at a place -/
def subI (c : List Nd) (to l : List (List Nd)) (k : Nat) : List Nd :=
  if (c.getD k nd0).op = 3 ∧ (c.getD k nd0).i < (to.length : Int) then compF (to.getD (c.getD k nd0).i.toNat [])
  else rebF (c.getD k nd0) (if usesX (c.getD k nd0).op = true then l.getD (c.getD k nd0).x.toNat [] else []) (if usesY (c.getD k nd0).op = true then l.getD (c.getD k nd0).y.toNat [] else [])
def subLs (c : List Nd) (to : List (List Nd)) : Nat → List (List Nd)
  | 0 => []
  | k + 1 => subLs c to k ++ [subI c to (subLs c to k) k]
end Go.Proofs.YtkkkomkljpolbaaDoor
/- Layer 8: the reference's Rebuild and done. -/
namespace Go.Proofs.YtkkkomkljpolbaaDoor
open Go.RowKit Go.Proofs.Ws Go.Maps
set_option maxRecDepth 100000
theorem done_ok (A : Option Addr) (n c : Nat) (w : World) (hn : n ≠ 0) : Calls Tryd.prog 66 #[.slice A n c] w fun e w' => e = .returned (.tuple #[.slice A n c, .int .i64 0]) ∧ w = w' := by
  have hb : ((n : Int) == 0) = false := by simpa using hn
  go_enter Tryd.func66, Tryd.ntmps66
  go_wp2
  go_ret2
  exact ⟨rfl, rfl⟩
set_option maxHeartbeats 4000000 in
theorem reb_any (x : Nd) (hk : known x.op = true) (a b : List Nd) (A B : Option Addr) (ca cb : Nat) (w : World) (hA : Reads w w.heap.size 6 A a.length (nds a)) (hla : a.length ≤ maxLen) (hB : Reads w w.heap.size 6 B b.length (nds b)) (hlb : b.length ≤ maxLen) :
    Calls Tryd.prog 65 #[nv x, .slice A a.length ca, .slice B b.length cb] w fun e w' => ∃ A' c', e = .returned (.slice A' (rebF x a b).length c') ∧ w'.ownsRow 0 62 6 (.slice A' (rebF x a b).length c') (rebF x a b).length (nds (rebF x a b)) ∧ Below w.heap.size w w' := by
  have HA := Lib.hid hA
  have HB := Lib.hid hB
  clear hA hB
  have HFA : Hid (∀ W, Below w.heap.size w W → Reads W W.heap.size 6 A a.length (nds a)) := Lib.hid (fun W h => (HA.out.below h).more h.size)
  have HFB : Hid (∀ W, Below w.heap.size w W → Reads W W.heap.size 6 B b.length (nds b)) := Lib.hid (fun W h => (HB.out.below h).more h.size)
  have HBZ : Hid (Below w.heap.size w (w.alloc (.cells #[.int .i64 x.op, .int .i64 x.i, .int .i64 x.e, .int .i64 x.g, .int .i64 0, .int .i64 0] 62))) := Lib.hid ((Below.refl _ w).alloc (Nat.le_refl _) _)
  unfold nv
  by_cases h2 : usesY x.op = true
  · have HU : Hid (∀ W, Calls Tryd.prog 50 #[.int .i64 x.op] W fun e w' => e = .returned (.bool true) ∧ W = w') := Lib.hid (fun W => by have := rUsesY_any x.op hk W; rw [h2] at this; exact this)
    rw [show rebF x a b = binaryF (bare x) a b from if_pos h2]
    have HR := Lib.hid (fun (W : World) (h : Below w.heap.size w W) => rBinary_own (bare x) a b A B a.length ca b.length cb W (HFA.out W h) hla (HFB.out W h) hlb)
    generalize binaryF (bare x) a b = q at *
    unfold nv bare at HR
    dsimp only at HR
    clear h2
    go_enter Tryd.func65, Tryd.ntmps65
    go_wp2_with fail
    refine (HU.out _).mono ?_
    rintro r w1 ⟨rfl, rfl⟩
    go_wp2_with fail
    refine (HR.out _ HBZ.out).mono ?_
    rintro r w2 ⟨A', c', rfl, ho, hb⟩
    have HO := Lib.hid ho
    have HB2 := Lib.hid (HBZ.out.trans (hb.mono HBZ.out.size))
    clear ho hb
    go_wp2
    go_ret
    exact ⟨A', c', rfl, HO.out, HB2.out⟩
  · have h2f : usesY x.op = false := by simpa using h2
    have HU : Hid (∀ W, Calls Tryd.prog 50 #[.int .i64 x.op] W fun e w' => e = .returned (.bool false) ∧ W = w') := Lib.hid (fun W => by have := rUsesY_any x.op hk W; rw [h2f] at this; exact this)
    by_cases h1 : usesX x.op = true
    · have HV : Hid (∀ W, Calls Tryd.prog 49 #[.int .i64 x.op] W fun e w' => e = .returned (.bool true) ∧ W = w') := Lib.hid (fun W => by have := rUsesX_any x.op hk W; rw [h1] at this; exact this)
      rw [show rebF x a b = unaryF (bare x) a from (if_neg h2).trans (if_pos h1)]
      have HR := Lib.hid (fun (W : World) (h : Below w.heap.size w W) => rUnary_own (bare x) a A a.length ca W (HFA.out W h) hla)
      generalize unaryF (bare x) a = q at *
      unfold nv bare at HR
      dsimp only at HR
      clear h2 h2f h1
      go_enter Tryd.func65, Tryd.ntmps65
      go_wp2_with fail
      refine (HU.out _).mono ?_
      rintro r w1 ⟨rfl, rfl⟩
      go_wp2_with fail
      refine (HV.out _).mono ?_
      rintro r w1 ⟨rfl, rfl⟩
      go_wp2_with fail
      refine (HR.out _ HBZ.out).mono ?_
      rintro r w2 ⟨A', c', rfl, ho, hb⟩
      have HO := Lib.hid ho
      have HB2 := Lib.hid (HBZ.out.trans (hb.mono HBZ.out.size))
      clear ho hb
      go_wp2
      go_ret
      exact ⟨A', c', rfl, HO.out, HB2.out⟩
    · have h1f : usesX x.op = false := by simpa using h1
      have HV : Hid (∀ W, Calls Tryd.prog 49 #[.int .i64 x.op] W fun e w' => e = .returned (.bool false) ∧ W = w') := Lib.hid (fun W => by have := rUsesX_any x.op hk W; rw [h1f] at this; exact this)
      rw [show rebF x a b = oneF (bare x) from (if_neg h2).trans (if_neg h1)]
      have HR := Lib.hid (fun (W : World) => rOne_own (bare x) W)
      generalize oneF (bare x) = q at *
      unfold nv bare at HR
      dsimp only at HR
      clear h2 h2f h1 h1f
      go_enter Tryd.func65, Tryd.ntmps65
      go_wp2_with fail
      refine (HU.out _).mono ?_
      rintro r w1 ⟨rfl, rfl⟩
      go_wp2_with fail
      refine (HV.out _).mono ?_
      rintro r w1 ⟨rfl, rfl⟩
      go_wp2_with fail
      refine (HR.out _).mono ?_
      rintro r w2 ⟨A', c', rfl, ho, hb⟩
      have HO := Lib.hid ho
      have HB2 := Lib.hid (HBZ.out.trans (hb.mono HBZ.out.size))
      clear ho hb
      go_wp2
      go_ret
      exact ⟨A', c', rfl, HO.out, HB2.out⟩
end Go.Proofs.YtkkkomkljpolbaaDoor
/- Layer 8: the reference's Subst. -/
namespace Go.Proofs.YtkkkomkljpolbaaDoor
open Go.RowKit Go.Proofs.Ws Go.Maps
set_option maxRecDepth 100000
theorem LL.at_ {W : World} {b : Nat} {v : Value} {ls : List (List Nd)} (h : LL W b v ls) {n : Nat} (hn : ls.length = n) : ∃ A c, v = .slice A n c ∧ ∀ k, k < n → ∃ ad Aj cj, A = some ad ∧ W.cell? (ad.add k) = some (.slice Aj (ls.getD k []).length cj) ∧ Reads W W.heap.size 6 Aj (ls.getD k []).length (nds (ls.getD k [])) := by
  subst hn
  obtain ⟨A, c, e, h2⟩ := h.slice
  refine ⟨A, c, e, fun k hk => ?_⟩
  obtain ⟨ad, Aj, cj, h3, h4, h5⟩ := h2 k hk
  exact ⟨ad, Aj, cj, h3, h4, Reads.of_own h5⟩
/-- what the reference's Subst lays for a formula and formulas in order -/
structure SubR (f : List Nd) (ls : List (List Nd)) (q : List Nd) : Prop where
  ok : OkL q
  kn : knownL q
  fld : ∀ n ∈ q, fldOk n
  len : q.length ≤ 200
  short : ∀ k, k ≤ q.length → ∀ j, j < k → ((subLs q ls k).getD j []).length ≤ 200
  last : (subLs q ls q.length).getD (q.length - 1) [] = subFF f ls
  err : subEE f ls = if subFF f ls = [] then 8 else 0
end Go.Proofs.YtkkkomkljpolbaaDoor
