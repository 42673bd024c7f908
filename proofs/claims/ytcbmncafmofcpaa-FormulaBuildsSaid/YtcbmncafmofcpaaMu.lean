/- Layer 5: the builders of the reference: short, One, Unary, Binary. -/
import Derived.Test.YtcbmncafmofcpaaMj
namespace Go.Proofs.Ws
open Go
/-- the canonical list of a list of nodes, or nothing if it is too long -/
def shortF (l : List Nd) : List Nd := if 200 < (canonF l).length then [] else canonF l
def oneF (x : Nd) : List Nd := if nodeErr x 0 = 0 then [x] else []
def unaryF (x : Nd) (f : List Nd) : List Nd :=
  if fErr f = 0 then (if nodeErr { x with x := (f.length : Int) - 1 } f.length = 0 then shortF (f ++ [{ x with x := (f.length : Int) - 1 }]) else []) else []
def binaryF (x : Nd) (f g : List Nd) : List Nd :=
  if fErr f = 0 then (if fErr g = 0 then (if nodeErr { x with x := (f.length : Int) - 1, y := (f.length + g.length : Int) - 1 } ((f.length + g.length : Nat) : Int) = 0 then
    shortF (f ++ g.map (shiftN f.length) ++ [{ x with x := (f.length : Int) - 1, y := (f.length + g.length : Int) - 1 }]) else []) else []) else []
end Go.Proofs.Ws
namespace Go.Proofs.Ytcbmncafmofcpaa
open Go.RowKit Go.Proofs.Ws Go.Maps
set_option maxRecDepth 100000 in
set_option maxHeartbeats 4000000 in
theorem rShort_any (f : List Nd) (hne : f ≠ []) (hops : opsL f) (hkn : knownL f) (A : Option Addr) (n c : Nat) (w : World) (hR : Reads w w.heap.size 6 A n (nds f)) (hm : n ≤ 401) :
    Calls Try.prog 107 #[.slice A n c] w fun e w' => ∃ A' c', e = .returned (.slice A' (shortF f).length c') ∧ Reads w' w'.heap.size 6 A' (shortF f).length (nds (shortF f)) ∧ Below w.heap.size w w' := by
  have hl := hR.nd_len
  have HR := Lib.hid hR
  have hn0 : n ≠ 0 := by rw [← hl]; simpa using hne
  obtain ⟨k, hk1⟩ : ∃ k : Nat, k = n - 1 := ⟨_, rfl⟩
  have hk : k < n := by omega
  have HW : Hid (∀ W bw bd base, RW W base bw bd n ⟨[], List.replicate n none⟩ → Reads W w.heap.size 6 A n (nds f) → w.heap.size ≤ bw → w.heap.size ≤ bd → w.heap.size ≤ base →
      Calls Try.prog 64 #[.slice A n c, .int .i64 (k : Int), .pointer (some ⟨bw, 0, none⟩)] W fun e w' =>
        e = .returned (.int .i64 ((finW f n k ⟨[], List.replicate n none⟩).1 : Nat)) ∧ RW w' base bw bd n (finW f n k ⟨[], List.replicate n none⟩).2 ∧ Fr bw bd W w') :=
    Lib.hid (fun W bw bd base h2 h3 h4 h5 h6 => rFinish_any f hops hkn A n c w.heap.size base bw bd (by omega) hl h4 h5 h6 n k _ W hk hk (cnt0R n) h2 h3)
  have HE : Hid ((finW f n k ⟨[], List.replicate n none⟩).2.out = canonF f) := Lib.hid (by unfold canonF; rw [hl, hk1])
  have HS : Hid (shortF f = if 200 < (canonF f).length then [] else canonF f) := Lib.hid rfl
  generalize finW f n k ⟨[], List.replicate n none⟩ = r at *
  generalize canonF f = q at *
  generalize shortF f = sf at *
  obtain ⟨r1, out, done⟩ := r
  have HE2 : out = q := HE.out
  subst HE2
  have d0 : decide ((n : Int) > 401) = false := decide_eq_false (by omega)
  have d1 : decide (401 < (n : Int)) = false := decide_eq_false (by omega)
  have d2 : decide (401 < n) = false := decide_eq_false (by omega)
  have hw1 : wrap64 ((n : Int) - 1) = (k : Int) := by unfold wrap64; omega
  have hw2 : IntKind.i64.wrap ((n : Int) - 1) = (k : Int) := by rw [IntKind.wrap_i64]; omega
  have hw3 : (n : Int) - 1 = (k : Int) := by omega
  obtain ⟨i0, hi, hz0, hz1, hz2⟩ := info_parts Try.infoIR
  clear HE hR hl hne hops hkn hk1
  have HL0 := Lib.hid (LD.start w w 59 (Below.refl _ _))
  go_enter Try.func107, Try.ntmps107
  go_wp2
  go_loopw [4] (fun i wr => ∃ m : Nat, m ≤ n ∧ i = .int .i64 m ∧ Hid (LD w wr w.heap.size m)) (fun i _ => n - (intOf i).toNat)
  case atStart => exact ⟨0, Nat.zero_le _, rfl, HL0⟩
  case round =>
    obtain ⟨m, hmn, rfl, HL⟩ := hrel
    by_cases hlt : m < n
    · obtain ⟨A1, c1, hc1, hown⟩ := HL.out.row
      have hf1 := HL.out.f1
      have ebw := HL.out.lt
      have e0 := World.new_ne wr _ hc1
      have hst : Hid (∀ g, (Value.slice A1 m c1).ownBlock = some g → w.heap.size + 1 ≤ g ∧ g < wr.heap.size) := Lib.hid hown.lt
      have HC1 := Lib.hid hc1
      have HF1 := Lib.hid hf1
      go_wp2_with (at_builtin; refine wpList_append_own _ rfl _ _ 52 rfl (w.heap.size + 1) 3 i0 (.int .i64 0) 1 8 Try.underlying52 hi hz0 hz1 hz2 rfl (by decide) _ _ _ rfl (hown.alloc _) ⟨wr.heap.size, 0, none⟩ 1 1 [.int .i64 (-1)] rfl rfl ?k1 ?k2 ?k3 ?k4 ?k5 ?_)
      case k2 => rfl
      case k3 => unfold maxLen; omega
      case k4 => omega
      case k5 => first | omega | (simp; omega)
      · intro v' w3 hown' hgrow _
        obtain ⟨A3, c3, rfl⟩ := own_sl hown'
        have hgc := hgrow.cell_far ⟨w.heap.size, 1, none⟩ (by show w.heap.size < (wr.alloc _).heap.size; simp; omega) (fun e => absurd (hst.out w.heap.size e.symm).1 (by omega))
        have hgf := hgrow.frozen_far ⟨w.heap.size, 1, none⟩ (by show w.heap.size < (wr.alloc _).heap.size; simp; omega) (fun e => absurd (hst.out w.heap.size e.symm).1 (by omega))
        have hc3 : w3.cell? ⟨w.heap.size, 1, none⟩ = some (.slice A1 m c1) := hgc.trans ((World.cell?_of_block (a := ⟨w.heap.size, 1, none⟩) (Below.heap_alloc wr _ _ ebw)).trans HC1.out)
        have hf3 : w3.frozen? ⟨w.heap.size, 1, none⟩ = false := hgf.trans ((World.frozen?_of_block (a := ⟨w.heap.size, 1, none⟩) (Below.heap_alloc wr _ _ ebw)).trans HF1.out)
        have HL2 := Lib.hid (HL.out.step HC1.out (fun g hg => (hst.out g hg).1) hown' hgrow)
        clear hgc hgf hown' hgrow hown hc1 hf1 e0
        go_wp2
        go_roundw
        case rel => exact ⟨m + 1, by omega, by go_num, HL2⟩
        case measure => simp [intOf]; omega
    · have hmn2 : m = n := by omega
      subst hmn2
      obtain ⟨bd, hbd, hRW⟩ := HL.out.toRW (by omega)
      have l0 := HL.out.l0
      have HBL := Lib.hid HL.out.be
      have HRW := Lib.hid hRW
      have lsz := HL.out.be.size
      clear hRW
      go_wp2_with fail
      refine (HW.out wr w.heap.size bd wr.heap.size HRW.out (HR.out.below HBL.out) l0 (by omega) (by omega)).mono ?_
      rintro e w4 ⟨rfl, hS, hF⟩
      obtain ⟨A2, c2, h2, hrow⟩ := hS.out
      have HO := Lib.hid hrow
      have HWF := Lib.hid (HBL.out.trans (hF.low (B := w.heap.size) (by omega) l0 (by omega) (fun g hg => by have := (HRW.out.row g hg).1; omega)))
      clear hS hF hrow
      replace h2 : w4.cell? ⟨w.heap.size, 0, none⟩ = some (.slice A2 out.length c2) := h2
      by_cases h20 : 200 < out.length
      · have hd : decide (200 < (out.length : Int)) = true := decide_eq_true (by omega)
        have hd2 : decide (200 < out.length) = true := decide_eq_true h20
        have HQ : Hid (sf = []) := Lib.hid (by rw [HS.out, if_pos h20])
        have HQ2 := HQ.out
        subst HQ2
        clear h20
        go_wp2
        go_ret
        exact ⟨none, 0, rfl, Reads.none_, HWF.out⟩
      · have hd : decide (200 < (out.length : Int)) = false := decide_eq_false (by omega)
        have hd2 : decide (200 < out.length) = false := decide_eq_false h20
        have HQ : Hid (sf = out) := Lib.hid (by rw [HS.out, if_neg h20])
        have HQ2 := HQ.out
        subst HQ2
        clear h20
        go_wp2
        go_ret
        exact ⟨A2, c2, rfl, Reads.of_own HO.out, HWF.out⟩
theorem snoc_kn {l : List Nd} {n : Nd} (h2 : ∀ m ∈ l, fldOk m) (hf : fldOk n) : knownL (l ++ [n]) := by
  intro i hi
  have hm := getD_mem hi
  rcases List.mem_append.1 hm with h | h
  · exact (h2 _ h).1
  · rw [List.mem_singleton.1 h]; exact hf.1
set_option maxRecDepth 100000 in
set_option maxHeartbeats 4000000 in
theorem rOne_any (x : Nd) (w : World) :
    Calls Try.prog 80 #[nv x] w fun e w' => ∃ A' c', e = .returned (.slice A' (oneF x).length c') ∧ Reads w' w'.heap.size 6 A' (oneF x).length (nds (oneF x)) ∧ Below w.heap.size w w' := by
  have HN : Hid (∀ W, Calls Try.prog 52 #[nv x, .int .i64 ((0 : Nat) : Int)] W fun e w' => e = .returned (.int .i64 (nodeErr x ((0 : Nat) : Int))) ∧ Below W.heap.size W w') := Lib.hid (fun W => rNode_any x _ W)
  have HB0 : Hid (Below w.heap.size w (w.alloc (.cells #[.int .i64 x.op, .int .i64 x.i, .int .i64 x.e, .int .i64 x.g, .int .i64 x.x, .int .i64 x.y] 44))) := Lib.hid ((Below.refl _ w).alloc (Nat.le_refl _) _)
  have HBX := Lib.hid (Box.made w x 44)
  have hs0 : w.heap.size < (w.alloc (.cells #[.int .i64 x.op, .int .i64 x.i, .int .i64 x.e, .int .i64 x.g, .int .i64 x.x, .int .i64 x.y] 44)).heap.size := by simp
  have HU : Hid (oneF x = if nodeErr x ((0 : Nat) : Int) = 0 then [x] else []) := Lib.hid rfl
  generalize nodeErr x ((0 : Nat) : Int) = z at *
  unfold nv at HN ⊢
  generalize oneF x = q at *
  go_enter Try.func80, Try.ntmps80
  go_wp2_with fail
  generalize w.alloc (.cells #[.int .i64 x.op, .int .i64 x.i, .int .i64 x.e, .int .i64 x.g, .int .i64 x.x, .int .i64 x.y] 44) = w0 at *
  refine (HN.out _).mono ?_
  rintro e w1 ⟨rfl, hb1⟩
  have HB1 := Lib.hid (HB0.out.trans (hb1.mono (Nat.le_of_lt hs0)))
  have hbx1 := HBX.out.keep (W' := w1) (hb1.block _ hs0)
  obtain ⟨b0, b1, b2, b3, b4, b5, _⟩ := hbx1
  clear hb1
  by_cases hz : z = 0
  · subst hz
    have hq : q = [x] := by rw [HU.out, if_pos rfl]
    subst hq
    go_wp2
    go_ret
    refine ⟨some ⟨w1.heap.size, 0, none⟩, 1, rfl, ?_, HB1.out.alloc (by have := HB1.out.size; omega) _⟩
    refine ⟨by simp [nds, ndC], fun _ => ⟨_, rfl, by simp, fun j u hj => ?_⟩⟩
    have hh := heap_alloc_new w1 (.cells #[.int .i64 x.op, .int .i64 x.i, .int .i64 x.e, .int .i64 x.g, .int .i64 x.x, .int .i64 x.y] 44)
    rw [addr_zero, Lib.cell_of_heap hh, ← hj]
    simp [nds, ndC]
  · have hq : q = [] := by rw [HU.out, if_neg hz]
    subst hq
    have hzb : (z != 0) = true := by simpa using hz
    clear hz
    go_wp2
    go_ret
    exact ⟨none, 0, rfl, Reads.none_, HB1.out⟩
set_option maxRecDepth 100000 in
set_option maxHeartbeats 4000000 in
theorem rUnary_any (x : Nd) (f : List Nd) (A : Option Addr) (n c : Nat) (w : World) (hR : Reads w w.heap.size 6 A n (nds f)) (hm : n ≤ maxLen) :
    Calls Try.prog 79 #[nv x, .slice A n c] w fun e w' => ∃ A' c', e = .returned (.slice A' (unaryF x f).length c') ∧ Reads w' w'.heap.size 6 A' (unaryF x f).length (nds (unaryF x f)) ∧ Below w.heap.size w w' := by
  have hl := hR.nd_len
  have HR := Lib.hid hR
  have HC : Hid (∀ W, Below w.heap.size w W → Calls Try.prog 13 #[.slice A n c] W fun e w' => e = .returned (.int .i64 (fErr f)) ∧ Below W.heap.size W w') := Lib.hid (fun W h => rCheck_any f A n c W ((hR.below h).more h.size) hm)
  have HB0 : Hid (Below w.heap.size w (w.alloc (.cells #[.int .i64 x.op, .int .i64 x.i, .int .i64 x.e, .int .i64 x.g, .int .i64 x.x, .int .i64 x.y] 44))) := Lib.hid ((Below.refl _ w).alloc (Nat.le_refl _) _)
  have HBX := Lib.hid (Box.made w x 44)
  have hs0 : w.heap.size < (w.alloc (.cells #[.int .i64 x.op, .int .i64 x.i, .int .i64 x.e, .int .i64 x.g, .int .i64 x.x, .int .i64 x.y] 44)).heap.size := by simp
  clear hR
  by_cases hz : fErr f = 0
  · have hne := (fErr_ok hz).1
    have hn0 : f.length ≠ 0 := by simpa using hne
    have h200 := (fErr_ok hz).2.1
    obtain ⟨k, hk⟩ : ∃ k : Nat, (k : Int) = (f.length : Int) - 1 := ⟨f.length - 1, by omega⟩
    have HU : Hid (unaryF x f = if nodeErr { x with x := (k : Int) } (n : Int) = 0 then shortF (f ++ [{ x with x := (k : Int) }]) else []) := Lib.hid (by unfold unaryF; rw [if_pos hz, hk, hl])
    have HN : Hid (∀ W, Calls Try.prog 52 #[nv { x with x := (k : Int) }, .int .i64 (n : Int)] W fun e w' => e = .returned (.int .i64 (nodeErr { x with x := (k : Int) } (n : Int))) ∧ Below W.heap.size W w') := Lib.hid (fun W => rNode_any _ _ W)
    have HSH : Hid (nodeErr { x with x := (k : Int) } (n : Int) = 0 → ∀ W A1 c1, Reads W W.heap.size 6 A1 (n + 1) (nds (f ++ [{ x with x := (k : Int) }])) → Calls Try.prog 107 #[.slice A1 (n + 1) c1] W fun e w' => ∃ A' c', e = .returned (.slice A' (shortF (f ++ [{ x with x := (k : Int) }])).length c') ∧ Reads w' w'.heap.size 6 A' (shortF (f ++ [{ x with x := (k : Int) }])).length (nds (shortF (f ++ [{ x with x := (k : Int) }]))) ∧ Below W.heap.size W w') := Lib.hid (fun he W A1 c1 h1 => by
      have hn := (nodeErr_iff _ _).1 he
      rw [← hl] at hn
      have hok := snoc_ok (fErr_ops hz) (fErr_fld hz) hn.1 hn.2
      exact rShort_any _ hok.ne hok.ops (snoc_kn (fErr_fld hz) hn.2) A1 (n + 1) c1 W h1 (by omega))
    have HCZ : Hid (∀ W, Below w.heap.size w W → Calls Try.prog 13 #[.slice A n c] W fun e w' => e = .returned (.int .i64 0) ∧ Below W.heap.size W w') := Lib.hid (fun W h => hz ▸ HC.out W h)
    have HLN := Lib.hid hl
    have hw1 : wrap64 ((n : Int) - 1) = (k : Int) := by unfold wrap64; omega
    have hw2 : IntKind.i64.wrap ((n : Int) - 1) = (k : Int) := by rw [IntKind.wrap_i64]; omega
    have hw3 : (n : Int) - 1 = (k : Int) := by omega
    have hn200 : n ≤ 200 := by omega
    generalize nodeErr { x with x := (k : Int) } (n : Int) = z at *
    unfold nv at HN ⊢
    dsimp only at HN
    generalize unaryF x f = q at *
    clear hz hne hn0 h200 hk hl HC
    go_enter Try.func79, Try.ntmps79
    go_wp2_with fail
    generalize w.alloc (.cells #[.int .i64 x.op, .int .i64 x.i, .int .i64 x.e, .int .i64 x.g, .int .i64 x.x, .int .i64 x.y] 44) = w0 at *
    refine (HCZ.out _ HB0.out).mono ?_
    rintro e w1 ⟨rfl, hb1⟩
    have HB1 := Lib.hid (HB0.out.trans (hb1.mono (Nat.le_of_lt hs0)))
    have hs1 : w.heap.size < w1.heap.size := Nat.lt_of_lt_of_le hs0 hb1.size
    have hbx1 := HBX.out.keep (W' := w1) (hb1.block _ hs0)
    have HBX1 := Lib.hid (hbx1.setX (k : Int))
    have HB1s : Hid (Below w.heap.size w (w1.setCell ⟨w.heap.size, 4, none⟩ (.int .i64 (k : Int)))) := Lib.hid (HB1.out.setCell (Nat.le_refl _) _)
    have hs1s : w.heap.size < (w1.setCell ⟨w.heap.size, 4, none⟩ (.int .i64 (k : Int))).heap.size := by simpa using hs1
    obtain ⟨b0, b1, b2, b3, b4, b5, bf⟩ := hbx1
    have bf4 := bf 4
    clear hb1 bf
    go_wp2_with fail
    clear b0 b1 b2 b3 b4 b5 bf4
    generalize w1.setCell ⟨w.heap.size, 4, none⟩ (.int .i64 (k : Int)) = w2 at *
    refine (HN.out _).mono ?_
    rintro e w3 ⟨rfl, hb3⟩
    have HB3 := Lib.hid (HB1s.out.trans (hb3.mono (Nat.le_of_lt hs1s)))
    have hs3 : w.heap.size < w3.heap.size := Nat.lt_of_lt_of_le hs1s hb3.size
    have HBX3 := Lib.hid (HBX1.out.keep (W' := w3) (hb3.block _ hs1s))
    clear hb3
    by_cases hz : z = 0
    · subst hz
      have hq : q = shortF (f ++ [{ x with x := (k : Int) }]) := by rw [HU.out, if_pos rfl]
      have HS := Lib.hid (HSH.out rfl)
      rw [← hq] at HS
      clear HU HSH HN hq
      generalize ({ x with x := (k : Int) } : Nd) = x' at *
      go_wp2
      go_loopw [5, 6] (fun u5 i wr => ∃ j : Nat, j ≤ n ∧ i = .int .i64 j ∧ Hid (wr.ownsRow (w.heap.size + 1) 44 6 u5 (f.take j).length (nds (f.take j))) ∧ Hid (Box wr w.heap.size x') ∧ Hid (Below w.heap.size w wr) ∧ w.heap.size < wr.heap.size) (fun _ i _ => n - (intOf i).toNat)
      case atStart => exact ⟨0, Nat.zero_le _, rfl, Lib.hid (World.ownsRow_nil _ _ _ _), HBX3, HB3, hs3⟩
      case round =>
        obtain ⟨j, hj, rfl, HO, HX, HB, hsz⟩ := hrel
        by_cases hlt : j < n
        · obtain ⟨ad, rfl, hb, m0, m1, m2, m3, m4, m5⟩ := (HR.out.below HB.out).nd_at hlt
          have hjf : j < f.length := by have := HLN.out; omega
          have HT : Hid (f.take (j + 1) = f.take j ++ [f.getD j nd0]) := Lib.hid (by
            rw [List.take_succ_eq_append_getElem hjf, show f.getD j nd0 = f[j] from by simp [hjf]])
          have hlen : (f.take j).length = j := by rw [List.length_take]; omega
          generalize f.getD j nd0 = y at *
          generalize hL : f.take j = L at *
          have l1 := add_cell m1
          have l2 := add_cell m2
          have l3 := add_cell m3
          have l4 := add_cell m4
          have l5 := add_cell m5
          have HOW := Lib.hid HO.out
          clear hL
          go_wp2_with (at_builtin; refine wp_appN y _ rfl _ _ rfl (w.heap.size + 1) _ _ rfl (HOW.out.alloc _) rfl ?k1 ?k2 ?k3 ?_)
          case k1 =>
            intro j' u hj'
            have hh := heap_alloc_new wr (.cells #[.int .i64 y.op, .int .i64 y.i, .int .i64 y.e, .int .i64 y.g, .int .i64 y.x, .int .i64 y.y] 44)
            rw [Lib.cell_of_heap hh j', ← hj']
            simp [ndC]
          case k2 => omega
          case k3 => simp; omega
          · intro v' w5 hown5 hgrow
            have HO5 : Hid (w5.ownsRow (w.heap.size + 1) 44 6 v' (f.take (j + 1)).length (nds (f.take (j + 1)))) := Lib.hid (by rw [HT.out, List.length_append, hlen]; exact hown5)
            have HX5 := Lib.hid (HX.out.keep (W' := w5) ((hgrow.block w.heap.size (by simp; omega) (fun e => by have := (HOW.out.lt w.heap.size e.symm).1; omega)).trans (Below.heap_alloc wr _ _ hsz)))
            have HB5 : Hid (Below w.heap.size w w5) := Lib.hid ((HB.out.alloc (by omega) _).grown hgrow (by simp; omega) (fun g hg => by have := (HOW.out.lt g hg).1; omega))
            have hs5 : w.heap.size < w5.heap.size := by have := hgrow.size; simp at this; omega
            clear hown5 hgrow m0 m1 m2 m3 m4 m5 l1 l2 l3 l4 l5
            go_wp2
            go_roundw
            case rel => exact ⟨j + 1, by omega, by go_num, HO5, HX5, HB5, hs5⟩
            case measure => simp [intOf]; omega
        · have hjn : f.take j = f := by rw [List.take_of_length_le]; have := HLN.out; omega
          rw [hjn] at HO
          obtain ⟨b0, b1, b2, b3, b4, b5, _⟩ := HX.out
          have hfl : f.length = n := HLN.out
          rw [hfl] at HO
          go_wp2_with (at_builtin; refine wp_appN x' _ rfl _ _ rfl (w.heap.size + 1) _ _ rfl (by rw [hfl]; exact HO.out.alloc _) rfl ?k1 ?k2 ?k3 ?_)
          case k1 =>
            intro j' u hj'
            have hh := heap_alloc_new wr (.cells #[.int .i64 x'.op, .int .i64 x'.i, .int .i64 x'.e, .int .i64 x'.g, .int .i64 x'.x, .int .i64 x'.y] 44)
            rw [Lib.cell_of_heap hh j', ← hj']
            simp [ndC]
          case k2 => omega
          case k3 => simp; omega
          · intro v' w5 hown5 hgrow
            obtain ⟨A5, c5, rfl⟩ := own_sl hown5
            have HR5 := Lib.hid (Reads.of_own hown5)
            have HB5 : Hid (Below w.heap.size w w5) := Lib.hid ((HB.out.alloc (by omega) _).grown hgrow (by simp; omega) (fun g hg => by have := (HO.out.lt g hg).1; omega))
            clear hown5 hgrow b0 b1 b2 b3 b4 b5
            go_wp2_with fail
            refine (HS.out _ _ _ HR5.out).mono ?_
            rintro e w6 ⟨A6, c6, rfl, hR6, hb6⟩
            have HR6 := Lib.hid hR6
            have HB6 := Lib.hid (HB5.out.trans (hb6.mono HB5.out.size))
            clear hR6 hb6
            go_wp2
            go_ret
            exact ⟨A6, c6, rfl, HR6.out, HB6.out⟩
    · have hq : q = [] := by rw [HU.out, if_neg hz]
      subst hq
      have hzb : (z != 0) = true := by simpa using hz
      clear hz
      go_wp2
      go_ret
      exact ⟨none, 0, rfl, Reads.none_, HB3.out⟩
  · have hq : unaryF x f = [] := by unfold unaryF; rw [if_neg hz]
    rw [hq]
    have hzb : (fErr f != 0) = true := by simpa using hz
    generalize fErr f = z at *
    unfold nv
    clear hq hz
    go_enter Try.func79, Try.ntmps79
    go_wp2_with fail
    generalize w.alloc (.cells #[.int .i64 x.op, .int .i64 x.i, .int .i64 x.e, .int .i64 x.g, .int .i64 x.x, .int .i64 x.y] 44) = w0 at *
    refine (HC.out _ HB0.out).mono ?_
    rintro e w1 ⟨rfl, hb1⟩
    have HB1 := Lib.hid (HB0.out.trans (hb1.mono (Nat.le_of_lt hs0)))
    clear hb1
    go_wp2
    go_ret
    exact ⟨none, 0, rfl, Reads.none_, HB1.out⟩
end Go.Proofs.Ytcbmncafmofcpaa
