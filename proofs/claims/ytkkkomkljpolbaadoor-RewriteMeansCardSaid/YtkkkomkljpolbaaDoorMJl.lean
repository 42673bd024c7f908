/- Layer 6: texts joined: Mu Mv Mw Mz Mr Mn Mp Mk Mt. -/
import Derived.Test.YtkkkomkljpolbaaDoorMJa
import Derived.Test.YtkkkomkljpolbaaDoorMJi
import Derived.Test.YtkkkomkljpolbaaDoorMJj
import Derived.Test.YtkkkomkljpolbaaDoorMJk
import Derived.Shelf.Strconv.Itoa0
import Derived.Shelf.Lay
/- Layer 5: the builders of the reference: short, One, Unary, Binary. -/
namespace Go.Proofs.Ws
open Go
/-- the canonical list of a list of nodes, or nothing if it is too long -/
def shortF (l : List Nd) : List Nd := if 200 < (canonF l).length then [] else canonF l
def oneF (x : Nd) : List Nd := if nodeErr x 0 = 0 then [x] else []
def unaryF (x : Nd) (f : List Nd) : List Nd :=
  if fErr f = 0 then (if nodeErr { x with x := (f.length : Int) - 1 } f.length = 0 then shortF (f ++ [{ x with x := (f.length : Int) - 1 }]) else []) else []
def binaryF (x : Nd) (f g : List Nd) : List Nd :=
  if fErr f = 0 then (if fErr g = 0 then (if nodeErr { x with x := (f.length : Int) - 1, y := (f.length + g.length : Int) - 1 } ((f.length + g.length : Nat) : Int) = 0 then
    shortF (f ++ g.map (shiftN f.length) ++ [{ x with x := (f.length : Int) - 1, y := (f.length + g.length : Int) - 1 }]) else []) else []) else []
end Go.Proofs.Ws
namespace Go.Proofs.YtkkkomkljpolbaaDoor
open Go.RowKit Go.Proofs.Ws Go.Maps
set_option maxRecDepth 100000 in
set_option maxHeartbeats 4000000 in
theorem rShort_any (f : List Nd) (hne : f ≠ []) (hops : opsL f) (hkn : knownL f) (A : Option Addr) (n c : Nat) (w : World) (hR : Reads w w.heap.size 6 A n (nds f)) (hm : n ≤ 401) :
    Calls Tryd.prog 152 #[.slice A n c] w fun e w' => ∃ A' c', e = .returned (.slice A' (shortF f).length c') ∧ Reads w' w'.heap.size 6 A' (shortF f).length (nds (shortF f)) ∧ Below w.heap.size w w' := by
  have hl := hR.nd_len
  have HR := Lib.hid hR
  have hn0 : n ≠ 0 := by rw [← hl]; simpa using hne
  obtain ⟨k, hk1⟩ : ∃ k : Nat, k = n - 1 := ⟨_, rfl⟩
  have hk : k < n := by omega
  have HW : Hid (∀ W bw bd base, RW W base bw bd n ⟨[], List.replicate n none⟩ → Reads W w.heap.size 6 A n (nds f) → w.heap.size ≤ bw → w.heap.size ≤ bd → w.heap.size ≤ base →
      Calls Tryd.prog 139 #[.slice A n c, .int .i64 (k : Int), .pointer (some ⟨bw, 0, none⟩)] W fun e w' =>
        e = .returned (.int .i64 ((finW f n k ⟨[], List.replicate n none⟩).1 : Nat)) ∧ RW w' base bw bd n (finW f n k ⟨[], List.replicate n none⟩).2 ∧ Fr bw bd W w') :=
    Lib.hid (fun W bw bd base h2 h3 h4 h5 h6 => rFinish_any f hops hkn A n c w.heap.size base bw bd (by omega) hl h4 h5 h6 n k _ W hk hk (cnt0R n) h2 h3)
  have HE : Hid ((finW f n k ⟨[], List.replicate n none⟩).2.out = canonF f) := Lib.hid (by unfold canonF; rw [hl, hk1])
  have HS : Hid (shortF f = if 200 < (canonF f).length then [] else canonF f) := Lib.hid rfl
  generalize finW f n k ⟨[], List.replicate n none⟩ = r at *
  generalize canonF f = q at *
  generalize shortF f = sf at *
  obtain ⟨r1, out, done⟩ := r
  have HE2 : out = q := HE.out
  subst HE2
  have d0 : decide ((n : Int) > 401) = false := decide_eq_false (by omega)
  have d1 : decide (401 < (n : Int)) = false := decide_eq_false (by omega)
  have d2 : decide (401 < n) = false := decide_eq_false (by omega)
  have hw1 : wrap64 ((n : Int) - 1) = (k : Int) := by unfold wrap64; omega
  have hw2 : IntKind.i64.wrap ((n : Int) - 1) = (k : Int) := by rw [IntKind.wrap_i64]; omega
  have hw3 : (n : Int) - 1 = (k : Int) := by omega
  obtain ⟨i0, hi, hz0, hz1, hz2⟩ := info_parts Tryd.infoIR
  clear HE hR hl hne hops hkn hk1
  have HL0 := Lib.hid (LD.start w w 127 (Below.refl _ _))
  go_enter Tryd.func152, Tryd.ntmps152
  go_wp2
  go_loopw [4] (fun i wr => ∃ m : Nat, m ≤ n ∧ i = .int .i64 m ∧ Hid (LD w wr w.heap.size m)) (fun i _ => n - (intOf i).toNat)
  case atStart => exact ⟨0, Nat.zero_le _, rfl, HL0⟩
  case round =>
    obtain ⟨m, hmn, rfl, HL⟩ := hrel
    by_cases hlt : m < n
    · obtain ⟨A1, c1, hc1, hown⟩ := HL.out.row
      have hf1 := HL.out.f1
      have ebw := HL.out.lt
      have e0 := World.new_ne wr _ hc1
      have hst : Hid (∀ g, (Value.slice A1 m c1).ownBlock = some g → w.heap.size + 1 ≤ g ∧ g < wr.heap.size) := Lib.hid hown.lt
      have HC1 := Lib.hid hc1
      have HF1 := Lib.hid hf1
      go_wp2_with (at_builtin; refine wpList_append_own _ rfl _ _ 60 rfl (w.heap.size + 1) 3 i0 (.int .i64 0) 1 8 Tryd.underlying60 hi hz0 hz1 hz2 rfl (by decide) _ _ _ rfl (hown.alloc _) ⟨wr.heap.size, 0, none⟩ 1 1 [.int .i64 (-1)] rfl rfl ?k1 ?k2 ?k3 ?k4 ?k5 ?_)
      case k2 => rfl
      case k3 => unfold maxLen; omega
      case k4 => omega
      case k5 => first | omega | (simp; omega)
      · intro v' w3 hown' hgrow _
        obtain ⟨A3, c3, rfl⟩ := own_sl hown'
        have hgc := hgrow.cell_far ⟨w.heap.size, 1, none⟩ (by show w.heap.size < (wr.alloc _).heap.size; simp; omega) (fun e => absurd (hst.out w.heap.size e.symm).1 (by omega))
        have hgf := hgrow.frozen_far ⟨w.heap.size, 1, none⟩ (by show w.heap.size < (wr.alloc _).heap.size; simp; omega) (fun e => absurd (hst.out w.heap.size e.symm).1 (by omega))
        have hc3 : w3.cell? ⟨w.heap.size, 1, none⟩ = some (.slice A1 m c1) := hgc.trans ((World.cell?_of_block (a := ⟨w.heap.size, 1, none⟩) (Below.heap_alloc wr _ _ ebw)).trans HC1.out)
        have hf3 : w3.frozen? ⟨w.heap.size, 1, none⟩ = false := hgf.trans ((World.frozen?_of_block (a := ⟨w.heap.size, 1, none⟩) (Below.heap_alloc wr _ _ ebw)).trans HF1.out)
        have HL2 := Lib.hid (HL.out.step HC1.out (fun g hg => (hst.out g hg).1) hown' hgrow)
        clear hgc hgf hown' hgrow hown hc1 hf1 e0
        go_wp2
        go_roundw
        case rel => exact ⟨m + 1, by omega, by go_num, HL2⟩
        case measure => simp [intOf]; omega
    · have hmn2 : m = n := by omega
      subst hmn2
      obtain ⟨bd, hbd, hRW⟩ := HL.out.toRW (by omega)
      have l0 := HL.out.l0
      have HBL := Lib.hid HL.out.be
      have HRW := Lib.hid hRW
      have lsz := HL.out.be.size
      clear hRW
      go_wp2_with fail
      refine (HW.out wr w.heap.size bd wr.heap.size HRW.out (HR.out.below HBL.out) l0 (by omega) (by omega)).mono ?_
      rintro e w4 ⟨rfl, hS, hF⟩
      obtain ⟨A2, c2, h2, hrow⟩ := hS.out
      have HO := Lib.hid hrow
      have HWF := Lib.hid (HBL.out.trans (hF.low (B := w.heap.size) (by omega) l0 (by omega) (fun g hg => by have := (HRW.out.row g hg).1; omega)))
      clear hS hF hrow
      replace h2 : w4.cell? ⟨w.heap.size, 0, none⟩ = some (.slice A2 out.length c2) := h2
      by_cases h20 : 200 < out.length
      · have hd : decide (200 < (out.length : Int)) = true := decide_eq_true (by omega)
        have hd2 : decide (200 < out.length) = true := decide_eq_true h20
        have HQ : Hid (sf = []) := Lib.hid (by rw [HS.out, if_pos h20])
        have HQ2 := HQ.out
        subst HQ2
        clear h20
        go_wp2
        go_ret
        exact ⟨none, 0, rfl, Reads.none_, HWF.out⟩
      · have hd : decide (200 < (out.length : Int)) = false := decide_eq_false (by omega)
        have hd2 : decide (200 < out.length) = false := decide_eq_false h20
        have HQ : Hid (sf = out) := Lib.hid (by rw [HS.out, if_neg h20])
        have HQ2 := HQ.out
        subst HQ2
        clear h20
        go_wp2
        go_ret
        exact ⟨A2, c2, rfl, Reads.of_own HO.out, HWF.out⟩
theorem snoc_kn {l : List Nd} {n : Nd} (h2 : ∀ m ∈ l, fldOk m) (hf : fldOk n) : knownL (l ++ [n]) := by
  intro i hi
  have hm := getD_mem hi
  rcases List.mem_append.1 hm with h | h
  · exact (h2 _ h).1
  · rw [List.mem_singleton.1 h]; exact hf.1
set_option maxRecDepth 100000 in
set_option maxHeartbeats 4000000 in
theorem rOne_any (x : Nd) (w : World) :
    Calls Tryd.prog 117 #[nv x] w fun e w' => ∃ A' c', e = .returned (.slice A' (oneF x).length c') ∧ Reads w' w'.heap.size 6 A' (oneF x).length (nds (oneF x)) ∧ Below w.heap.size w w' := by
  have HN : Hid (∀ W, Calls Tryd.prog 83 #[nv x, .int .i64 ((0 : Nat) : Int)] W fun e w' => e = .returned (.int .i64 (nodeErr x ((0 : Nat) : Int))) ∧ Below W.heap.size W w') := Lib.hid (fun W => rNode_any x _ W)
  have HB0 : Hid (Below w.heap.size w (w.alloc (.cells #[.int .i64 x.op, .int .i64 x.i, .int .i64 x.e, .int .i64 x.g, .int .i64 x.x, .int .i64 x.y] 62))) := Lib.hid ((Below.refl _ w).alloc (Nat.le_refl _) _)
  have HBX := Lib.hid (Box.made w x 62)
  have hs0 : w.heap.size < (w.alloc (.cells #[.int .i64 x.op, .int .i64 x.i, .int .i64 x.e, .int .i64 x.g, .int .i64 x.x, .int .i64 x.y] 62)).heap.size := by simp
  have HU : Hid (oneF x = if nodeErr x ((0 : Nat) : Int) = 0 then [x] else []) := Lib.hid rfl
  generalize nodeErr x ((0 : Nat) : Int) = z at *
  unfold nv at HN ⊢
  generalize oneF x = q at *
  go_enter Tryd.func117, Tryd.ntmps117
  go_wp2_with fail
  generalize w.alloc (.cells #[.int .i64 x.op, .int .i64 x.i, .int .i64 x.e, .int .i64 x.g, .int .i64 x.x, .int .i64 x.y] 62) = w0 at *
  refine (HN.out _).mono ?_
  rintro e w1 ⟨rfl, hb1⟩
  have HB1 := Lib.hid (HB0.out.trans (hb1.mono (Nat.le_of_lt hs0)))
  have hbx1 := HBX.out.keep (W' := w1) (hb1.block _ hs0)
  obtain ⟨b0, b1, b2, b3, b4, b5, _⟩ := hbx1
  clear hb1
  by_cases hz : z = 0
  · subst hz
    have hq : q = [x] := by rw [HU.out, if_pos rfl]
    subst hq
    go_wp2
    go_ret
    refine ⟨some ⟨w1.heap.size, 0, none⟩, 1, rfl, ?_, HB1.out.alloc (by have := HB1.out.size; omega) _⟩
    refine ⟨by simp [nds, ndC], fun _ => ⟨_, rfl, by simp, fun j u hj => ?_⟩⟩
    have hh := heap_alloc_new w1 (.cells #[.int .i64 x.op, .int .i64 x.i, .int .i64 x.e, .int .i64 x.g, .int .i64 x.x, .int .i64 x.y] 62)
    rw [addr_zero, Lib.cell_of_heap hh, ← hj]
    simp [nds, ndC]
  · have hq : q = [] := by rw [HU.out, if_neg hz]
    subst hq
    have hzb : (z != 0) = true := by simpa using hz
    clear hz
    go_wp2
    go_ret
    exact ⟨none, 0, rfl, Reads.none_, HB1.out⟩
set_option maxRecDepth 100000 in
set_option maxHeartbeats 4000000 in
theorem rUnary_any (x : Nd) (f : List Nd) (A : Option Addr) (n c : Nat) (w : World) (hR : Reads w w.heap.size 6 A n (nds f)) (hm : n ≤ maxLen) :
    Calls Tryd.prog 118 #[nv x, .slice A n c] w fun e w' => ∃ A' c', e = .returned (.slice A' (unaryF x f).length c') ∧ Reads w' w'.heap.size 6 A' (unaryF x f).length (nds (unaryF x f)) ∧ Below w.heap.size w w' := by
  have hl := hR.nd_len
  have HR := Lib.hid hR
  have HC : Hid (∀ W, Below w.heap.size w W → Calls Tryd.prog 30 #[.slice A n c] W fun e w' => e = .returned (.int .i64 (fErr f)) ∧ Below W.heap.size W w') := Lib.hid (fun W h => rCheck_any f A n c W ((hR.below h).more h.size) hm)
  have HB0 : Hid (Below w.heap.size w (w.alloc (.cells #[.int .i64 x.op, .int .i64 x.i, .int .i64 x.e, .int .i64 x.g, .int .i64 x.x, .int .i64 x.y] 62))) := Lib.hid ((Below.refl _ w).alloc (Nat.le_refl _) _)
  have HBX := Lib.hid (Box.made w x 62)
  have hs0 : w.heap.size < (w.alloc (.cells #[.int .i64 x.op, .int .i64 x.i, .int .i64 x.e, .int .i64 x.g, .int .i64 x.x, .int .i64 x.y] 62)).heap.size := by simp
  clear hR
  by_cases hz : fErr f = 0
  · have hne := (fErr_ok hz).1
    have hn0 : f.length ≠ 0 := by simpa using hne
    have h200 := (fErr_ok hz).2.1
    obtain ⟨k, hk⟩ : ∃ k : Nat, (k : Int) = (f.length : Int) - 1 := ⟨f.length - 1, by omega⟩
    have HU : Hid (unaryF x f = if nodeErr { x with x := (k : Int) } (n : Int) = 0 then shortF (f ++ [{ x with x := (k : Int) }]) else []) := Lib.hid (by unfold unaryF; rw [if_pos hz, hk, hl])
    have HN : Hid (∀ W, Calls Tryd.prog 83 #[nv { x with x := (k : Int) }, .int .i64 (n : Int)] W fun e w' => e = .returned (.int .i64 (nodeErr { x with x := (k : Int) } (n : Int))) ∧ Below W.heap.size W w') := Lib.hid (fun W => rNode_any _ _ W)
    have HSH : Hid (nodeErr { x with x := (k : Int) } (n : Int) = 0 → ∀ W A1 c1, Reads W W.heap.size 6 A1 (n + 1) (nds (f ++ [{ x with x := (k : Int) }])) → Calls Tryd.prog 152 #[.slice A1 (n + 1) c1] W fun e w' => ∃ A' c', e = .returned (.slice A' (shortF (f ++ [{ x with x := (k : Int) }])).length c') ∧ Reads w' w'.heap.size 6 A' (shortF (f ++ [{ x with x := (k : Int) }])).length (nds (shortF (f ++ [{ x with x := (k : Int) }]))) ∧ Below W.heap.size W w') := Lib.hid (fun he W A1 c1 h1 => by
      have hn := (nodeErr_iff _ _).1 he
      rw [← hl] at hn
      have hok := snoc_ok (fErr_ops hz) (fErr_fld hz) hn.1 hn.2
      exact rShort_any _ hok.ne hok.ops (snoc_kn (fErr_fld hz) hn.2) A1 (n + 1) c1 W h1 (by omega))
    have HCZ : Hid (∀ W, Below w.heap.size w W → Calls Tryd.prog 30 #[.slice A n c] W fun e w' => e = .returned (.int .i64 0) ∧ Below W.heap.size W w') := Lib.hid (fun W h => hz ▸ HC.out W h)
    have HLN := Lib.hid hl
    have hw1 : wrap64 ((n : Int) - 1) = (k : Int) := by unfold wrap64; omega
    have hw2 : IntKind.i64.wrap ((n : Int) - 1) = (k : Int) := by rw [IntKind.wrap_i64]; omega
    have hw3 : (n : Int) - 1 = (k : Int) := by omega
    have hn200 : n ≤ 200 := by omega
    generalize nodeErr { x with x := (k : Int) } (n : Int) = z at *
    unfold nv at HN ⊢
    dsimp only at HN
    generalize unaryF x f = q at *
    clear hz hne hn0 h200 hk hl HC
    go_enter Tryd.func118, Tryd.ntmps118
    go_wp2_with fail
    generalize w.alloc (.cells #[.int .i64 x.op, .int .i64 x.i, .int .i64 x.e, .int .i64 x.g, .int .i64 x.x, .int .i64 x.y] 62) = w0 at *
    refine (HCZ.out _ HB0.out).mono ?_
    rintro e w1 ⟨rfl, hb1⟩
    have HB1 := Lib.hid (HB0.out.trans (hb1.mono (Nat.le_of_lt hs0)))
    have hs1 : w.heap.size < w1.heap.size := Nat.lt_of_lt_of_le hs0 hb1.size
    have hbx1 := HBX.out.keep (W' := w1) (hb1.block _ hs0)
    have HBX1 := Lib.hid (hbx1.setX (k : Int))
    have HB1s : Hid (Below w.heap.size w (w1.setCell ⟨w.heap.size, 4, none⟩ (.int .i64 (k : Int)))) := Lib.hid (HB1.out.setCell (Nat.le_refl _) _)
    have hs1s : w.heap.size < (w1.setCell ⟨w.heap.size, 4, none⟩ (.int .i64 (k : Int))).heap.size := by simpa using hs1
    obtain ⟨b0, b1, b2, b3, b4, b5, bf⟩ := hbx1
    have bf4 := bf 4
    clear hb1 bf
    go_wp2_with fail
    clear b0 b1 b2 b3 b4 b5 bf4
    generalize w1.setCell ⟨w.heap.size, 4, none⟩ (.int .i64 (k : Int)) = w2 at *
    refine (HN.out _).mono ?_
    rintro e w3 ⟨rfl, hb3⟩
    have HB3 := Lib.hid (HB1s.out.trans (hb3.mono (Nat.le_of_lt hs1s)))
    have hs3 : w.heap.size < w3.heap.size := Nat.lt_of_lt_of_le hs1s hb3.size
    have HBX3 := Lib.hid (HBX1.out.keep (W' := w3) (hb3.block _ hs1s))
    clear hb3
    by_cases hz : z = 0
    · subst hz
      have hq : q = shortF (f ++ [{ x with x := (k : Int) }]) := by rw [HU.out, if_pos rfl]
      have HS := Lib.hid (HSH.out rfl)
      rw [← hq] at HS
      clear HU HSH HN hq
      generalize ({ x with x := (k : Int) } : Nd) = x' at *
      go_wp2
      go_loopw [5, 6] (fun u5 i wr => ∃ j : Nat, j ≤ n ∧ i = .int .i64 j ∧ Hid (wr.ownsRow (w.heap.size + 1) 62 6 u5 (f.take j).length (nds (f.take j))) ∧ Hid (Box wr w.heap.size x') ∧ Hid (Below w.heap.size w wr) ∧ w.heap.size < wr.heap.size) (fun _ i _ => n - (intOf i).toNat)
      case atStart => exact ⟨0, Nat.zero_le _, rfl, Lib.hid (World.ownsRow_nil _ _ _ _), HBX3, HB3, hs3⟩
      case round =>
        obtain ⟨j, hj, rfl, HO, HX, HB, hsz⟩ := hrel
        by_cases hlt : j < n
        · obtain ⟨ad, rfl, hb, m0, m1, m2, m3, m4, m5⟩ := (HR.out.below HB.out).nd_at hlt
          have hjf : j < f.length := by have := HLN.out; omega
          have HT : Hid (f.take (j + 1) = f.take j ++ [f.getD j nd0]) := Lib.hid (by
            rw [List.take_succ_eq_append_getElem hjf, show f.getD j nd0 = f[j] from by simp [hjf]])
          have hlen : (f.take j).length = j := by rw [List.length_take]; omega
          generalize f.getD j nd0 = y at *
          generalize hL : f.take j = L at *
          have l1 := add_cell m1
          have l2 := add_cell m2
          have l3 := add_cell m3
          have l4 := add_cell m4
          have l5 := add_cell m5
          have HOW := Lib.hid HO.out
          clear hL
          go_wp2_with (at_builtin; refine wp_appN y _ rfl _ _ rfl (w.heap.size + 1) _ _ rfl (HOW.out.alloc _) rfl ?k1 ?k2 ?k3 ?_)
          case k1 =>
            intro j' u hj'
            have hh := heap_alloc_new wr (.cells #[.int .i64 y.op, .int .i64 y.i, .int .i64 y.e, .int .i64 y.g, .int .i64 y.x, .int .i64 y.y] 62)
            rw [Lib.cell_of_heap hh j', ← hj']
            simp [ndC]
          case k2 => omega
          case k3 => simp; omega
          · intro v' w5 hown5 hgrow
            have HO5 : Hid (w5.ownsRow (w.heap.size + 1) 62 6 v' (f.take (j + 1)).length (nds (f.take (j + 1)))) := Lib.hid (by rw [HT.out, List.length_append, hlen]; exact hown5)
            have HX5 := Lib.hid (HX.out.keep (W' := w5) ((hgrow.block w.heap.size (by simp; omega) (fun e => by have := (HOW.out.lt w.heap.size e.symm).1; omega)).trans (Below.heap_alloc wr _ _ hsz)))
            have HB5 : Hid (Below w.heap.size w w5) := Lib.hid ((HB.out.alloc (by omega) _).grown hgrow (by simp; omega) (fun g hg => by have := (HOW.out.lt g hg).1; omega))
            have hs5 : w.heap.size < w5.heap.size := by have := hgrow.size; simp at this; omega
            clear hown5 hgrow m0 m1 m2 m3 m4 m5 l1 l2 l3 l4 l5
            go_wp2
            go_roundw
            case rel => exact ⟨j + 1, by omega, by go_num, HO5, HX5, HB5, hs5⟩
            case measure => simp [intOf]; omega
        · have hjn : f.take j = f := by rw [List.take_of_length_le]; have := HLN.out; omega
          rw [hjn] at HO
          obtain ⟨b0, b1, b2, b3, b4, b5, _⟩ := HX.out
          have hfl : f.length = n := HLN.out
          rw [hfl] at HO
          go_wp2_with (at_builtin; refine wp_appN x' _ rfl _ _ rfl (w.heap.size + 1) _ _ rfl (by rw [hfl]; exact HO.out.alloc _) rfl ?k1 ?k2 ?k3 ?_)
          case k1 =>
            intro j' u hj'
            have hh := heap_alloc_new wr (.cells #[.int .i64 x'.op, .int .i64 x'.i, .int .i64 x'.e, .int .i64 x'.g, .int .i64 x'.x, .int .i64 x'.y] 62)
            rw [Lib.cell_of_heap hh j', ← hj']
            simp [ndC]
          case k2 => omega
          case k3 => simp; omega
          · intro v' w5 hown5 hgrow
            obtain ⟨A5, c5, rfl⟩ := own_sl hown5
            have HR5 := Lib.hid (Reads.of_own hown5)
            have HB5 : Hid (Below w.heap.size w w5) := Lib.hid ((HB.out.alloc (by omega) _).grown hgrow (by simp; omega) (fun g hg => by have := (HO.out.lt g hg).1; omega))
            clear hown5 hgrow b0 b1 b2 b3 b4 b5
            go_wp2_with fail
            refine (HS.out _ _ _ HR5.out).mono ?_
            rintro e w6 ⟨A6, c6, rfl, hR6, hb6⟩
            have HR6 := Lib.hid hR6
            have HB6 := Lib.hid (HB5.out.trans (hb6.mono HB5.out.size))
            clear hR6 hb6
            go_wp2
            go_ret
            exact ⟨A6, c6, rfl, HR6.out, HB6.out⟩
    · have hq : q = [] := by rw [HU.out, if_neg hz]
      subst hq
      have hzb : (z != 0) = true := by simpa using hz
      clear hz
      go_wp2
      go_ret
      exact ⟨none, 0, rfl, Reads.none_, HB3.out⟩
  · have hq : unaryF x f = [] := by unfold unaryF; rw [if_neg hz]
    rw [hq]
    have hzb : (fErr f != 0) = true := by simpa using hz
    generalize fErr f = z at *
    unfold nv
    clear hq hz
    go_enter Tryd.func118, Tryd.ntmps118
    go_wp2_with fail
    generalize w.alloc (.cells #[.int .i64 x.op, .int .i64 x.i, .int .i64 x.e, .int .i64 x.g, .int .i64 x.x, .int .i64 x.y] 62) = w0 at *
    refine (HC.out _ HB0.out).mono ?_
    rintro e w1 ⟨rfl, hb1⟩
    have HB1 := Lib.hid (HB0.out.trans (hb1.mono (Nat.le_of_lt hs0)))
    clear hb1
    go_wp2
    go_ret
    exact ⟨none, 0, rfl, Reads.none_, HB1.out⟩
end Go.Proofs.YtkkkomkljpolbaaDoor
/- Layer 5: Binary of the reference. -/
namespace Go.Proofs.YtkkkomkljpolbaaDoor
open Go.RowKit Go.Proofs.Ws Go.Maps
/-- the list of the first operand, and the first nodes of the second one behind it -/
def catL (f g : List Nd) (j : Nat) : List Nd := f ++ (g.take j).map (shiftN f.length)
theorem catL_ok {f g : List Nd} (hf : fErr f = 0) (hg : fErr g = 0) : opsL (f ++ g.map (shiftN f.length)) ∧ ∀ m ∈ f ++ g.map (shiftN f.length), fldOk m := by
  have h := catK_ok [f, g] (by intro h hh; simp at hh; rcases hh with rfl | rfl <;> assumption) 2 (by simp)
  have e : catKn [f, g] 2 = f ++ g.map (shiftN f.length) := by
    have hs : f.map (shiftN 0) = f := by
      have : ∀ l : List Nd, l.map (shiftN 0) = l := by
        intro l
        induction l with
        | nil => rfl
        | cons a l ih =>
          rw [List.map_cons, ih]
          congr 1
          obtain ⟨o, i, e, g', x, y⟩ := a
          simp [shiftN]
      exact this f
    simp [catKn, catS, hs]
  rw [e] at h
  exact ⟨h.1, h.2.1⟩
set_option maxRecDepth 100000 in
set_option maxHeartbeats 8000000 in
theorem rBinary_any (x : Nd) (f g : List Nd) (A A2 : Option Addr) (n c n2 c2 : Nat) (w : World) (hR : Reads w w.heap.size 6 A n (nds f)) (hm : n ≤ maxLen) (hR2 : Reads w w.heap.size 6 A2 n2 (nds g)) (hm2 : n2 ≤ maxLen) :
    Calls Tryd.prog 116 #[nv x, .slice A n c, .slice A2 n2 c2] w fun e w' => ∃ A' c', e = .returned (.slice A' (binaryF x f g).length c') ∧ Reads w' w'.heap.size 6 A' (binaryF x f g).length (nds (binaryF x f g)) ∧ Below w.heap.size w w' := by
  have hl := hR.nd_len
  have hl2 := hR2.nd_len
  have HR := Lib.hid hR
  have HR2 := Lib.hid hR2
  have HC : Hid (∀ W, Below w.heap.size w W → Calls Tryd.prog 30 #[.slice A n c] W fun e w' => e = .returned (.int .i64 (fErr f)) ∧ Below W.heap.size W w') := Lib.hid (fun W h => rCheck_any f A n c W ((hR.below h).more h.size) hm)
  have HC2 : Hid (∀ W, Below w.heap.size w W → Calls Tryd.prog 30 #[.slice A2 n2 c2] W fun e w' => e = .returned (.int .i64 (fErr g)) ∧ Below W.heap.size W w') := Lib.hid (fun W h => rCheck_any g A2 n2 c2 W ((hR2.below h).more h.size) hm2)
  have HB0 : Hid (Below w.heap.size w (w.alloc (.cells #[.int .i64 x.op, .int .i64 x.i, .int .i64 x.e, .int .i64 x.g, .int .i64 x.x, .int .i64 x.y] 62))) := Lib.hid ((Below.refl _ w).alloc (Nat.le_refl _) _)
  have HBX := Lib.hid (Box.made w x 62)
  have hs0 : w.heap.size < (w.alloc (.cells #[.int .i64 x.op, .int .i64 x.i, .int .i64 x.e, .int .i64 x.g, .int .i64 x.x, .int .i64 x.y] 62)).heap.size := by simp
  clear hR hR2
  by_cases hz : fErr f = 0
  · have HCZ : Hid (∀ W, Below w.heap.size w W → Calls Tryd.prog 30 #[.slice A n c] W fun e w' => e = .returned (.int .i64 0) ∧ Below W.heap.size W w') := Lib.hid (fun W h => hz ▸ HC.out W h)
    by_cases hz2 : fErr g = 0
    · have HCZ2 : Hid (∀ W, Below w.heap.size w W → Calls Tryd.prog 30 #[.slice A2 n2 c2] W fun e w' => e = .returned (.int .i64 0) ∧ Below W.heap.size W w') := Lib.hid (fun W h => hz2 ▸ HC2.out W h)
      have hn0 : f.length ≠ 0 := by simpa using (fErr_ok hz).1
      have hn02 : g.length ≠ 0 := by simpa using (fErr_ok hz2).1
      have h200 := (fErr_ok hz).2.1
      have h2002 := (fErr_ok hz2).2.1
      obtain ⟨k, hk⟩ : ∃ k : Nat, (k : Int) = (f.length : Int) - 1 := ⟨f.length - 1, by omega⟩
      obtain ⟨k2, hk2⟩ : ∃ k2 : Nat, (k2 : Int) = (f.length + g.length : Int) - 1 := ⟨f.length + g.length - 1, by omega⟩
      have HU : Hid (binaryF x f g = if nodeErr { x with x := (k : Int), y := (k2 : Int) } ((n : Int) + (n2 : Int)) = 0 then shortF (f ++ g.map (shiftN f.length) ++ [{ x with x := (k : Int), y := (k2 : Int) }]) else []) := Lib.hid (by unfold binaryF; rw [if_pos hz, if_pos hz2, hk, hk2, hl, hl2, Int.natCast_add])
      have HN : Hid (∀ W, Calls Tryd.prog 83 #[nv { x with x := (k : Int), y := (k2 : Int) }, .int .i64 ((n : Int) + (n2 : Int))] W fun e w' => e = .returned (.int .i64 (nodeErr { x with x := (k : Int), y := (k2 : Int) } ((n : Int) + (n2 : Int)))) ∧ Below W.heap.size W w') := Lib.hid (fun W => rNode_any _ _ W)
      have hcl : (f ++ g.map (shiftN f.length)).length = n + n2 := by rw [List.length_append, List.length_map]; omega
      have HSH : Hid (nodeErr { x with x := (k : Int), y := (k2 : Int) } ((n : Int) + (n2 : Int)) = 0 → ∀ W A1 c1, Reads W W.heap.size 6 A1 (n + n2 + 1) (nds (f ++ g.map (shiftN f.length) ++ [{ x with x := (k : Int), y := (k2 : Int) }])) → Calls Tryd.prog 152 #[.slice A1 (n + n2 + 1) c1] W fun e w' => ∃ A' c', e = .returned (.slice A' (shortF (f ++ g.map (shiftN f.length) ++ [{ x with x := (k : Int), y := (k2 : Int) }])).length c') ∧ Reads w' w'.heap.size 6 A' (shortF (f ++ g.map (shiftN f.length) ++ [{ x with x := (k : Int), y := (k2 : Int) }])).length (nds (shortF (f ++ g.map (shiftN f.length) ++ [{ x with x := (k : Int), y := (k2 : Int) }]))) ∧ Below W.heap.size W w') := Lib.hid (fun he W A1 c1 h1 => by
        rw [← Int.natCast_add] at he
        have hn := (nodeErr_iff _ _).1 he
        rw [← hcl] at hn
        obtain ⟨c1', c2'⟩ := catL_ok hz hz2
        have hok := snoc_ok c1' c2' hn.1 hn.2
        exact rShort_any _ hok.ne hok.ops (snoc_kn c2' hn.2) A1 (n + n2 + 1) c1 W h1 (by omega))
      have HGO := Lib.hid (fErr_ops hz2)
      have HGK := Lib.hid (fErr_known hz2)
      have HCL0 : Hid (catL f g 0 = f) := Lib.hid (by simp [catL])
      have HCLE : Hid (catL f g n2 = f ++ g.map (shiftN f.length)) := Lib.hid (by unfold catL; rw [← hl2, List.take_length])
      have HCT : Hid (∀ j, j < n2 → catL f g (j + 1) = catL f g j ++ [shiftN n (g.getD j nd0)] ∧ (catL f g j).length = n + j) := Lib.hid (fun j hj => by
        have hjg : j < g.length := by omega
        refine ⟨?_, by unfold catL; rw [List.length_append, List.length_map, List.length_take]; omega⟩
        unfold catL
        rw [List.take_succ_eq_append_getElem hjg, List.map_append, ← List.append_assoc, show g.getD j nd0 = g[j] from by simp [hjg], hl]; rfl)
      have HLN := Lib.hid hl
      have HLN2 := Lib.hid hl2
      have HCLL := Lib.hid hcl
      have hw1 : wrap64 ((n : Int) - 1) = (k : Int) := by unfold wrap64; omega
      have hw2 : IntKind.i64.wrap ((n : Int) - 1) = (k : Int) := by rw [IntKind.wrap_i64]; omega
      have hw3 : (n : Int) - 1 = (k : Int) := by omega
      have hw4 : wrap64 (((n : Int) + (n2 : Int)) - 1) = (k2 : Int) := by unfold wrap64; omega
      have hw5 : IntKind.i64.wrap (((n : Int) + (n2 : Int)) - 1) = (k2 : Int) := by rw [IntKind.wrap_i64]; omega
      have hw6 : ((n : Int) + (n2 : Int)) - 1 = (k2 : Int) := by omega
      have hn200 : n ≤ 200 := by omega
      have hn2002 : n2 ≤ 200 := by omega
      generalize hcg : f ++ g.map (shiftN f.length) = FG at *
      generalize nodeErr { x with x := (k : Int), y := (k2 : Int) } ((n : Int) + (n2 : Int)) = z at *
      unfold nv at HN ⊢
      dsimp only at HN
      generalize binaryF x f g = q at *
      clear hz hz2 hn0 hn02 h200 h2002 hk hk2 hl hl2 HC HC2 hcl hcg
      go_enter Tryd.func116, Tryd.ntmps116
      go_wp2_with fail
      generalize w.alloc (.cells #[.int .i64 x.op, .int .i64 x.i, .int .i64 x.e, .int .i64 x.g, .int .i64 x.x, .int .i64 x.y] 62) = w0 at *
      refine (HCZ.out _ HB0.out).mono ?_
      rintro e w1 ⟨rfl, hb1⟩
      have HB1 := Lib.hid (HB0.out.trans (hb1.mono (Nat.le_of_lt hs0)))
      have hs1 : w.heap.size < w1.heap.size := Nat.lt_of_lt_of_le hs0 hb1.size
      have HBX1 := Lib.hid (HBX.out.keep (W' := w1) (hb1.block _ hs0))
      clear hb1
      go_wp2_with fail
      refine (HCZ2.out _ HB1.out).mono ?_
      rintro e w2 ⟨rfl, hb2⟩
      have HB2 := Lib.hid (HB1.out.trans (hb2.mono (Nat.le_of_lt hs1)))
      have hs2 : w.heap.size < w2.heap.size := Nat.lt_of_lt_of_le hs1 hb2.size
      have HBX2 := Lib.hid (HBX1.out.keep (W' := w2) (hb2.block _ hs1))
      clear hb2
      go_wp2
      go_loopw [7, 8] (fun u7 i wr => ∃ j : Nat, j ≤ n ∧ i = .int .i64 j ∧ Hid (wr.ownsRow (w.heap.size + 1) 62 6 u7 (f.take j).length (nds (f.take j))) ∧ Hid (Box wr w.heap.size x) ∧ Hid (Below w.heap.size w wr) ∧ w.heap.size < wr.heap.size) (fun _ i _ => n - (intOf i).toNat)
      case atStart => exact ⟨0, Nat.zero_le _, rfl, Lib.hid (World.ownsRow_nil _ _ _ _), HBX2, HB2, hs2⟩
      case round =>
        obtain ⟨j, hj, rfl, HO, HX, HB, hsz⟩ := hrel
        by_cases hlt : j < n
        · obtain ⟨ad, rfl, hb, m0, m1, m2, m3, m4, m5⟩ := (HR.out.below HB.out).nd_at hlt
          have hjf : j < f.length := by have := HLN.out; omega
          have HT : Hid (f.take (j + 1) = f.take j ++ [f.getD j nd0]) := Lib.hid (by
            rw [List.take_succ_eq_append_getElem hjf, show f.getD j nd0 = f[j] from by simp [hjf]])
          have hlen : (f.take j).length = j := by rw [List.length_take]; omega
          generalize f.getD j nd0 = y at *
          generalize hL : f.take j = L at *
          have l1 := add_cell m1
          have l2 := add_cell m2
          have l3 := add_cell m3
          have l4 := add_cell m4
          have l5 := add_cell m5
          have HOW := Lib.hid HO.out
          clear hL
          go_wp2_with (at_builtin; refine wp_appN y _ rfl _ _ rfl (w.heap.size + 1) _ _ rfl (HOW.out.alloc _) rfl ?k1 ?k2 ?k3 ?_)
          case k1 =>
            intro j' u hj'
            have hh := heap_alloc_new wr (.cells #[.int .i64 y.op, .int .i64 y.i, .int .i64 y.e, .int .i64 y.g, .int .i64 y.x, .int .i64 y.y] 62)
            rw [Lib.cell_of_heap hh j', ← hj']
            simp [ndC]
          case k2 => omega
          case k3 => simp; omega
          · intro v' w5 hown5 hgrow
            have HO5 : Hid (w5.ownsRow (w.heap.size + 1) 62 6 v' (f.take (j + 1)).length (nds (f.take (j + 1)))) := Lib.hid (by rw [HT.out, List.length_append, hlen]; exact hown5)
            have HX5 := Lib.hid (HX.out.keep (W' := w5) ((hgrow.block w.heap.size (by simp; omega) (fun e => by have := (HOW.out.lt w.heap.size e.symm).1; omega)).trans (Below.heap_alloc wr _ _ hsz)))
            have HB5 : Hid (Below w.heap.size w w5) := Lib.hid ((HB.out.alloc (by omega) _).grown hgrow (by simp; omega) (fun g hg => by have := (HOW.out.lt g hg).1; omega))
            have hs5 : w.heap.size < w5.heap.size := by have := hgrow.size; simp at this; omega
            clear hown5 hgrow m0 m1 m2 m3 m4 m5 l1 l2 l3 l4 l5
            go_wp2
            go_roundw
            case rel => exact ⟨j + 1, by omega, by go_num, HO5, HX5, HB5, hs5⟩
            case measure => simp [intOf]; omega
        · have hjn : f.take j = f := by rw [List.take_of_length_le]; have := HLN.out; omega
          rw [hjn] at HO
          have HOS := Lib.hid HO.out
          have HXS := Lib.hid HX.out
          have HBS := Lib.hid HB.out
          rw [← HCL0.out] at HOS
          have hszS := hsz
          clear HO HX HB hjn
          go_wp2
          clear hlt hj
          go_loopw [7, 9, 10] (fun u7 i u10 wr => ∃ j : Nat, j ≤ n2 ∧ i = .int .i64 j ∧ Hid (wr.ownsRow (w.heap.size + 1) 62 6 u7 (catL f g j).length (nds (catL f g j))) ∧ Hid (Box wr w.heap.size x) ∧ Hid (Below w.heap.size w wr) ∧ w.heap.size < wr.heap.size) (fun _ i _ _ => n2 - (intOf i).toNat)
          case atStart => exact ⟨0, Nat.zero_le _, rfl, HOS, HXS, HBS, hszS⟩
          case round =>
            obtain ⟨j, hj, rfl, HO, HX, HB, hsz⟩ := hrel
            by_cases hlt : j < n2
            · obtain ⟨ad, rfl, hb, m0, m1, m2, m3, m4, m5⟩ := (HR2.out.below HB.out).nd_at hlt
              have hjg : j < g.length := by have := HLN2.out; omega
              obtain ⟨hct, hlen⟩ := HCT.out j hlt
              have HT := Lib.hid hct
              have hops := HGO.out j hjg
              have hkn := HGK.out j hjg
              clear hct
              generalize g.getD j nd0 = y at *
              generalize hL : catL f g j = L at *
              have HUX := Lib.hid (fun W => rUsesX_any y.op hkn W)
              have HUY := Lib.hid (fun W => rUsesY_any y.op hkn W)
              have l1 := add_cell m1
              have l2 := add_cell m2
              have l3 := add_cell m3
              have l4 := add_cell m4
              have l5 := add_cell m5
              have HOY : Hid ((wr.alloc (.cells #[.int .i64 y.op, .int .i64 y.i, .int .i64 y.e, .int .i64 y.g, .int .i64 y.x, .int .i64 y.y] 62)).ownsRow (w.heap.size + 1) 62 6 u7 L.length (nds L)) := Lib.hid (HO.out.alloc _)
              have HXY : Hid (Box (wr.alloc (.cells #[.int .i64 y.op, .int .i64 y.i, .int .i64 y.e, .int .i64 y.g, .int .i64 y.x, .int .i64 y.y] 62)) w.heap.size x) := Lib.hid (HX.out.keep (Below.heap_alloc wr _ _ hsz))
              have HBWY : Hid (Below w.heap.size w (wr.alloc (.cells #[.int .i64 y.op, .int .i64 y.i, .int .i64 y.e, .int .i64 y.g, .int .i64 y.x, .int .i64 y.y] 62))) := Lib.hid (HB.out.alloc (by omega) _)
              have HBY := Lib.hid (Box.made wr y 62)
              have hsy : (wr.alloc (.cells #[.int .i64 y.op, .int .i64 y.i, .int .i64 y.e, .int .i64 y.g, .int .i64 y.x, .int .i64 y.y] 62)).heap.size = wr.heap.size + 1 := by simp
              have HOG : Hid (∀ g', u7.ownBlock = some g' → g' < wr.heap.size) := Lib.hid (fun g' hg => (HO.out.lt g' hg).2)
              clear hL
              go_wp2_with fail
              clear m0 m1 m2 m3 m4 m5 l1 l2 l3 l4 l5
              generalize wr.alloc (.cells #[.int .i64 y.op, .int .i64 y.i, .int .i64 y.e, .int .i64 y.g, .int .i64 y.x, .int .i64 y.y] 62) = wy at *
              generalize hG : wr.heap.size = G at *
              have HGG := Lib.hid hG
              clear hG
              cases hux : usesX y.op with
              | false =>
                have huy : usesY y.op = false := by cases h : usesY y.op with | false => rfl | true => have := usesY_X h; rw [hux] at this; cases this
                have hz : shiftN n y = ⟨y.op, y.i, y.e, y.g, y.x, y.y⟩ := by unfold shiftN; rw [hux, huy]; rfl
                rw [hz] at HT
                rw [hux] at HUX
                rw [huy] at HUY
                obtain ⟨b0, b1, b2, b3, b4, b5, bf⟩ := HBY.out
                have bf4 := bf 4
                have bf5 := bf 5
                clear bf hz hux huy hops
                refine (HUX.out _).mono ?_
                rintro e w1 ⟨rfl, rfl⟩
                go_wp2_with fail
                refine (HUY.out _).mono ?_
                rintro e w1 ⟨rfl, rfl⟩
                have HOZ : Hid (wy.ownsRow (w.heap.size + 1) 62 6 u7 L.length (nds L)) := Lib.hid (own_keep1 HOY.out (fun g hg => by have hg2 := HOG.out g hg; exact rfl))
                have HXZ : Hid (Box wy w.heap.size x) := Lib.hid (HXY.out.keep (rfl))
                have HBZ : Hid (Below w.heap.size w wy) := Lib.hid HBWY.out
                have hsz9 : w.heap.size + 1 < wy.heap.size := by first | omega | (simp; omega)
                go_wp2_with (at_builtin; refine wp_appN ⟨y.op, y.i, y.e, y.g, y.x, y.y⟩ _ rfl _ _ rfl (w.heap.size + 1) _ _ rfl (HOZ.out.alloc _) rfl ?k1 ?k2 ?k3 ?_)
                case k1 =>
                  intro j' u hj'
                  have hh := heap_alloc_new wy (.cells #[.int .i64 y.op, .int .i64 y.i, .int .i64 y.e, .int .i64 y.g, .int .i64 (y.x), .int .i64 (y.y)] 62)
                  have hs8 : (wy).heap.size = G + 1 := by first | exact hsy | simpa using hsy
                  rw [hs8] at hh
                  rw [Lib.cell_of_heap hh j', ← hj']
                  simp [ndC]
                case k2 => omega
                case k3 => simp; omega
                · intro v' w5 hown5 hgrow
                  have HO5 : Hid (w5.ownsRow (w.heap.size + 1) 62 6 v' (catL f g (j + 1)).length (nds (catL f g (j + 1)))) := Lib.hid (by rw [HT.out, List.length_append, hlen]; exact hown5)
                  have HX5 := Lib.hid (HXZ.out.keep (W' := w5) ((hgrow.block w.heap.size (by simp; omega) (fun e => by have := (HOZ.out.lt w.heap.size e.symm).1; omega)).trans (Below.heap_alloc _ _ _ (by omega))))
                  have HB5 : Hid (Below w.heap.size w w5) := Lib.hid ((HBZ.out.alloc (by omega) _).grown hgrow (by simp; omega) (fun g hg => by have := (HOZ.out.lt g hg).1; omega))
                  have hs5 : w.heap.size < w5.heap.size := by have := hgrow.size; simp at this; omega
                  clear hown5 hgrow b0 b1 b2 b3 b4 b5 bf4 bf5
                  go_wp2
                  go_roundw
                  case rel => exact ⟨j + 1, by omega, by go_num, HO5, HX5, HB5, hs5⟩
                  case measure => simp [intOf]; omega
              | true =>
                cases huy : usesY y.op with
                | false =>
                  have hz : shiftN n y = ⟨y.op, y.i, y.e, y.g, y.x + n, y.y⟩ := by unfold shiftN; rw [hux, huy]; rfl
                  rw [hz] at HT
                  rw [hux] at HUX
                  rw [huy] at HUY
                  have hbx := opsOk_x hops hux
                  have ax1 : wrap64 (y.x + (n : Int)) = y.x + n := by unfold wrap64; omega
                  have ax2 : IntKind.i64.wrap (y.x + (n : Int)) = y.x + n := by rw [IntKind.wrap_i64]; omega
                  obtain ⟨b0, b1, b2, b3, b4, b5, bf⟩ := HBY.out
                  have bf4 := bf 4
                  have bf5 := bf 5
                  clear bf hz hux huy hops
                  refine (HUX.out _).mono ?_
                  rintro e w1 ⟨rfl, rfl⟩
                  go_wp2_with fail
                  refine (HUY.out _).mono ?_
                  rintro e w1 ⟨rfl, rfl⟩
                  have HOZ : Hid ((wy.setCell ⟨G, 4, none⟩ (.int .i64 (y.x + n))).ownsRow (w.heap.size + 1) 62 6 u7 L.length (nds L)) := Lib.hid (own_keep1 HOY.out (fun g hg => by have hg2 := HOG.out g hg; exact Below.heap_setCell _ _ _ _ (by show g ≠ G; omega)))
                  have HXZ : Hid (Box (wy.setCell ⟨G, 4, none⟩ (.int .i64 (y.x + n))) w.heap.size x) := Lib.hid (HXY.out.keep (Below.heap_setCell _ _ _ _ (by show w.heap.size ≠ G; omega)))
                  have HBZ : Hid (Below w.heap.size w (wy.setCell ⟨G, 4, none⟩ (.int .i64 (y.x + n)))) := Lib.hid (HBWY.out.setCell (by show w.heap.size ≤ G; omega) _)
                  have hsz9 : w.heap.size + 1 < (wy.setCell ⟨G, 4, none⟩ (.int .i64 (y.x + n))).heap.size := by first | omega | (simp; omega)
                  go_wp2_with (at_builtin; refine wp_appN ⟨y.op, y.i, y.e, y.g, y.x + n, y.y⟩ _ rfl _ _ rfl (w.heap.size + 1) _ _ rfl (HOZ.out.alloc _) rfl ?k1 ?k2 ?k3 ?_)
                  case k1 =>
                    intro j' u hj'
                    have hh := heap_alloc_new (wy.setCell ⟨G, 4, none⟩ (.int .i64 (y.x + n))) (.cells #[.int .i64 y.op, .int .i64 y.i, .int .i64 y.e, .int .i64 y.g, .int .i64 (y.x + n), .int .i64 (y.y)] 62)
                    have hs8 : ((wy.setCell ⟨G, 4, none⟩ (.int .i64 (y.x + n)))).heap.size = G + 1 := by first | exact hsy | simpa using hsy
                    rw [hs8] at hh
                    rw [Lib.cell_of_heap hh j', ← hj']
                    simp [ndC]
                  case k2 => omega
                  case k3 => simp; omega
                  · intro v' w5 hown5 hgrow
                    have HO5 : Hid (w5.ownsRow (w.heap.size + 1) 62 6 v' (catL f g (j + 1)).length (nds (catL f g (j + 1)))) := Lib.hid (by rw [HT.out, List.length_append, hlen]; exact hown5)
                    have HX5 := Lib.hid (HXZ.out.keep (W' := w5) ((hgrow.block w.heap.size (by simp; omega) (fun e => by have := (HOZ.out.lt w.heap.size e.symm).1; omega)).trans (Below.heap_alloc _ _ _ (by omega))))
                    have HB5 : Hid (Below w.heap.size w w5) := Lib.hid ((HBZ.out.alloc (by omega) _).grown hgrow (by simp; omega) (fun g hg => by have := (HOZ.out.lt g hg).1; omega))
                    have hs5 : w.heap.size < w5.heap.size := by have := hgrow.size; simp at this; omega
                    clear hown5 hgrow b0 b1 b2 b3 b4 b5 bf4 bf5
                    go_wp2
                    go_roundw
                    case rel => exact ⟨j + 1, by omega, by go_num, HO5, HX5, HB5, hs5⟩
                    case measure => simp [intOf]; omega

                | true =>
                  have hz : shiftN n y = ⟨y.op, y.i, y.e, y.g, y.x + n, y.y + n⟩ := by unfold shiftN; rw [hux, huy]; rfl
                  rw [hz] at HT
                  rw [hux] at HUX
                  rw [huy] at HUY
                  have hbx := opsOk_x hops hux
                  have ax1 : wrap64 (y.x + (n : Int)) = y.x + n := by unfold wrap64; omega
                  have ax2 : IntKind.i64.wrap (y.x + (n : Int)) = y.x + n := by rw [IntKind.wrap_i64]; omega
                  have hby := opsOk_y hops huy
                  have ay1 : wrap64 (y.y + (n : Int)) = y.y + n := by unfold wrap64; omega
                  have ay2 : IntKind.i64.wrap (y.y + (n : Int)) = y.y + n := by rw [IntKind.wrap_i64]; omega
                  obtain ⟨b0, b1, b2, b3, b4, b5, bf⟩ := HBY.out
                  have bf4 := bf 4
                  have bf5 := bf 5
                  clear bf hz hux huy hops
                  refine (HUX.out _).mono ?_
                  rintro e w1 ⟨rfl, rfl⟩
                  go_wp2_with fail
                  refine (HUY.out _).mono ?_
                  rintro e w1 ⟨rfl, rfl⟩
                  have HOZ : Hid (((wy.setCell ⟨G, 4, none⟩ (.int .i64 (y.x + n))).setCell ⟨G, 5, none⟩ (.int .i64 (y.y + n))).ownsRow (w.heap.size + 1) 62 6 u7 L.length (nds L)) := Lib.hid (own_keep1 HOY.out (fun g hg => by have hg2 := HOG.out g hg; exact (Below.heap_setCell _ _ _ _ (by show g ≠ G; omega)).trans (Below.heap_setCell _ _ _ _ (by show g ≠ G; omega))))
                  have HXZ : Hid (Box ((wy.setCell ⟨G, 4, none⟩ (.int .i64 (y.x + n))).setCell ⟨G, 5, none⟩ (.int .i64 (y.y + n))) w.heap.size x) := Lib.hid (HXY.out.keep ((Below.heap_setCell _ _ _ _ (by show w.heap.size ≠ G; omega)).trans (Below.heap_setCell _ _ _ _ (by show w.heap.size ≠ G; omega))))
                  have HBZ : Hid (Below w.heap.size w ((wy.setCell ⟨G, 4, none⟩ (.int .i64 (y.x + n))).setCell ⟨G, 5, none⟩ (.int .i64 (y.y + n)))) := Lib.hid ((HBWY.out.setCell (by show w.heap.size ≤ G; omega) _).setCell (by show w.heap.size ≤ G; omega) _)
                  have hsz9 : w.heap.size + 1 < ((wy.setCell ⟨G, 4, none⟩ (.int .i64 (y.x + n))).setCell ⟨G, 5, none⟩ (.int .i64 (y.y + n))).heap.size := by first | omega | (simp; omega)
                  go_wp2_with (at_builtin; refine wp_appN ⟨y.op, y.i, y.e, y.g, y.x + n, y.y + n⟩ _ rfl _ _ rfl (w.heap.size + 1) _ _ rfl (HOZ.out.alloc _) rfl ?k1 ?k2 ?k3 ?_)
                  case k1 =>
                    intro j' u hj'
                    have hh := heap_alloc_new ((wy.setCell ⟨G, 4, none⟩ (.int .i64 (y.x + n))).setCell ⟨G, 5, none⟩ (.int .i64 (y.y + n))) (.cells #[.int .i64 y.op, .int .i64 y.i, .int .i64 y.e, .int .i64 y.g, .int .i64 (y.x + n), .int .i64 (y.y + n)] 62)
                    have hs8 : (((wy.setCell ⟨G, 4, none⟩ (.int .i64 (y.x + n))).setCell ⟨G, 5, none⟩ (.int .i64 (y.y + n)))).heap.size = G + 1 := by first | exact hsy | simpa using hsy
                    rw [hs8] at hh
                    rw [Lib.cell_of_heap hh j', ← hj']
                    simp [ndC]
                  case k2 => omega
                  case k3 => simp; omega
                  · intro v' w5 hown5 hgrow
                    have HO5 : Hid (w5.ownsRow (w.heap.size + 1) 62 6 v' (catL f g (j + 1)).length (nds (catL f g (j + 1)))) := Lib.hid (by rw [HT.out, List.length_append, hlen]; exact hown5)
                    have HX5 := Lib.hid (HXZ.out.keep (W' := w5) ((hgrow.block w.heap.size (by simp; omega) (fun e => by have := (HOZ.out.lt w.heap.size e.symm).1; omega)).trans (Below.heap_alloc _ _ _ (by omega))))
                    have HB5 : Hid (Below w.heap.size w w5) := Lib.hid ((HBZ.out.alloc (by omega) _).grown hgrow (by simp; omega) (fun g hg => by have := (HOZ.out.lt g hg).1; omega))
                    have hs5 : w.heap.size < w5.heap.size := by have := hgrow.size; simp at this; omega
                    clear hown5 hgrow b0 b1 b2 b3 b4 b5 bf4 bf5
                    go_wp2
                    go_roundw
                    case rel => exact ⟨j + 1, by omega, by go_num, HO5, HX5, HB5, hs5⟩
                    case measure => simp [intOf]; omega
            · have hjn : j = n2 := by omega
              rw [hjn, HCLE.out, HCLL.out] at HO
              obtain ⟨b0, b1, b2, b3, b4, b5, bf⟩ := HX.out
              have bf4 := bf 4
              have bf5 := bf 5
              obtain ⟨A7, c7, rfl⟩ := own_sl HO.out
              have HBXk := Lib.hid ((HX.out.setX (k : Int)).setY (k2 : Int))
              have HB2s : Hid (Below w.heap.size w ((wr.setCell ⟨w.heap.size, 4, none⟩ (.int .i64 (k : Int))).setCell ⟨w.heap.size, 5, none⟩ (.int .i64 (k2 : Int)))) := Lib.hid ((HB.out.setCell (Nat.le_refl _) _).setCell (Nat.le_refl _) _)
              have HOs : Hid (((wr.setCell ⟨w.heap.size, 4, none⟩ (.int .i64 (k : Int))).setCell ⟨w.heap.size, 5, none⟩ (.int .i64 (k2 : Int))).ownsRow (w.heap.size + 1) 62 6 (.slice A7 (n + n2) c7) (n + n2) (nds FG)) := Lib.hid (ownsRow_setCell_below (ownsRow_setCell_below HO.out (by show w.heap.size < w.heap.size + 1; omega) _) (by show w.heap.size < w.heap.size + 1; omega) _)
              have hs2s : w.heap.size < ((wr.setCell ⟨w.heap.size, 4, none⟩ (.int .i64 (k : Int))).setCell ⟨w.heap.size, 5, none⟩ (.int .i64 (k2 : Int))).heap.size := by simpa using hsz
              have hd : decide (n2 ≤ j) = true := decide_eq_true (by omega)
              clear bf hjn hj
              go_wp2_with fail
              clear b0 b1 b2 b3 b4 b5 bf4 bf5
              generalize (wr.setCell ⟨w.heap.size, 4, none⟩ (.int .i64 (k : Int))).setCell ⟨w.heap.size, 5, none⟩ (.int .i64 (k2 : Int)) = w4 at *
              refine (HN.out _).mono ?_
              rintro e w5 ⟨rfl, hb5⟩
              have HB5 := Lib.hid (HB2s.out.trans (hb5.mono (Nat.le_of_lt hs2s)))
              have HBX5 := Lib.hid (HBXk.out.keep (W' := w5) (hb5.block _ hs2s))
              have HO5 := Lib.hid (own_keep1 HOs.out (fun g' hg' => hb5.block g' (HOs.out.lt g' hg').2))
              have hs5 := Nat.lt_of_lt_of_le hs2s hb5.size
              clear hb5
              by_cases hz : z = 0
              · subst hz
                have hq : q = shortF (FG ++ [{ x with x := (k : Int), y := (k2 : Int) }]) := by rw [HU.out, if_pos rfl]
                have HS := Lib.hid (HSH.out rfl)
                rw [← hq] at HS
                clear HU HSH HN hq
                generalize ({ x with x := (k : Int), y := (k2 : Int) } : Nd) = x' at *
                obtain ⟨b0, b1, b2, b3, b4, b5, _⟩ := HBX5.out
                have hfl := HCLL.out
                go_wp2_with (at_builtin; refine wp_appN x' _ rfl _ _ rfl (w.heap.size + 1) _ _ rfl (by rw [hfl]; exact HO5.out.alloc _) rfl ?k1 ?k2 ?k3 ?_)
                case k1 =>
                  intro j' u hj'
                  have hh := heap_alloc_new w5 (.cells #[.int .i64 x'.op, .int .i64 x'.i, .int .i64 x'.e, .int .i64 x'.g, .int .i64 x'.x, .int .i64 x'.y] 62)
                  rw [Lib.cell_of_heap hh j', ← hj']
                  simp [ndC]
                case k2 => omega
                case k3 => simp; omega
                · intro v' w6 hown6 hgrow
                  obtain ⟨A6, c6, rfl⟩ := own_sl hown6
                  have HR6 := Lib.hid (Reads.of_own hown6)
                  have HB6 : Hid (Below w.heap.size w w6) := Lib.hid ((HB5.out.alloc (by omega) _).grown hgrow (by simp; omega) (fun g hg => by have := (HO5.out.lt g hg).1; omega))
                  clear hown6 hgrow b0 b1 b2 b3 b4 b5
                  go_wp2_with fail
                  refine (HS.out _ _ _ HR6.out).mono ?_
                  rintro e w7 ⟨A8, c8, rfl, hR8, hb8⟩
                  have HR8 := Lib.hid hR8
                  have HB8 := Lib.hid (HB6.out.trans (hb8.mono HB6.out.size))
                  clear hR8 hb8
                  go_wp2
                  go_ret
                  exact ⟨A8, c8, rfl, HR8.out, HB8.out⟩
              · have hq : q = [] := by rw [HU.out, if_neg hz]
                have hzb : (z != 0) = true := by simpa using hz
                clear hz HU HSH HN
                subst hq
                go_wp2
                go_ret
                exact ⟨none, 0, rfl, Reads.none_, HB5.out⟩
    · have hq : binaryF x f g = [] := by unfold binaryF; rw [if_pos hz, if_neg hz2]
      rw [hq]
      have hzb : (fErr g != 0) = true := by simpa using hz2
      generalize fErr g = z at *
      unfold nv
      clear hq hz hz2 hl hl2
      go_enter Tryd.func116, Tryd.ntmps116
      go_wp2_with fail
      generalize w.alloc (.cells #[.int .i64 x.op, .int .i64 x.i, .int .i64 x.e, .int .i64 x.g, .int .i64 x.x, .int .i64 x.y] 62) = w0 at *
      refine (HCZ.out _ HB0.out).mono ?_
      rintro e w1 ⟨rfl, hb1⟩
      have HB1 := Lib.hid (HB0.out.trans (hb1.mono (Nat.le_of_lt hs0)))
      clear hb1
      go_wp2_with fail
      refine (HC2.out _ HB1.out).mono ?_
      rintro e w2 ⟨rfl, hb2⟩
      have HB2 := Lib.hid (HB1.out.trans (hb2.mono HB1.out.size))
      clear hb2
      go_wp2
      go_ret
      exact ⟨none, 0, rfl, Reads.none_, HB2.out⟩
  · have hq : binaryF x f g = [] := by unfold binaryF; rw [if_neg hz]
    rw [hq]
    have hzb : (fErr f != 0) = true := by simpa using hz
    generalize fErr f = z at *
    unfold nv
    clear hq hz hl hl2
    go_enter Tryd.func116, Tryd.ntmps116
    go_wp2_with fail
    generalize w.alloc (.cells #[.int .i64 x.op, .int .i64 x.i, .int .i64 x.e, .int .i64 x.g, .int .i64 x.x, .int .i64 x.y] 62) = w0 at *
    refine (HC.out _ HB0.out).mono ?_
    rintro e w1 ⟨rfl, hb1⟩
    have HB1 := Lib.hid (HB0.out.trans (hb1.mono (Nat.le_of_lt hs0)))
    clear hb1
    go_wp2
    go_ret
    exact ⟨none, 0, rfl, Reads.none_, HB1.out⟩
end Go.Proofs.YtkkkomkljpolbaaDoor
/- Layer 5: both ways of building give the same formula. -/
namespace Go.Proofs.YtkkkomkljpolbaaDoor
open Go.RowKit Go.Proofs.Ws Go.Maps
/-- the fields that an operator does not use are 0, but for its operands -/
def cleanN (n : Nd) : Prop := (n.op = 3 ∨ hasAgent n.op = true ∨ n.op = 17 ∨ n.i = 0) ∧ (n.op = 17 ∨ n.e = 0) ∧ (hasGroup n.op = true ∨ n.g = 0)
theorem node_build {n n' : Nd} {k : Nat} (hk : known n.op = true) (hc : cleanN n) (ho : opsOk n' k) (h1 : n'.op = n.op) (h2 : n'.i = n.i) (h3 : n'.e = n.e) (h4 : n'.g = n.g) : nodeErr n' (k : Int) = 0 ↔ rangeOk n = true := by
  rw [nodeErr_iff]
  have hr : rangeOk n' = rangeOk n := by unfold rangeOk; rw [h1, h2, h3, h4]
  unfold fldOk
  rw [hr, h1, h2, h3, h4]
  exact ⟨fun h => h.2.2.2, fun h => ⟨ho, hk, hc, h⟩⟩
theorem buildF_one {n : Nd} (hk : known n.op = true) (hc : cleanN n) (hx : n.x = 0) (hy : n.y = 0) (hux : usesX n.op = false) : buildF n [] = oneF n := by
  have huy : usesY n.op = false := by
    cases h : usesY n.op with
    | false => rfl
    | true => have := usesY_X h; rw [hux] at this; cases this
  have ho : opsOk n 0 := ⟨by rw [if_neg (by rw [hux]; decide)]; exact hx, by rw [if_neg (by rw [huy]; decide)]; exact hy⟩
  have hn : nodeErr n 0 = 0 ↔ rangeOk n = true := node_build (n' := n) hk hc ho rfl rfl rfl rfl
  have hcan : canonF [n] = [n] := by
    unfold canonF
    simp [finW, hux, huy, putNd, hx, hy]
    obtain ⟨a, b, c, d, e, f⟩ := n
    simp at hx hy
    simp [hx, hy]
  unfold buildF oneF
  cases hr : rangeOk n with
  | false =>
    rw [if_pos rfl, if_neg (fun h => by have := hn.1 h; rw [hr] at this; cases this)]
  | true =>
    rw [if_neg (by decide), if_neg (by simp), if_pos (hn.2 hr)]
    show (if 200 < (canonF [n]).length then [] else canonF [n]) = [n]
    rw [hcan, if_neg (by simp)]
theorem map_shift0 : ∀ l : List Nd, l.map (shiftN 0) = l := by
  intro l
  induction l with
  | nil => rfl
  | cons a l ih =>
    rw [List.map_cons, ih]
    congr 1
    obtain ⟨o, i, e, g', x, y⟩ := a
    simp [shiftN]
theorem buildF_bin {n : Nd} {f g : List Nd} (hk : known n.op = true) (hc : cleanN n) (hux : usesX n.op = true) (huy : usesY n.op = true) : buildF n [f, g] = binaryF n f g := by
  unfold buildF binaryF
  by_cases hz : fErr f = 0
  · by_cases hz2 : fErr g = 0
    · have hne : f.length ≠ 0 := by simpa using (fErr_ok hz).1
      have hne2 : g.length ≠ 0 := by simpa using (fErr_ok hz2).1
      have ho : opsOk { n with x := (f.length : Int) - 1, y := (f.length + g.length : Int) - 1 } (f.length + g.length) := ⟨by rw [if_pos hux]; dsimp only; omega, by rw [if_pos huy]; dsimp only; omega⟩
      have hn := node_build (n' := { n with x := (f.length : Int) - 1, y := (f.length + g.length : Int) - 1 }) hk hc ho rfl rfl rfl rfl
      rw [if_pos hz, if_pos hz2]
      have he : ¬ ∃ h ∈ [f, g], fErr h ≠ 0 := by simp [hz, hz2]
      rw [if_neg he]
      cases hr : rangeOk n with
      | false => rw [if_pos rfl, if_neg (fun h => by have := hn.1 h; rw [hr] at this; cases this)]
      | true =>
        rw [if_neg (by decide), if_pos (hn.2 hr)]
        have e : catS [f, g] [] = f ++ g.map (shiftN f.length) := by simp [catS, map_shift0]
        rw [e]
        rfl
    · rw [if_pos hz, if_neg hz2]
      have he : ∃ h ∈ [f, g], fErr h ≠ 0 := ⟨g, by simp, hz2⟩
      rw [if_pos he]
      split <;> rfl
  · rw [if_neg hz]
    have he : ∃ h ∈ [f, g], fErr h ≠ 0 := ⟨f, by simp, hz⟩
    rw [if_pos he]
    split <;> rfl
end Go.Proofs.YtkkkomkljpolbaaDoor
/- Layer 5: conjunctions and disjunctions of lists of formulas. -/
namespace Go.Proofs.Ws
open Go
end Go.Proofs.Ws
namespace Go.Proofs.YtkkkomkljpolbaaDoor
open Go.RowKit Go.Proofs.Ws Go.Maps
/-- a slice of lists of nodes -/
structure LsR (W : World) (B : Nat) (A : Option Addr) (n : Nat) (ls : List (List Nd)) : Prop where
  len : ls.length = n
  ex : ∃ vs, Reads W B 1 A n vs ∧ ∀ j, j < n → ∃ Aj cj, vs[j]? = some (.slice Aj (ls.getD j []).length cj) ∧ Reads W B 6 Aj (ls.getD j []).length (nds (ls.getD j [])) ∧ (ls.getD j []).length ≤ maxLen
theorem LsR.below {W W' : World} {B B2 : Nat} {A : Option Addr} {n : Nat} {ls : List (List Nd)} (h : LsR W B A n ls) (hb : Below B W W') (h2 : B ≤ B2) : LsR W' B2 A n ls := by
  obtain ⟨vs, h1, h3⟩ := h.ex
  refine ⟨h.len, vs, (h1.below hb).more h2, fun j hj => ?_⟩
  obtain ⟨Aj, cj, e1, e2, e3⟩ := h3 j hj
  exact ⟨Aj, cj, e1, (e2.below hb).more h2, e3⟩
theorem LsR.at_ {W : World} {B : Nat} {A : Option Addr} {n k : Nat} {ls : List (List Nd)} (h : LsR W B A n ls) (hk : k < n) :
    ∃ ad Aj cj, A = some ad ∧ ad.block < B ∧ W.cell? (ad.add k) = some (.slice Aj (ls.getD k []).length cj) ∧ Reads W B 6 Aj (ls.getD k []).length (nds (ls.getD k [])) ∧ (ls.getD k []).length ≤ maxLen := by
  obtain ⟨vs, h1, h3⟩ := h.ex
  obtain ⟨Aj, cj, e1, e2, e3⟩ := h3 k hk
  obtain ⟨ad, rfl, hb, hc⟩ := h1.2 (by omega)
  exact ⟨ad, Aj, cj, rfl, hb, hc k _ e1, e2, e3⟩
set_option maxRecDepth 100000 in
theorem rAnd_any (f h : List Nd) (Af Ah : Option Addr) (nf cf nh ch : Nat) (w : World) (hRf : Reads w w.heap.size 6 Af nf (nds f)) (hmf : nf ≤ maxLen) (hRh : Reads w w.heap.size 6 Ah nh (nds h)) (hmh : nh ≤ maxLen) :
    Calls Tryd.prog 53 #[.slice Af nf cf, .slice Ah nh ch] w fun e w' => ∃ A' c', e = .returned (.slice A' (buildF ⟨5, 0, 0, 0, 0, 0⟩ [f, h]).length c') ∧ Reads w' w'.heap.size 6 A' (buildF ⟨5, 0, 0, 0, 0, 0⟩ [f, h]).length (nds (buildF ⟨5, 0, 0, 0, 0, 0⟩ [f, h])) ∧ Below w.heap.size w w' := by
  have HC := Lib.hid (rBinary_any ⟨5, 0, 0, 0, 0, 0⟩ f h Af Ah nf cf nh ch w hRf hmf hRh hmh)
  rw [← buildF_bin (n := ⟨5, 0, 0, 0, 0, 0⟩) rfl ⟨Or.inr (Or.inr (Or.inr rfl)), Or.inr rfl, Or.inr rfl⟩ rfl rfl] at HC
  unfold nv at HC
  generalize buildF ⟨5, 0, 0, 0, 0, 0⟩ [f, h] = q at *
  dsimp only at HC
  go_enter Tryd.func53, Tryd.ntmps53
  go_wp2_with fail
  refine (HC.out).mono ?_
  rintro e w2 ⟨A', c', rfl, hR2, hb2⟩
  have HR2 := Lib.hid hR2
  have HB2 := Lib.hid hb2
  clear hR2 hb2
  go_wp2
  go_ret
  exact ⟨A', c', rfl, HR2.out, HB2.out⟩
set_option maxRecDepth 100000 in
theorem rTrue_any (w : World) :
    Calls Tryd.prog 57 #[] w fun e w' => ∃ A' c', e = .returned (.slice A' (buildF ⟨1, 0, 0, 0, 0, 0⟩ []).length c') ∧ Reads w' w'.heap.size 6 A' (buildF ⟨1, 0, 0, 0, 0, 0⟩ []).length (nds (buildF ⟨1, 0, 0, 0, 0, 0⟩ [])) ∧ Below w.heap.size w w' := by
  have HC := Lib.hid (rOne_any ⟨1, 0, 0, 0, 0, 0⟩ w)
  rw [← buildF_one (n := ⟨1, 0, 0, 0, 0, 0⟩) rfl ⟨Or.inr (Or.inr (Or.inr rfl)), Or.inr rfl, Or.inr rfl⟩ rfl rfl rfl] at HC
  unfold nv at HC
  generalize buildF ⟨1, 0, 0, 0, 0, 0⟩ [] = q at *
  dsimp only at HC
  go_enter Tryd.func57, Tryd.ntmps57
  go_wp2_with fail
  refine (HC.out).mono ?_
  rintro e w2 ⟨A', c', rfl, hR2, hb2⟩
  have HR2 := Lib.hid hR2
  have HB2 := Lib.hid hb2
  clear hR2 hb2
  go_wp2
  go_ret
  exact ⟨A', c', rfl, HR2.out, HB2.out⟩
end Go.Proofs.YtkkkomkljpolbaaDoor
/- Layer 5: subformulas: depth, fragments, order (mathematics). -/
namespace Go.Proofs.YtkkkomkljpolbaaDoor
open Go.RowKit Go.Proofs.Ws Go.Maps
/-- what a subformula is -/
theorem subs_tree {f s : List Nd} (hs : s ∈ subsF f) : fErr f = 0 ∧ ∃ t r : Tr, trOk t ∧ compF f = canT t ∧ subT r t ∧ s = canT r ∧ fErr s = 0 ∧ compF s = s := by
  unfold subsF at hs
  obtain ⟨i, hi, rfl⟩ := List.mem_map.1 hs
  have hi := List.mem_range.1 hi
  have hz : fErr f = 0 := by
    by_cases h : fErr f = 0
    · exact h
    · unfold compF at hi; rw [if_neg h] at hi; simp at hi
  have h0 := compF_ok hz
  have hne : f.length ≠ 0 := by simpa using (fErr_ok hz).1
  have ht : trOk (treeAt f (f.length - 1)) := treeAt_ok (fErr_ops hz) _ _ (Nat.lt_succ_self _) (by omega)
  have hc := compF_tree hz
  have h200 := (fErr_ok h0).2.1
  have hsub : subT (treeAt (compF f) i) (treeAt f (f.length - 1)) := by
    have := hi
    rw [hc] at this ⊢
    exact canT_sub ht this
  have hr := subT_ok hsub ht
  have hlen : (canT (treeAt (compF f) i)).length ≤ 200 := by
    rcases canT_len ht hsub with e | e
    · rw [e, ← hc]; exact h200
    · rw [← hc] at e; omega
  have hok := canT_ok (fErr_ops h0) (fErr_fld h0) hi hlen
  rw [canon_take (fErr_ops h0) hi]
  refine ⟨hz, _, _, ht, hc, hsub, rfl, hok, ?_⟩
  have key : ∀ l : List Nd, fErr l = 0 → compF l = canonF l := fun l h => by unfold compF; rw [if_pos h]
  rw [key _ hok, canonF_canT hr]
end Go.Proofs.YtkkkomkljpolbaaDoor
/- Layer 5: Subs of the reference, lists of lists compared. -/
namespace Go.Proofs.YtkkkomkljpolbaaDoor
open Go.RowKit Go.Proofs.Ws Go.Maps
end Go.Proofs.YtkkkomkljpolbaaDoor
/- Layer 5: the masks of the reference. -/
namespace Go.Proofs.YtkkkomkljpolbaaDoor
open Go.RowKit Go.Proofs.Ws Go.Maps
theorem rFrag_any (op : Int) (hk : known op = true) (w : World) : Calls Tryd.prog 75 #[.int .i64 op] w fun e w' => e = .returned (.int .i64 (fragN op : Int)) ∧ w = w' := by
  rcases known_cases op hk with rfl | rfl | rfl | rfl | rfl | rfl | rfl | rfl | rfl | rfl | rfl | rfl | rfl | rfl | rfl | rfl | rfl | rfl | rfl | rfl | rfl
  all_goals
    go_enter Tryd.func75, Tryd.ntmps75
    go_wp2
    go_ret
    exact ⟨rfl, rfl⟩
set_option maxRecDepth 100000 in
set_option maxHeartbeats 8000000 in
theorem rFrags_any (f : List Nd) (A : Option Addr) (n c : Nat) (w : World) (hR : Reads w w.heap.size 6 A n (nds f)) (hm : n ≤ maxLen) :
    Calls Tryd.prog 25 #[.slice A n c] w fun e w' => e = .returned (.int .i64 (maskL fragD (compF f) : Int)) ∧ Below w.heap.size w w' := by
  have HC := Lib.hid (rCompact_any f A n c w hR hm)
  have HFL := Lib.hid (fun x (hx : x ∈ compF f) => compF_fld f x hx)
  have HLT : Hid (∀ x, x ∈ compF f → fragD x < 512) := Lib.hid (fun x hx => fragN_lt _)
  have hq63 : (compF f).length ≤ maxLen := Nat.le_trans (compF_le f) (by rw [hR.nd_len]; exact hm)
  unfold maxLen at hq63
  generalize compF f = q at *
  have HTK : Hid (∀ k, maskL fragD (q.take k) < 512) := Lib.hid (fun k => maskL_lt _ _ (fun x hx => HLT.out x (List.mem_of_mem_take hx)))
  clear hR
  go_enter Tryd.func25, Tryd.ntmps25
  go_wp2_with fail
  refine (HC.out).mono ?_
  rintro e w1 ⟨A3, c3, rfl, hR3, hb1⟩
  have HR3 := Lib.hid hR3
  have HB1 := Lib.hid hb1
  clear hR3 hb1
  go_wp2
  go_loopw [4, 5] (fun v i wr => ∃ k : Nat, k ≤ q.length ∧ i = .int .i64 k ∧ v = .int .i64 ((maskL fragD (q.take k) : Nat) : Int) ∧ Hid (Below w1.heap.size w1 wr)) (fun _ i _ => q.length - (intOf i).toNat)
  case atStart => exact ⟨0, Nat.zero_le _, rfl, rfl, Lib.hid (Below.refl _ _)⟩
  case round =>
    obtain ⟨k, hk, rfl, rfl, HB⟩ := hrel
    by_cases hlt : k < q.length
    · obtain ⟨ad, rfl, hb, m0, m1, m2, m3, m4, m5⟩ := (HR3.out.below HB.out).nd_at hlt
      have HT := Lib.hid (maskL_take fragD q k hlt)
      have hmem := getD_mem hlt
      obtain ⟨x, hx⟩ : ∃ x, q.getD k nd0 = x := ⟨_, rfl⟩
      rw [hx] at m0 m1 m2 m3 m4 m5 HT hmem
      have hfl := HFL.out x hmem
      have l1 := add_cell m1
      have l2 := add_cell m2
      have l3 := add_cell m3
      have l4 := add_cell m4
      have l5 := add_cell m5
      have hmk5 := HTK.out k
      have hgx := HLT.out x hmem
      have HGX := Lib.hid (fun W => rFrag_any x.op hfl.1 W)
      have hor := or_small (maskL fragD (q.take k)) (fragN x.op) hmk5 hgx
      have HT2 : Hid (maskL fragD (q.take (k + 1)) = maskL fragD (q.take k) ||| fragN x.op) := Lib.hid HT.out
      rw [← HT2.out] at hor
      clear hx hmem hfl HT HT2 hmk5 hgx
      generalize fragN x.op = z at *
      generalize maskL fragD (q.take k) = mk at *
      generalize hmk : maskL fragD (q.take (k + 1)) = mk2 at *
      have HMK := Lib.hid hmk
      clear hmk
      go_wp2_with fail
      refine (HGX.out _).mono ?_
      rintro e w3 ⟨rfl, rfl⟩
      go_wp2
      go_roundw
      case rel => exact ⟨k + 1, by omega, by go_num, by rw [HMK.out], HB⟩
      case measure => simp [intOf]; omega
    · have hkq : k = q.length := by omega
      have HE : Hid (q.take k = q) := Lib.hid (by rw [hkq, List.take_length])
      rw [HE.out]
      clear hlt
      go_wp2
      go_ret
      exact ⟨rfl, HB1.out.trans (HB.out.mono HB1.out.size)⟩
set_option maxRecDepth 100000 in
set_option maxHeartbeats 8000000 in
theorem rFacts_any (f : List Nd) (A : Option Addr) (n c : Nat) (w : World) (hR : Reads w w.heap.size 6 A n (nds f)) (hm : n ≤ maxLen) :
    Calls Tryd.prog 74 #[.slice A n c] w fun e w' => e = .returned (.int .i64 (maskL factD (compF f) : Int)) ∧ Below w.heap.size w w' := by
  have HC := Lib.hid (rCompact_any f A n c w hR hm)
  have HFL := Lib.hid (fun x (hx : x ∈ compF f) => compF_fld f x hx)
  have HLT : Hid (∀ x, x ∈ compF f → factD x < 512) := Lib.hid (fun x hx => factD_lt (compF_fld f x hx))
  have hq63 : (compF f).length ≤ maxLen := Nat.le_trans (compF_le f) (by rw [hR.nd_len]; exact hm)
  unfold maxLen at hq63
  generalize compF f = q at *
  have HTK : Hid (∀ k, maskL factD (q.take k) < 512) := Lib.hid (fun k => maskL_lt _ _ (fun x hx => HLT.out x (List.mem_of_mem_take hx)))
  clear hR
  go_enter Tryd.func74, Tryd.ntmps74
  go_wp2_with fail
  refine (HC.out).mono ?_
  rintro e w1 ⟨A3, c3, rfl, hR3, hb1⟩
  have HR3 := Lib.hid hR3
  have HB1 := Lib.hid hb1
  clear hR3 hb1
  go_wp2
  go_loopw [4, 5] (fun v i wr => ∃ k : Nat, k ≤ q.length ∧ i = .int .i64 k ∧ v = .int .i64 ((maskL factD (q.take k) : Nat) : Int) ∧ Hid (Below w1.heap.size w1 wr)) (fun _ i _ => q.length - (intOf i).toNat)
  case atStart => exact ⟨0, Nat.zero_le _, rfl, rfl, Lib.hid (Below.refl _ _)⟩
  case round =>
    obtain ⟨k, hk, rfl, rfl, HB⟩ := hrel
    by_cases hlt : k < q.length
    · obtain ⟨ad, rfl, hb, m0, m1, m2, m3, m4, m5⟩ := (HR3.out.below HB.out).nd_at hlt
      have HT := Lib.hid (maskL_take factD q k hlt)
      have hmem := getD_mem hlt
      obtain ⟨x, hx⟩ : ∃ x, q.getD k nd0 = x := ⟨_, rfl⟩
      rw [hx] at m0 m1 m2 m3 m4 m5 HT hmem
      have hfl := HFL.out x hmem
      have l1 := add_cell m1
      have l2 := add_cell m2
      have l3 := add_cell m3
      have l4 := add_cell m4
      have l5 := add_cell m5
      have hmk5 := HTK.out k
      have hgx := HLT.out x hmem
      by_cases h3 : x.op = 3
      · obtain ⟨hi0, hi8⟩ := (fld_i hfl).1 h3
        have hb3 : (x.op == 3) = true := by simpa using h3
        obtain ⟨j, hj⟩ : ∃ j : Nat, x.i = (j : Int) := ⟨x.i.toNat, by omega⟩
        have hgv : factD x = 2 ^ j := by unfold factD; rw [if_pos h3, hj, Int.toNat_natCast]
        have hjc : j = 0 ∨ j = 1 ∨ j = 2 ∨ j = 3 ∨ j = 4 ∨ j = 5 ∨ j = 6 ∨ j = 7 := by omega
        rw [hj] at m1 l1
        rw [hgv] at HT hgx
        clear hx hmem hfl hgv hi0 hi8 hj
        rcases hjc with rfl | rfl | rfl | rfl | rfl | rfl | rfl | rfl
        all_goals
          have hor := or_small (maskL factD (q.take k)) _ hmk5 hgx
          rw [← HT.out] at hor
          generalize maskL factD (q.take k) = mk at *
          generalize hmk : maskL factD (q.take (k + 1)) = mk2 at *
          have HMK := Lib.hid hmk
          clear hmk HT hmk5 hgx
          try rw [show ((2 ^ 0 : Nat) : Int) = 1 from rfl] at hor
          try rw [show ((2 ^ 1 : Nat) : Int) = 2 from rfl] at hor
          try rw [show ((2 ^ 2 : Nat) : Int) = 4 from rfl] at hor
          try rw [show ((2 ^ 3 : Nat) : Int) = 8 from rfl] at hor
          try rw [show ((2 ^ 4 : Nat) : Int) = 16 from rfl] at hor
          try rw [show ((2 ^ 5 : Nat) : Int) = 32 from rfl] at hor
          try rw [show ((2 ^ 6 : Nat) : Int) = 64 from rfl] at hor
          try rw [show ((2 ^ 7 : Nat) : Int) = 128 from rfl] at hor
          go_wp2
          go_roundw
          case rel => exact ⟨k + 1, by omega, by go_num, by rw [HMK.out], HB⟩
          case measure => simp [intOf]; omega
      · have hb3 : (x.op == 3) = false := by simpa using h3
        have hgv : factD x = 0 := by unfold factD; rw [if_neg h3]
        have HMK : Hid (maskL factD (q.take (k + 1)) = maskL factD (q.take k)) := Lib.hid (by rw [HT.out, hgv, Nat.or_zero])
        clear hx hmem hfl hgv hgx HT hmk5
        generalize maskL factD (q.take k) = mk at *
        go_wp2
        go_roundw
        case rel => exact ⟨k + 1, by omega, by go_num, by rw [HMK.out], HB⟩
        case measure => simp [intOf]; omega
    · have hkq : k = q.length := by omega
      have HE : Hid (q.take k = q) := Lib.hid (by rw [hkq, List.take_length])
      rw [HE.out]
      clear hlt
      go_wp2
      go_ret
      exact ⟨rfl, HB1.out.trans (HB.out.mono HB1.out.size)⟩
set_option maxRecDepth 100000 in
set_option maxHeartbeats 8000000 in
theorem rAgents_any (f : List Nd) (A : Option Addr) (n c : Nat) (w : World) (hR : Reads w w.heap.size 6 A n (nds f)) (hm : n ≤ maxLen) :
    Calls Tryd.prog 73 #[.slice A n c] w fun e w' => e = .returned (.int .i64 (maskL agentD (compF f) : Int)) ∧ Below w.heap.size w w' := by
  have HC := Lib.hid (rCompact_any f A n c w hR hm)
  have HFL := Lib.hid (fun x (hx : x ∈ compF f) => compF_fld f x hx)
  have HLT : Hid (∀ x, x ∈ compF f → agentD x < 512) := Lib.hid (fun x hx => agentD_lt (compF_fld f x hx))
  have hq63 : (compF f).length ≤ maxLen := Nat.le_trans (compF_le f) (by rw [hR.nd_len]; exact hm)
  unfold maxLen at hq63
  generalize compF f = q at *
  have HTK : Hid (∀ k, maskL agentD (q.take k) < 512) := Lib.hid (fun k => maskL_lt _ _ (fun x hx => HLT.out x (List.mem_of_mem_take hx)))
  clear hR
  go_enter Tryd.func73, Tryd.ntmps73
  go_wp2_with fail
  refine (HC.out).mono ?_
  rintro e w1 ⟨A3, c3, rfl, hR3, hb1⟩
  have HR3 := Lib.hid hR3
  have HB1 := Lib.hid hb1
  clear hR3 hb1
  go_wp2
  go_loopw [4, 5] (fun v i wr => ∃ k : Nat, k ≤ q.length ∧ i = .int .i64 k ∧ v = .int .i64 ((maskL agentD (q.take k) : Nat) : Int) ∧ Hid (Below w1.heap.size w1 wr)) (fun _ i _ => q.length - (intOf i).toNat)
  case atStart => exact ⟨0, Nat.zero_le _, rfl, rfl, Lib.hid (Below.refl _ _)⟩
  case round =>
    obtain ⟨k, hk, rfl, rfl, HB⟩ := hrel
    by_cases hlt : k < q.length
    · obtain ⟨ad, rfl, hb, m0, m1, m2, m3, m4, m5⟩ := (HR3.out.below HB.out).nd_at hlt
      have HT := Lib.hid (maskL_take agentD q k hlt)
      have hmem := getD_mem hlt
      obtain ⟨x, hx⟩ : ∃ x, q.getD k nd0 = x := ⟨_, rfl⟩
      rw [hx] at m0 m1 m2 m3 m4 m5 HT hmem
      have hfl := HFL.out x hmem
      have l1 := add_cell m1
      have l2 := add_cell m2
      have l3 := add_cell m3
      have l4 := add_cell m4
      have l5 := add_cell m5
      have hmk5 := HTK.out k
      have hgx := HLT.out x hmem
      have HAG := Lib.hid (fun W => ragent_any x.op hfl.1 W)
      cases ha : hasAgent x.op with
      | true =>
        rw [ha] at HAG
        obtain ⟨hi0, hi4⟩ := (fld_i hfl).2.1 ha
        have hg0 : x.g = 0 := (fld_i hfl).2.2.2 (by
          unfold hasAgent at ha
          unfold hasGroup
          simp only [Bool.or_eq_true, decide_eq_true_eq] at ha
          simp only [Bool.and_eq_false_iff, decide_eq_false_iff_not]
          omega)
        obtain ⟨j, hj⟩ : ∃ j : Nat, x.i = (j : Int) := ⟨x.i.toNat, by omega⟩
        have hgv : agentD x = 2 ^ j := by unfold agentD; rw [if_pos ha, hj, Int.toNat_natCast]
        have hjc : j = 0 ∨ j = 1 ∨ j = 2 ∨ j = 3 := by omega
        rw [hj] at m1 l1
        rw [hg0] at m3 l3
        rw [hgv] at HT hgx
        clear hx hmem hfl hgv hi0 hi4 hj ha hg0
        rcases hjc with rfl | rfl | rfl | rfl
        all_goals
          have hor := or_small (maskL agentD (q.take k)) _ hmk5 hgx
          rw [← HT.out] at hor
          have hor2 : bits .or .i64 ((maskL agentD (q.take (k + 1)) : Nat) : Int) 0 = ((maskL agentD (q.take (k + 1)) : Nat) : Int) := by
            have h9 := or_small (maskL agentD (q.take (k + 1))) 0 (HTK.out _) (by decide)
            rw [Nat.or_zero] at h9
            exact h9
          generalize maskL agentD (q.take k) = mk at *
          generalize hmk : maskL agentD (q.take (k + 1)) = mk2 at *
          have HMK := Lib.hid hmk
          clear hmk HT hmk5 hgx
          try rw [show ((2 ^ 0 : Nat) : Int) = 1 from rfl] at hor
          try rw [show ((2 ^ 1 : Nat) : Int) = 2 from rfl] at hor
          try rw [show ((2 ^ 2 : Nat) : Int) = 4 from rfl] at hor
          try rw [show ((2 ^ 3 : Nat) : Int) = 8 from rfl] at hor
          try rw [show ((2 ^ 4 : Nat) : Int) = 16 from rfl] at hor
          try rw [show ((2 ^ 5 : Nat) : Int) = 32 from rfl] at hor
          try rw [show ((2 ^ 6 : Nat) : Int) = 64 from rfl] at hor
          try rw [show ((2 ^ 7 : Nat) : Int) = 128 from rfl] at hor
          go_wp2_with fail
          refine (HAG.out _).mono ?_
          rintro e w3 ⟨rfl, rfl⟩
          go_wp2
          go_roundw
          case rel => exact ⟨k + 1, by omega, by go_num, by rw [HMK.out], HB⟩
          case measure => simp [intOf]; omega
      | false =>
        rw [ha] at HAG
        obtain ⟨_, _, h3, h4⟩ := fld_i hfl
        obtain ⟨j, hj⟩ : ∃ j : Nat, x.g = (j : Int) := ⟨x.g.toNat, by
          cases hgr : hasGroup x.op
          · have := h4 hgr; omega
          · have := h3 hgr; omega⟩
        have hgv : agentD x = j := by unfold agentD; rw [if_neg (by rw [ha]; decide), hj, Int.toNat_natCast]
        rw [hj] at m3 l3
        rw [hgv] at HT hgx
        have hor := or_small (maskL agentD (q.take k)) _ hmk5 hgx
        rw [← HT.out] at hor
        clear hx hmem hfl hgv hj ha h3 h4
        generalize maskL agentD (q.take k) = mk at *
        generalize hmk : maskL agentD (q.take (k + 1)) = mk2 at *
        have HMK := Lib.hid hmk
        clear hmk HT hmk5 hgx
        go_wp2_with fail
        refine (HAG.out _).mono ?_
        rintro e w3 ⟨rfl, rfl⟩
        go_wp2
        go_roundw
        case rel => exact ⟨k + 1, by omega, by go_num, by rw [HMK.out], HB⟩
        case measure => simp [intOf]; omega
    · have hkq : k = q.length := by omega
      have HE : Hid (q.take k = q) := Lib.hid (by rw [hkq, List.take_length])
      rw [HE.out]
      clear hlt
      go_wp2
      go_ret
      exact ⟨rfl, HB1.out.trans (HB.out.mono HB1.out.size)⟩
end Go.Proofs.YtkkkomkljpolbaaDoor
/- Layer 5: Fits of the program. -/
namespace Go.Proofs
open Go.Shelf Go.RowKit
shelf_lay Lays.n129 Nm 129 at Tryd as Tryd.lays129
end Go.Proofs
namespace Go.Proofs.Ws
open Go
def belowM (m : Nat) (l : Int) : Bool := decide (m = 0) || decide (((Lib.bitLen m : Nat) : Int) ≤ l)
def fitsF (f : List Nd) (a b : Int) : Bool := decide (fErr f = 0) && (belowM (maskL agentD (compF f)) a && belowM (maskL factD (compF f)) b)
end Go.Proofs.Ws
namespace Go.Proofs.YtkkkomkljpolbaaDoor
open Go.RowKit Go.Proofs.Ws Go.Maps
end Go.Proofs.YtkkkomkljpolbaaDoor
/- Layer 5: Fits of the reference. -/
namespace Go.Proofs.Ws
open Go
def bitsOk (m : Nat) (l : Int) (k : Nat) : Bool := (List.range k).all (fun i => !decide (m / 2 ^ i % 2 = 1) || decide ((i : Int) < l))
theorem bitsOk_iff (m : Nat) (l : Int) (k : Nat) : bitsOk m l k = true ↔ ∀ i, i < k → m / 2 ^ i % 2 = 1 → (i : Int) < l := by
  unfold bitsOk
  rw [List.all_eq_true]
  constructor
  · intro h i hi hb
    have := h i (List.mem_range.2 hi)
    simp [hb] at this
    exact this
  · intro h i hi
    have := h i (List.mem_range.1 hi)
    by_cases hb : m / 2 ^ i % 2 = 1
    · simp [hb, this hb]
    · simp [hb]
theorem bits_top : ∀ n : Fin 256, n.val ≠ 0 → 0 < Lib.bitLen n.val ∧ n.val / 2 ^ (Lib.bitLen n.val - 1) % 2 = 1 ∧ 2 ^ (Lib.bitLen n.val - 1) ≤ n.val ∧ ∀ i : Fin 8, n.val / 2 ^ i.val % 2 = 1 → i.val < Lib.bitLen n.val := by decide +kernel
theorem belowM_bits (m K : Nat) (l : Int) (hK : K ≤ 8) (hm : m < 2 ^ K) : belowM m l = bitsOk m l K := by
  have h256 : m < 256 := Nat.lt_of_lt_of_le hm (Nat.pow_le_pow_right (n := 2) (by decide) hK)
  rw [Bool.eq_iff_iff, bitsOk_iff]
  unfold belowM
  rw [Bool.or_eq_true, decide_eq_true_eq, decide_eq_true_eq]
  by_cases h0 : m = 0
  · subst h0
    simp
  · obtain ⟨h1, h2, h3, h4⟩ := bits_top ⟨m, h256⟩ h0
    dsimp only at h1 h2 h3 h4
    constructor
    · rintro (h | h) i hi hb
      · exact absurd h h0
      · have := h4 ⟨i, by omega⟩ hb
        dsimp only at this
        omega
    · intro h
      refine .inr ?_
      have hlt : Lib.bitLen m - 1 < K := by
        refine Nat.lt_of_not_le (fun hle => ?_)
        have := Nat.pow_le_pow_right (n := 2) (by decide) hle
        omega
      have := h _ hlt h2
      omega
theorem bitsOk_succ {m : Nat} {l : Int} {k : Nat} (h : bitsOk m l k = true) (hk : m / 2 ^ k % 2 = 1 → (k : Int) < l) : bitsOk m l (k + 1) = true := by
  rw [bitsOk_iff] at h ⊢
  intro i hi hb
  by_cases e : i = k
  · subst e; exact hk hb
  · exact h i (by omega) hb
theorem bitsOk_bad {m : Nat} {l : Int} {k K : Nat} (hk : k < K) (h1 : m / 2 ^ k % 2 = 1) (h2 : ¬ (k : Int) < l) : bitsOk m l K = false := by
  rw [← Bool.not_eq_true, bitsOk_iff]
  exact fun h => h2 (h k hk h1)
theorem maskL_le (g : Nd → Nat) (e : Nat) (l : List Nd) (h : ∀ n ∈ l, g n < 2 ^ e) : maskL g l < 2 ^ e := by
  have : ∀ (l : List Nd) (a : Nat), a < 2 ^ e → (∀ n ∈ l, g n < 2 ^ e) → l.foldl (fun m n => m ||| g n) a < 2 ^ e := by
    intro l
    induction l with
    | nil => intro a h _; exact h
    | cons n l ih =>
      intro a h hl
      exact ih _ (Nat.or_lt_two_pow h (hl n (by simp))) (fun m hm => hl m (by simp [hm]))
  exact this l 0 (Nat.two_pow_pos e) h
end Go.Proofs.Ws
namespace Go.Proofs.YtkkkomkljpolbaaDoor
open Go.RowKit Go.Proofs.Ws Go.Maps
theorem agentM_16 (f : List Nd) : maskL agentD (compF f) < 2 ^ 4 := maskL_le _ 4 _ (fun n hn => by
  obtain ⟨_, h2, h3, h4⟩ := fld_i (compF_fld f n hn)
  unfold agentD
  split
  · rename_i ha
    have := h2 ha
    exact Nat.pow_lt_pow_right (by decide) (show n.i.toNat < 4 by omega)
  · cases hg : hasGroup n.op
    · have := h4 hg; omega
    · have := h3 hg; omega)
theorem factM_256 (f : List Nd) : maskL factD (compF f) < 2 ^ 8 := maskL_le _ 8 _ (fun n hn => by
  unfold factD
  split
  · rename_i h3
    have := (fld_i (compF_fld f n hn)).1 h3
    exact Nat.pow_lt_pow_right (by decide) (show n.i.toNat < 8 by omega)
  · decide)
set_option maxRecDepth 100000 in
set_option maxHeartbeats 4000000 in
theorem rFits_any (f : List Nd) (a b : Int) (A : Option Addr) (n c : Nat) (w : World) (hR : Reads w w.heap.size 6 A n (nds f)) (hm : n ≤ maxLen) :
    Calls Tryd.prog 24 #[.slice A n c, .int .i64 a, .int .i64 b] w fun e w' => e = .returned (.bool (fitsF f a b)) ∧ Below w.heap.size w w' := by
  have HV := Lib.hid (rCheck_any f A n c w hR hm)
  have HA : Hid (∀ W, Below w.heap.size w W → Calls Tryd.prog 73 #[.slice A n c] W fun e w' => e = .returned (.int .i64 (maskL agentD (compF f) : Int)) ∧ Below W.heap.size W w') := Lib.hid (fun W h => rAgents_any f A n c W ((hR.below h).more h.size) hm)
  have HF : Hid (∀ W, Below w.heap.size w W → Calls Tryd.prog 74 #[.slice A n c] W fun e w' => e = .returned (.int .i64 (maskL factD (compF f) : Int)) ∧ Below W.heap.size W w') := Lib.hid (fun W h => rFacts_any f A n c W ((hR.below h).more h.size) hm)
  have HE : Hid (fitsF f a b = (decide (fErr f = 0) && (bitsOk (maskL agentD (compF f)) a 4 && bitsOk (maskL factD (compF f)) b 8))) := Lib.hid (by
    unfold fitsF
    rw [belowM_bits _ 4 a (by decide) (agentM_16 f), belowM_bits _ 8 b (by decide) (factM_256 f)])
  have hla : maskL agentD (compF f) < 16 := agentM_16 f
  have hlf : maskL factD (compF f) < 256 := factM_256 f
  generalize fitsF f a b = r at *
  generalize maskL agentD (compF f) = ma at *
  generalize maskL factD (compF f) = mf at *
  clear hR
  by_cases hz : fErr f = 0
  · rw [hz] at HV
    have HE1 : Hid (r = (bitsOk ma a 4 && bitsOk mf b 8)) := Lib.hid (by rw [HE.out, hz]; rfl)
    clear HE hz
    go_enter Tryd.func24, Tryd.ntmps24
    go_wp2_with fail
    refine (HV.out).mono ?_
    rintro e w1 ⟨rfl, hb1⟩
    have HB1 := Lib.hid hb1
    clear hb1
    go_wp2
    go_loopw [7] (fun i wr => ∃ k : Nat, k ≤ 4 ∧ i = .int .i64 k ∧ Hid (bitsOk ma a k = true) ∧ Hid (Below w.heap.size w wr)) (fun i _ => 4 - (intOf i).toNat)
    case atStart => exact ⟨0, Nat.zero_le _, rfl, Lib.hid rfl, HB1⟩
    case round =>
      obtain ⟨k, hk, rfl, HK, HB⟩ := hrel
      by_cases hlt : k < 4
      · have HAw := Lib.hid (HA.out _ HB.out)
        have hkc : k = 0 ∨ k = 1 ∨ k = 2 ∨ k = 3 := by omega
        rcases hkc with rfl | rfl | rfl | rfl
        · by_cases hbit : ma % 2 = 1
          · have hbw : ma / 2 ^ 0 % 2 = 1 := by simpa using hbit
            by_cases hka : (0 : Int) < a
            · have HK2 := Lib.hid (bitsOk_succ HK.out (fun _ => hka))
              have dk : decide (a ≤ (0 : Int)) = false := decide_eq_false (by omega)
              clear hka hbw
              go_wp2_with fail
              refine (HAw.out).mono ?_
              rintro e w2 ⟨rfl, hb2⟩
              have HB2 := Lib.hid (HB.out.trans (hb2.mono HB.out.size))
              clear hb2
              go_wp2
              go_roundw
              case rel => exact ⟨1, by omega, by go_num, HK2, HB2⟩
              case measure => simp [intOf]
            · have HBD : Hid (r = false) := Lib.hid (by rw [HE1.out, bitsOk_bad (k := 0) (by decide) hbw hka]; rfl)
              have dk : decide (a ≤ (0 : Int)) = true := decide_eq_true (by omega)
              clear hka hbw
              go_wp2_with fail
              refine (HAw.out).mono ?_
              rintro e w2 ⟨rfl, hb2⟩
              have HB2 := Lib.hid (HB.out.trans (hb2.mono HB.out.size))
              clear hb2
              go_wp2
              go_ret
              exact ⟨ret_bool HBD.out.symm, HB2.out⟩
          · have hbw : ¬ ma / 2 ^ 0 % 2 = 1 := by simpa using hbit
            have HK2 := Lib.hid (bitsOk_succ HK.out (fun h => absurd h hbw))
            clear hbw
            go_wp2_with fail
            refine (HAw.out).mono ?_
            rintro e w2 ⟨rfl, hb2⟩
            have HB2 := Lib.hid (HB.out.trans (hb2.mono HB.out.size))
            clear hb2
            go_wp2
            go_roundw
            case rel => exact ⟨1, by omega, by go_num, HK2, HB2⟩
            case measure => simp [intOf]
        · by_cases hbit : ma / 2 % 2 = 1
          · have hbw : ma / 2 ^ 1 % 2 = 1 := by exact hbit
            by_cases hka : (1 : Int) < a
            · have HK2 := Lib.hid (bitsOk_succ HK.out (fun _ => hka))
              have dk : decide (a ≤ (1 : Int)) = false := decide_eq_false (by omega)
              clear hka hbw
              go_wp2_with fail
              refine (HAw.out).mono ?_
              rintro e w2 ⟨rfl, hb2⟩
              have HB2 := Lib.hid (HB.out.trans (hb2.mono HB.out.size))
              clear hb2
              go_wp2
              go_roundw
              case rel => exact ⟨2, by omega, by go_num, HK2, HB2⟩
              case measure => simp [intOf]
            · have HBD : Hid (r = false) := Lib.hid (by rw [HE1.out, bitsOk_bad (k := 1) (by decide) hbw hka]; rfl)
              have dk : decide (a ≤ (1 : Int)) = true := decide_eq_true (by omega)
              clear hka hbw
              go_wp2_with fail
              refine (HAw.out).mono ?_
              rintro e w2 ⟨rfl, hb2⟩
              have HB2 := Lib.hid (HB.out.trans (hb2.mono HB.out.size))
              clear hb2
              go_wp2
              go_ret
              exact ⟨ret_bool HBD.out.symm, HB2.out⟩
          · have hbw : ¬ ma / 2 ^ 1 % 2 = 1 := by exact hbit
            have HK2 := Lib.hid (bitsOk_succ HK.out (fun h => absurd h hbw))
            clear hbw
            go_wp2_with fail
            refine (HAw.out).mono ?_
            rintro e w2 ⟨rfl, hb2⟩
            have HB2 := Lib.hid (HB.out.trans (hb2.mono HB.out.size))
            clear hb2
            go_wp2
            go_roundw
            case rel => exact ⟨2, by omega, by go_num, HK2, HB2⟩
            case measure => simp [intOf]
        · by_cases hbit : ma / 4 % 2 = 1
          · have hbw : ma / 2 ^ 2 % 2 = 1 := by exact hbit
            by_cases hka : (2 : Int) < a
            · have HK2 := Lib.hid (bitsOk_succ HK.out (fun _ => hka))
              have dk : decide (a ≤ (2 : Int)) = false := decide_eq_false (by omega)
              clear hka hbw
              go_wp2_with fail
              refine (HAw.out).mono ?_
              rintro e w2 ⟨rfl, hb2⟩
              have HB2 := Lib.hid (HB.out.trans (hb2.mono HB.out.size))
              clear hb2
              go_wp2
              go_roundw
              case rel => exact ⟨3, by omega, by go_num, HK2, HB2⟩
              case measure => simp [intOf]
            · have HBD : Hid (r = false) := Lib.hid (by rw [HE1.out, bitsOk_bad (k := 2) (by decide) hbw hka]; rfl)
              have dk : decide (a ≤ (2 : Int)) = true := decide_eq_true (by omega)
              clear hka hbw
              go_wp2_with fail
              refine (HAw.out).mono ?_
              rintro e w2 ⟨rfl, hb2⟩
              have HB2 := Lib.hid (HB.out.trans (hb2.mono HB.out.size))
              clear hb2
              go_wp2
              go_ret
              exact ⟨ret_bool HBD.out.symm, HB2.out⟩
          · have hbw : ¬ ma / 2 ^ 2 % 2 = 1 := by exact hbit
            have HK2 := Lib.hid (bitsOk_succ HK.out (fun h => absurd h hbw))
            clear hbw
            go_wp2_with fail
            refine (HAw.out).mono ?_
            rintro e w2 ⟨rfl, hb2⟩
            have HB2 := Lib.hid (HB.out.trans (hb2.mono HB.out.size))
            clear hb2
            go_wp2
            go_roundw
            case rel => exact ⟨3, by omega, by go_num, HK2, HB2⟩
            case measure => simp [intOf]
        · by_cases hbit : ma / 8 % 2 = 1
          · have hbw : ma / 2 ^ 3 % 2 = 1 := by exact hbit
            by_cases hka : (3 : Int) < a
            · have HK2 := Lib.hid (bitsOk_succ HK.out (fun _ => hka))
              have dk : decide (a ≤ (3 : Int)) = false := decide_eq_false (by omega)
              clear hka hbw
              go_wp2_with fail
              refine (HAw.out).mono ?_
              rintro e w2 ⟨rfl, hb2⟩
              have HB2 := Lib.hid (HB.out.trans (hb2.mono HB.out.size))
              clear hb2
              go_wp2
              go_roundw
              case rel => exact ⟨4, by omega, by go_num, HK2, HB2⟩
              case measure => simp [intOf]
            · have HBD : Hid (r = false) := Lib.hid (by rw [HE1.out, bitsOk_bad (k := 3) (by decide) hbw hka]; rfl)
              have dk : decide (a ≤ (3 : Int)) = true := decide_eq_true (by omega)
              clear hka hbw
              go_wp2_with fail
              refine (HAw.out).mono ?_
              rintro e w2 ⟨rfl, hb2⟩
              have HB2 := Lib.hid (HB.out.trans (hb2.mono HB.out.size))
              clear hb2
              go_wp2
              go_ret
              exact ⟨ret_bool HBD.out.symm, HB2.out⟩
          · have hbw : ¬ ma / 2 ^ 3 % 2 = 1 := by exact hbit
            have HK2 := Lib.hid (bitsOk_succ HK.out (fun h => absurd h hbw))
            clear hbw
            go_wp2_with fail
            refine (HAw.out).mono ?_
            rintro e w2 ⟨rfl, hb2⟩
            have HB2 := Lib.hid (HB.out.trans (hb2.mono HB.out.size))
            clear hb2
            go_wp2
            go_roundw
            case rel => exact ⟨4, by omega, by go_num, HK2, HB2⟩
            case measure => simp [intOf]
      · have hk4 : k = 4 := by omega
        have HKA := Lib.hid HK.out
        rw [hk4] at HKA
        have HE2 : Hid (r = bitsOk mf b 8) := Lib.hid (by rw [HE1.out, HKA.out]; rfl)
        have HB4 := Lib.hid HB.out
        clear HB HK hk4 HKA HE1
        go_wp2
        clear hlt hk
        go_loopw [8] (fun i wr => ∃ k : Nat, k ≤ 8 ∧ i = .int .i64 k ∧ Hid (bitsOk mf b k = true) ∧ Hid (Below w.heap.size w wr)) (fun i _ => 8 - (intOf i).toNat)
        case atStart => exact ⟨0, Nat.zero_le _, rfl, Lib.hid rfl, HB4⟩
        case round =>
          obtain ⟨k, hk, rfl, HK, HB⟩ := hrel
          by_cases hlt : k < 8
          · have HAw := Lib.hid (HF.out _ HB.out)
            have hkc : k = 0 ∨ k = 1 ∨ k = 2 ∨ k = 3 ∨ k = 4 ∨ k = 5 ∨ k = 6 ∨ k = 7 := by omega
            rcases hkc with rfl | rfl | rfl | rfl | rfl | rfl | rfl | rfl
            · by_cases hbit : mf % 2 = 1
              · have hbw : mf / 2 ^ 0 % 2 = 1 := by simpa using hbit
                by_cases hka : (0 : Int) < b
                · have HK2 := Lib.hid (bitsOk_succ HK.out (fun _ => hka))
                  have dk : decide (b ≤ (0 : Int)) = false := decide_eq_false (by omega)
                  clear hka hbw
                  go_wp2_with fail
                  refine (HAw.out).mono ?_
                  rintro e w2 ⟨rfl, hb2⟩
                  have HB2 := Lib.hid (HB.out.trans (hb2.mono HB.out.size))
                  clear hb2
                  go_wp2
                  go_roundw
                  case rel => exact ⟨1, by omega, by go_num, HK2, HB2⟩
                  case measure => simp [intOf]
                · have HBD : Hid (r = false) := Lib.hid (by rw [HE2.out, bitsOk_bad (k := 0) (by decide) hbw hka])
                  have dk : decide (b ≤ (0 : Int)) = true := decide_eq_true (by omega)
                  clear hka hbw
                  go_wp2_with fail
                  refine (HAw.out).mono ?_
                  rintro e w2 ⟨rfl, hb2⟩
                  have HB2 := Lib.hid (HB.out.trans (hb2.mono HB.out.size))
                  clear hb2
                  go_wp2
                  go_ret
                  exact ⟨ret_bool HBD.out.symm, HB2.out⟩
              · have hbw : ¬ mf / 2 ^ 0 % 2 = 1 := by simpa using hbit
                have HK2 := Lib.hid (bitsOk_succ HK.out (fun h => absurd h hbw))
                clear hbw
                go_wp2_with fail
                refine (HAw.out).mono ?_
                rintro e w2 ⟨rfl, hb2⟩
                have HB2 := Lib.hid (HB.out.trans (hb2.mono HB.out.size))
                clear hb2
                go_wp2
                go_roundw
                case rel => exact ⟨1, by omega, by go_num, HK2, HB2⟩
                case measure => simp [intOf]
            · by_cases hbit : mf / 2 % 2 = 1
              · have hbw : mf / 2 ^ 1 % 2 = 1 := by exact hbit
                by_cases hka : (1 : Int) < b
                · have HK2 := Lib.hid (bitsOk_succ HK.out (fun _ => hka))
                  have dk : decide (b ≤ (1 : Int)) = false := decide_eq_false (by omega)
                  clear hka hbw
                  go_wp2_with fail
                  refine (HAw.out).mono ?_
                  rintro e w2 ⟨rfl, hb2⟩
                  have HB2 := Lib.hid (HB.out.trans (hb2.mono HB.out.size))
                  clear hb2
                  go_wp2
                  go_roundw
                  case rel => exact ⟨2, by omega, by go_num, HK2, HB2⟩
                  case measure => simp [intOf]
                · have HBD : Hid (r = false) := Lib.hid (by rw [HE2.out, bitsOk_bad (k := 1) (by decide) hbw hka])
                  have dk : decide (b ≤ (1 : Int)) = true := decide_eq_true (by omega)
                  clear hka hbw
                  go_wp2_with fail
                  refine (HAw.out).mono ?_
                  rintro e w2 ⟨rfl, hb2⟩
                  have HB2 := Lib.hid (HB.out.trans (hb2.mono HB.out.size))
                  clear hb2
                  go_wp2
                  go_ret
                  exact ⟨ret_bool HBD.out.symm, HB2.out⟩
              · have hbw : ¬ mf / 2 ^ 1 % 2 = 1 := by exact hbit
                have HK2 := Lib.hid (bitsOk_succ HK.out (fun h => absurd h hbw))
                clear hbw
                go_wp2_with fail
                refine (HAw.out).mono ?_
                rintro e w2 ⟨rfl, hb2⟩
                have HB2 := Lib.hid (HB.out.trans (hb2.mono HB.out.size))
                clear hb2
                go_wp2
                go_roundw
                case rel => exact ⟨2, by omega, by go_num, HK2, HB2⟩
                case measure => simp [intOf]
            · by_cases hbit : mf / 4 % 2 = 1
              · have hbw : mf / 2 ^ 2 % 2 = 1 := by exact hbit
                by_cases hka : (2 : Int) < b
                · have HK2 := Lib.hid (bitsOk_succ HK.out (fun _ => hka))
                  have dk : decide (b ≤ (2 : Int)) = false := decide_eq_false (by omega)
                  clear hka hbw
                  go_wp2_with fail
                  refine (HAw.out).mono ?_
                  rintro e w2 ⟨rfl, hb2⟩
                  have HB2 := Lib.hid (HB.out.trans (hb2.mono HB.out.size))
                  clear hb2
                  go_wp2
                  go_roundw
                  case rel => exact ⟨3, by omega, by go_num, HK2, HB2⟩
                  case measure => simp [intOf]
                · have HBD : Hid (r = false) := Lib.hid (by rw [HE2.out, bitsOk_bad (k := 2) (by decide) hbw hka])
                  have dk : decide (b ≤ (2 : Int)) = true := decide_eq_true (by omega)
                  clear hka hbw
                  go_wp2_with fail
                  refine (HAw.out).mono ?_
                  rintro e w2 ⟨rfl, hb2⟩
                  have HB2 := Lib.hid (HB.out.trans (hb2.mono HB.out.size))
                  clear hb2
                  go_wp2
                  go_ret
                  exact ⟨ret_bool HBD.out.symm, HB2.out⟩
              · have hbw : ¬ mf / 2 ^ 2 % 2 = 1 := by exact hbit
                have HK2 := Lib.hid (bitsOk_succ HK.out (fun h => absurd h hbw))
                clear hbw
                go_wp2_with fail
                refine (HAw.out).mono ?_
                rintro e w2 ⟨rfl, hb2⟩
                have HB2 := Lib.hid (HB.out.trans (hb2.mono HB.out.size))
                clear hb2
                go_wp2
                go_roundw
                case rel => exact ⟨3, by omega, by go_num, HK2, HB2⟩
                case measure => simp [intOf]
            · by_cases hbit : mf / 8 % 2 = 1
              · have hbw : mf / 2 ^ 3 % 2 = 1 := by exact hbit
                by_cases hka : (3 : Int) < b
                · have HK2 := Lib.hid (bitsOk_succ HK.out (fun _ => hka))
                  have dk : decide (b ≤ (3 : Int)) = false := decide_eq_false (by omega)
                  clear hka hbw
                  go_wp2_with fail
                  refine (HAw.out).mono ?_
                  rintro e w2 ⟨rfl, hb2⟩
                  have HB2 := Lib.hid (HB.out.trans (hb2.mono HB.out.size))
                  clear hb2
                  go_wp2
                  go_roundw
                  case rel => exact ⟨4, by omega, by go_num, HK2, HB2⟩
                  case measure => simp [intOf]
                · have HBD : Hid (r = false) := Lib.hid (by rw [HE2.out, bitsOk_bad (k := 3) (by decide) hbw hka])
                  have dk : decide (b ≤ (3 : Int)) = true := decide_eq_true (by omega)
                  clear hka hbw
                  go_wp2_with fail
                  refine (HAw.out).mono ?_
                  rintro e w2 ⟨rfl, hb2⟩
                  have HB2 := Lib.hid (HB.out.trans (hb2.mono HB.out.size))
                  clear hb2
                  go_wp2
                  go_ret
                  exact ⟨ret_bool HBD.out.symm, HB2.out⟩
              · have hbw : ¬ mf / 2 ^ 3 % 2 = 1 := by exact hbit
                have HK2 := Lib.hid (bitsOk_succ HK.out (fun h => absurd h hbw))
                clear hbw
                go_wp2_with fail
                refine (HAw.out).mono ?_
                rintro e w2 ⟨rfl, hb2⟩
                have HB2 := Lib.hid (HB.out.trans (hb2.mono HB.out.size))
                clear hb2
                go_wp2
                go_roundw
                case rel => exact ⟨4, by omega, by go_num, HK2, HB2⟩
                case measure => simp [intOf]
            · by_cases hbit : mf / 16 % 2 = 1
              · have hbw : mf / 2 ^ 4 % 2 = 1 := by exact hbit
                by_cases hka : (4 : Int) < b
                · have HK2 := Lib.hid (bitsOk_succ HK.out (fun _ => hka))
                  have dk : decide (b ≤ (4 : Int)) = false := decide_eq_false (by omega)
                  clear hka hbw
                  go_wp2_with fail
                  refine (HAw.out).mono ?_
                  rintro e w2 ⟨rfl, hb2⟩
                  have HB2 := Lib.hid (HB.out.trans (hb2.mono HB.out.size))
                  clear hb2
                  go_wp2
                  go_roundw
                  case rel => exact ⟨5, by omega, by go_num, HK2, HB2⟩
                  case measure => simp [intOf]
                · have HBD : Hid (r = false) := Lib.hid (by rw [HE2.out, bitsOk_bad (k := 4) (by decide) hbw hka])
                  have dk : decide (b ≤ (4 : Int)) = true := decide_eq_true (by omega)
                  clear hka hbw
                  go_wp2_with fail
                  refine (HAw.out).mono ?_
                  rintro e w2 ⟨rfl, hb2⟩
                  have HB2 := Lib.hid (HB.out.trans (hb2.mono HB.out.size))
                  clear hb2
                  go_wp2
                  go_ret
                  exact ⟨ret_bool HBD.out.symm, HB2.out⟩
              · have hbw : ¬ mf / 2 ^ 4 % 2 = 1 := by exact hbit
                have HK2 := Lib.hid (bitsOk_succ HK.out (fun h => absurd h hbw))
                clear hbw
                go_wp2_with fail
                refine (HAw.out).mono ?_
                rintro e w2 ⟨rfl, hb2⟩
                have HB2 := Lib.hid (HB.out.trans (hb2.mono HB.out.size))
                clear hb2
                go_wp2
                go_roundw
                case rel => exact ⟨5, by omega, by go_num, HK2, HB2⟩
                case measure => simp [intOf]
            · by_cases hbit : mf / 32 % 2 = 1
              · have hbw : mf / 2 ^ 5 % 2 = 1 := by exact hbit
                by_cases hka : (5 : Int) < b
                · have HK2 := Lib.hid (bitsOk_succ HK.out (fun _ => hka))
                  have dk : decide (b ≤ (5 : Int)) = false := decide_eq_false (by omega)
                  clear hka hbw
                  go_wp2_with fail
                  refine (HAw.out).mono ?_
                  rintro e w2 ⟨rfl, hb2⟩
                  have HB2 := Lib.hid (HB.out.trans (hb2.mono HB.out.size))
                  clear hb2
                  go_wp2
                  go_roundw
                  case rel => exact ⟨6, by omega, by go_num, HK2, HB2⟩
                  case measure => simp [intOf]
                · have HBD : Hid (r = false) := Lib.hid (by rw [HE2.out, bitsOk_bad (k := 5) (by decide) hbw hka])
                  have dk : decide (b ≤ (5 : Int)) = true := decide_eq_true (by omega)
                  clear hka hbw
                  go_wp2_with fail
                  refine (HAw.out).mono ?_
                  rintro e w2 ⟨rfl, hb2⟩
                  have HB2 := Lib.hid (HB.out.trans (hb2.mono HB.out.size))
                  clear hb2
                  go_wp2
                  go_ret
                  exact ⟨ret_bool HBD.out.symm, HB2.out⟩
              · have hbw : ¬ mf / 2 ^ 5 % 2 = 1 := by exact hbit
                have HK2 := Lib.hid (bitsOk_succ HK.out (fun h => absurd h hbw))
                clear hbw
                go_wp2_with fail
                refine (HAw.out).mono ?_
                rintro e w2 ⟨rfl, hb2⟩
                have HB2 := Lib.hid (HB.out.trans (hb2.mono HB.out.size))
                clear hb2
                go_wp2
                go_roundw
                case rel => exact ⟨6, by omega, by go_num, HK2, HB2⟩
                case measure => simp [intOf]
            · by_cases hbit : mf / 64 % 2 = 1
              · have hbw : mf / 2 ^ 6 % 2 = 1 := by exact hbit
                by_cases hka : (6 : Int) < b
                · have HK2 := Lib.hid (bitsOk_succ HK.out (fun _ => hka))
                  have dk : decide (b ≤ (6 : Int)) = false := decide_eq_false (by omega)
                  clear hka hbw
                  go_wp2_with fail
                  refine (HAw.out).mono ?_
                  rintro e w2 ⟨rfl, hb2⟩
                  have HB2 := Lib.hid (HB.out.trans (hb2.mono HB.out.size))
                  clear hb2
                  go_wp2
                  go_roundw
                  case rel => exact ⟨7, by omega, by go_num, HK2, HB2⟩
                  case measure => simp [intOf]
                · have HBD : Hid (r = false) := Lib.hid (by rw [HE2.out, bitsOk_bad (k := 6) (by decide) hbw hka])
                  have dk : decide (b ≤ (6 : Int)) = true := decide_eq_true (by omega)
                  clear hka hbw
                  go_wp2_with fail
                  refine (HAw.out).mono ?_
                  rintro e w2 ⟨rfl, hb2⟩
                  have HB2 := Lib.hid (HB.out.trans (hb2.mono HB.out.size))
                  clear hb2
                  go_wp2
                  go_ret
                  exact ⟨ret_bool HBD.out.symm, HB2.out⟩
              · have hbw : ¬ mf / 2 ^ 6 % 2 = 1 := by exact hbit
                have HK2 := Lib.hid (bitsOk_succ HK.out (fun h => absurd h hbw))
                clear hbw
                go_wp2_with fail
                refine (HAw.out).mono ?_
                rintro e w2 ⟨rfl, hb2⟩
                have HB2 := Lib.hid (HB.out.trans (hb2.mono HB.out.size))
                clear hb2
                go_wp2
                go_roundw
                case rel => exact ⟨7, by omega, by go_num, HK2, HB2⟩
                case measure => simp [intOf]
            · by_cases hbit : mf / 128 % 2 = 1
              · have hbw : mf / 2 ^ 7 % 2 = 1 := by exact hbit
                by_cases hka : (7 : Int) < b
                · have HK2 := Lib.hid (bitsOk_succ HK.out (fun _ => hka))
                  have dk : decide (b ≤ (7 : Int)) = false := decide_eq_false (by omega)
                  clear hka hbw
                  go_wp2_with fail
                  refine (HAw.out).mono ?_
                  rintro e w2 ⟨rfl, hb2⟩
                  have HB2 := Lib.hid (HB.out.trans (hb2.mono HB.out.size))
                  clear hb2
                  go_wp2
                  go_roundw
                  case rel => exact ⟨8, by omega, by go_num, HK2, HB2⟩
                  case measure => simp [intOf]
                · have HBD : Hid (r = false) := Lib.hid (by rw [HE2.out, bitsOk_bad (k := 7) (by decide) hbw hka])
                  have dk : decide (b ≤ (7 : Int)) = true := decide_eq_true (by omega)
                  clear hka hbw
                  go_wp2_with fail
                  refine (HAw.out).mono ?_
                  rintro e w2 ⟨rfl, hb2⟩
                  have HB2 := Lib.hid (HB.out.trans (hb2.mono HB.out.size))
                  clear hb2
                  go_wp2
                  go_ret
                  exact ⟨ret_bool HBD.out.symm, HB2.out⟩
              · have hbw : ¬ mf / 2 ^ 7 % 2 = 1 := by exact hbit
                have HK2 := Lib.hid (bitsOk_succ HK.out (fun h => absurd h hbw))
                clear hbw
                go_wp2_with fail
                refine (HAw.out).mono ?_
                rintro e w2 ⟨rfl, hb2⟩
                have HB2 := Lib.hid (HB.out.trans (hb2.mono HB.out.size))
                clear hb2
                go_wp2
                go_roundw
                case rel => exact ⟨8, by omega, by go_num, HK2, HB2⟩
                case measure => simp [intOf]
          · have hk8 : k = 8 := by omega
            have HKB := Lib.hid HK.out
            rw [hk8] at HKB
            have HR1 : Hid (r = true) := Lib.hid (by rw [HE2.out, HKB.out])
            clear hk8 HKB
            go_wp2
            go_ret
            exact ⟨ret_bool HR1.out.symm, HB.out⟩
  · have HE1 : Hid (r = false) := Lib.hid (by rw [HE.out, decide_eq_false hz]; rfl)
    have hz1 : (fErr f != 0) = true := by simpa using hz
    have hr := HE1.out
    subst hr
    generalize fErr f = z at *
    clear hz HE HE1
    go_enter Tryd.func24, Tryd.ntmps24
    go_wp2_with fail
    refine (HV.out).mono ?_
    rintro e w1 ⟨rfl, hb1⟩
    have HB1 := Lib.hid hb1
    clear hb1
    go_wp2
    go_ret
    exact ⟨rfl, HB1.out⟩
end Go.Proofs.YtkkkomkljpolbaaDoor
