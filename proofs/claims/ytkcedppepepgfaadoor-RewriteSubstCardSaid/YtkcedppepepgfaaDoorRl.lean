/- Layer 6: texts joined: Gt Gu Gv Gw Gx. -/
import Derived.Test.YtkcedppepepgfaaDoorJl
import Derived.Test.YtkcedppepepgfaaDoorJm
import Derived.Test.YtkcedppepepgfaaDoorQq
import Derived.Test.YtkcedppepepgfaaDoorRk
/- Layer 8: a list of lists of nodes that came in. -/
namespace Go.Proofs.YtkcedppepepgfaaDoor.rwl
open Go.ChangeShapes Go.WideShapes Go.ChangeAt Go.RowKit Go.Proofs.Ws Go.Deep
set_option maxRecDepth 100000
def LsRow (w : World) (A : Option Addr) (n c : Nat) (ls : List (List Nd)) : Prop := LsR w w.heap.size A n ls ∧ n ≤ c ∧ n ≤ maxLen
section
variable {H : Type} {enc : TypeId × Value → H} {w : World} {base : Nat} {spare : Nat → Bool} {held : Bool}
theorem sliceCells8 : Tryd.prog.cellsOf 22 = 1 := by kernel_rfl
theorem open_nodes1 {fuel : Nat} {v : Value} {x : DataW H × List MemPlace} (h : DataW.trod enc Tryd.prog w base spare held fuel 22 [v] = some x) : ∃ A n c l, v = .slice A n c ∧ NdRow w A n c l := by
  have hform : ∃ A n c, v = .slice A n c := by
    rcases open_slice Tryd.underlying22 h with ⟨hcs, _⟩ | ⟨a, len, cap, m, n', D, Pl, hcs, _⟩
    · simp at hcs; exact ⟨_, _, _, hcs⟩
    · simp at hcs; exact ⟨_, _, _, hcs⟩
  obtain ⟨A, n, c, rfl⟩ := hform
  obtain ⟨l, hl⟩ := open_nodes h
  exact ⟨A, n, c, l, rfl, hl⟩
theorem open_lists {fuel : Nat} {A : Option Addr} {n c : Nat} {x : DataW H × List MemPlace} (h : DataW.trod enc Tryd.prog w base spare held fuel 29 [.slice A n c] = some x) : ∃ ls, LsRow w A n c ls := by
  rcases open_slice Tryd.underlying29 h with ⟨hcs, _⟩ | ⟨a, len, cap, m, n', D, Pl, hcs, hb, hl, hm, hmm, _, hi⟩
  · simp at hcs
    obtain ⟨rfl, rfl, rfl⟩ := hcs
    exact ⟨[], ⟨rfl, [], Reads.none_, fun j hj => absurd hj (by omega)⟩, Nat.le_refl _, Nat.zero_le _⟩
  · simp at hcs
    obtain ⟨rfl, rfl, rfl⟩ := hcs
    have hlm : n ≤ m := by rw [hmm]; split <;> omega
    have hex : ∀ i, i < n → ∃ p : Value × List Nd, w.cell? (a.add i) = some p.1 ∧ ∃ Aj cj, p.1 = .slice Aj p.2.length cj ∧ Reads w w.heap.size 6 Aj p.2.length (nds p.2) ∧ p.2.length ≤ maxLen := fun i hin => by
      obtain ⟨cs', h1, h2⟩ := hi i (by omega)
      obtain ⟨_, hlen, h3⟩ := World.cells?_some h1
      rw [sliceCells8] at h3 hlen
      match cs', hlen with
      | [v], _ =>
        obtain ⟨Aj, nj, cj, l, rfl, hr⟩ := open_nodes1 h2
        have h6 := h3 0 (by decide)
        have hlj := hr.1.nd_len
        have e0 : (a.add (i * 1)).add 0 = a.add i := by rw [Nat.mul_one]; generalize a.add i = b; cases b; simp [Addr.add]
        refine ⟨(.slice Aj nj cj, l), ?_, Aj, cj, ?_, ?_, ?_⟩
        · rw [e0] at h6
          exact h6
        · dsimp only; rw [hlj]
        · dsimp only; rw [hlj]; exact hr.1
        · dsimp only; rw [hlj]; exact hr.2.2.2
    obtain ⟨g, hg⟩ : ∃ g : Nat → Value × List Nd, ∀ i, i < n → w.cell? (a.add i) = some (g i).1 ∧ ∃ Aj cj, (g i).1 = .slice Aj (g i).2.length cj ∧ Reads w w.heap.size 6 Aj (g i).2.length (nds (g i).2) ∧ (g i).2.length ≤ maxLen :=
      ⟨fun i => if hi : i < n then Classical.choose (hex i hi) else (.slice none 0 0, []), fun i hin => by dsimp only; rw [dif_pos hin]; exact Classical.choose_spec (hex i hin)⟩
    have hgl : ∀ j, j < n → ((List.range n).map (fun i => (g i).2)).getD j [] = (g j).2 := fun j hj => by simp [hj]
    refine ⟨(List.range n).map (fun i => (g i).2), ⟨by simp, (List.range n).map (fun i => (g i).1), ⟨by simp, fun h0 => ⟨a, rfl, ?_, fun j u hu => ?_⟩⟩, fun j hj => ?_⟩, hl, by omega⟩
    · have h1 := (hg 0 h0).1
      rcases Nat.lt_or_ge (a.add 0).block w.heap.size with h' | h'
      · rwa [block_of_add] at h'
      · simp [World.cell?, Array.getElem?_eq_none h'] at h1
    · have hj : j < n := by
        have := (List.getElem?_eq_some_iff.1 hu).1
        simpa using this
      simp [hj] at hu
      rw [← hu]
      exact (hg j hj).1
    · obtain ⟨_, Aj, cj, e1, e2, e3⟩ := hg j hj
      rw [hgl j hj]
      exact ⟨Aj, cj, by simp [hj, e1], e2, e3⟩
end
end Go.Proofs.YtkcedppepepgfaaDoor.rwl
/- Layer 8: the builders of the reference return rows of their own. -/
namespace Go.Proofs.YtkcedppepepgfaaDoor
open Go.RowKit Go.Proofs.Ws Go.Maps
set_option maxRecDepth 100000 in
set_option maxHeartbeats 4000000 in
theorem rShort_own (f : List Nd) (hne : f ≠ []) (hops : opsL f) (hkn : knownL f) (A : Option Addr) (n c : Nat) (w : World) (hR : Reads w w.heap.size 6 A n (nds f)) (hm : n ≤ 401) :
    Calls Tryd.prog 97 #[.slice A n c] w fun e w' => ∃ A' c', e = .returned (.slice A' (shortF f).length c') ∧ w'.ownsRow 0 45 6 (.slice A' (shortF f).length c') (shortF f).length (nds (shortF f)) ∧ Below w.heap.size w w' := by
  have hl := hR.nd_len
  have HR := Lib.hid hR
  have hn0 : n ≠ 0 := by rw [← hl]; simpa using hne
  obtain ⟨k, hk1⟩ : ∃ k : Nat, k = n - 1 := ⟨_, rfl⟩
  have hk : k < n := by omega
  have HW : Hid (∀ W bw bd base, RW W base bw bd n ⟨[], List.replicate n none⟩ → Reads W w.heap.size 6 A n (nds f) → w.heap.size ≤ bw → w.heap.size ≤ bd → w.heap.size ≤ base →
      Calls Tryd.prog 96 #[.slice A n c, .int .i64 (k : Int), .pointer (some ⟨bw, 0, none⟩)] W fun e w' =>
        e = .returned (.int .i64 ((finW f n k ⟨[], List.replicate n none⟩).1 : Nat)) ∧ RW w' base bw bd n (finW f n k ⟨[], List.replicate n none⟩).2 ∧ Fr bw bd W w') :=
    Lib.hid (fun W bw bd base h2 h3 h4 h5 h6 => rFinish_any f hops hkn A n c w.heap.size base bw bd (by omega) hl h4 h5 h6 n k _ W hk hk (cnt0R n) h2 h3)
  have HE : Hid ((finW f n k ⟨[], List.replicate n none⟩).2.out = canonF f) := Lib.hid (by unfold canonF; rw [hl, hk1])
  have HS : Hid (shortF f = if 200 < (canonF f).length then [] else canonF f) := Lib.hid rfl
  generalize finW f n k ⟨[], List.replicate n none⟩ = r at *
  generalize canonF f = q at *
  generalize shortF f = sf at *
  obtain ⟨r1, out, done⟩ := r
  have HE2 : out = q := HE.out
  subst HE2
  have d0 : decide ((n : Int) > 401) = false := decide_eq_false (by omega)
  have d1 : decide (401 < (n : Int)) = false := decide_eq_false (by omega)
  have d2 : decide (401 < n) = false := decide_eq_false (by omega)
  have hw1 : wrap64 ((n : Int) - 1) = (k : Int) := by unfold wrap64; omega
  have hw2 : IntKind.i64.wrap ((n : Int) - 1) = (k : Int) := by rw [IntKind.wrap_i64]; omega
  have hw3 : (n : Int) - 1 = (k : Int) := by omega
  obtain ⟨i0, hi, hz0, hz1, hz2⟩ := info_parts Tryd.infoIR
  clear HE hR hl hne hops hkn hk1
  have HL0 := Lib.hid (LD.start w w 99 (Below.refl _ _))
  go_enter Tryd.func97, Tryd.ntmps97
  go_wp2
  go_loopw [4] (fun i wr => ∃ m : Nat, m ≤ n ∧ i = .int .i64 m ∧ Hid (LD w wr w.heap.size m)) (fun i _ => n - (intOf i).toNat)
  case atStart => exact ⟨0, Nat.zero_le _, rfl, HL0⟩
  case round =>
    obtain ⟨m, hmn, rfl, HL⟩ := hrel
    by_cases hlt : m < n
    · obtain ⟨A1, c1, hc1, hown⟩ := HL.out.row
      have hf1 := HL.out.f1
      have ebw := HL.out.lt
      have e0 := World.new_ne wr _ hc1
      have hst : Hid (∀ g, (Value.slice A1 m c1).ownBlock = some g → w.heap.size + 1 ≤ g ∧ g < wr.heap.size) := Lib.hid hown.lt
      have HC1 := Lib.hid hc1
      have HF1 := Lib.hid hf1
      go_wp2_with (at_builtin; refine wpList_append_own _ rfl _ _ 71 rfl (w.heap.size + 1) 3 i0 (.int .i64 0) 1 8 Tryd.underlying71 hi hz0 hz1 hz2 rfl (by decide) _ _ _ rfl (hown.alloc _) ⟨wr.heap.size, 0, none⟩ 1 1 [.int .i64 (-1)] rfl rfl ?k1 ?k2 ?k3 ?k4 ?k5 ?_)
      case k2 => rfl
      case k3 => unfold maxLen; omega
      case k4 => omega
      case k5 => first | omega | (simp; omega)
      · intro v' w3 hown' hgrow _
        obtain ⟨A3, c3, rfl⟩ := own_sl hown'
        have hgc := hgrow.cell_far ⟨w.heap.size, 1, none⟩ (by show w.heap.size < (wr.alloc _).heap.size; simp; omega) (fun e => absurd (hst.out w.heap.size e.symm).1 (by omega))
        have hgf := hgrow.frozen_far ⟨w.heap.size, 1, none⟩ (by show w.heap.size < (wr.alloc _).heap.size; simp; omega) (fun e => absurd (hst.out w.heap.size e.symm).1 (by omega))
        have hc3 : w3.cell? ⟨w.heap.size, 1, none⟩ = some (.slice A1 m c1) := hgc.trans ((World.cell?_of_block (a := ⟨w.heap.size, 1, none⟩) (Below.heap_alloc wr _ _ ebw)).trans HC1.out)
        have hf3 : w3.frozen? ⟨w.heap.size, 1, none⟩ = false := hgf.trans ((World.frozen?_of_block (a := ⟨w.heap.size, 1, none⟩) (Below.heap_alloc wr _ _ ebw)).trans HF1.out)
        have HL2 := Lib.hid (HL.out.step HC1.out (fun g hg => (hst.out g hg).1) hown' hgrow)
        clear hgc hgf hown' hgrow hown hc1 hf1 e0
        go_wp2
        go_roundw
        case rel => exact ⟨m + 1, by omega, by go_num, HL2⟩
        case measure => simp [intOf]; omega
    · have hmn2 : m = n := by omega
      subst hmn2
      obtain ⟨bd, hbd, hRW⟩ := HL.out.toRW (by omega)
      have l0 := HL.out.l0
      have HBL := Lib.hid HL.out.be
      have HRW := Lib.hid hRW
      have lsz := HL.out.be.size
      clear hRW
      go_wp2_with fail
      refine (HW.out wr w.heap.size bd wr.heap.size HRW.out (HR.out.below HBL.out) l0 (by omega) (by omega)).mono ?_
      rintro e w4 ⟨rfl, hS, hF⟩
      obtain ⟨A2, c2, h2, hrow⟩ := hS.out
      have HO := Lib.hid hrow
      have HWF := Lib.hid (HBL.out.trans (hF.low (B := w.heap.size) (by omega) l0 (by omega) (fun g hg => by have := (HRW.out.row g hg).1; omega)))
      clear hS hF hrow
      replace h2 : w4.cell? ⟨w.heap.size, 0, none⟩ = some (.slice A2 out.length c2) := h2
      by_cases h20 : 200 < out.length
      · have hd : decide (200 < (out.length : Int)) = true := decide_eq_true (by omega)
        have hd2 : decide (200 < out.length) = true := decide_eq_true h20
        have HQ : Hid (sf = []) := Lib.hid (by rw [HS.out, if_pos h20])
        have HQ2 := HQ.out
        subst HQ2
        clear h20
        go_wp2
        go_ret
        exact ⟨none, 0, rfl, World.ownsRow_nil _ _ _ _, HWF.out⟩
      · have hd : decide (200 < (out.length : Int)) = false := decide_eq_false (by omega)
        have hd2 : decide (200 < out.length) = false := decide_eq_false h20
        have HQ : Hid (sf = out) := Lib.hid (by rw [HS.out, if_neg h20])
        have HQ2 := HQ.out
        subst HQ2
        clear h20
        go_wp2
        go_ret
        exact ⟨A2, c2, rfl, own_base HO.out (Nat.zero_le _), HWF.out⟩
set_option maxRecDepth 100000 in
set_option maxHeartbeats 4000000 in
theorem rOne_own (x : Nd) (w : World) :
    Calls Tryd.prog 72 #[nv x] w fun e w' => ∃ A' c', e = .returned (.slice A' (oneF x).length c') ∧ w'.ownsRow 0 45 6 (.slice A' (oneF x).length c') (oneF x).length (nds (oneF x)) ∧ Below w.heap.size w w' := by
  have HN : Hid (∀ W, Calls Tryd.prog 68 #[nv x, .int .i64 ((0 : Nat) : Int)] W fun e w' => e = .returned (.int .i64 (nodeErr x ((0 : Nat) : Int))) ∧ Below W.heap.size W w') := Lib.hid (fun W => rNode_any x _ W)
  have HB0 : Hid (Below w.heap.size w (w.alloc (.cells #[.int .i64 x.op, .int .i64 x.i, .int .i64 x.e, .int .i64 x.g, .int .i64 x.x, .int .i64 x.y] 45))) := Lib.hid ((Below.refl _ w).alloc (Nat.le_refl _) _)
  have HBX := Lib.hid (Box.made w x 45)
  have hs0 : w.heap.size < (w.alloc (.cells #[.int .i64 x.op, .int .i64 x.i, .int .i64 x.e, .int .i64 x.g, .int .i64 x.x, .int .i64 x.y] 45)).heap.size := by simp
  have HU : Hid (oneF x = if nodeErr x ((0 : Nat) : Int) = 0 then [x] else []) := Lib.hid rfl
  generalize nodeErr x ((0 : Nat) : Int) = z at *
  unfold nv at HN ⊢
  generalize oneF x = q at *
  go_enter Tryd.func72, Tryd.ntmps72
  go_wp2_with fail
  generalize w.alloc (.cells #[.int .i64 x.op, .int .i64 x.i, .int .i64 x.e, .int .i64 x.g, .int .i64 x.x, .int .i64 x.y] 45) = w0 at *
  refine (HN.out _).mono ?_
  rintro e w1 ⟨rfl, hb1⟩
  have HB1 := Lib.hid (HB0.out.trans (hb1.mono (Nat.le_of_lt hs0)))
  have hbx1 := HBX.out.keep (W' := w1) (hb1.block _ hs0)
  obtain ⟨b0, b1, b2, b3, b4, b5, _⟩ := hbx1
  clear hb1
  by_cases hz : z = 0
  · subst hz
    have hq : q = [x] := by rw [HU.out, if_pos rfl]
    subst hq
    go_wp2
    go_ret
    refine ⟨some ⟨w1.heap.size, 0, none⟩, 1, rfl, ?_, HB1.out.alloc (by have := HB1.out.size; omega) _⟩
    exact ⟨by simp [nds, ndC], .inr ⟨w1.heap.size, 1, _, rfl, Nat.zero_le _, heap_alloc_new w1 (.cells #[.int .i64 x.op, .int .i64 x.i, .int .i64 x.e, .int .i64 x.g, .int .i64 x.x, .int .i64 x.y] 45), Nat.le_refl _, by unfold maxLen; omega, rfl, rfl⟩⟩
  · have hq : q = [] := by rw [HU.out, if_neg hz]
    subst hq
    have hzb : (z != 0) = true := by simpa using hz
    clear hz
    go_wp2
    go_ret
    exact ⟨none, 0, rfl, World.ownsRow_nil _ _ _ _, HB1.out⟩
set_option maxRecDepth 100000 in
set_option maxHeartbeats 4000000 in
theorem rUnary_own (x : Nd) (f : List Nd) (A : Option Addr) (n c : Nat) (w : World) (hR : Reads w w.heap.size 6 A n (nds f)) (hm : n ≤ maxLen) :
    Calls Tryd.prog 73 #[nv x, .slice A n c] w fun e w' => ∃ A' c', e = .returned (.slice A' (unaryF x f).length c') ∧ w'.ownsRow 0 45 6 (.slice A' (unaryF x f).length c') (unaryF x f).length (nds (unaryF x f)) ∧ Below w.heap.size w w' := by
  have hl := hR.nd_len
  have HR := Lib.hid hR
  have HC : Hid (∀ W, Below w.heap.size w W → Calls Tryd.prog 28 #[.slice A n c] W fun e w' => e = .returned (.int .i64 (fErr f)) ∧ Below W.heap.size W w') := Lib.hid (fun W h => rCheck_any f A n c W ((hR.below h).more h.size) hm)
  have HB0 : Hid (Below w.heap.size w (w.alloc (.cells #[.int .i64 x.op, .int .i64 x.i, .int .i64 x.e, .int .i64 x.g, .int .i64 x.x, .int .i64 x.y] 45))) := Lib.hid ((Below.refl _ w).alloc (Nat.le_refl _) _)
  have HBX := Lib.hid (Box.made w x 45)
  have hs0 : w.heap.size < (w.alloc (.cells #[.int .i64 x.op, .int .i64 x.i, .int .i64 x.e, .int .i64 x.g, .int .i64 x.x, .int .i64 x.y] 45)).heap.size := by simp
  clear hR
  by_cases hz : fErr f = 0
  · have hne := (fErr_ok hz).1
    have hn0 : f.length ≠ 0 := by simpa using hne
    have h200 := (fErr_ok hz).2.1
    obtain ⟨k, hk⟩ : ∃ k : Nat, (k : Int) = (f.length : Int) - 1 := ⟨f.length - 1, by omega⟩
    have HU : Hid (unaryF x f = if nodeErr { x with x := (k : Int) } (n : Int) = 0 then shortF (f ++ [{ x with x := (k : Int) }]) else []) := Lib.hid (by unfold unaryF; rw [if_pos hz, hk, hl])
    have HN : Hid (∀ W, Calls Tryd.prog 68 #[nv { x with x := (k : Int) }, .int .i64 (n : Int)] W fun e w' => e = .returned (.int .i64 (nodeErr { x with x := (k : Int) } (n : Int))) ∧ Below W.heap.size W w') := Lib.hid (fun W => rNode_any _ _ W)
    have HSH : Hid (nodeErr { x with x := (k : Int) } (n : Int) = 0 → ∀ W A1 c1, Reads W W.heap.size 6 A1 (n + 1) (nds (f ++ [{ x with x := (k : Int) }])) → Calls Tryd.prog 97 #[.slice A1 (n + 1) c1] W fun e w' => ∃ A' c', e = .returned (.slice A' (shortF (f ++ [{ x with x := (k : Int) }])).length c') ∧ w'.ownsRow 0 45 6 (.slice A' (shortF (f ++ [{ x with x := (k : Int) }])).length c') (shortF (f ++ [{ x with x := (k : Int) }])).length (nds (shortF (f ++ [{ x with x := (k : Int) }]))) ∧ Below W.heap.size W w') := Lib.hid (fun he W A1 c1 h1 => by
      have hn := (nodeErr_iff _ _).1 he
      rw [← hl] at hn
      have hok := snoc_ok (fErr_ops hz) (fErr_fld hz) hn.1 hn.2
      exact rShort_own _ hok.ne hok.ops (snoc_kn (fErr_fld hz) hn.2) A1 (n + 1) c1 W h1 (by omega))
    have HCZ : Hid (∀ W, Below w.heap.size w W → Calls Tryd.prog 28 #[.slice A n c] W fun e w' => e = .returned (.int .i64 0) ∧ Below W.heap.size W w') := Lib.hid (fun W h => hz ▸ HC.out W h)
    have HLN := Lib.hid hl
    have hw1 : wrap64 ((n : Int) - 1) = (k : Int) := by unfold wrap64; omega
    have hw2 : IntKind.i64.wrap ((n : Int) - 1) = (k : Int) := by rw [IntKind.wrap_i64]; omega
    have hw3 : (n : Int) - 1 = (k : Int) := by omega
    have hn200 : n ≤ 200 := by omega
    generalize nodeErr { x with x := (k : Int) } (n : Int) = z at *
    unfold nv at HN ⊢
    dsimp only at HN
    generalize unaryF x f = q at *
    clear hz hne hn0 h200 hk hl HC
    go_enter Tryd.func73, Tryd.ntmps73
    go_wp2_with fail
    generalize w.alloc (.cells #[.int .i64 x.op, .int .i64 x.i, .int .i64 x.e, .int .i64 x.g, .int .i64 x.x, .int .i64 x.y] 45) = w0 at *
    refine (HCZ.out _ HB0.out).mono ?_
    rintro e w1 ⟨rfl, hb1⟩
    have HB1 := Lib.hid (HB0.out.trans (hb1.mono (Nat.le_of_lt hs0)))
    have hs1 : w.heap.size < w1.heap.size := Nat.lt_of_lt_of_le hs0 hb1.size
    have hbx1 := HBX.out.keep (W' := w1) (hb1.block _ hs0)
    have HBX1 := Lib.hid (hbx1.setX (k : Int))
    have HB1s : Hid (Below w.heap.size w (w1.setCell ⟨w.heap.size, 4, none⟩ (.int .i64 (k : Int)))) := Lib.hid (HB1.out.setCell (Nat.le_refl _) _)
    have hs1s : w.heap.size < (w1.setCell ⟨w.heap.size, 4, none⟩ (.int .i64 (k : Int))).heap.size := by simpa using hs1
    obtain ⟨b0, b1, b2, b3, b4, b5, bf⟩ := hbx1
    have bf4 := bf 4
    clear hb1 bf
    go_wp2_with fail
    clear b0 b1 b2 b3 b4 b5 bf4
    generalize w1.setCell ⟨w.heap.size, 4, none⟩ (.int .i64 (k : Int)) = w2 at *
    refine (HN.out _).mono ?_
    rintro e w3 ⟨rfl, hb3⟩
    have HB3 := Lib.hid (HB1s.out.trans (hb3.mono (Nat.le_of_lt hs1s)))
    have hs3 : w.heap.size < w3.heap.size := Nat.lt_of_lt_of_le hs1s hb3.size
    have HBX3 := Lib.hid (HBX1.out.keep (W' := w3) (hb3.block _ hs1s))
    clear hb3
    by_cases hz : z = 0
    · subst hz
      have hq : q = shortF (f ++ [{ x with x := (k : Int) }]) := by rw [HU.out, if_pos rfl]
      have HS := Lib.hid (HSH.out rfl)
      rw [← hq] at HS
      clear HU HSH HN hq
      generalize ({ x with x := (k : Int) } : Nd) = x' at *
      go_wp2
      go_loopw [5, 6] (fun u5 i wr => ∃ j : Nat, j ≤ n ∧ i = .int .i64 j ∧ Hid (wr.ownsRow (w.heap.size + 1) 45 6 u5 (f.take j).length (nds (f.take j))) ∧ Hid (Box wr w.heap.size x') ∧ Hid (Below w.heap.size w wr) ∧ w.heap.size < wr.heap.size) (fun _ i _ => n - (intOf i).toNat)
      case atStart => exact ⟨0, Nat.zero_le _, rfl, Lib.hid (World.ownsRow_nil _ _ _ _), HBX3, HB3, hs3⟩
      case round =>
        obtain ⟨j, hj, rfl, HO, HX, HB, hsz⟩ := hrel
        by_cases hlt : j < n
        · obtain ⟨ad, rfl, hb, m0, m1, m2, m3, m4, m5⟩ := (HR.out.below HB.out).nd_at hlt
          have hjf : j < f.length := by have := HLN.out; omega
          have HT : Hid (f.take (j + 1) = f.take j ++ [f.getD j nd0]) := Lib.hid (by
            rw [List.take_succ_eq_append_getElem hjf, show f.getD j nd0 = f[j] from by simp [hjf]])
          have hlen : (f.take j).length = j := by rw [List.length_take]; omega
          generalize f.getD j nd0 = y at *
          generalize hL : f.take j = L at *
          have l1 := add_cell m1
          have l2 := add_cell m2
          have l3 := add_cell m3
          have l4 := add_cell m4
          have l5 := add_cell m5
          have HOW := Lib.hid HO.out
          clear hL
          go_wp2_with (at_builtin; refine wp_appN y _ rfl _ _ rfl (w.heap.size + 1) _ _ rfl (HOW.out.alloc _) rfl ?k1 ?k2 ?k3 ?_)
          case k1 =>
            intro j' u hj'
            have hh := heap_alloc_new wr (.cells #[.int .i64 y.op, .int .i64 y.i, .int .i64 y.e, .int .i64 y.g, .int .i64 y.x, .int .i64 y.y] 45)
            rw [Lib.cell_of_heap hh j', ← hj']
            simp [ndC]
          case k2 => omega
          case k3 => simp; omega
          · intro v' w5 hown5 hgrow
            have HO5 : Hid (w5.ownsRow (w.heap.size + 1) 45 6 v' (f.take (j + 1)).length (nds (f.take (j + 1)))) := Lib.hid (by rw [HT.out, List.length_append, hlen]; exact hown5)
            have HX5 := Lib.hid (HX.out.keep (W' := w5) ((hgrow.block w.heap.size (by simp; omega) (fun e => by have := (HOW.out.lt w.heap.size e.symm).1; omega)).trans (Below.heap_alloc wr _ _ hsz)))
            have HB5 : Hid (Below w.heap.size w w5) := Lib.hid ((HB.out.alloc (by omega) _).grown hgrow (by simp; omega) (fun g hg => by have := (HOW.out.lt g hg).1; omega))
            have hs5 : w.heap.size < w5.heap.size := by have := hgrow.size; simp at this; omega
            clear hown5 hgrow m0 m1 m2 m3 m4 m5 l1 l2 l3 l4 l5
            go_wp2
            go_roundw
            case rel => exact ⟨j + 1, by omega, by go_num, HO5, HX5, HB5, hs5⟩
            case measure => simp [intOf]; omega
        · have hjn : f.take j = f := by rw [List.take_of_length_le]; have := HLN.out; omega
          rw [hjn] at HO
          obtain ⟨b0, b1, b2, b3, b4, b5, _⟩ := HX.out
          have hfl : f.length = n := HLN.out
          rw [hfl] at HO
          go_wp2_with (at_builtin; refine wp_appN x' _ rfl _ _ rfl (w.heap.size + 1) _ _ rfl (by rw [hfl]; exact HO.out.alloc _) rfl ?k1 ?k2 ?k3 ?_)
          case k1 =>
            intro j' u hj'
            have hh := heap_alloc_new wr (.cells #[.int .i64 x'.op, .int .i64 x'.i, .int .i64 x'.e, .int .i64 x'.g, .int .i64 x'.x, .int .i64 x'.y] 45)
            rw [Lib.cell_of_heap hh j', ← hj']
            simp [ndC]
          case k2 => omega
          case k3 => simp; omega
          · intro v' w5 hown5 hgrow
            obtain ⟨A5, c5, rfl⟩ := own_sl hown5
            have HR5 := Lib.hid (Reads.of_own hown5)
            have HB5 : Hid (Below w.heap.size w w5) := Lib.hid ((HB.out.alloc (by omega) _).grown hgrow (by simp; omega) (fun g hg => by have := (HO.out.lt g hg).1; omega))
            clear hown5 hgrow b0 b1 b2 b3 b4 b5
            go_wp2_with fail
            refine (HS.out _ _ _ HR5.out).mono ?_
            rintro e w6 ⟨A6, c6, rfl, hR6, hb6⟩
            have HR6 := Lib.hid hR6
            have HB6 := Lib.hid (HB5.out.trans (hb6.mono HB5.out.size))
            clear hR6 hb6
            go_wp2
            go_ret
            exact ⟨A6, c6, rfl, HR6.out, HB6.out⟩
    · have hq : q = [] := by rw [HU.out, if_neg hz]
      subst hq
      have hzb : (z != 0) = true := by simpa using hz
      clear hz
      go_wp2
      go_ret
      exact ⟨none, 0, rfl, World.ownsRow_nil _ _ _ _, HB3.out⟩
  · have hq : unaryF x f = [] := by unfold unaryF; rw [if_neg hz]
    rw [hq]
    have hzb : (fErr f != 0) = true := by simpa using hz
    generalize fErr f = z at *
    unfold nv
    clear hq hz
    go_enter Tryd.func73, Tryd.ntmps73
    go_wp2_with fail
    generalize w.alloc (.cells #[.int .i64 x.op, .int .i64 x.i, .int .i64 x.e, .int .i64 x.g, .int .i64 x.x, .int .i64 x.y] 45) = w0 at *
    refine (HC.out _ HB0.out).mono ?_
    rintro e w1 ⟨rfl, hb1⟩
    have HB1 := Lib.hid (HB0.out.trans (hb1.mono (Nat.le_of_lt hs0)))
    clear hb1
    go_wp2
    go_ret
    exact ⟨none, 0, rfl, World.ownsRow_nil _ _ _ _, HB1.out⟩
set_option maxRecDepth 100000 in
set_option maxHeartbeats 8000000 in
theorem rBinary_own (x : Nd) (f g : List Nd) (A A2 : Option Addr) (n c n2 c2 : Nat) (w : World) (hR : Reads w w.heap.size 6 A n (nds f)) (hm : n ≤ maxLen) (hR2 : Reads w w.heap.size 6 A2 n2 (nds g)) (hm2 : n2 ≤ maxLen) :
    Calls Tryd.prog 71 #[nv x, .slice A n c, .slice A2 n2 c2] w fun e w' => ∃ A' c', e = .returned (.slice A' (binaryF x f g).length c') ∧ w'.ownsRow 0 45 6 (.slice A' (binaryF x f g).length c') (binaryF x f g).length (nds (binaryF x f g)) ∧ Below w.heap.size w w' := by
  have hl := hR.nd_len
  have hl2 := hR2.nd_len
  have HR := Lib.hid hR
  have HR2 := Lib.hid hR2
  have HC : Hid (∀ W, Below w.heap.size w W → Calls Tryd.prog 28 #[.slice A n c] W fun e w' => e = .returned (.int .i64 (fErr f)) ∧ Below W.heap.size W w') := Lib.hid (fun W h => rCheck_any f A n c W ((hR.below h).more h.size) hm)
  have HC2 : Hid (∀ W, Below w.heap.size w W → Calls Tryd.prog 28 #[.slice A2 n2 c2] W fun e w' => e = .returned (.int .i64 (fErr g)) ∧ Below W.heap.size W w') := Lib.hid (fun W h => rCheck_any g A2 n2 c2 W ((hR2.below h).more h.size) hm2)
  have HB0 : Hid (Below w.heap.size w (w.alloc (.cells #[.int .i64 x.op, .int .i64 x.i, .int .i64 x.e, .int .i64 x.g, .int .i64 x.x, .int .i64 x.y] 45))) := Lib.hid ((Below.refl _ w).alloc (Nat.le_refl _) _)
  have HBX := Lib.hid (Box.made w x 45)
  have hs0 : w.heap.size < (w.alloc (.cells #[.int .i64 x.op, .int .i64 x.i, .int .i64 x.e, .int .i64 x.g, .int .i64 x.x, .int .i64 x.y] 45)).heap.size := by simp
  clear hR hR2
  by_cases hz : fErr f = 0
  · have HCZ : Hid (∀ W, Below w.heap.size w W → Calls Tryd.prog 28 #[.slice A n c] W fun e w' => e = .returned (.int .i64 0) ∧ Below W.heap.size W w') := Lib.hid (fun W h => hz ▸ HC.out W h)
    by_cases hz2 : fErr g = 0
    · have HCZ2 : Hid (∀ W, Below w.heap.size w W → Calls Tryd.prog 28 #[.slice A2 n2 c2] W fun e w' => e = .returned (.int .i64 0) ∧ Below W.heap.size W w') := Lib.hid (fun W h => hz2 ▸ HC2.out W h)
      have hn0 : f.length ≠ 0 := by simpa using (fErr_ok hz).1
      have hn02 : g.length ≠ 0 := by simpa using (fErr_ok hz2).1
      have h200 := (fErr_ok hz).2.1
      have h2002 := (fErr_ok hz2).2.1
      obtain ⟨k, hk⟩ : ∃ k : Nat, (k : Int) = (f.length : Int) - 1 := ⟨f.length - 1, by omega⟩
      obtain ⟨k2, hk2⟩ : ∃ k2 : Nat, (k2 : Int) = (f.length + g.length : Int) - 1 := ⟨f.length + g.length - 1, by omega⟩
      have HU : Hid (binaryF x f g = if nodeErr { x with x := (k : Int), y := (k2 : Int) } ((n : Int) + (n2 : Int)) = 0 then shortF (f ++ g.map (shiftN f.length) ++ [{ x with x := (k : Int), y := (k2 : Int) }]) else []) := Lib.hid (by unfold binaryF; rw [if_pos hz, if_pos hz2, hk, hk2, hl, hl2, Int.natCast_add])
      have HN : Hid (∀ W, Calls Tryd.prog 68 #[nv { x with x := (k : Int), y := (k2 : Int) }, .int .i64 ((n : Int) + (n2 : Int))] W fun e w' => e = .returned (.int .i64 (nodeErr { x with x := (k : Int), y := (k2 : Int) } ((n : Int) + (n2 : Int)))) ∧ Below W.heap.size W w') := Lib.hid (fun W => rNode_any _ _ W)
      have hcl : (f ++ g.map (shiftN f.length)).length = n + n2 := by rw [List.length_append, List.length_map]; omega
      have HSH : Hid (nodeErr { x with x := (k : Int), y := (k2 : Int) } ((n : Int) + (n2 : Int)) = 0 → ∀ W A1 c1, Reads W W.heap.size 6 A1 (n + n2 + 1) (nds (f ++ g.map (shiftN f.length) ++ [{ x with x := (k : Int), y := (k2 : Int) }])) → Calls Tryd.prog 97 #[.slice A1 (n + n2 + 1) c1] W fun e w' => ∃ A' c', e = .returned (.slice A' (shortF (f ++ g.map (shiftN f.length) ++ [{ x with x := (k : Int), y := (k2 : Int) }])).length c') ∧ w'.ownsRow 0 45 6 (.slice A' (shortF (f ++ g.map (shiftN f.length) ++ [{ x with x := (k : Int), y := (k2 : Int) }])).length c') (shortF (f ++ g.map (shiftN f.length) ++ [{ x with x := (k : Int), y := (k2 : Int) }])).length (nds (shortF (f ++ g.map (shiftN f.length) ++ [{ x with x := (k : Int), y := (k2 : Int) }]))) ∧ Below W.heap.size W w') := Lib.hid (fun he W A1 c1 h1 => by
        rw [← Int.natCast_add] at he
        have hn := (nodeErr_iff _ _).1 he
        rw [← hcl] at hn
        obtain ⟨c1', c2'⟩ := catL_ok hz hz2
        have hok := snoc_ok c1' c2' hn.1 hn.2
        exact rShort_own _ hok.ne hok.ops (snoc_kn c2' hn.2) A1 (n + n2 + 1) c1 W h1 (by omega))
      have HGO := Lib.hid (fErr_ops hz2)
      have HGK := Lib.hid (fErr_known hz2)
      have HCL0 : Hid (catL f g 0 = f) := Lib.hid (by simp [catL])
      have HCLE : Hid (catL f g n2 = f ++ g.map (shiftN f.length)) := Lib.hid (by unfold catL; rw [← hl2, List.take_length])
      have HCT : Hid (∀ j, j < n2 → catL f g (j + 1) = catL f g j ++ [shiftN n (g.getD j nd0)] ∧ (catL f g j).length = n + j) := Lib.hid (fun j hj => by
        have hjg : j < g.length := by omega
        refine ⟨?_, by unfold catL; rw [List.length_append, List.length_map, List.length_take]; omega⟩
        unfold catL
        rw [List.take_succ_eq_append_getElem hjg, List.map_append, ← List.append_assoc, show g.getD j nd0 = g[j] from by simp [hjg], hl]; rfl)
      have HLN := Lib.hid hl
      have HLN2 := Lib.hid hl2
      have HCLL := Lib.hid hcl
      have hw1 : wrap64 ((n : Int) - 1) = (k : Int) := by unfold wrap64; omega
      have hw2 : IntKind.i64.wrap ((n : Int) - 1) = (k : Int) := by rw [IntKind.wrap_i64]; omega
      have hw3 : (n : Int) - 1 = (k : Int) := by omega
      have hw4 : wrap64 (((n : Int) + (n2 : Int)) - 1) = (k2 : Int) := by unfold wrap64; omega
      have hw5 : IntKind.i64.wrap (((n : Int) + (n2 : Int)) - 1) = (k2 : Int) := by rw [IntKind.wrap_i64]; omega
      have hw6 : ((n : Int) + (n2 : Int)) - 1 = (k2 : Int) := by omega
      have hn200 : n ≤ 200 := by omega
      have hn2002 : n2 ≤ 200 := by omega
      generalize hcg : f ++ g.map (shiftN f.length) = FG at *
      generalize nodeErr { x with x := (k : Int), y := (k2 : Int) } ((n : Int) + (n2 : Int)) = z at *
      unfold nv at HN ⊢
      dsimp only at HN
      generalize binaryF x f g = q at *
      clear hz hz2 hn0 hn02 h200 h2002 hk hk2 hl hl2 HC HC2 hcl hcg
      go_enter Tryd.func71, Tryd.ntmps71
      go_wp2_with fail
      generalize w.alloc (.cells #[.int .i64 x.op, .int .i64 x.i, .int .i64 x.e, .int .i64 x.g, .int .i64 x.x, .int .i64 x.y] 45) = w0 at *
      refine (HCZ.out _ HB0.out).mono ?_
      rintro e w1 ⟨rfl, hb1⟩
      have HB1 := Lib.hid (HB0.out.trans (hb1.mono (Nat.le_of_lt hs0)))
      have hs1 : w.heap.size < w1.heap.size := Nat.lt_of_lt_of_le hs0 hb1.size
      have HBX1 := Lib.hid (HBX.out.keep (W' := w1) (hb1.block _ hs0))
      clear hb1
      go_wp2_with fail
      refine (HCZ2.out _ HB1.out).mono ?_
      rintro e w2 ⟨rfl, hb2⟩
      have HB2 := Lib.hid (HB1.out.trans (hb2.mono (Nat.le_of_lt hs1)))
      have hs2 : w.heap.size < w2.heap.size := Nat.lt_of_lt_of_le hs1 hb2.size
      have HBX2 := Lib.hid (HBX1.out.keep (W' := w2) (hb2.block _ hs1))
      clear hb2
      go_wp2
      go_loopw [7, 8] (fun u7 i wr => ∃ j : Nat, j ≤ n ∧ i = .int .i64 j ∧ Hid (wr.ownsRow (w.heap.size + 1) 45 6 u7 (f.take j).length (nds (f.take j))) ∧ Hid (Box wr w.heap.size x) ∧ Hid (Below w.heap.size w wr) ∧ w.heap.size < wr.heap.size) (fun _ i _ => n - (intOf i).toNat)
      case atStart => exact ⟨0, Nat.zero_le _, rfl, Lib.hid (World.ownsRow_nil _ _ _ _), HBX2, HB2, hs2⟩
      case round =>
        obtain ⟨j, hj, rfl, HO, HX, HB, hsz⟩ := hrel
        by_cases hlt : j < n
        · obtain ⟨ad, rfl, hb, m0, m1, m2, m3, m4, m5⟩ := (HR.out.below HB.out).nd_at hlt
          have hjf : j < f.length := by have := HLN.out; omega
          have HT : Hid (f.take (j + 1) = f.take j ++ [f.getD j nd0]) := Lib.hid (by
            rw [List.take_succ_eq_append_getElem hjf, show f.getD j nd0 = f[j] from by simp [hjf]])
          have hlen : (f.take j).length = j := by rw [List.length_take]; omega
          generalize f.getD j nd0 = y at *
          generalize hL : f.take j = L at *
          have l1 := add_cell m1
          have l2 := add_cell m2
          have l3 := add_cell m3
          have l4 := add_cell m4
          have l5 := add_cell m5
          have HOW := Lib.hid HO.out
          clear hL
          go_wp2_with (at_builtin; refine wp_appN y _ rfl _ _ rfl (w.heap.size + 1) _ _ rfl (HOW.out.alloc _) rfl ?k1 ?k2 ?k3 ?_)
          case k1 =>
            intro j' u hj'
            have hh := heap_alloc_new wr (.cells #[.int .i64 y.op, .int .i64 y.i, .int .i64 y.e, .int .i64 y.g, .int .i64 y.x, .int .i64 y.y] 45)
            rw [Lib.cell_of_heap hh j', ← hj']
            simp [ndC]
          case k2 => omega
          case k3 => simp; omega
          · intro v' w5 hown5 hgrow
            have HO5 : Hid (w5.ownsRow (w.heap.size + 1) 45 6 v' (f.take (j + 1)).length (nds (f.take (j + 1)))) := Lib.hid (by rw [HT.out, List.length_append, hlen]; exact hown5)
            have HX5 := Lib.hid (HX.out.keep (W' := w5) ((hgrow.block w.heap.size (by simp; omega) (fun e => by have := (HOW.out.lt w.heap.size e.symm).1; omega)).trans (Below.heap_alloc wr _ _ hsz)))
            have HB5 : Hid (Below w.heap.size w w5) := Lib.hid ((HB.out.alloc (by omega) _).grown hgrow (by simp; omega) (fun g hg => by have := (HOW.out.lt g hg).1; omega))
            have hs5 : w.heap.size < w5.heap.size := by have := hgrow.size; simp at this; omega
            clear hown5 hgrow m0 m1 m2 m3 m4 m5 l1 l2 l3 l4 l5
            go_wp2
            go_roundw
            case rel => exact ⟨j + 1, by omega, by go_num, HO5, HX5, HB5, hs5⟩
            case measure => simp [intOf]; omega
        · have hjn : f.take j = f := by rw [List.take_of_length_le]; have := HLN.out; omega
          rw [hjn] at HO
          have HOS := Lib.hid HO.out
          have HXS := Lib.hid HX.out
          have HBS := Lib.hid HB.out
          rw [← HCL0.out] at HOS
          have hszS := hsz
          clear HO HX HB hjn
          go_wp2
          clear hlt hj
          go_loopw [7, 9, 10] (fun u7 i u10 wr => ∃ j : Nat, j ≤ n2 ∧ i = .int .i64 j ∧ Hid (wr.ownsRow (w.heap.size + 1) 45 6 u7 (catL f g j).length (nds (catL f g j))) ∧ Hid (Box wr w.heap.size x) ∧ Hid (Below w.heap.size w wr) ∧ w.heap.size < wr.heap.size) (fun _ i _ _ => n2 - (intOf i).toNat)
          case atStart => exact ⟨0, Nat.zero_le _, rfl, HOS, HXS, HBS, hszS⟩
          case round =>
            obtain ⟨j, hj, rfl, HO, HX, HB, hsz⟩ := hrel
            by_cases hlt : j < n2
            · obtain ⟨ad, rfl, hb, m0, m1, m2, m3, m4, m5⟩ := (HR2.out.below HB.out).nd_at hlt
              have hjg : j < g.length := by have := HLN2.out; omega
              obtain ⟨hct, hlen⟩ := HCT.out j hlt
              have HT := Lib.hid hct
              have hops := HGO.out j hjg
              have hkn := HGK.out j hjg
              clear hct
              generalize g.getD j nd0 = y at *
              generalize hL : catL f g j = L at *
              have HUX := Lib.hid (fun W => rUsesX_any y.op hkn W)
              have HUY := Lib.hid (fun W => rUsesY_any y.op hkn W)
              have l1 := add_cell m1
              have l2 := add_cell m2
              have l3 := add_cell m3
              have l4 := add_cell m4
              have l5 := add_cell m5
              have HOY : Hid ((wr.alloc (.cells #[.int .i64 y.op, .int .i64 y.i, .int .i64 y.e, .int .i64 y.g, .int .i64 y.x, .int .i64 y.y] 45)).ownsRow (w.heap.size + 1) 45 6 u7 L.length (nds L)) := Lib.hid (HO.out.alloc _)
              have HXY : Hid (Box (wr.alloc (.cells #[.int .i64 y.op, .int .i64 y.i, .int .i64 y.e, .int .i64 y.g, .int .i64 y.x, .int .i64 y.y] 45)) w.heap.size x) := Lib.hid (HX.out.keep (Below.heap_alloc wr _ _ hsz))
              have HBWY : Hid (Below w.heap.size w (wr.alloc (.cells #[.int .i64 y.op, .int .i64 y.i, .int .i64 y.e, .int .i64 y.g, .int .i64 y.x, .int .i64 y.y] 45))) := Lib.hid (HB.out.alloc (by omega) _)
              have HBY := Lib.hid (Box.made wr y 45)
              have hsy : (wr.alloc (.cells #[.int .i64 y.op, .int .i64 y.i, .int .i64 y.e, .int .i64 y.g, .int .i64 y.x, .int .i64 y.y] 45)).heap.size = wr.heap.size + 1 := by simp
              have HOG : Hid (∀ g', u7.ownBlock = some g' → g' < wr.heap.size) := Lib.hid (fun g' hg => (HO.out.lt g' hg).2)
              clear hL
              go_wp2_with fail
              clear m0 m1 m2 m3 m4 m5 l1 l2 l3 l4 l5
              generalize wr.alloc (.cells #[.int .i64 y.op, .int .i64 y.i, .int .i64 y.e, .int .i64 y.g, .int .i64 y.x, .int .i64 y.y] 45) = wy at *
              generalize hG : wr.heap.size = G at *
              have HGG := Lib.hid hG
              clear hG
              cases hux : usesX y.op with
              | false =>
                have huy : usesY y.op = false := by cases h : usesY y.op with | false => rfl | true => have := usesY_X h; rw [hux] at this; cases this
                have hz : shiftN n y = ⟨y.op, y.i, y.e, y.g, y.x, y.y⟩ := by unfold shiftN; rw [hux, huy]; rfl
                rw [hz] at HT
                rw [hux] at HUX
                rw [huy] at HUY
                obtain ⟨b0, b1, b2, b3, b4, b5, bf⟩ := HBY.out
                have bf4 := bf 4
                have bf5 := bf 5
                clear bf hz hux huy hops
                refine (HUX.out _).mono ?_
                rintro e w1 ⟨rfl, rfl⟩
                go_wp2_with fail
                refine (HUY.out _).mono ?_
                rintro e w1 ⟨rfl, rfl⟩
                have HOZ : Hid (wy.ownsRow (w.heap.size + 1) 45 6 u7 L.length (nds L)) := Lib.hid (own_keep1 HOY.out (fun g hg => by have hg2 := HOG.out g hg; exact rfl))
                have HXZ : Hid (Box wy w.heap.size x) := Lib.hid (HXY.out.keep (rfl))
                have HBZ : Hid (Below w.heap.size w wy) := Lib.hid HBWY.out
                have hsz9 : w.heap.size + 1 < wy.heap.size := by first | omega | (simp; omega)
                go_wp2_with (at_builtin; refine wp_appN ⟨y.op, y.i, y.e, y.g, y.x, y.y⟩ _ rfl _ _ rfl (w.heap.size + 1) _ _ rfl (HOZ.out.alloc _) rfl ?k1 ?k2 ?k3 ?_)
                case k1 =>
                  intro j' u hj'
                  have hh := heap_alloc_new wy (.cells #[.int .i64 y.op, .int .i64 y.i, .int .i64 y.e, .int .i64 y.g, .int .i64 (y.x), .int .i64 (y.y)] 45)
                  have hs8 : (wy).heap.size = G + 1 := by first | exact hsy | simpa using hsy
                  rw [hs8] at hh
                  rw [Lib.cell_of_heap hh j', ← hj']
                  simp [ndC]
                case k2 => omega
                case k3 => simp; omega
                · intro v' w5 hown5 hgrow
                  have HO5 : Hid (w5.ownsRow (w.heap.size + 1) 45 6 v' (catL f g (j + 1)).length (nds (catL f g (j + 1)))) := Lib.hid (by rw [HT.out, List.length_append, hlen]; exact hown5)
                  have HX5 := Lib.hid (HXZ.out.keep (W' := w5) ((hgrow.block w.heap.size (by simp; omega) (fun e => by have := (HOZ.out.lt w.heap.size e.symm).1; omega)).trans (Below.heap_alloc _ _ _ (by omega))))
                  have HB5 : Hid (Below w.heap.size w w5) := Lib.hid ((HBZ.out.alloc (by omega) _).grown hgrow (by simp; omega) (fun g hg => by have := (HOZ.out.lt g hg).1; omega))
                  have hs5 : w.heap.size < w5.heap.size := by have := hgrow.size; simp at this; omega
                  clear hown5 hgrow b0 b1 b2 b3 b4 b5 bf4 bf5
                  go_wp2
                  go_roundw
                  case rel => exact ⟨j + 1, by omega, by go_num, HO5, HX5, HB5, hs5⟩
                  case measure => simp [intOf]; omega
              | true =>
                cases huy : usesY y.op with
                | false =>
                  have hz : shiftN n y = ⟨y.op, y.i, y.e, y.g, y.x + n, y.y⟩ := by unfold shiftN; rw [hux, huy]; rfl
                  rw [hz] at HT
                  rw [hux] at HUX
                  rw [huy] at HUY
                  have hbx := opsOk_x hops hux
                  have ax1 : wrap64 (y.x + (n : Int)) = y.x + n := by unfold wrap64; omega
                  have ax2 : IntKind.i64.wrap (y.x + (n : Int)) = y.x + n := by rw [IntKind.wrap_i64]; omega
                  obtain ⟨b0, b1, b2, b3, b4, b5, bf⟩ := HBY.out
                  have bf4 := bf 4
                  have bf5 := bf 5
                  clear bf hz hux huy hops
                  refine (HUX.out _).mono ?_
                  rintro e w1 ⟨rfl, rfl⟩
                  go_wp2_with fail
                  refine (HUY.out _).mono ?_
                  rintro e w1 ⟨rfl, rfl⟩
                  have HOZ : Hid ((wy.setCell ⟨G, 4, none⟩ (.int .i64 (y.x + n))).ownsRow (w.heap.size + 1) 45 6 u7 L.length (nds L)) := Lib.hid (own_keep1 HOY.out (fun g hg => by have hg2 := HOG.out g hg; exact Below.heap_setCell _ _ _ _ (by show g ≠ G; omega)))
                  have HXZ : Hid (Box (wy.setCell ⟨G, 4, none⟩ (.int .i64 (y.x + n))) w.heap.size x) := Lib.hid (HXY.out.keep (Below.heap_setCell _ _ _ _ (by show w.heap.size ≠ G; omega)))
                  have HBZ : Hid (Below w.heap.size w (wy.setCell ⟨G, 4, none⟩ (.int .i64 (y.x + n)))) := Lib.hid (HBWY.out.setCell (by show w.heap.size ≤ G; omega) _)
                  have hsz9 : w.heap.size + 1 < (wy.setCell ⟨G, 4, none⟩ (.int .i64 (y.x + n))).heap.size := by first | omega | (simp; omega)
                  go_wp2_with (at_builtin; refine wp_appN ⟨y.op, y.i, y.e, y.g, y.x + n, y.y⟩ _ rfl _ _ rfl (w.heap.size + 1) _ _ rfl (HOZ.out.alloc _) rfl ?k1 ?k2 ?k3 ?_)
                  case k1 =>
                    intro j' u hj'
                    have hh := heap_alloc_new (wy.setCell ⟨G, 4, none⟩ (.int .i64 (y.x + n))) (.cells #[.int .i64 y.op, .int .i64 y.i, .int .i64 y.e, .int .i64 y.g, .int .i64 (y.x + n), .int .i64 (y.y)] 45)
                    have hs8 : ((wy.setCell ⟨G, 4, none⟩ (.int .i64 (y.x + n)))).heap.size = G + 1 := by first | exact hsy | simpa using hsy
                    rw [hs8] at hh
                    rw [Lib.cell_of_heap hh j', ← hj']
                    simp [ndC]
                  case k2 => omega
                  case k3 => simp; omega
                  · intro v' w5 hown5 hgrow
                    have HO5 : Hid (w5.ownsRow (w.heap.size + 1) 45 6 v' (catL f g (j + 1)).length (nds (catL f g (j + 1)))) := Lib.hid (by rw [HT.out, List.length_append, hlen]; exact hown5)
                    have HX5 := Lib.hid (HXZ.out.keep (W' := w5) ((hgrow.block w.heap.size (by simp; omega) (fun e => by have := (HOZ.out.lt w.heap.size e.symm).1; omega)).trans (Below.heap_alloc _ _ _ (by omega))))
                    have HB5 : Hid (Below w.heap.size w w5) := Lib.hid ((HBZ.out.alloc (by omega) _).grown hgrow (by simp; omega) (fun g hg => by have := (HOZ.out.lt g hg).1; omega))
                    have hs5 : w.heap.size < w5.heap.size := by have := hgrow.size; simp at this; omega
                    clear hown5 hgrow b0 b1 b2 b3 b4 b5 bf4 bf5
                    go_wp2
                    go_roundw
                    case rel => exact ⟨j + 1, by omega, by go_num, HO5, HX5, HB5, hs5⟩
                    case measure => simp [intOf]; omega

                | true =>
                  have hz : shiftN n y = ⟨y.op, y.i, y.e, y.g, y.x + n, y.y + n⟩ := by unfold shiftN; rw [hux, huy]; rfl
                  rw [hz] at HT
                  rw [hux] at HUX
                  rw [huy] at HUY
                  have hbx := opsOk_x hops hux
                  have ax1 : wrap64 (y.x + (n : Int)) = y.x + n := by unfold wrap64; omega
                  have ax2 : IntKind.i64.wrap (y.x + (n : Int)) = y.x + n := by rw [IntKind.wrap_i64]; omega
                  have hby := opsOk_y hops huy
                  have ay1 : wrap64 (y.y + (n : Int)) = y.y + n := by unfold wrap64; omega
                  have ay2 : IntKind.i64.wrap (y.y + (n : Int)) = y.y + n := by rw [IntKind.wrap_i64]; omega
                  obtain ⟨b0, b1, b2, b3, b4, b5, bf⟩ := HBY.out
                  have bf4 := bf 4
                  have bf5 := bf 5
                  clear bf hz hux huy hops
                  refine (HUX.out _).mono ?_
                  rintro e w1 ⟨rfl, rfl⟩
                  go_wp2_with fail
                  refine (HUY.out _).mono ?_
                  rintro e w1 ⟨rfl, rfl⟩
                  have HOZ : Hid (((wy.setCell ⟨G, 4, none⟩ (.int .i64 (y.x + n))).setCell ⟨G, 5, none⟩ (.int .i64 (y.y + n))).ownsRow (w.heap.size + 1) 45 6 u7 L.length (nds L)) := Lib.hid (own_keep1 HOY.out (fun g hg => by have hg2 := HOG.out g hg; exact (Below.heap_setCell _ _ _ _ (by show g ≠ G; omega)).trans (Below.heap_setCell _ _ _ _ (by show g ≠ G; omega))))
                  have HXZ : Hid (Box ((wy.setCell ⟨G, 4, none⟩ (.int .i64 (y.x + n))).setCell ⟨G, 5, none⟩ (.int .i64 (y.y + n))) w.heap.size x) := Lib.hid (HXY.out.keep ((Below.heap_setCell _ _ _ _ (by show w.heap.size ≠ G; omega)).trans (Below.heap_setCell _ _ _ _ (by show w.heap.size ≠ G; omega))))
                  have HBZ : Hid (Below w.heap.size w ((wy.setCell ⟨G, 4, none⟩ (.int .i64 (y.x + n))).setCell ⟨G, 5, none⟩ (.int .i64 (y.y + n)))) := Lib.hid ((HBWY.out.setCell (by show w.heap.size ≤ G; omega) _).setCell (by show w.heap.size ≤ G; omega) _)
                  have hsz9 : w.heap.size + 1 < ((wy.setCell ⟨G, 4, none⟩ (.int .i64 (y.x + n))).setCell ⟨G, 5, none⟩ (.int .i64 (y.y + n))).heap.size := by first | omega | (simp; omega)
                  go_wp2_with (at_builtin; refine wp_appN ⟨y.op, y.i, y.e, y.g, y.x + n, y.y + n⟩ _ rfl _ _ rfl (w.heap.size + 1) _ _ rfl (HOZ.out.alloc _) rfl ?k1 ?k2 ?k3 ?_)
                  case k1 =>
                    intro j' u hj'
                    have hh := heap_alloc_new ((wy.setCell ⟨G, 4, none⟩ (.int .i64 (y.x + n))).setCell ⟨G, 5, none⟩ (.int .i64 (y.y + n))) (.cells #[.int .i64 y.op, .int .i64 y.i, .int .i64 y.e, .int .i64 y.g, .int .i64 (y.x + n), .int .i64 (y.y + n)] 45)
                    have hs8 : (((wy.setCell ⟨G, 4, none⟩ (.int .i64 (y.x + n))).setCell ⟨G, 5, none⟩ (.int .i64 (y.y + n)))).heap.size = G + 1 := by first | exact hsy | simpa using hsy
                    rw [hs8] at hh
                    rw [Lib.cell_of_heap hh j', ← hj']
                    simp [ndC]
                  case k2 => omega
                  case k3 => simp; omega
                  · intro v' w5 hown5 hgrow
                    have HO5 : Hid (w5.ownsRow (w.heap.size + 1) 45 6 v' (catL f g (j + 1)).length (nds (catL f g (j + 1)))) := Lib.hid (by rw [HT.out, List.length_append, hlen]; exact hown5)
                    have HX5 := Lib.hid (HXZ.out.keep (W' := w5) ((hgrow.block w.heap.size (by simp; omega) (fun e => by have := (HOZ.out.lt w.heap.size e.symm).1; omega)).trans (Below.heap_alloc _ _ _ (by omega))))
                    have HB5 : Hid (Below w.heap.size w w5) := Lib.hid ((HBZ.out.alloc (by omega) _).grown hgrow (by simp; omega) (fun g hg => by have := (HOZ.out.lt g hg).1; omega))
                    have hs5 : w.heap.size < w5.heap.size := by have := hgrow.size; simp at this; omega
                    clear hown5 hgrow b0 b1 b2 b3 b4 b5 bf4 bf5
                    go_wp2
                    go_roundw
                    case rel => exact ⟨j + 1, by omega, by go_num, HO5, HX5, HB5, hs5⟩
                    case measure => simp [intOf]; omega
            · have hjn : j = n2 := by omega
              rw [hjn, HCLE.out, HCLL.out] at HO
              obtain ⟨b0, b1, b2, b3, b4, b5, bf⟩ := HX.out
              have bf4 := bf 4
              have bf5 := bf 5
              obtain ⟨A7, c7, rfl⟩ := own_sl HO.out
              have HBXk := Lib.hid ((HX.out.setX (k : Int)).setY (k2 : Int))
              have HB2s : Hid (Below w.heap.size w ((wr.setCell ⟨w.heap.size, 4, none⟩ (.int .i64 (k : Int))).setCell ⟨w.heap.size, 5, none⟩ (.int .i64 (k2 : Int)))) := Lib.hid ((HB.out.setCell (Nat.le_refl _) _).setCell (Nat.le_refl _) _)
              have HOs : Hid (((wr.setCell ⟨w.heap.size, 4, none⟩ (.int .i64 (k : Int))).setCell ⟨w.heap.size, 5, none⟩ (.int .i64 (k2 : Int))).ownsRow (w.heap.size + 1) 45 6 (.slice A7 (n + n2) c7) (n + n2) (nds FG)) := Lib.hid (ownsRow_setCell_below (ownsRow_setCell_below HO.out (by show w.heap.size < w.heap.size + 1; omega) _) (by show w.heap.size < w.heap.size + 1; omega) _)
              have hs2s : w.heap.size < ((wr.setCell ⟨w.heap.size, 4, none⟩ (.int .i64 (k : Int))).setCell ⟨w.heap.size, 5, none⟩ (.int .i64 (k2 : Int))).heap.size := by simpa using hsz
              have hd : decide (n2 ≤ j) = true := decide_eq_true (by omega)
              clear bf hjn hj
              go_wp2_with fail
              clear b0 b1 b2 b3 b4 b5 bf4 bf5
              generalize (wr.setCell ⟨w.heap.size, 4, none⟩ (.int .i64 (k : Int))).setCell ⟨w.heap.size, 5, none⟩ (.int .i64 (k2 : Int)) = w4 at *
              refine (HN.out _).mono ?_
              rintro e w5 ⟨rfl, hb5⟩
              have HB5 := Lib.hid (HB2s.out.trans (hb5.mono (Nat.le_of_lt hs2s)))
              have HBX5 := Lib.hid (HBXk.out.keep (W' := w5) (hb5.block _ hs2s))
              have HO5 := Lib.hid (own_keep1 HOs.out (fun g' hg' => hb5.block g' (HOs.out.lt g' hg').2))
              have hs5 := Nat.lt_of_lt_of_le hs2s hb5.size
              clear hb5
              by_cases hz : z = 0
              · subst hz
                have hq : q = shortF (FG ++ [{ x with x := (k : Int), y := (k2 : Int) }]) := by rw [HU.out, if_pos rfl]
                have HS := Lib.hid (HSH.out rfl)
                rw [← hq] at HS
                clear HU HSH HN hq
                generalize ({ x with x := (k : Int), y := (k2 : Int) } : Nd) = x' at *
                obtain ⟨b0, b1, b2, b3, b4, b5, _⟩ := HBX5.out
                have hfl := HCLL.out
                go_wp2_with (at_builtin; refine wp_appN x' _ rfl _ _ rfl (w.heap.size + 1) _ _ rfl (by rw [hfl]; exact HO5.out.alloc _) rfl ?k1 ?k2 ?k3 ?_)
                case k1 =>
                  intro j' u hj'
                  have hh := heap_alloc_new w5 (.cells #[.int .i64 x'.op, .int .i64 x'.i, .int .i64 x'.e, .int .i64 x'.g, .int .i64 x'.x, .int .i64 x'.y] 45)
                  rw [Lib.cell_of_heap hh j', ← hj']
                  simp [ndC]
                case k2 => omega
                case k3 => simp; omega
                · intro v' w6 hown6 hgrow
                  obtain ⟨A6, c6, rfl⟩ := own_sl hown6
                  have HR6 := Lib.hid (Reads.of_own hown6)
                  have HB6 : Hid (Below w.heap.size w w6) := Lib.hid ((HB5.out.alloc (by omega) _).grown hgrow (by simp; omega) (fun g hg => by have := (HO5.out.lt g hg).1; omega))
                  clear hown6 hgrow b0 b1 b2 b3 b4 b5
                  go_wp2_with fail
                  refine (HS.out _ _ _ HR6.out).mono ?_
                  rintro e w7 ⟨A8, c8, rfl, hR8, hb8⟩
                  have HR8 := Lib.hid hR8
                  have HB8 := Lib.hid (HB6.out.trans (hb8.mono HB6.out.size))
                  clear hR8 hb8
                  go_wp2
                  go_ret
                  exact ⟨A8, c8, rfl, HR8.out, HB8.out⟩
              · have hq : q = [] := by rw [HU.out, if_neg hz]
                have hzb : (z != 0) = true := by simpa using hz
                clear hz HU HSH HN
                subst hq
                go_wp2
                go_ret
                exact ⟨none, 0, rfl, World.ownsRow_nil _ _ _ _, HB5.out⟩
    · have hq : binaryF x f g = [] := by unfold binaryF; rw [if_pos hz, if_neg hz2]
      rw [hq]
      have hzb : (fErr g != 0) = true := by simpa using hz2
      generalize fErr g = z at *
      unfold nv
      clear hq hz hz2 hl hl2
      go_enter Tryd.func71, Tryd.ntmps71
      go_wp2_with fail
      generalize w.alloc (.cells #[.int .i64 x.op, .int .i64 x.i, .int .i64 x.e, .int .i64 x.g, .int .i64 x.x, .int .i64 x.y] 45) = w0 at *
      refine (HCZ.out _ HB0.out).mono ?_
      rintro e w1 ⟨rfl, hb1⟩
      have HB1 := Lib.hid (HB0.out.trans (hb1.mono (Nat.le_of_lt hs0)))
      clear hb1
      go_wp2_with fail
      refine (HC2.out _ HB1.out).mono ?_
      rintro e w2 ⟨rfl, hb2⟩
      have HB2 := Lib.hid (HB1.out.trans (hb2.mono HB1.out.size))
      clear hb2
      go_wp2
      go_ret
      exact ⟨none, 0, rfl, World.ownsRow_nil _ _ _ _, HB2.out⟩
  · have hq : binaryF x f g = [] := by unfold binaryF; rw [if_neg hz]
    rw [hq]
    have hzb : (fErr f != 0) = true := by simpa using hz
    generalize fErr f = z at *
    unfold nv
    clear hq hz hl hl2
    go_enter Tryd.func71, Tryd.ntmps71
    go_wp2_with fail
    generalize w.alloc (.cells #[.int .i64 x.op, .int .i64 x.i, .int .i64 x.e, .int .i64 x.g, .int .i64 x.x, .int .i64 x.y] 45) = w0 at *
    refine (HC.out _ HB0.out).mono ?_
    rintro e w1 ⟨rfl, hb1⟩
    have HB1 := Lib.hid (HB0.out.trans (hb1.mono (Nat.le_of_lt hs0)))
    clear hb1
    go_wp2
    go_ret
    exact ⟨none, 0, rfl, World.ownsRow_nil _ _ _ _, HB1.out⟩
end Go.Proofs.YtkcedppepepgfaaDoor
/- Layer 8: the mathematics of the reference's Rebuild and Subst. -/
namespace Go.Proofs.YtkcedppepepgfaaDoor
open Go Go.Proofs.Ws
/-- a node and the results of its operands -/
def rebF (n : Nd) (a b : List Nd) : List Nd := if usesY n.op = true then binaryF (bare n) a b else if usesX n.op = true then unaryF (bare n) a else oneF (bare n)
theorem short_res (t : Tr) : shortT t = resL t := rfl
theorem treeOf_can {t : Tr} (h : trOk t) : treeOf (canT t) = t := canT_tree h
theorem unary_nil (x : Nd) : unaryF x [] = [] := rfl
theorem binary_nil1 (x : Nd) (g : List Nd) : binaryF x [] g = [] := rfl
theorem binary_nil2 (x : Nd) (f : List Nd) : binaryF x f [] = [] := by
  unfold binaryF
  split
  · rfl
  · rfl
/-- rebuilding is the node of the trees; what is too long stays empty -/
theorem reb_res {n : Nd} (hn : fldOk n) {a b : Tr} (hx : usesX n.op = true → AllOk a) (hy : usesY n.op = true → AllOk b) : rebF n (resL a) (resL b) = resL (mkT (bare n) a b) := by
  have hk : known (bare n).op = true := hn.1
  have hc : cleanN (bare n) := hn.2.1
  have hr : rangeOk (bare n) = true := hn.2.2
  have hb : bare (bare n) = bare n := rfl
  have hall : AllOk (mkT (bare n) a b) := all_mk hb hn hx hy
  unfold rebF mkT at *
  by_cases h2 : usesY n.op = true
  · have h1 := usesY_X h2
    rw [if_pos h2]
    rw [if_pos (show usesY (bare n).op = true from h2)] at hall ⊢
    have ha := hx h1
    have hbb := hy h2
    by_cases la : 200 < (canT a).length
    · rw [resL_nil.2 la, binary_nil1]
      exact (resL_part hall.1 (sub_bin1 _ a b) (resL_nil.2 la)).symm
    · by_cases lb : 200 < (canT b).length
      · rw [resL_nil.2 lb, binary_nil2]
        exact (resL_part hall.1 (sub_bin2 _ a b) (resL_nil.2 lb)).symm
      · rw [resL_short (by omega : (canT a).length ≤ 200), resL_short (by omega : (canT b).length ≤ 200), ← buildF_bin (n := bare n) hk hc h1 h2, build_bin hk hc hr hb h1 h2 (canT_good ha (by omega)) (canT_good hbb (by omega)), treeOf_can ha.1, treeOf_can hbb.1]
        rfl
  · have h2f : usesY n.op = false := by simpa using h2
    rw [if_neg h2]
    rw [if_neg (show ¬ usesY (bare n).op = true from h2)] at hall ⊢
    by_cases h1 : usesX n.op = true
    · rw [if_pos h1]
      rw [if_pos (show usesX (bare n).op = true from h1)] at hall ⊢
      have ha := hx h1
      by_cases la : 200 < (canT a).length
      · rw [resL_nil.2 la, unary_nil]
        exact (resL_part hall.1 (sub_un _ a) (resL_nil.2 la)).symm
      · rw [resL_short (by omega : (canT a).length ≤ 200), ← buildF_un (n := bare n) hk hc rfl h1 h2f, build_un hk hc hr hb h1 h2f (canT_good ha (by omega)), treeOf_can ha.1]
        rfl
    · have h1f : usesX n.op = false := by simpa using h1
      rw [if_neg h1]
      rw [if_neg (show ¬ usesX (bare n).op = true from h1)]
      rw [← buildF_one (n := bare n) hk hc rfl rfl h1f, build_leaf hk hc hr hb h1f, resL_short]
      simp [canT, finT, putNd]
/-- what the reference's Subst lays at a place -/
def subI (c : List Nd) (to l : List (List Nd)) (k : Nat) : List Nd :=
  if (c.getD k nd0).op = 3 ∧ (c.getD k nd0).i < (to.length : Int) then compF (to.getD (c.getD k nd0).i.toNat [])
  else rebF (c.getD k nd0) (if usesX (c.getD k nd0).op = true then l.getD (c.getD k nd0).x.toNat [] else []) (if usesY (c.getD k nd0).op = true then l.getD (c.getD k nd0).y.toNat [] else [])
def subLs (c : List Nd) (to : List (List Nd)) : Nat → List (List Nd)
  | 0 => []
  | k + 1 => subLs c to k ++ [subI c to (subLs c to k) k]
theorem subLs_len (c : List Nd) (to : List (List Nd)) : ∀ k, (subLs c to k).length = k
  | 0 => rfl
  | k + 1 => by show (subLs c to k ++ [_]).length = _; rw [List.length_append, subLs_len c to k]; rfl
/-- each place holds the result of its own tree -/
theorem subLs_at {c : List Nd} (hc : opsL c) (hf : ∀ n ∈ c, fldOk n) {to : List (List Nd)} (hto : ∀ g ∈ to, fErr g = 0) :
    ∀ k, k ≤ c.length → ∀ j, j < k → (subLs c to k).getD j [] = resL (mapT (subR (to.map tOf)) (treeAt c j))
  | 0, _, j, hj => absurd hj (by omega)
  | k + 1, hk, j, hj => by
    have ih := subLs_at hc hf hto k (by omega)
    have hlen := subLs_len c to k
    show (subLs c to k ++ [subI c to (subLs c to k) k]).getD j [] = _
    by_cases hjk : j < k
    · rw [List.getD_eq_getElem?_getD, List.getElem?_append_left (by omega), ← List.getD_eq_getElem?_getD]
      exact ih j hjk
    · have e : j = k := by omega
      subst e
      rw [List.getD_eq_getElem?_getD, List.getElem?_append_right (by omega), hlen, Nat.sub_self]
      show subI c to (subLs c to j) j = _
      have hjc : j < c.length := by omega
      have ho := hc j hjc
      have hn := hf _ (getD_mem hjc)
      have hkeep : KeepR (subR (to.map tOf)) := sub_keep (fun t ht => by
        obtain ⟨g, hg, rfl⟩ := List.mem_map.1 ht
        exact tOf_all (hto g hg))
      have hall : ∀ i, i < c.length → AllOk (mapT (subR (to.map tOf)) (treeAt c i)) := fun i hi => mapT_all hkeep _ ⟨treeAt_ok hc _ _ (Nat.lt_succ_self _) hi, treeAt_all hc (fun n hn => hf n hn) _ _ (Nat.lt_succ_self _) hi⟩
      rw [treeAt_eq hc hjc]
      unfold subI
      generalize c.getD j nd0 = n at *
      by_cases h3 : n.op = 3 ∧ n.i < (to.length : Int)
      · have h0 : 0 ≤ n.i := by
          have hr := hn.2.2
          unfold rangeOk at hr
          rw [h3.1] at hr
          simp [shN] at hr
          exact hr.1.1.1
        have hi : n.i.toNat < to.length := by omega
        have e1 : usesX n.op = false := by rw [h3.1]; rfl
        have e2 : usesY n.op = false := by rw [h3.1]; rfl
        rw [if_pos h3, if_neg (by rw [e2]; decide), if_neg (by rw [e1]; decide)]
        show _ = resL (subR (to.map tOf) (bare n) noT noT)
        have hm : to.getD n.i.toNat [] ∈ to := by
          rw [List.getD_eq_getElem?_getD, List.getElem?_eq_getElem hi]; exact List.getElem_mem _
        rw [subR_fact (n := bare n) h3.1 (by rw [List.length_map]; exact hi)]
        show _ = resL ((to.map tOf).getD n.i.toNat noT)
        have e3 : (to.map tOf).getD n.i.toNat noT = tOf (to.getD n.i.toNat []) := by
          rw [List.getD_eq_getElem?_getD, List.getElem?_map, List.getD_eq_getElem?_getD, List.getElem?_eq_getElem hi]; rfl
        rw [e3]
        have hz := hto _ hm
        have e4 : compF (to.getD n.i.toNat []) = canT (tOf (to.getD n.i.toNat [])) := compF_tree hz
        rw [e4, resL_short]
        rw [← e4]
        exact Nat.le_trans (compF_le _) (fErr_ok hz).2.1
      · rw [if_neg h3]
        have hR : ∀ a b : Tr, subR (to.map tOf) (bare n) a b = mkT (bare n) a b := fun a b => if_neg (fun h => h3 ⟨h.1, by
          have h4 : n.i.toNat < (to.map tOf).length := h.2
          rw [List.length_map] at h4
          omega⟩)
        by_cases h2 : usesY n.op = true
        · have h1 := usesY_X h2
          have hx := opsOk_x ho h1
          have hy := opsOk_y ho h2
          rw [if_pos h1, if_pos h2, if_pos h2, ih _ hx.2, ih _ hy.2, reb_res hn (fun _ => hall _ (by omega)) (fun _ => hall _ (by omega))]
          show _ = resL (subR (to.map tOf) (bare n) _ _)
          rw [hR]
        · rw [if_neg h2, if_neg h2]
          by_cases h1 : usesX n.op = true
          · have hx := opsOk_x ho h1
            rw [if_pos h1, if_pos h1, ih _ hx.2]
            show _ = resL (subR (to.map tOf) (bare n) _ noT)
            rw [hR, ← reb_res hn (b := noT) (fun _ => hall _ (by omega)) (fun h => absurd h h2)]
            unfold rebF
            rw [if_neg h2, if_neg h2, if_pos h1]
          · rw [if_neg h1, if_neg h1]
            show _ = resL (subR (to.map tOf) (bare n) noT noT)
            rw [hR, ← reb_res hn (a := noT) (b := noT) (fun h => absurd h h1) (fun h => absurd h h2)]
            unfold rebF
            rw [if_neg h2, if_neg h2, if_neg h1, if_neg h1]
end Go.Proofs.YtkcedppepepgfaaDoor
/- Layer 8: the reference's Rebuild and done. -/
namespace Go.Proofs.YtkcedppepepgfaaDoor
open Go.RowKit Go.Proofs.Ws Go.Maps
set_option maxRecDepth 100000
theorem done_nil (A : Option Addr) (c : Nat) (w : World) : Calls Tryd.prog 51 #[.slice A 0 c] w fun e w' => e = .returned (.tuple #[.slice none 0 0, .int .i64 8]) ∧ w = w' := by
  go_enter Tryd.func51, Tryd.ntmps51
  go_wp2
  go_ret2
  exact ⟨rfl, rfl⟩
theorem done_ok (A : Option Addr) (n c : Nat) (w : World) (hn : n ≠ 0) : Calls Tryd.prog 51 #[.slice A n c] w fun e w' => e = .returned (.tuple #[.slice A n c, .int .i64 0]) ∧ w = w' := by
  have hb : ((n : Int) == 0) = false := by simpa using hn
  go_enter Tryd.func51, Tryd.ntmps51
  go_wp2
  go_ret2
  exact ⟨rfl, rfl⟩
set_option maxHeartbeats 4000000 in
theorem reb_any (x : Nd) (hk : known x.op = true) (a b : List Nd) (A B : Option Addr) (ca cb : Nat) (w : World) (hA : Reads w w.heap.size 6 A a.length (nds a)) (hla : a.length ≤ maxLen) (hB : Reads w w.heap.size 6 B b.length (nds b)) (hlb : b.length ≤ maxLen) :
    Calls Tryd.prog 50 #[nv x, .slice A a.length ca, .slice B b.length cb] w fun e w' => ∃ A' c', e = .returned (.slice A' (rebF x a b).length c') ∧ w'.ownsRow 0 45 6 (.slice A' (rebF x a b).length c') (rebF x a b).length (nds (rebF x a b)) ∧ Below w.heap.size w w' := by
  have HA := Lib.hid hA
  have HB := Lib.hid hB
  clear hA hB
  have HFA : Hid (∀ W, Below w.heap.size w W → Reads W W.heap.size 6 A a.length (nds a)) := Lib.hid (fun W h => (HA.out.below h).more h.size)
  have HFB : Hid (∀ W, Below w.heap.size w W → Reads W W.heap.size 6 B b.length (nds b)) := Lib.hid (fun W h => (HB.out.below h).more h.size)
  have HBZ : Hid (Below w.heap.size w (w.alloc (.cells #[.int .i64 x.op, .int .i64 x.i, .int .i64 x.e, .int .i64 x.g, .int .i64 0, .int .i64 0] 45))) := Lib.hid ((Below.refl _ w).alloc (Nat.le_refl _) _)
  unfold nv
  by_cases h2 : usesY x.op = true
  · have HU : Hid (∀ W, Calls Tryd.prog 47 #[.int .i64 x.op] W fun e w' => e = .returned (.bool true) ∧ W = w') := Lib.hid (fun W => by have := rUsesY_any x.op hk W; rw [h2] at this; exact this)
    rw [show rebF x a b = binaryF (bare x) a b from if_pos h2]
    have HR := Lib.hid (fun (W : World) (h : Below w.heap.size w W) => rBinary_own (bare x) a b A B a.length ca b.length cb W (HFA.out W h) hla (HFB.out W h) hlb)
    generalize binaryF (bare x) a b = q at *
    unfold nv bare at HR
    dsimp only at HR
    clear h2
    go_enter Tryd.func50, Tryd.ntmps50
    go_wp2_with fail
    refine (HU.out _).mono ?_
    rintro r w1 ⟨rfl, rfl⟩
    go_wp2_with fail
    refine (HR.out _ HBZ.out).mono ?_
    rintro r w2 ⟨A', c', rfl, ho, hb⟩
    have HO := Lib.hid ho
    have HB2 := Lib.hid (HBZ.out.trans (hb.mono HBZ.out.size))
    clear ho hb
    go_wp2
    go_ret
    exact ⟨A', c', rfl, HO.out, HB2.out⟩
  · have h2f : usesY x.op = false := by simpa using h2
    have HU : Hid (∀ W, Calls Tryd.prog 47 #[.int .i64 x.op] W fun e w' => e = .returned (.bool false) ∧ W = w') := Lib.hid (fun W => by have := rUsesY_any x.op hk W; rw [h2f] at this; exact this)
    by_cases h1 : usesX x.op = true
    · have HV : Hid (∀ W, Calls Tryd.prog 46 #[.int .i64 x.op] W fun e w' => e = .returned (.bool true) ∧ W = w') := Lib.hid (fun W => by have := rUsesX_any x.op hk W; rw [h1] at this; exact this)
      rw [show rebF x a b = unaryF (bare x) a from (if_neg h2).trans (if_pos h1)]
      have HR := Lib.hid (fun (W : World) (h : Below w.heap.size w W) => rUnary_own (bare x) a A a.length ca W (HFA.out W h) hla)
      generalize unaryF (bare x) a = q at *
      unfold nv bare at HR
      dsimp only at HR
      clear h2 h2f h1
      go_enter Tryd.func50, Tryd.ntmps50
      go_wp2_with fail
      refine (HU.out _).mono ?_
      rintro r w1 ⟨rfl, rfl⟩
      go_wp2_with fail
      refine (HV.out _).mono ?_
      rintro r w1 ⟨rfl, rfl⟩
      go_wp2_with fail
      refine (HR.out _ HBZ.out).mono ?_
      rintro r w2 ⟨A', c', rfl, ho, hb⟩
      have HO := Lib.hid ho
      have HB2 := Lib.hid (HBZ.out.trans (hb.mono HBZ.out.size))
      clear ho hb
      go_wp2
      go_ret
      exact ⟨A', c', rfl, HO.out, HB2.out⟩
    · have h1f : usesX x.op = false := by simpa using h1
      have HV : Hid (∀ W, Calls Tryd.prog 46 #[.int .i64 x.op] W fun e w' => e = .returned (.bool false) ∧ W = w') := Lib.hid (fun W => by have := rUsesX_any x.op hk W; rw [h1f] at this; exact this)
      rw [show rebF x a b = oneF (bare x) from (if_neg h2).trans (if_neg h1)]
      have HR := Lib.hid (fun (W : World) => rOne_own (bare x) W)
      generalize oneF (bare x) = q at *
      unfold nv bare at HR
      dsimp only at HR
      clear h2 h2f h1 h1f
      go_enter Tryd.func50, Tryd.ntmps50
      go_wp2_with fail
      refine (HU.out _).mono ?_
      rintro r w1 ⟨rfl, rfl⟩
      go_wp2_with fail
      refine (HV.out _).mono ?_
      rintro r w1 ⟨rfl, rfl⟩
      go_wp2_with fail
      refine (HR.out _).mono ?_
      rintro r w2 ⟨A', c', rfl, ho, hb⟩
      have HO := Lib.hid ho
      have HB2 := Lib.hid (HBZ.out.trans (hb.mono HBZ.out.size))
      clear ho hb
      go_wp2
      go_ret
      exact ⟨A', c', rfl, HO.out, HB2.out⟩
end Go.Proofs.YtkcedppepepgfaaDoor
/- Layer 8: the reference's Subst. -/
namespace Go.Proofs.YtkcedppepepgfaaDoor
open Go.RowKit Go.Proofs.Ws Go.Maps
set_option maxRecDepth 100000
theorem LL.at_ {W : World} {b : Nat} {v : Value} {ls : List (List Nd)} (h : LL W b v ls) {n : Nat} (hn : ls.length = n) : ∃ A c, v = .slice A n c ∧ ∀ k, k < n → ∃ ad Aj cj, A = some ad ∧ W.cell? (ad.add k) = some (.slice Aj (ls.getD k []).length cj) ∧ Reads W W.heap.size 6 Aj (ls.getD k []).length (nds (ls.getD k [])) := by
  subst hn
  obtain ⟨A, c, e, h2⟩ := h.slice
  refine ⟨A, c, e, fun k hk => ?_⟩
  obtain ⟨ad, Aj, cj, h3, h4, h5⟩ := h2 k hk
  exact ⟨ad, Aj, cj, h3, h4, Reads.of_own h5⟩
theorem resL_le (t : Tr) : (resL t).length ≤ 200 := by
  unfold resL
  split
  · simp
  · omega
/-- what the reference's Subst lays for a formula and formulas in order -/
structure SubR (f : List Nd) (ls : List (List Nd)) (q : List Nd) : Prop where
  ok : OkL q
  kn : knownL q
  fld : ∀ n ∈ q, fldOk n
  len : q.length ≤ 200
  short : ∀ k, k ≤ q.length → ∀ j, j < k → ((subLs q ls k).getD j []).length ≤ 200
  last : (subLs q ls q.length).getD (q.length - 1) [] = subFF f ls
  err : subEE f ls = if subFF f ls = [] then 8 else 0
theorem subR_of {f : List Nd} {ls : List (List Nd)} (hz : fErr f = 0) (hl : lsErr ls = 0) : SubR f ls (compF f) := by
  have hk := compF_ok hz
  have ok := OkL_of hk
  have hto := lsErr_all hl
  have at_ := subLs_at (c := compF f) ok.ops (fErr_fld hk) hto
  refine ⟨ok, fErr_known hk, fErr_fld hk, (fErr_ok hk).2.1, fun k hk2 j hj => ?_, ?_, ?_⟩
  · rw [at_ k hk2 j hj]; exact resL_le _
  · have hp := List.length_pos_iff.2 ok.ne
    rw [at_ _ (Nat.le_refl _) _ (by omega)]
    unfold subFF
    rw [if_pos ⟨hz, hl⟩, ← tOf_comp hz]
    rfl
  · unfold subEE subFF
    rw [if_pos hz, if_pos hl, if_pos (And.intro hz hl)]
    unfold resE
    by_cases h : 200 < (canT (mapT (subR (ls.map tOf)) (tOf f))).length
    · rw [if_pos h, if_pos (resL_nil.2 h)]
    · rw [if_neg h, if_neg (fun k => h (resL_nil.1 k))]
set_option maxHeartbeats 16000000 in
theorem rSubst_any (f : List Nd) (A : Option Addr) (n c : Nat) (ls : List (List Nd)) (At : Option Addr) (nt ct : Nat) (w : World) (hR : Reads w w.heap.size 6 A n (nds f)) (hm : n ≤ maxLen) (hL : LsR w w.heap.size At nt ls) (hnt : nt ≤ 1000000) :
    Calls Tryd.prog 16 #[.slice A n c, .slice At nt ct] w fun e w' => ∃ A' c', e = .returned (.tuple #[.slice A' (subFF f ls).length c', .int .i64 (subEE f ls)]) ∧ Reads w' w'.heap.size 6 A' (subFF f ls).length (nds (subFF f ls)) ∧ Below w.heap.size w w' := by
  have HV := Lib.hid (rCheck_any f A n c w hR hm)
  have HR := Lib.hid hR
  have HL := Lib.hid hL
  have HLL := Lib.hid hL.len
  by_cases hz : fErr f = 0
  · have HC := Lib.hid (fun W (h : Reads W W.heap.size 6 A n (nds f)) => rCompact_any f A n c W h hm)
    have HSR := Lib.hid (fun h : lsErr ls = 0 => subR_of (ls := ls) hz h)
    have HRE2 : Hid (¬ lsErr ls = 0 → subFF f ls = [] ∧ subEE f ls = lsErr ls) := Lib.hid (fun hl => by
      refine ⟨?_, ?_⟩
      · unfold subFF; rw [if_neg (fun k => hl k.2)]
      · unfold subEE; rw [if_pos hz, if_neg hl])
    rw [hz] at HV
    have HG := Lib.hid (fun (g : List Nd) (h : g ∈ ls) (hl : lsErr ls = 0) => lsErr_all hl g h)
    obtain ⟨i0, hi, hz0, hz1, hz2⟩ := info_parts Tryd.infoSl
    clear hR hm hL
    generalize compF f = q at *
    generalize hrfe : subFF f ls = rf at *
    generalize hree : subEE f ls = re at *
    have HRF := Lib.hid hrfe
    have HREE := Lib.hid hree
    clear hrfe hree
    go_enter Tryd.func16, Tryd.ntmps16
    go_wp2_with fail
    refine (HV.out).mono ?_
    rintro e w1 ⟨rfl, hb⟩
    have HB1 := Lib.hid hb
    clear hb
    go_wp2
    go_loopw [8, 9, 24] (fun _ _ i wr => ∃ k : Nat, k ≤ nt ∧ i = .int .i64 k ∧ Hid (lsErr ls = lsErr (ls.drop k)) ∧ Hid (Below w1.heap.size w1 wr)) (fun _ _ i _ => nt - (intOf i).toNat)
    case atStart => exact ⟨0, Nat.zero_le _, rfl, Lib.hid rfl, Lib.hid (Below.refl _ _)⟩
    case round =>
      obtain ⟨k, hk, rfl, HZ, HBR⟩ := hrel
      have HBW := Lib.hid (HB1.out.trans (HBR.out.mono HB1.out.size))
      by_cases hlt : k < nt
      · obtain ⟨ad, Aj, cj, rfl, hadb, hadc, hrd, hml⟩ := (HL.out.below HBW.out (Nat.le_refl _)).at_ hlt
        have HZK := Lib.hid (lsErr_drop ls k (by have := HLL.out; omega))
        have CV := Lib.hid (rCheck_any (ls.getD k []) Aj (ls.getD k []).length cj wr (hrd.more HBW.out.size) hml)
        clear hrd hml
        by_cases hgz : fErr (ls.getD k []) = 0
        · rw [hgz] at CV
          have HZ2 : Hid (lsErr ls = lsErr (ls.drop (k + 1))) := Lib.hid (by rw [HZ.out, HZK.out, if_pos hgz])
          clear hgz HZK
          go_wp2_with fail
          refine (CV.out).mono ?_
          rintro e w2 ⟨rfl, hb2⟩
          have HBR2 := Lib.hid (HBR.out.trans (hb2.mono HBR.out.size))
          clear hb2
          go_wp2
          go_roundw
          case rel => exact ⟨k + 1, by omega, by go_num, HZ2, HBR2⟩
          case measure => first | (simp [intOf]; done) | (simp [intOf]; omega)
        · have HZ2 : Hid (lsErr ls = fErr (ls.getD k [])) := Lib.hid (by rw [HZ.out, HZK.out, if_neg hgz])
          have HX := Lib.hid (HRE2.out (by rw [HZ2.out]; exact hgz))
          generalize hge : fErr (ls.getD k []) = eg at *
          clear HZK hge
          go_wp2_with fail
          refine (CV.out).mono ?_
          rintro e w2 ⟨rfl, hb2⟩
          have HB2 := Lib.hid (HBW.out.trans (hb2.mono HBW.out.size))
          clear hb2
          go_wp2
          go_ret2
          rw [HX.out.1, HX.out.2, HZ2.out]
          exact ⟨none, 0, rfl, Reads.none_, HB2.out⟩
      · have hkn : k = nt := by omega
        subst hkn
        have HZ0 : Hid (lsErr ls = 0) := Lib.hid (by rw [HZ.out, List.drop_of_length_le (by have := HLL.out; omega)]; rfl)
        have HS := Lib.hid (HSR.out HZ0.out)
        clear HSR HRE2
        go_wp2_with fail
        refine (HC.out wr ((HR.out.below HBW.out).more HBW.out.size)).mono ?_
        rintro e w2 ⟨Aq, cq, rfl, hq, hb2⟩
        have HQ := Lib.hid hq
        have HB2 := Lib.hid (HBW.out.trans (hb2.mono HBW.out.size))
        clear hb2 hq
        generalize wr = wo at *
        go_wp2
        go_loopw [11, 13, 14, 15, 16, 38] (fun v _ _ _ _ i wr => ∃ j : Nat, j ≤ q.length ∧ i = .int .i64 j ∧ Hid (LL wr w2.heap.size v (subLs q ls j)) ∧ Hid (Below w2.heap.size w2 wr)) (fun _ _ _ _ _ i _ => q.length - (intOf i).toNat)
        case atStart => exact ⟨0, Nat.zero_le _, rfl, Lib.hid (LL.nil _ _), Lib.hid (Below.refl _ _)⟩
        case round =>
          obtain ⟨j, hj, rfl, HLJ, HBI⟩ := hrel
          obtain ⟨Al, cl, rfl, hit⟩ := HLJ.out.at_ (subLs_len q ls j)
          have HIT := Lib.hid hit
          have HB3 := Lib.hid (HB2.out.trans (HBI.out.mono HB2.out.size))
          have hsz := HBI.out.size
          clear hit
          by_cases hlj : j < q.length
          · obtain ⟨aq, rfl, hbq, m0, m1, m2, m3, m4, m5⟩ := (HQ.out.below HBI.out).nd_at hlj
            have l1 := add_cell m1
            have l2 := add_cell m2
            have l3 := add_cell m3
            have l4 := add_cell m4
            have l5 := add_cell m5
            have HIL := Lib.hid (fun k2 (h : k2 < j) => HS.out.short j hj k2 h)
            have HEXT : Hid (subLs q ls (j + 1) = subLs q ls j ++ [subI q ls (subLs q ls j) j]) := Lib.hid rfl
            have ho := HS.out.ok.ops j hlj
            have hfld := HS.out.fld _ (getD_mem hlj)
            have HSI : Hid (subI q ls (subLs q ls j) j = if (q.getD j nd0).op = 3 ∧ (q.getD j nd0).i < (ls.length : Int) then compF (ls.getD (q.getD j nd0).i.toNat [])
              else rebF (q.getD j nd0) (if usesX (q.getD j nd0).op = true then (subLs q ls j).getD (q.getD j nd0).x.toNat [] else []) (if usesY (q.getD j nd0).op = true then (subLs q ls j).getD (q.getD j nd0).y.toNat [] else [])) := Lib.hid rfl
            have HLEN := Lib.hid (subLs_len q ls j)
            generalize subI q ls (subLs q ls j) j = sI at *
            generalize subLs q ls j = l at *
            generalize q.getD j nd0 = y at *
            obtain ⟨op, i, e, g, x, yy⟩ := y
            dsimp only at m0 m1 m2 m3 m4 m5 l1 l2 l3 l4 l5 ho hfld HSI
            have hkn : known op = true := hfld.1
            have HFLD := Lib.hid hfld
            have HOP := Lib.hid ho
            have HUX := Lib.hid (fun W => rUsesX_any op hkn W)
            have HUY := Lib.hid (fun W => rUsesY_any op hkn W)
            have HBX := Lib.hid (Box.made wr ⟨op, i, e, g, x, yy⟩ 45)
            have HBA : Hid (Below wr.heap.size wr (wr.alloc (.cells #[.int .i64 op, .int .i64 i, .int .i64 e, .int .i64 g, .int .i64 x, .int .i64 yy] 45))) := Lib.hid ((Below.refl _ wr).alloc (Nat.le_refl _) _)
            have HSA : Hid (wr.heap.size < (wr.alloc (.cells #[.int .i64 op, .int .i64 i, .int .i64 e, .int .i64 g, .int .i64 x, .int .i64 yy] 45)).heap.size) := Lib.hid (by simp)
            clear hfld ho
            by_cases hux : usesX op = true
            · rw [hux] at HUX
              have hx := opsOk_x HOP.out hux
              dsimp only at hx
              obtain ⟨kx, hkx⟩ : ∃ kx : Nat, x = (kx : Int) := ⟨x.toNat, by omega⟩
              subst hkx
              have hx2 : kx < j := by omega
              obtain ⟨ad, Ax, cx, rfl, hcx, hrx⟩ := HIT.out kx hx2
              have HLX := Lib.hid (HIL.out kx hx2)
              have hop3 : (op == 3) = false := by
                rw [beq_eq_false_iff_ne]; intro h; rw [h] at hux; cases hux
              have HNF : Hid (¬ (op = 3 ∧ i < (ls.length : Int))) := Lib.hid (fun h => by rw [h.1] at hux; cases hux)
              have HCX := Lib.hid hcx
              have HRX := Lib.hid hrx
              clear hcx hrx hx
              by_cases huy : usesY op = true
              · rw [huy] at HUY
                have hy := opsOk_y HOP.out huy
                dsimp only at hy
                obtain ⟨ky, hky⟩ : ∃ ky : Nat, yy = (ky : Int) := ⟨yy.toNat, by omega⟩
                subst hky
                have hy2 : ky < j := by omega
                obtain ⟨ad', Ay, cy, e1, hcy, hry⟩ := HIT.out ky hy2
                obtain rfl : ad = ad' := Option.some.inj e1
                have HLY := Lib.hid (HIL.out ky hy2)
                have HCY := Lib.hid hcy
                have HRY := Lib.hid hry
                have HSQ : Hid (sI = rebF ⟨op, i, e, g, (kx : Int), (ky : Int)⟩ (l.getD kx []) (l.getD ky [])) := Lib.hid (by rw [HSI.out, if_neg HNF.out, if_pos hux, if_pos huy]; rfl)
                have HREB := Lib.hid (fun (W : World) (hA : Reads W W.heap.size 6 Ax (l.getD kx []).length (nds (l.getD kx []))) (hB : Reads W W.heap.size 6 Ay (l.getD ky []).length (nds (l.getD ky []))) => reb_any ⟨op, i, e, g, (kx : Int), (ky : Int)⟩ hkn (l.getD kx []) (l.getD ky []) Ax Ay cx cy W hA (by have := HLX.out; unfold maxLen; omega) hB (by have := HLY.out; unfold maxLen; omega))
                rw [← HSQ.out] at HREB
                unfold nv at HREB
                dsimp only at HREB
                clear hcy hry hy e1 HSI HSQ hux huy HNF
                generalize l.getD kx [] = lx at *
                generalize l.getD ky [] = ly at *
                go_wp2_with fail
                refine (HUX.out _).mono ?_
                rintro r w4 ⟨rfl, rfl⟩
                generalize wr.alloc (.cells #[.int .i64 op, .int .i64 i, .int .i64 e, .int .i64 g, .int .i64 (kx : Int), .int .i64 (ky : Int)] 45) = w3 at *
                clear m0 m1 m2 m3 m4 m5 l1 l2 l3 l4 l5
                have hcx3 := (HBA.out.cell (p := ad.add kx) (by
                  rcases Nat.lt_or_ge (ad.add kx).block wr.heap.size with h' | h'
                  · exact h'
                  · have := HCX.out; simp [World.cell?, Array.getElem?_eq_none h'] at this)).trans HCX.out
                have hcy3 := (HBA.out.cell (p := ad.add ky) (by
                  rcases Nat.lt_or_ge (ad.add ky).block wr.heap.size with h' | h'
                  · exact h'
                  · have := HCY.out; simp [World.cell?, Array.getElem?_eq_none h'] at this)).trans HCY.out
                obtain ⟨b0, b1, b2, b3, b4, b5, _⟩ := HBX.out
                go_wp2_with fail
                refine (HUY.out _).mono ?_
                rintro r w4 ⟨rfl, rfl⟩
                go_wp2_with fail
                refine (HREB.out w3 ((HRX.out.below HBA.out).more HBA.out.size) ((HRY.out.below HBA.out).more HBA.out.size)).mono ?_
                rintro r w6 ⟨Ar, cr, rfl, ho6, hb6⟩
                clear b0 b1 b2 b3 b4 b5 hcx3 hcy3
                have HBX6 := Lib.hid (HBX.out.keep (W' := w6) (hb6.block _ HSA.out))
                have HB6 : Hid (Below w2.heap.size w2 w6) := Lib.hid ((HBI.out.trans (HBA.out.mono hsz)).trans (hb6.mono (by have := HBA.out.size; omega)))
                have HLJ6 := Lib.hid ((HLJ.out.below HBA.out).below hb6)
                have HSZ6 : Hid (w2.heap.size ≤ w6.heap.size) := Lib.hid (Nat.le_trans hsz (Nat.le_trans HBA.out.size hb6.size))
                have HOR := Lib.hid ho6
                clear ho6 hb6
                obtain ⟨b0, b1, b2, b3, b4, b5, _⟩ := HBX6.out
                obtain ⟨vs, hown, hitr⟩ := (HLJ6.out).row
                have HOW := Lib.hid hown
                have HITR := Lib.hid hitr
                have hll := HLEN.out
                have h200 := HS.out.len
                clear hitr
                go_wp2_with (at_builtin; refine wpList_append_own _ rfl _ _ 29 rfl w2.heap.size 22 i0 (.slice none 0 0) 1 24 Tryd.underlying29 hi hz0 hz1 hz2 rfl (by decide) _ _ _ rfl ((hll ▸ hown).alloc _) ⟨w6.heap.size, 0, none⟩ 1 1 [.slice Ar sI.length cr] rfl rfl ?k1 ?k2 ?k3 ?k4 ?k5 ?_)
                case k2 => intro u hu; simp at hu; subst hu; rfl
                case k3 => unfold maxLen; omega
                case k4 => have := HSZ6.out; omega
                case k5 => simp; have := HSZ6.out; omega
                case k1 =>
                  intro j' u hj'
                  match j', hj' with
                  | 0, hj' => simp at hj'; subst hj'; simp [Addr.add]
                · intro v' w7 hown' hgrow _
                  have HL7 : Hid (LL w7 w2.heap.size v' (subLs q ls (j + 1))) := Lib.hid (by rw [HEXT.out]; exact LL.app HOW.out HITR.out HOR.out (by rw [HLEN.out]; exact hown') hgrow)
                  have HB7 : Hid (Below w2.heap.size w2 w7) := Lib.hid ((HB6.out.alloc (by have := HSZ6.out; omega) _).grown hgrow (by simp; have := HSZ6.out; omega) (fun g hg => (HOW.out.lt g hg).1))
                  clear hown' hgrow hown
                  go_wp2
                  go_roundw
                  case rel => exact ⟨j + 1, by omega, by go_num, HL7, HB7⟩
                  case measure => first | (simp [intOf]; done) | (simp [intOf]; omega)
              · have huy2 : usesY op = false := by simpa using huy
                rw [huy2] at HUY
                have HSQ : Hid (sI = rebF ⟨op, i, e, g, (kx : Int), yy⟩ (l.getD kx []) []) := Lib.hid (by rw [HSI.out, if_neg HNF.out, if_pos hux, if_neg huy]; rfl)
                have HREB := Lib.hid (fun (W : World) (hA : Reads W W.heap.size 6 Ax (l.getD kx []).length (nds (l.getD kx []))) => reb_any ⟨op, i, e, g, (kx : Int), yy⟩ hkn (l.getD kx []) [] Ax none cx 0 W hA (by have := HLX.out; unfold maxLen; omega) Reads.none_ (Nat.zero_le _))
                rw [← HSQ.out] at HREB
                unfold nv at HREB
                dsimp only [List.length_nil] at HREB
                clear HSI HSQ hux huy huy2 HNF
                generalize l.getD kx [] = lx at *
                go_wp2_with fail
                refine (HUX.out _).mono ?_
                rintro r w4 ⟨rfl, rfl⟩
                generalize wr.alloc (.cells #[.int .i64 op, .int .i64 i, .int .i64 e, .int .i64 g, .int .i64 (kx : Int), .int .i64 yy] 45) = w3 at *
                clear m0 m1 m2 m3 m4 m5 l1 l2 l3 l4 l5
                have hcx3 := (HBA.out.cell (p := ad.add kx) (by
                  rcases Nat.lt_or_ge (ad.add kx).block wr.heap.size with h' | h'
                  · exact h'
                  · have := HCX.out; simp [World.cell?, Array.getElem?_eq_none h'] at this)).trans HCX.out
                obtain ⟨b0, b1, b2, b3, b4, b5, _⟩ := HBX.out
                go_wp2_with fail
                refine (HUY.out _).mono ?_
                rintro r w4 ⟨rfl, rfl⟩
                go_wp2_with fail
                refine (HREB.out w3 ((HRX.out.below HBA.out).more HBA.out.size)).mono ?_
                rintro r w6 ⟨Ar, cr, rfl, ho6, hb6⟩
                clear b0 b1 b2 b3 b4 b5 hcx3
                have HBX6 := Lib.hid (HBX.out.keep (W' := w6) (hb6.block _ HSA.out))
                have HB6 : Hid (Below w2.heap.size w2 w6) := Lib.hid ((HBI.out.trans (HBA.out.mono hsz)).trans (hb6.mono (by have := HBA.out.size; omega)))
                have HLJ6 := Lib.hid ((HLJ.out.below HBA.out).below hb6)
                have HSZ6 : Hid (w2.heap.size ≤ w6.heap.size) := Lib.hid (Nat.le_trans hsz (Nat.le_trans HBA.out.size hb6.size))
                have HOR := Lib.hid ho6
                clear ho6 hb6
                obtain ⟨b0, b1, b2, b3, b4, b5, _⟩ := HBX6.out
                obtain ⟨vs, hown, hitr⟩ := (HLJ6.out).row
                have HOW := Lib.hid hown
                have HITR := Lib.hid hitr
                have hll := HLEN.out
                have h200 := HS.out.len
                clear hitr
                go_wp2_with (at_builtin; refine wpList_append_own _ rfl _ _ 29 rfl w2.heap.size 22 i0 (.slice none 0 0) 1 24 Tryd.underlying29 hi hz0 hz1 hz2 rfl (by decide) _ _ _ rfl ((hll ▸ hown).alloc _) ⟨w6.heap.size, 0, none⟩ 1 1 [.slice Ar sI.length cr] rfl rfl ?k1 ?k2 ?k3 ?k4 ?k5 ?_)
                case k2 => intro u hu; simp at hu; subst hu; rfl
                case k3 => unfold maxLen; omega
                case k4 => have := HSZ6.out; omega
                case k5 => simp; have := HSZ6.out; omega
                case k1 =>
                  intro j' u hj'
                  match j', hj' with
                  | 0, hj' => simp at hj'; subst hj'; simp [Addr.add]
                · intro v' w7 hown' hgrow _
                  have HL7 : Hid (LL w7 w2.heap.size v' (subLs q ls (j + 1))) := Lib.hid (by rw [HEXT.out]; exact LL.app HOW.out HITR.out HOR.out (by rw [HLEN.out]; exact hown') hgrow)
                  have HB7 : Hid (Below w2.heap.size w2 w7) := Lib.hid ((HB6.out.alloc (by have := HSZ6.out; omega) _).grown hgrow (by simp; have := HSZ6.out; omega) (fun g hg => (HOW.out.lt g hg).1))
                  clear hown' hgrow hown
                  go_wp2
                  go_roundw
                  case rel => exact ⟨j + 1, by omega, by go_num, HL7, HB7⟩
                  case measure => first | (simp [intOf]; done) | (simp [intOf]; omega)
            · have hux2 : usesX op = false := by simpa using hux
              have huy : ¬ usesY op = true := fun h => hux (usesY_X h)
              have huy2 : usesY op = false := by simpa using huy
              rw [hux2] at HUX
              rw [huy2] at HUY
              have HREB := Lib.hid (fun (W : World) => reb_any ⟨op, i, e, g, x, yy⟩ hkn [] [] none none 0 0 W Reads.none_ (Nat.zero_le _) Reads.none_ (Nat.zero_le _))
              by_cases hq3 : op = 3 ∧ i < (k : Int)
              · obtain ⟨h3, hi3⟩ := hq3
                subst h3
                have hi0 : 0 ≤ i := by
                  have hr := HFLD.out.2.2
                  unfold rangeOk at hr
                  simp [shN] at hr
                  exact hr.1.1.1
                obtain ⟨iy, hiy⟩ : ∃ iy : Nat, i = (iy : Int) := ⟨i.toNat, by omega⟩
                subst hiy
                have hiy2 : iy < k := by omega
                have HSQ : Hid (sI = compF (ls.getD iy [])) := Lib.hid (by rw [HSI.out, if_pos ⟨rfl, by have := HLL.out; omega⟩]; rfl)
                generalize rebF ⟨3, (iy : Int), e, g, x, yy⟩ [] [] = rr at *
                unfold nv at HREB
                dsimp only [List.length_nil] at HREB
                clear HSI hux hux2 huy huy2 hi3 hi0
                go_wp2_with fail
                refine (HUX.out _).mono ?_
                rintro r w4 ⟨rfl, rfl⟩
                generalize wr.alloc (.cells #[.int .i64 3, .int .i64 (iy : Int), .int .i64 e, .int .i64 g, .int .i64 x, .int .i64 yy] 45) = w3 at *
                clear m0 m1 m2 m3 m4 m5 l1 l2 l3 l4 l5
                obtain ⟨b0, b1, b2, b3, b4, b5, _⟩ := HBX.out
                go_wp2_with fail
                refine (HUY.out _).mono ?_
                rintro r w4 ⟨rfl, rfl⟩
                go_wp2_with fail
                refine (HREB.out w3).mono ?_
                rintro r w6 ⟨Ar, cr, rfl, ho6, hb6⟩
                clear b0 b1 b2 b3 b4 b5
                have HBX6 := Lib.hid (HBX.out.keep (W' := w6) (hb6.block _ HSA.out))
                have HB6 : Hid (Below w2.heap.size w2 w6) := Lib.hid ((HBI.out.trans (HBA.out.mono hsz)).trans (hb6.mono (by have := HBA.out.size; omega)))
                have HLJ6 := Lib.hid ((HLJ.out.below HBA.out).below hb6)
                have HSZ6 : Hid (w2.heap.size ≤ w6.heap.size) := Lib.hid (Nat.le_trans hsz (Nat.le_trans HBA.out.size hb6.size))
                have HOR := Lib.hid ho6
                clear ho6 hb6
                obtain ⟨b0, b1, b2, b3, b4, b5, _⟩ := HBX6.out
                have HB36 : Hid (Below w.heap.size w w6) := Lib.hid (HB2.out.trans (HB6.out.mono HB2.out.size))
                obtain ⟨adt, At', ct', rfl, hadb, hadc, hrd, hml⟩ := (HL.out.below HB36.out (Nat.le_refl _)).at_ hiy2
                have CC := Lib.hid (rCompact_own (ls.getD iy []) At' (ls.getD iy []).length ct' w6 (hrd.more HB36.out.size) hml)
                rw [← HSQ.out] at CC
                clear hrd hml HSQ
                generalize (ls.getD iy []).length = lg at *
                go_wp2_with fail
                refine (CC.out).mono ?_
                rintro r w8 ⟨Ar, cr, rfl, ho8, hb8⟩
                have HB8 := Lib.hid (HB6.out.trans (hb8.mono HSZ6.out))
                have HLJ8 := Lib.hid (HLJ6.out.below hb8)
                have HSZ8 : Hid (w2.heap.size ≤ w8.heap.size) := Lib.hid (Nat.le_trans HSZ6.out hb8.size)
                replace HOR := Lib.hid (own_base ho8 (Nat.zero_le _))
                clear ho8 hb8 b0 b1 b2 b3 b4 b5
                obtain ⟨vs, hown, hitr⟩ := (HLJ8.out).row
                have HOW := Lib.hid hown
                have HITR := Lib.hid hitr
                have hll := HLEN.out
                have h200 := HS.out.len
                clear hitr
                go_wp2_with (at_builtin; refine wpList_append_own _ rfl _ _ 29 rfl w2.heap.size 22 i0 (.slice none 0 0) 1 24 Tryd.underlying29 hi hz0 hz1 hz2 rfl (by decide) _ _ _ rfl ((hll ▸ hown).alloc _) ⟨w8.heap.size, 0, none⟩ 1 1 [.slice Ar sI.length cr] rfl rfl ?k1 ?k2 ?k3 ?k4 ?k5 ?_)
                case k2 => intro u hu; simp at hu; subst hu; rfl
                case k3 => unfold maxLen; omega
                case k4 => have := HSZ8.out; omega
                case k5 => simp; have := HSZ8.out; omega
                case k1 =>
                  intro j' u hj'
                  match j', hj' with
                  | 0, hj' => simp at hj'; subst hj'; simp [Addr.add]
                · intro v' w7 hown' hgrow _
                  have HL7 : Hid (LL w7 w2.heap.size v' (subLs q ls (j + 1))) := Lib.hid (by rw [HEXT.out]; exact LL.app HOW.out HITR.out HOR.out (by rw [HLEN.out]; exact hown') hgrow)
                  have HB7 : Hid (Below w2.heap.size w2 w7) := Lib.hid ((HB8.out.alloc (by have := HSZ8.out; omega) _).grown hgrow (by simp; have := HSZ8.out; omega) (fun g hg => (HOW.out.lt g hg).1))
                  clear hown' hgrow hown
                  go_wp2
                  go_roundw
                  case rel => exact ⟨j + 1, by omega, by go_num, HL7, HB7⟩
                  case measure => first | (simp [intOf]; done) | (simp [intOf]; omega)
              · have HNF : Hid (¬ (op = 3 ∧ i < (ls.length : Int))) := Lib.hid (by rw [HLL.out]; exact hq3)
                have HSQ : Hid (sI = rebF ⟨op, i, e, g, x, yy⟩ [] []) := Lib.hid (by rw [HSI.out, if_neg HNF.out, if_neg hux, if_neg huy])
                rw [← HSQ.out] at HREB
                unfold nv at HREB
                dsimp only [List.length_nil] at HREB
                clear HSI hux hux2 huy huy2
                have hcase : (op == 3) = false ∨ ((op == 3) = true ∧ decide (i < (k : Int)) = false) := by
                  by_cases h : op = 3
                  · exact .inr ⟨by rw [h]; rfl, decide_eq_false (fun k => hq3 ⟨h, k⟩)⟩
                  · exact .inl (by simpa using h)
                clear hq3 HNF HSQ
                go_wp2_with fail
                refine (HUX.out _).mono ?_
                rintro r w4 ⟨rfl, rfl⟩
                generalize wr.alloc (.cells #[.int .i64 op, .int .i64 i, .int .i64 e, .int .i64 g, .int .i64 x, .int .i64 yy] 45) = w3 at *
                clear m0 m1 m2 m3 m4 m5 l1 l2 l3 l4 l5
                obtain ⟨b0, b1, b2, b3, b4, b5, _⟩ := HBX.out
                go_wp2_with fail
                refine (HUY.out _).mono ?_
                rintro r w4 ⟨rfl, rfl⟩
                go_wp2_with fail
                refine (HREB.out w3).mono ?_
                rintro r w6 ⟨Ar, cr, rfl, ho6, hb6⟩
                clear b0 b1 b2 b3 b4 b5
                have HBX6 := Lib.hid (HBX.out.keep (W' := w6) (hb6.block _ HSA.out))
                have HB6 : Hid (Below w2.heap.size w2 w6) := Lib.hid ((HBI.out.trans (HBA.out.mono hsz)).trans (hb6.mono (by have := HBA.out.size; omega)))
                have HLJ6 := Lib.hid ((HLJ.out.below HBA.out).below hb6)
                have HSZ6 : Hid (w2.heap.size ≤ w6.heap.size) := Lib.hid (Nat.le_trans hsz (Nat.le_trans HBA.out.size hb6.size))
                have HOR := Lib.hid ho6
                clear ho6 hb6
                obtain ⟨b0, b1, b2, b3, b4, b5, _⟩ := HBX6.out
                rcases hcase with hop3 | ⟨hop3, hid3⟩
                · skip
                  obtain ⟨vs, hown, hitr⟩ := (HLJ6.out).row
                  have HOW := Lib.hid hown
                  have HITR := Lib.hid hitr
                  have hll := HLEN.out
                  have h200 := HS.out.len
                  clear hitr
                  go_wp2_with (at_builtin; refine wpList_append_own _ rfl _ _ 29 rfl w2.heap.size 22 i0 (.slice none 0 0) 1 24 Tryd.underlying29 hi hz0 hz1 hz2 rfl (by decide) _ _ _ rfl ((hll ▸ hown).alloc _) ⟨w6.heap.size, 0, none⟩ 1 1 [.slice Ar sI.length cr] rfl rfl ?k1 ?k2 ?k3 ?k4 ?k5 ?_)
                  case k2 => intro u hu; simp at hu; subst hu; rfl
                  case k3 => unfold maxLen; omega
                  case k4 => have := HSZ6.out; omega
                  case k5 => simp; have := HSZ6.out; omega
                  case k1 =>
                    intro j' u hj'
                    match j', hj' with
                    | 0, hj' => simp at hj'; subst hj'; simp [Addr.add]
                  · intro v' w7 hown' hgrow _
                    have HL7 : Hid (LL w7 w2.heap.size v' (subLs q ls (j + 1))) := Lib.hid (by rw [HEXT.out]; exact LL.app HOW.out HITR.out HOR.out (by rw [HLEN.out]; exact hown') hgrow)
                    have HB7 : Hid (Below w2.heap.size w2 w7) := Lib.hid ((HB6.out.alloc (by have := HSZ6.out; omega) _).grown hgrow (by simp; have := HSZ6.out; omega) (fun g hg => (HOW.out.lt g hg).1))
                    clear hown' hgrow hown
                    go_wp2
                    go_roundw
                    case rel => exact ⟨j + 1, by omega, by go_num, HL7, HB7⟩
                    case measure => first | (simp [intOf]; done) | (simp [intOf]; omega)
                · skip
                  obtain ⟨vs, hown, hitr⟩ := (HLJ6.out).row
                  have HOW := Lib.hid hown
                  have HITR := Lib.hid hitr
                  have hll := HLEN.out
                  have h200 := HS.out.len
                  clear hitr
                  go_wp2_with (at_builtin; refine wpList_append_own _ rfl _ _ 29 rfl w2.heap.size 22 i0 (.slice none 0 0) 1 24 Tryd.underlying29 hi hz0 hz1 hz2 rfl (by decide) _ _ _ rfl ((hll ▸ hown).alloc _) ⟨w6.heap.size, 0, none⟩ 1 1 [.slice Ar sI.length cr] rfl rfl ?k1 ?k2 ?k3 ?k4 ?k5 ?_)
                  case k2 => intro u hu; simp at hu; subst hu; rfl
                  case k3 => unfold maxLen; omega
                  case k4 => have := HSZ6.out; omega
                  case k5 => simp; have := HSZ6.out; omega
                  case k1 =>
                    intro j' u hj'
                    match j', hj' with
                    | 0, hj' => simp at hj'; subst hj'; simp [Addr.add]
                  · intro v' w7 hown' hgrow _
                    have HL7 : Hid (LL w7 w2.heap.size v' (subLs q ls (j + 1))) := Lib.hid (by rw [HEXT.out]; exact LL.app HOW.out HITR.out HOR.out (by rw [HLEN.out]; exact hown') hgrow)
                    have HB7 : Hid (Below w2.heap.size w2 w7) := Lib.hid ((HB6.out.alloc (by have := HSZ6.out; omega) _).grown hgrow (by simp; have := HSZ6.out; omega) (fun g hg => (HOW.out.lt g hg).1))
                    clear hown' hgrow hown
                    go_wp2
                    go_roundw
                    case rel => exact ⟨j + 1, by omega, by go_num, HL7, HB7⟩
                    case measure => first | (simp [intOf]; done) | (simp [intOf]; omega)
          · obtain rfl : j = q.length := by omega
            obtain ⟨m, hm1⟩ : ∃ m, q.length = m + 1 := ⟨q.length - 1, by have := List.length_pos_iff.2 HS.out.ok.ne; omega⟩
            have hmq : m < q.length := by omega
            obtain ⟨ad, Ax, cx, rfl, hcx, hrx⟩ := HIT.out m hmq
            have hlast := HS.out.last
            rw [show q.length - 1 = m from by omega] at hlast
            rw [HRF.out] at hlast
            rw [hlast] at hcx hrx
            have HRX := Lib.hid hrx
            have HERR : Hid (re = if rf = [] then 8 else 0) := Lib.hid (by have := HS.out.err; rw [HRF.out, HREE.out] at this; exact this)
            have hw1 : wrap64 ((q.length : Int) - 1) = (m : Int) := by have := HS.out.len; unfold wrap64; omega
            have hw2 : IntKind.i64.wrap ((q.length : Int) - 1) = (m : Int) := by rw [IntKind.wrap_i64]; have := HS.out.len; omega
            have hw3 : (q.length : Int) - 1 = (m : Int) := by omega
            have hw4 : wrap64 (m : Int) = (m : Int) := by have := HS.out.len; unfold wrap64; omega
            clear hrx hlast hm1
            by_cases hrf : rf = []
            · have HE8 : Hid (re = 8) := Lib.hid (by rw [HERR.out, if_pos hrf])
              subst hrf
              dsimp only [List.length_nil] at hcx
              go_wp2_with fail
              refine (done_nil Ax cx wr).mono ?_
              rintro r w4 ⟨rfl, rfl⟩
              go_wp2
              go_ret2
              rw [HE8.out]
              exact ⟨none, 0, rfl, Reads.none_, HB3.out⟩
            · have HE8 : Hid (re = 0) := Lib.hid (by rw [HERR.out, if_neg hrf])
              have hne : rf.length ≠ 0 := by simpa using hrf
              clear hrf
              go_wp2_with fail
              refine (done_ok Ax rf.length cx wr hne).mono ?_
              rintro r w4 ⟨rfl, rfl⟩
              go_wp2
              go_ret2
              rw [HE8.out]
              exact ⟨Ax, cx, rfl, HRX.out, HB3.out⟩
  · have e1 : subFF f ls = [] := if_neg (fun k => hz k.1)
    have e2 : subEE f ls = fErr f := if_neg hz
    rw [e1, e2]
    clear hR hm e1 e2
    generalize fErr f = ef at *
    go_enter Tryd.func16, Tryd.ntmps16
    go_wp2_with fail
    refine (HV.out).mono ?_
    rintro e w1 ⟨rfl, hb⟩
    have HB1 := Lib.hid hb
    clear hb
    go_wp2
    go_ret2
    exact ⟨none, 0, rfl, Reads.none_, HB1.out⟩
end Go.Proofs.YtkcedppepepgfaaDoor
