/- Of at the relation of a partition. For the seat with laid variables. -/
import Derived.Test.YtichhbnpdhfimaaDoorPt
namespace Go.Proofs.YtichhbnpdhfimaaDoor
open Go.RowKit Go.Proofs.Ws
theorem bitLenAux_le : ∀ f x : Nat, Lib.bitLenAux f x ≤ f
  | 0, _ => Nat.le_refl _
  | f + 1, x => by
    unfold Lib.bitLenAux
    have := bitLenAux_le f (x / 2)
    split <;> omega
theorem bitLen_le {x n : Nat} (h : x < 2 ^ n) (hn : n ≤ 64) : Lib.bitLen x ≤ n := by
  unfold Lib.bitLen
  rw [Lib.bitLenAux_fuel n x h 64 hn]
  exact bitLenAux_le n x
theorem low_cls {n : Nat} {p : List Int} (hn : n ≤ 64) {k : Nat} (hk : k < n) :
    cls p (p.getD k 0) n ≠ 0 ∧ cls p (p.getD k 0) n < 18446744073709551616 ∧ low (cls p (p.getD k 0) n) = firstAt p p k ∧ Lib.bitLen (cls p (p.getD k 0) n) ≤ n := by
  have hb := cls_bit p (p.getD k 0)
  have hlt := cls_lt p (p.getD k 0) n hn
  have h2 := (cls_add p (p.getD k 0) n).1
  have hkb := (hb k n).2 ⟨hk, rfl⟩
  have hne : cls p (p.getD k 0) n ≠ 0 := fun e => by rw [e, Nat.zero_testBit] at hkb; cases hkb
  refine ⟨hne, hlt, ?_, bitLen_le h2 hn⟩
  obtain ⟨s1, s2, s3⟩ := firstAt_spec p p k
  have hl := (hb _ n).1 (testBit_low _ hne hlt)
  have hf := (hb (firstAt p p k) n).2 ⟨by omega, ((sameAt_iff p p k _).1 s1).1⟩
  have n1 : ¬ low (cls p (p.getD k 0) n) < firstAt p p k := fun h => by
    have := s3 _ h
    rw [(sameAt_iff p p k _).2 ⟨hl.2, hl.2⟩] at this
    cases this
  have n2 : ¬ firstAt p p k < low (cls p (p.getD k 0) n) := fun h => by
    have := testBit_below _ hne hlt _ h
    rw [hf] at this
    cases this
  omega
set_option maxRecDepth 100000 in
set_option maxHeartbeats 4000000 in
theorem of_rel (p : List Int) (A : Option Addr) (n c : Nat) (w : World) (hR : Reads w w.heap.size 1 A n (us (relL p))) (hm : n ≤ 64) (hp : Can n p) (hT : Tab w) :
    Calls Tryd.prog 13 #[.slice A n c] w (GivesP p n w) := by
  have HR := Lib.hid hR
  have HT := Lib.hid hT
  have HP := Lib.hid hp
  have hpl := hp.len
  have hrl : (relL p).length = n := by rw [relL_length]; exact hpl
  have hmk := fun W => makeI W n (by omega)
  have HI0 : Hid (HoldsI (w.alloc (.cells (ints (List.replicate n 0)).toArray 3)) w.heap.size (qL p p n 0) ∧ Below w.heap.size w (w.alloc (.cells (ints (List.replicate n 0)).toArray 3))) := Lib.hid ⟨by
      have e : qL p p n 0 = List.replicate n 0 := by
        apply List.ext_getElem
        · simp [qL]
        · intro i h1 h2; simp [qL]
      rw [e]
      exact HoldsI.made w (List.replicate n 0), (Below.refl _ w).alloc (Nat.le_refl _) _⟩
  have HEND : Hid (qL p p n n = p) := Lib.hid (by
    have e : qL p p n n = canonL p p := by
      apply List.ext_getElem
      · simp [qL, canonL, hpl]
      · intro i h1 h2
        have hi : i < n := by simpa [qL] using h1
        simp [qL, canonL, hi]
    rw [e]
    exact meet_self hp hm)
  have HCL : Hid (∀ k, k < n → cls p (p.getD k 0) n ≠ 0 ∧ cls p (p.getD k 0) n < 18446744073709551616 ∧ low (cls p (p.getD k 0) n) = firstAt p p k ∧ Lib.bitLen (cls p (p.getD k 0) n) ≤ n) := Lib.hid (fun k hk => low_cls hm hk)
  have HRG : Hid (∀ k, k < n → (relL p).getD k 0 = cls p (p.getD k 0) n) := Lib.hid (fun k hk => by rw [relL_getD p k (by omega), hpl])
  clear hR hT hp hpl hrl
  have hdm : decide ((64 : Int) < (n : Int)) = false := by simp; omega
  go_enter Tryd.func13, Tryd.ntmps13
  go_wp2
  generalize w.alloc (.cells (ints (List.replicate n 0)).toArray 3) = wx at *
  clear hmk
  go_loopw [15] (fun i wr => ∃ k : Nat, k ≤ n ∧ i = .int .i64 k ∧ Hid (HoldsI wr w.heap.size (qL p p n k) ∧ Below w.heap.size w wr)) (fun i _ => n - (intOf i).toNat)
  case atStart => exact ⟨0, Nat.zero_le _, rfl, HI0⟩
  case round =>
    clear HI0
    obtain ⟨k, hk, rfl, HI⟩ := hrel
    by_cases hlt : k < n
    · obtain ⟨ad, rfl, _, hc⟩ := (HR.out.below HI.out.2).word_k hlt
      obtain ⟨h1, h2, h3, h4⟩ := HCL.out k hlt
      rw [HRG.out k hlt] at hc
      have HZ := Lib.hid (fun W (hW : Tab W) => tz_any (cls p (p.getD k 0) n) W h2 h1 hW)
      rw [h3] at HZ
      have HLN := Lib.hid (fun W => len_any (cls p (p.getD k 0) n) W h2)
      have HTW := Lib.hid (HT.out.below HI.out.2)
      have hqlen : (qL p p n k).length = n := by simp [qL]
      have hcq : wr.cell? ⟨w.heap.size, k, none⟩ = some (.int .i64 ((qL p p n k).getD k 0)) := HI.out.1.cell k (by omega)
      have hfq : wr.frozen? ⟨w.heap.size, k, none⟩ = false := HI.out.1.free k
      have HN : Hid (HoldsI (wr.setCell ⟨w.heap.size, k, none⟩ (.int .i64 (firstAt p p k : Int))) w.heap.size (qL p p n (k + 1)) ∧ Below w.heap.size w (wr.setCell ⟨w.heap.size, k, none⟩ (.int .i64 (firstAt p p k : Int)))) := Lib.hid ⟨by
        have := HI.out.1.put k (firstAt p p k : Int)
        rw [qL_set p p n k hlt] at this
        exact this, HI.out.2.setCell (p := ⟨w.heap.size, k, none⟩) (Nat.le_refl _) _⟩
      clear HI h1 h2 h3 hqlen
      generalize (qL p p n k).getD k 0 = old at *
      generalize cls p (p.getD k 0) n = x at *
      generalize firstAt p p k = f at *
      generalize Lib.bitLen x = bl at *
      have hd1 : decide ((n : Int) < (bl : Int)) = false := by simp; omega
      have hd2 : decide (n < bl) = false := by simp; omega
      have HQ := Lib.hid (HLN.out wr)
      go_wp2_with fail
      refine (HQ.out).mono ?_
      rintro e w' ⟨rfl, rfl⟩
      clear HQ
      have HQ := Lib.hid (HZ.out wr HTW.out)
      go_wp2_with fail
      refine (HQ.out).mono ?_
      rintro e w' ⟨rfl, rfl⟩
      clear HQ
      go_wp2
      go_roundw
      case rel => exact ⟨k + 1, by omega, by go_num, HN⟩
      case measure => simp [intOf]; omega
    · have hkn : n = k := by omega
      subst hkn
      rw [HEND.out] at HI
      have hpr := HI.out.1.reads
      rw [HP.out.len] at hpr
      have HQ := Lib.hid (pRelation_any p (some ⟨w.heap.size, 0, none⟩) n n wr hpr (by unfold maxLen; omega))
      have HPR := Lib.hid hpr
      clear hpr
      go_wp2_with fail
      refine (HQ.out).mono ?_
      rintro e w1 (⟨_, A1, c1, rfl, hr1, hb⟩ | ⟨hx, _⟩)
      · clear HQ
        have HE := Lib.hid (toB_drew (equal_any (relL p) (relL p) A1 A (relL p).length n c1 c _ w1 hr1 (HR.out.step (HI.out.2.trans (hb.mono HI.out.2.size))) (by unfold maxLen; have := HP.out.len; rw [relL_length]; omega) (by unfold maxLen; omega)))
        rw [show decide (relL p = relL p) = true by simp] at HE
        replace HPR := Lib.hid (HPR.out.step hb)
        have HB := Lib.hid (HI.out.2.trans (hb.mono HI.out.2.size))
        clear HI hr1 hb
        go_wp2_with fail
        refine (HE.out).mono ?_
        rintro e w2 ⟨rfl, hb⟩
        clear HE
        replace HPR := Lib.hid (HPR.out.step hb)
        replace HB := Lib.hid (HB.out.trans (hb.mono HB.out.size))
        clear hb
        go_wp2
        go_ret2
        exact ⟨_, _, rfl, HPR.out, HB.out⟩
      · exact absurd HP.out.ok hx
end Go.Proofs.YtichhbnpdhfimaaDoor
