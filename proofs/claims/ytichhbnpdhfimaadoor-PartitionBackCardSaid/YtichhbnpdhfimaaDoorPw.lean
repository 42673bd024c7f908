/- PartitionBack: the walk (under way). -/
import Derived.Test.YtichhbnpdhfimaaDoorPu
import Derived.Test.YtichhbnpdhfimaaDoorPv
namespace Go.Proofs.YtichhbnpdhfimaaDoor.partitionBack
open Go.RowKit Go.Proofs.YtichhbnpdhfimaaDoor Go.Proofs.Ws
theorem bit_one {x v : Nat} (hx : x < 18446744073709551616) (h : x.testBit v = true) : bits .and .u64 ((x : Int) / 2 ^ v) 1 = 1 := by
  have e1 : x.testBit v = decide (x / 2 ^ v % 2 = 1) := Nat.testBit_eq_decide_div_mod_eq
  rw [h] at e1
  have e2 : x / 2 ^ v % 2 = 1 := by simpa using e1.symm
  have hd : x / 2 ^ v < 18446744073709551616 := Nat.lt_of_le_of_lt (Nat.div_le_self _ _) hx
  have e3 : (x : Int) / 2 ^ v = ((x / 2 ^ v : Nat) : Int) := by
    have : ((2 : Int) ^ v) = ((2 ^ v : Nat) : Int) := by simp
    rw [this]; rfl
  rw [e3, show (1 : Int) = ((1 : Nat) : Int) from rfl, u64_and_nat _ 1 hd (by decide), Nat.and_one_is_mod, e2]
theorem bit_none {x v : Nat} (hx : x < 18446744073709551616) (h : x.testBit v = false) : bits .and .u64 ((x : Int) / 2 ^ v) 1 = 0 := by
  have e1 : x.testBit v = decide (x / 2 ^ v % 2 = 1) := Nat.testBit_eq_decide_div_mod_eq
  rw [h] at e1
  have e2 : x / 2 ^ v % 2 = 0 := by
    have : ¬ x / 2 ^ v % 2 = 1 := by simpa using e1.symm
    omega
  have hd : x / 2 ^ v < 18446744073709551616 := Nat.lt_of_le_of_lt (Nat.div_le_self _ _) hx
  have e3 : (x : Int) / 2 ^ v = ((x / 2 ^ v : Nat) : Int) := by
    have : ((2 : Int) ^ v) = ((2 ^ v : Nat) : Int) := by simp
    rw [this]; rfl
  rw [e3, show (1 : Int) = ((1 : Nat) : Int) from rfl, u64_and_nat _ 1 hd (by decide), Nat.and_one_is_mod, e2]; rfl
theorem blkV_lt {n : Nat} {p : List Int} (h : Can n p) (hn : n ≤ 64) (i : Int) : blkV p i < 18446744073709551616 := by
  unfold blkV
  split
  · exact cls_lt _ _ _ (by rw [h.len]; exact hn)
  · decide
theorem equal_yes {l m : List Int} (h : l = m) (A A2 : Option Addr) (n c c2 : Nat) (w : World) (hR : Reads w w.heap.size 1 A n (ints l)) (hR2 : Reads w w.heap.size 1 A2 n (ints m)) (hm : n ≤ 64) :
    Calls Tryd.prog 19 #[.slice A n c, .slice A2 n c2] w fun e w' => e = .returned (.bool true) ∧ Below w.heap.size w w' := by
  subst h
  have k := equalI_any l l A A2 n n c c2 w.heap.size w hR hR2 (by unfold maxLen; omega) (by unfold maxLen; omega)
  rw [show decide (l = l) = true by simp] at k
  exact toB_drew k
set_option maxRecDepth 100000 in
set_option maxHeartbeats 6400000 in
theorem walk (l : List Int) (A : Option Addr) (m c : Nat) (w : World) (hR0 : Reads w w.heap.size 1 A m (ints l)) (wf0 : WFs l) (h64 : m ≤ 64) (hT : Tab w) :
    Calls Tryd.prog 4 #[.slice A m c] w fun e w' => e = .returned (.bool true) ∧ Below w.heap.size w w' := by
  have HB : Hid (Below w.heap.size w w) := Lib.hid (Below.refl _ w)
  have HX := Lib.hid hR0
  have hla := hR0.int_len
  have HWX := Lib.hid wf0
  have HT := Lib.hid hT
  have HCA : Hid (Can m (keyP l)) := Lib.hid (by rw [← hla]; exact keyP_can l (by omega))
  have HSAME : Hid (∀ i j, i < m → j < m → ((blkV (keyP l) (i : Int)).testBit j = true ↔ l.getD i 0 = l.getD j 0)) := Lib.hid (fun i j hi hj => keyP_same l (by omega) (by omega) (by omega))
  clear hR0 wf0 hT hla
  have hdm : decide ((64 : Int) < (m : Int)) = false := by simp; omega
  go_enter Tryd.func4, Tryd.ntmps4
  have HQ := Lib.hid (lawOf_any l A m c w HX.out (by omega) HWX.out)
  go_wp2_with fail
  refine (HQ.out).mono ?_
  rintro e w1 ⟨A1, k1, rfl, hr1, hb⟩
  clear HQ
  replace HX := Lib.hid (HX.out.step hb)
  replace HB := Lib.hid (HB.out.trans (hb.mono HB.out.size))
  have H1 := Lib.hid hr1
  clear hr1
  clear hb
  generalize keyP l = p at *
  have HQ := Lib.hid (pRelation_any p A1 m k1 w1 H1.out (by unfold maxLen; omega))
  go_wp2_with fail
  refine (HQ.out).mono ?_
  rintro e w2 (⟨_, A2, k2, rfl, hr2, hb⟩ | ⟨hx, _⟩); rotate_left; exact absurd HCA.out.ok hx
  clear HQ
  replace HX := Lib.hid (HX.out.step hb)
  replace H1 := Lib.hid (H1.out.step hb)
  replace HB := Lib.hid (HB.out.trans (hb.mono HB.out.size))
  have H2 := Lib.hid hr2
  clear hr2
  clear hb
  have hrl : (relL p).length = m := by rw [relL_length]; exact HCA.out.len
  have HTB := Lib.hid (HT.out.below HB.out)
  rw [hrl] at H2
  rw [hrl]
  have HQ := Lib.hid (of_rel p A2 m k2 w2 H2.out (by omega) HCA.out HTB.out)
  go_wp2_with fail
  refine (HQ.out).mono ?_
  rintro e w3 ⟨A3, k3, rfl, hr3, hb⟩
  clear HQ
  replace HX := Lib.hid (HX.out.step hb)
  replace H1 := Lib.hid (H1.out.step hb)
  replace H2 := Lib.hid (H2.out.step hb)
  replace HB := Lib.hid (HB.out.trans (hb.mono HB.out.size))
  have H3 := Lib.hid hr3
  clear hr3
  clear hb
  clear HTB hrl
  have HQ := Lib.hid (equal_yes rfl A1 A3 m k1 k3 w3 H1.out H3.out (by omega))
  go_wp2_with fail
  refine (HQ.out).mono ?_
  rintro e w4 ⟨rfl, hb⟩
  clear HQ
  replace HX := Lib.hid (HX.out.step hb)
  replace H1 := Lib.hid (H1.out.step hb)
  replace H2 := Lib.hid (H2.out.step hb)
  replace H3 := Lib.hid (H3.out.step hb)
  replace HB := Lib.hid (HB.out.trans (hb.mono HB.out.size))
  clear hb
  have HQ := Lib.hid (pBlocks_any p A1 m k1 w4 H1.out (by unfold maxLen; omega))
  go_wp2_with fail
  refine (HQ.out).mono ?_
  rintro e w5 ⟨A4, k4, rfl, hr4, hb⟩
  clear HQ
  replace HX := Lib.hid (HX.out.step hb)
  replace H1 := Lib.hid (H1.out.step hb)
  replace H2 := Lib.hid (H2.out.step hb)
  replace H3 := Lib.hid (H3.out.step hb)
  replace HB := Lib.hid (HB.out.trans (hb.mono HB.out.size))
  have H4 := Lib.hid hr4
  clear hr4
  clear hb
  have HBN : Hid (∀ k, k < (blocksL p).length → (blocksL p).getD k 0 ≠ 0) := Lib.hid (fun k hk => blocks_ne HCA.out hk)
  have HBA : Hid (∀ k, k < (blocksL p).length → accB (blocksL p) k &&& (blocksL p).getD k 0 = 0) := Lib.hid (fun k hk => blocks_apart HCA.out hk)
  have HBC : Hid (∀ v, v < m → (accB (blocksL p) (blocksL p).length).testBit v = true) := Lib.hid (fun v hv => blocks_cover HCA.out hv)
  have HB64 : Hid (∀ x ∈ blocksL p, x < 18446744073709551616) := Lib.hid (fun x hx => by
    rw [blocks_roots HCA.out] at hx
    obtain ⟨r, _, rfl⟩ := List.mem_map.1 hx
    exact cls_lt _ _ _ (by omega))
  have hbl : (blocksL p).length ≤ m := by
    rw [blocks_roots HCA.out, List.length_map]
    have h1 := rootsL_le p
    rw [HCA.out.len] at h1
    exact h1
  have HCNT := Lib.hid (fun (W : World) (hW : Below w5.heap.size w5 W) => pCount_any p A1 m k1 W (H1.out.step hW) (by unfold maxLen; omega))
  have HBLK := Lib.hid (fun (W : World) (hW : Below w5.heap.size w5 W) => pBlocks_any p A1 m k1 W (H1.out.step hW) (by unfold maxLen; omega))
  generalize blocksL p = bs at *
  go_wp2
  go_loopw [7, 42] (fun rv i wr => ∃ k : Nat, k ≤ bs.length ∧ i = .int .i64 k ∧ rv = .int .u64 (accB bs k : Int) ∧ Hid (Below w5.heap.size w5 wr)) (fun _ i _ => bs.length - (intOf i).toNat)
  case atStart => exact ⟨0, Nat.zero_le _, rfl, rfl, Lib.hid (Below.refl _ _)⟩
  case round =>
    obtain ⟨k, hk, rfl, rfl, HI⟩ := hrel
    by_cases hlt : k < bs.length
    · obtain ⟨ad, rfl, _, hc⟩ := (H4.out.step HI.out).word_k hlt
      have hx := HBN.out k hlt
      have ha := HBA.out k hlt
      have hx64 : bs.getD k 0 < 18446744073709551616 := by
        rw [List.getD_eq_getElem?_getD, List.getElem?_eq_getElem hlt]
        exact HB64.out _ (List.getElem_mem hlt)
      have ha64 := accB_lt HB64.out k
      have HNX : Hid (accB bs k ||| bs.getD k 0 = accB bs (k + 1)) := Lib.hid rfl
      generalize bs.getD k 0 = x at *
      generalize accB bs k = acc at *
      have hand : bits .and .u64 (acc : Int) (x : Int) = 0 := by rw [u64_and_nat _ _ ha64 hx64, ha]; rfl
      have hor : bits .or .u64 (acc : Int) (x : Int) = ((acc ||| x : Nat) : Int) := u64_or_nat _ _ ha64 hx64
      have hb1 : ((x : Int) == 0) = false := by simp; omega
      have hb2 : decide ((x : Int) = 0) = false := by simp; omega
      clear hx ha hx64 ha64
      go_wp2
      go_roundw
      case rel => exact ⟨k + 1, by omega, by go_num, by rw [← HNX.out], HI⟩
      case measure => simp [intOf]; omega
    · have hkn : k = bs.length := by omega
      subst hkn
      have HA64 := Lib.hid (accB_lt HB64.out bs.length)
      generalize accB bs bs.length = acc at *
      go_wp2
      obtain ⟨wo, rfl⟩ : ∃ wo : World, wo = wr := ⟨_, rfl⟩
      go_loopw [60] (fun i wr => ∃ k : Nat, k ≤ m ∧ i = .int .i64 k ∧ Hid (Below w5.heap.size w5 wr)) (fun i _ => m - (intOf i).toNat)
      case atStart => exact ⟨0, Nat.zero_le _, rfl, HI⟩
      case round =>
        clear HI
        obtain ⟨k, hk, rfl, HI⟩ := hrel
        by_cases hlt : k < m
        · have hb1 := bit_one HA64.out (HBC.out k hlt)
          have hv64 := blkV_lt HCA.out (by omega) (k : Int)
          have hb3 := bit_one hv64 ((HSAME.out k k hlt hlt).2 rfl)
          have HV64 := Lib.hid hv64
          have HSK : Hid (∀ j, j < m → ((blkV p (k : Int)).testBit j = true ↔ l.getD k 0 = l.getD j 0)) := Lib.hid (fun j hj => HSAME.out k j hlt hj)
          have HQ := Lib.hid (fun (W : World) (hW : Below w5.heap.size w5 W) => pBlock_any p (k : Int) A1 m k1 W (H1.out.step hW) (by unfold maxLen; omega))
          clear hv64
          generalize blkV p (k : Int) = v at *
          have HA := Lib.hid (HQ.out wr HI.out)
          go_wp2_with fail
          refine (HA.out).mono ?_
          rintro e wA ⟨rfl, hbA⟩
          clear HA
          replace HI := Lib.hid (HI.out.trans (hbA.mono HI.out.size))
          clear hbA
          go_wp2
          obtain ⟨wo2, rfl⟩ : ∃ wo2 : World, wo2 = wA := ⟨_, rfl⟩
          go_loopw [78] (fun i wr => ∃ j : Nat, j ≤ k ∧ i = .int .i64 j ∧ Hid (Below w5.heap.size w5 wr)) (fun i _ => k - (intOf i).toNat)
          case atStart => exact ⟨0, Nat.zero_le _, rfl, HI⟩
          case round =>
            clear HI
            obtain ⟨j, hj, rfl, HI⟩ := hrel
            by_cases hlj : j < k
            · have hs := HSK.out j (by omega)
              obtain ⟨ad, rfl, _, hck⟩ := (HX.out.step HI.out).int_at hlt
              obtain ⟨_, hA1, _, hcj⟩ := (HX.out.step HI.out).int_at (show j < m by omega)
              cases hA1
              have HCELL : Hid (∀ W, Below w5.heap.size w5 W → W.cell? (ad.add k) = some (.int .i64 (l.getD k 0)) ∧ W.cell? (ad.add j) = some (.int .i64 (l.getD j 0))) := Lib.hid (fun W hW => by
                obtain ⟨_, hA1, _, q1⟩ := (HX.out.step hW).int_at hlt
                cases hA1
                obtain ⟨_, hA1, _, q2⟩ := (HX.out.step hW).int_at (show j < m by omega)
                cases hA1
                exact ⟨q1, q2⟩)
              have HQ0 := Lib.hid (HQ.out wr HI.out)
              have HQ1 := Lib.hid (HQ.out wr.drew HI.out.drew)
              have hzz : ∃ (bv : Int) (r1 : Bool), bits .and .u64 ((v : Int) / 2 ^ j) 1 = bv ∧ (bv == 1) = r1 ∧ (l.getD k 0 == l.getD j 0) = r1 := by
                by_cases hbit : v.testBit j = true
                · exact ⟨1, true, bit_one HV64.out hbit, rfl, by rw [hs.1 hbit]; simp⟩
                · exact ⟨0, false, bit_none HV64.out (by simpa using hbit), rfl, by rw [beq_eq_false_iff_ne]; exact fun h => hbit (hs.2 h)⟩
              obtain ⟨bv, r1, hz1, hz2, hz3⟩ := hzz
              clear hs
              generalize l.getD k 0 = x at *
              generalize l.getD j 0 = y at *
              have hrr : (r1 != r1) = false := by cases r1 <;> rfl
              go_wp2
              go_region_with (go_at_call 23; first | (refine (HQ0.out).mono ?_; rintro e wB ⟨rfl, hbB⟩; have hB5 := HI.out.trans (hbB.mono HI.out.size); have hcB := HCELL.out wB hB5; have hcB1 := hcB.1; have hcB2 := hcB.2; clear hcB) | (refine (HQ1.out).mono ?_; rintro e wB ⟨rfl, hbB⟩; have hB5 := HI.out.drew.trans (hbB.mono HI.out.drew.size); have hcB := HCELL.out wB hB5; have hcB1 := hcB.1; have hcB2 := hcB.2; clear hcB))
              all_goals (try simp only [hz1, hz2, hz3, hrr])
              all_goals go_wp2
              all_goals go_roundw
              all_goals first
                | exact ⟨j + 1, by omega, by go_num, Lib.hid hB5⟩
                | exact ⟨j + 1, by omega, by go_num, Lib.hid hB5.drew⟩
                | (simp [intOf]; omega)
            · have hjk : k = j := by omega
              subst hjk
              go_wp2
              go_roundw
              case rel => exact ⟨k + 1, by omega, by go_num, HI⟩
              case measure => simp [intOf]; omega
        · have hkm : m = k := by omega
          subst hkm
          have HA := Lib.hid (HCNT.out wr HI.out)
          go_wp2_with fail
          refine (HA.out).mono ?_
          rintro e wA ⟨rfl, hbA⟩
          clear HA
          replace HI := Lib.hid (HI.out.trans (hbA.mono HI.out.size))
          clear hbA
          have HA := Lib.hid (HBLK.out wA HI.out)
          go_wp2_with fail
          refine (HA.out).mono ?_
          rintro e wB ⟨A5, k5, rfl, _, hbA⟩
          clear HA
          replace HI := Lib.hid (HI.out.trans (hbA.mono HI.out.size))
          clear hbA
          have HA := Lib.hid (awake_any wB)
          go_wp2_with fail
          refine (HA.out).mono ?_
          rintro e wC ⟨rfl, hbA⟩
          clear HA
          replace HI := Lib.hid (HI.out.trans (hbA.mono HI.out.size))
          clear hbA
          go_wp2
          go_ret
          exact ⟨rfl, HB.out.trans (HI.out.mono HB.out.size)⟩
end Go.Proofs.YtichhbnpdhfimaaDoor.partitionBack
