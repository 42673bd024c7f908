/- Layer 6: texts joined: Yg Yh. -/
import Derived.Test.YtfbgabcdeecpoaaDoorNMg
/- Layer 24: the posteriors at all worlds by the program. -/
namespace Go.Proofs.YtfbgabcdeecpoaaDoor
open Go.RowKit Go.Proofs.Ws
set_option maxRecDepth 100000
theorem belowNext {w W W' : World} (h : Below w.heap.size w W) (k : Below W.heap.size W W') : Below w.heap.size w W' := h.trans (k.mono h.size)
def fillF (f : Nat → Nat × Nat) (n k : Nat) : List (Nat × Nat) := (List.range n).map (fun i => if i < k then f i else (0, 0))
theorem fillF_len (f : Nat → Nat × Nat) (n k : Nat) : (fillF f n k).length = n := by simp [fillF]
theorem fillF_zero (f : Nat → Nat × Nat) (n : Nat) : fillF f n 0 = List.replicate n (0, 0) := by
  apply List.ext_getElem
  · simp [fillF]
  · intro i h1 h2; simp [fillF]
theorem fillF_set (f : Nat → Nat × Nat) {n k : Nat} {q : Nat × Nat} (h : q = f k) : (fillF f n k).set k q = fillF f n (k + 1) := by
  subst h
  apply List.ext_getElem
  · simp [fillF]
  · intro i h1 h2
    rw [List.getElem_set]
    simp only [fillF, List.getElem_map, List.getElem_range]
    by_cases e : k = i
    · subst e; simp
    · rw [if_neg e]
      by_cases h3 : i < k
      · rw [if_pos h3, if_pos (by omega)]
      · rw [if_neg h3, if_neg (by omega)]
theorem fillF_full (p : Pri) (a s : Nat) : fillF (fun w => postN p a w s) p.wt.length p.wt.length = postL p a s := by
  unfold fillF postL
  exact List.map_congr_left (fun i hi => by rw [if_pos (List.mem_range.1 hi)])
set_option maxHeartbeats 1000000 in
theorem aPosts_any (p : Pri) (v : Value) (a s : Nat) (w : World) (hM : PrR w w.heap.size v p) (hok : OkP p) (ha : a < p.cells.length) (hs : s < 2 ^ p.wt.length) (hT : Tab w) :
    Calls Tryd.prog 56 #[v, .int .i64 (a : Int), .int .u64 (s : Int)] w (GivesF (postL p a s) p.wt.length w) := by
  obtain ⟨A1, c1, A2, c2, rfl, hv, hr⟩ := hM.ex
  have hle := hok.le
  have HB1 : Hid (Below w.heap.size w (w.alloc (.cells #[.slice A1 p.wt.length c1, .slice A2 p.cells.length c2] 25))) := Lib.hid ((Below.refl _ w).alloc (Nat.le_refl _) _)
  have HPB := Lib.hid (PBox.made w (.slice A1 p.wt.length c1) (.slice A2 p.cells.length c2))
  have HWT := Lib.hid (fun (x : Nat) (hx : x < 2 ^ p.wt.length) (W : World) (hb : Below w.heap.size w W) => aWeight_any p _ x W (hM.below hb hb.size) hok hx (hT.belowAt hb hT.2))
  have hcan := hok.can ha
  have HBL := Lib.hid (fun i => blkV_lt hok ha i)
  have HWP := Lib.hid (fun x => wOf_le hok x)
  have HPOS := Lib.hid (fun i (hi : i < p.wt.length) => wOf_pos hok (s := blkV (p.cells.getD a []) (i : Int)) (i := i) hi (by
    unfold blkV
    rw [if_pos ⟨hcan.ok, by omega, by rw [hcan.len]; omega⟩, cls_bit]
    exact ⟨by rw [hcan.len]; exact hi, rfl⟩))
  have HRC : Hid (∀ i, i < p.wt.length → (relL (p.cells.getD a [])).getD i 0 = blkV (p.cells.getD a []) (i : Int)) := Lib.hid (fun i hi => (blk_rel hcan.ok (by rw [hcan.len]; exact hi)).symm)
  have HRLN : Hid ((relL (p.cells.getD a [])).length = p.wt.length) := Lib.hid (by rw [relL_length, hcan.len])
  obtain ⟨pn, hpn⟩ : ∃ pn : Nat → Nat × Nat, pn = fun i => postN p a i s := ⟨_, rfl⟩
  have HFU := Lib.hid (fillF_full p a s)
  rw [← hpn] at HFU
  have HPN : Hid (∀ i : Nat, redN (wOf p.wt (blkV (p.cells.getD a []) (i : Int) &&& s)) (wOf p.wt (blkV (p.cells.getD a []) (i : Int))) = pn i) := Lib.hid (fun i => by rw [hpn]; rfl)
  clear hpn
  obtain ⟨ad, Ac, cc, rfl, had, hcell, hrc, hlc⟩ := hr.at_ ha
  rw [hcan.len] at hcell hrc hlc
  have HREL := Lib.hid (fun (W : World) (hb : Below w.heap.size w W) => pRelation_any (p.cells.getD a []) Ac p.wt.length cc W ((hrc.below hb).more hb.size) hlc)
  have HOK0 : Hid (partErr (p.cells.getD a []) = 0) := Lib.hid hcan.ok
  have hs64 : s < 18446744073709551616 := Nat.lt_of_lt_of_le hs (Nat.pow_le_pow_right (show 0 < 2 by decide) hle)
  have HAND := Lib.hid (fun x => u64_and_nat x s)
  have hmk := fun W => makeFr W p.wt.length (by omega)
  have HCE : Hid (∀ W, Below w.heap.size w W → W.cell? (ad.add a) = some (.slice Ac p.wt.length cc)) := Lib.hid (fun W hb => (hb.cell (p := ad.add a) (by rw [block_of_add]; exact had)).trans hcell)
  have HN2 : Hid (p.wt.length ≤ 64) := Lib.hid hle
  clear hM hv hr hok hcan hrc hlc hcell hT hs
  generalize postL p a s = PL at *
  generalize blkV (p.cells.getD a []) = bk at *
  generalize relL (p.cells.getD a []) = RL at *
  generalize hn : p.wt.length = n at *
  generalize hm : p.cells.length = m at *
  have HB2 : Hid (Below w.heap.size w ((w.alloc (.cells #[.slice A1 n c1, .slice (some ad) m c2] 25)).alloc (.cells (frs (List.replicate n (0, 0))).toArray 41))) := Lib.hid (HB1.out.alloc (by simp) _)
  have HPB2 : Hid (PBox ((w.alloc (.cells #[.slice A1 n c1, .slice (some ad) m c2] 25)).alloc (.cells (frs (List.replicate n (0, 0))).toArray 41)) w.heap.size (.slice A1 n c1) (.slice (some ad) m c2)) := Lib.hid ((Below.heap_alloc _ _ _ HPB.out.lt).trans HPB.out)
  have HF2 : Hid (HoldsF ((w.alloc (.cells #[.slice A1 n c1, .slice (some ad) m c2] 25)).alloc (.cells (frs (List.replicate n (0, 0))).toArray 41)) (w.heap.size + 1) (fillF pn n 0)) := Lib.hid (by
    rw [fillF_zero]
    have := HoldsF.made (w.alloc (.cells #[.slice A1 n c1, .slice (some ad) m c2] 25)) (List.replicate n (0, 0))
    simpa using this)
  have hce := HCE.out _ HB2.out
  have hsz2 : w.heap.size + 2 ≤ ((w.alloc (.cells #[.slice A1 n c1, .slice (some ad) m c2] 25)).alloc (.cells (frs (List.replicate n (0, 0))).toArray 41)).heap.size := by simp
  clear HPB HB1
  go_enter Tryd.func56, Tryd.ntmps56
  go_wp2_with fail
  generalize (w.alloc (.cells #[.slice A1 n c1, .slice (some ad) m c2] 25)).alloc (.cells (frs (List.replicate n (0, 0))).toArray 41) = w2 at *
  refine (HREL.out _ HB2.out).mono ?_
  rintro e w3 (⟨_, AR, cr, rfl, hRR, hb3⟩ | ⟨hno, _⟩)
  case inr => exact absurd HOK0.out hno
  rw [HRLN.out] at hRR
  have HB3 := Lib.hid (HB2.out.trans (hb3.mono HB2.out.size))
  have HPB3 := Lib.hid (HPB2.out.below hb3 (by omega))
  have HF3 := Lib.hid (HF2.out.below hb3 (by omega))
  have HRR := Lib.hid hRR
  have hsz3 : w.heap.size + 2 ≤ w3.heap.size := Nat.le_trans hsz2 hb3.size
  have HRLN2 := HRLN.out
  rw [HRLN2]
  clear hRR hb3 HB2 HPB2 HF2 hce hmk hsz2
  go_wp2
  go_loopw [8, 9, 21] (fun _ _ i wr => ∃ k : Nat, k ≤ n ∧ i = .int .i64 (k : Int) ∧ Hid (Below w.heap.size w wr ∧ PBox wr w.heap.size (.slice A1 n c1) (.slice (some ad) m c2) ∧ HoldsF wr (w.heap.size + 1) (fillF pn n k) ∧ Reads wr w3.heap.size 1 AR n (us RL) ∧ w3.heap.size ≤ wr.heap.size)) (fun _ _ i _ => n - (intOf i).toNat)
  case atStart => exact ⟨0, Nat.zero_le _, rfl, Lib.hid ⟨HB3.out, HPB3.out, HF3.out, HRR.out, Nat.le_refl _⟩⟩
  case round =>
    obtain ⟨k, hk, rfl, HI⟩ := hrel
    by_cases hlt : k < n
    · obtain ⟨hI1, hI2, hI3, hI4, hI5⟩ := HI.out
      obtain ⟨rd, rfl, hrd, hrc⟩ := hI4.word_k hlt
      rw [HRC.out k hlt] at hrc
      have hx1 := HBL.out (k : Int)
      have hx2 : bk (k : Int) < 18446744073709551616 := Nat.lt_of_lt_of_le hx1 (Nat.pow_le_pow_right (show 0 < 2 by decide) HN2.out)
      have hand := HAND.out (bk (k : Int)) hx2 hs64
      have HW : Hid (∀ x : Nat, x < 2 ^ n → ∀ W, Below wr.heap.size wr W → Calls Tryd.prog 78 #[.agg #[.slice A1 n c1, .slice (some ad) m c2], .int .u64 (x : Int)] W fun e w' => e = .returned (.int .i64 ((wOf p.wt x : Nat) : Int)) ∧ Below W.heap.size W w') := Lib.hid (fun x hx W hb => HWT.out x hx W (belowNext hI1 hb))
      have hy1 : (bk (k : Int) &&& s) < 2 ^ n := and_lt hx1
      have HL := Lib.hid (fun W => aLowest_any (wOf p.wt (bk (k : Int) &&& s)) (wOf p.wt (bk (k : Int))) W (HWP.out _) ⟨HPOS.out k hlt, HWP.out _⟩)
      rw [HPN.out k] at HL
      have HBX : Hid (∀ W, Below wr.heap.size wr W → W.cell? ⟨w.heap.size, 0, none⟩ = some (.slice A1 n c1) ∧ W.cell? ⟨w.heap.size, 1, none⟩ = some (.slice (some ad) m c2)) := Lib.hid (fun W hb => by
        have h := hI2.below hb hI2.lt
        exact ⟨h.c0, h.c1⟩)
      have HPX : Hid (∀ W W', Below wr.heap.size wr W → OnlyB (w.heap.size + 1) W W' → PBox W' w.heap.size (.slice A1 n c1) (.slice (some ad) m c2)) := Lib.hid (fun W W' hb ho => by
        have h := hI2.below hb hI2.lt
        exact (ho.block _ h.lt (by omega)).trans h)
      have HFX : Hid (∀ W, Below wr.heap.size wr W → HoldsF W (w.heap.size + 1) (fillF pn n k)) := Lib.hid (fun W hb => hI3.below hb hI3.lt)
      have HRX : Hid (∀ W, Below wr.heap.size wr W → Reads W w3.heap.size 1 (some rd) n (us RL)) := Lib.hid (fun W hb => hI4.below (hb.mono hI5))
      have HS : Hid (w3.heap.size ≤ wr.heap.size ∧ Below w.heap.size w wr) := Lib.hid ⟨hI5, hI1⟩
      have e0 := hI2.c0
      have e1 := hI2.c1
      have hd0 : Below wr.heap.size wr wr.drew := (Below.refl _ wr).drew
      have HFN := Lib.hid (fillF_set pn (n := n) (k := k) rfl)
      have hlf := fillF_len pn n k
      clear hI1 hI2 hI3 hI4 hI5 HI
      have HWP1 := HWP.out (bk (k : Int) &&& s)
      have HWP2 := HWP.out (bk (k : Int))
      generalize wOf p.wt = wo at *
      generalize bk (k : Int) &&& s = b1 at *
      generalize bk (k : Int) = b2 at *
      generalize pn k = q at *
      obtain ⟨q1, q2⟩ := q
      unfold frV at HL
      dsimp only at HL
      go_wp2
      go_region_with (first
        | (go_at_call 78; refine (HW.out _ ?_ _ ?_).mono ?_; assumption; assumption; rintro e w5 ⟨rfl, hb5⟩; have hc5 : Below wr.heap.size wr w5 := (by refine belowNext ?_ hb5; assumption); have hd5 := (HBX.out w5 hc5).1; have hg5 := (HBX.out w5 hc5).2; clear hb5)
        | (go_at_call 77; refine (HL.out _).mono ?_; rintro e w7 ⟨rfl, hb7⟩; have hc7 : Below wr.heap.size wr w7 := (by refine belowNext ?_ hb7; assumption); have hF7 := (HFX.out w7 hc7).cells (k := k) (by rw [hlf]; exact hlt); have hp0 := hF7.1; have hp1 := hF7.2; have hq0 := (HFX.out w7 hc7).free (k * 2); have hq1 := (HFX.out w7 hc7).free (k * 2 + 1); clear hb7 hF7))
      all_goals
        have hz := (HFX.out w7 hc7).put k (q1, q2)
        rw [HFN.out] at hz
        have ho : OnlyB (w.heap.size + 1) w7 ((w7.setCell ⟨w.heap.size + 1, k * 2, none⟩ (.int .i64 (q1 : Int))).setCell ⟨w.heap.size + 1, k * 2 + 1, none⟩ (.int .i64 (q2 : Int))) := (OnlyB.set (w.heap.size + 1) (k * 2) w7 _).trans (OnlyB.set (w.heap.size + 1) (k * 2 + 1) _ _)
        have HZ := Lib.hid hz
        have HO := Lib.hid ho
        have HC7 := Lib.hid hc7
        clear hz ho hp0 hp1 hq0 hq1 hd0 hc7
        dsimp only at HZ
        generalize ((w7.setCell ⟨w.heap.size + 1, k * 2, none⟩ (.int .i64 (q1 : Int))).setCell ⟨w.heap.size + 1, k * 2 + 1, none⟩ (.int .i64 (q2 : Int))) = w8 at *
        go_wp2
        go_roundw
        case rel => exact ⟨k + 1, by omega, by go_num, Lib.hid ⟨(HS.out.2.trans (HC7.out.mono HS.out.2.size)).trans (HO.out.below (Nat.le_succ _) (Nat.le_trans HS.out.2.size HC7.out.size)), HPX.out _ _ HC7.out HO.out, HZ.out, (HRX.out _ HC7.out).onlyF (HFX.out _ HC7.out) HO.out, Nat.le_trans HS.out.1 (Nat.le_trans HC7.out.size HO.out.size)⟩⟩
        case measure => first | (simp [intOf]; done) | (simp [intOf]; omega)
    · obtain rfl : k = n := by omega
      have h1 := HI.out.2.2.1
      rw [HFU.out] at h1
      have HR := Lib.hid h1.reads
      have HBz := Lib.hid HI.out.1
      have HPL : Hid (PL.length = k) := Lib.hid (by rw [← HFU.out, fillF_len])
      clear HI h1
      go_wp2
      go_ret
      exact ⟨_, _, rfl, by rw [← HPL.out]; exact HR.out, HBz.out⟩
end Go.Proofs.YtfbgabcdeecpoaaDoor
/- Layer 24: Posteriors and Posterior by the program. -/
namespace Go.Proofs.YtfbgabcdeecpoaaDoor
open Go.RowKit Go.Proofs.Ws
set_option maxRecDepth 100000
def postsE (p : Pri) (a : Int) (s : Nat) : Int := if evE p s = 0 then (if 0 ≤ a ∧ a < p.cells.length then 0 else 2) else evE p s
def postsL (p : Pri) (a : Int) (s : Nat) : List (Nat × Nat) := if postsE p a s = 0 then postL p a.toNat s else []
def postE (p : Pri) (a x : Int) (s : Nat) : Int := if postsE p a s = 0 then (if 0 ≤ x ∧ x < p.wt.length then 0 else 2) else postsE p a s
def postV (p : Pri) (a x : Int) (s : Nat) : Nat × Nat := if postE p a x s = 0 then postN p a.toNat x.toNat s else (0, 0)
theorem postsE_ok {p : Pri} {a : Int} {s : Nat} (h : postsE p a s = 0) : OkP p ∧ s < 2 ^ p.wt.length ∧ 0 ≤ a ∧ a < p.cells.length := by
  unfold postsE at h
  split at h
  · rename_i h1
    split at h
    · rename_i h2
      exact ⟨(evE_ok h1).1, (evE_ok h1).2, h2.1, h2.2⟩
    · cases h
  · rename_i h1
    exact absurd h h1
/-- fractions and an error -/
def GivesFE (L : List (Nat × Nat)) (E : Int) (w : World) (e : Ending) (w' : World) : Prop :=
  ∃ A c, e = .returned (.tuple #[.slice A L.length c, .int .i64 E]) ∧ Reads w' w'.heap.size 2 A L.length (frs L) ∧ Below w.heap.size w w'
theorem Reads.frs_nil (w : World) (B : Nat) (A : Option Addr) : Reads w B 2 A 0 (frs []) := ⟨by simp [frs], fun h => absurd h (by omega)⟩
theorem GivesFE.none_ {E : Int} {w w' : World} (hb : Below w.heap.size w w') : GivesFE [] E w (.returned (.tuple #[.slice none 0 0, .int .i64 E])) w' := ⟨none, 0, rfl, Reads.frs_nil _ _ _, hb⟩
set_option maxHeartbeats 2000000 in
theorem aPostsE_any (p : Pri) (v : Value) (a : Int) (s : Nat) (w : World) (hM : PrR w w.heap.size v p) (hs : s < 18446744073709551616) (hT : Tab w) :
    Calls Tryd.prog 24 #[v, .int .i64 a, .int .u64 (s : Int)] w (GivesFE (postsL p a s) (postsE p a s) w) := by
  obtain ⟨A1, c1, A2, c2, rfl, hv, hr⟩ := hM.ex
  have HB1 : Hid (Below w.heap.size w (w.alloc (.cells #[.slice A1 p.wt.length c1, .slice A2 p.cells.length c2] 25))) := Lib.hid ((Below.refl _ w).alloc (Nat.le_refl _) _)
  have HPB := Lib.hid (PBox.made w (.slice A1 p.wt.length c1) (.slice A2 p.cells.length c2))
  have HC := Lib.hid (aEv_any p _ s _ (hM.step HB1.out) hs)
  by_cases h0 : evE p s = 0
  · rw [h0] at HC
    have hok := (evE_ok h0).1
    have hse := (evE_ok h0).2
    by_cases h1 : 0 ≤ a ∧ a < p.cells.length
    · have HE : Hid (postsE p a s = 0) := Lib.hid (by unfold postsE; rw [if_pos h0, if_pos h1])
      have HL : Hid (postsL p a s = postL p a.toNat s) := Lib.hid (by unfold postsL; rw [if_pos HE.out])
      obtain ⟨b, rfl⟩ := Int.eq_ofNat_of_zero_le h1.1
      have d0 : decide ((b : Int) < 0) = false := by simp
      have d1 : decide (p.cells.length ≤ b) = false := decide_eq_false (by omega)
      have HP := Lib.hid (fun (W : World) (hb : Below w.heap.size w W) => aPosts_any p _ b s W (hM.below hb hb.size) hok (by omega) hse (hT.belowAt hb hT.2))
      rw [show ((b : Nat) : Int).toNat = b from rfl] at HL
      have HLN : Hid ((postsL p (b : Int) s).length = p.wt.length) := Lib.hid (by rw [HL.out, postL_len])
      clear hM hv hr h0 h1 hok hse hs hT
      unfold GivesFE
      rw [HE.out, HLN.out, HL.out]
      clear HE HL HLN
      generalize postL p b s = PL at *
      generalize p.wt.length = n at *
      generalize p.cells.length = m at *
      go_enter Tryd.func24, Tryd.ntmps24
      go_wp2_with fail
      refine (HC.out).mono ?_
      rintro e w2 ⟨rfl, hb⟩
      have HPB2 := HPB.out.below hb HPB.out.lt
      have b0 := HPB2.c0
      have b1 := HPB2.c1
      have HB2 := Lib.hid (HB1.out.trans (hb.mono HB1.out.size))
      clear hb HPB2
      go_wp2_with fail
      refine (HP.out _ HB2.out).mono ?_
      rintro e w3 ⟨A, c, rfl, hrd, hb3⟩
      have HR := Lib.hid hrd
      have HB3 := Lib.hid (belowNext HB2.out hb3)
      clear hrd hb3 b0 b1
      go_wp2
      go_ret2
      exact ⟨A, c, rfl, HR.out, HB3.out⟩
    · have HE : Hid (postsE p a s = 2) := Lib.hid (by unfold postsE; rw [if_pos h0, if_neg h1])
      have HL : Hid (postsL p a s = []) := Lib.hid (by unfold postsL; rw [if_neg (by rw [HE.out]; decide)])
      clear hM hv hr h0 hok hse hs hT
      rw [HE.out, HL.out]
      clear HE HL
      generalize p.wt.length = n at *
      generalize p.cells.length = m at *
      by_cases h2 : a < 0
      · have d0 : decide (a < 0) = true := decide_eq_true h2
        clear h1 h2
        go_enter Tryd.func24, Tryd.ntmps24
        go_wp2_with fail
        refine (HC.out).mono ?_
        rintro e w2 ⟨rfl, hb⟩
        have HB2 := Lib.hid (HB1.out.trans (hb.mono HB1.out.size))
        clear hb
        go_wp2
        go_ret2
        exact GivesFE.none_ HB2.out
      · have d0 : decide (a < 0) = false := decide_eq_false h2
        have d1 : decide ((m : Int) ≤ a) = true := decide_eq_true (by omega)
        clear h1 h2
        go_enter Tryd.func24, Tryd.ntmps24
        go_wp2_with fail
        refine (HC.out).mono ?_
        rintro e w2 ⟨rfl, hb⟩
        have HPB2 := HPB.out.below hb HPB.out.lt
        have b0 := HPB2.c0
        have b1 := HPB2.c1
        have HB2 := Lib.hid (HB1.out.trans (hb.mono HB1.out.size))
        clear hb HPB2
        go_wp2
        go_ret2
        exact GivesFE.none_ HB2.out
  · have HE : Hid (postsE p a s = evE p s) := Lib.hid (by unfold postsE; rw [if_neg h0])
    have HL : Hid (postsL p a s = []) := Lib.hid (by unfold postsL; rw [if_neg (by rw [HE.out]; exact h0)])
    have hz : (evE p s != 0) = true := by rw [bne_iff_ne]; exact h0
    clear hM hv hr h0 hs hT
    rw [HE.out, HL.out]
    clear HE HL
    generalize evE p s = E at *
    generalize p.wt.length = n at *
    generalize p.cells.length = m at *
    go_enter Tryd.func24, Tryd.ntmps24
    go_wp2_with fail
    refine (HC.out).mono ?_
    rintro e w2 ⟨rfl, hb⟩
    have HB2 := Lib.hid (HB1.out.trans (hb.mono HB1.out.size))
    clear hb
    go_wp2
    go_ret2
    exact GivesFE.none_ HB2.out
/-- a fraction and an error -/
def GivesQ (q : Nat × Nat) (E : Int) (w : World) (e : Ending) (w' : World) : Prop :=
  e = .returned (.tuple #[frV q, .int .i64 E]) ∧ Below w.heap.size w w'
set_option maxHeartbeats 2000000 in
theorem aPosterior_any (p : Pri) (v : Value) (a x : Int) (s : Nat) (w : World) (hM : PrR w w.heap.size v p) (hs : s < 18446744073709551616) (hT : Tab w) :
    Calls Tryd.prog 22 #[v, .int .i64 a, .int .i64 x, .int .u64 (s : Int)] w (GivesQ (postV p a x s) (postE p a x s) w) := by
  obtain ⟨A1, c1, A2, c2, rfl, hv, hr⟩ := hM.ex
  have HB1 : Hid (Below w.heap.size w ((w.alloc (.cells #[.slice A1 p.wt.length c1, .slice A2 p.cells.length c2] 25)).alloc (.cells #[.int .i64 0, .int .i64 0] 41))) := Lib.hid (((Below.refl _ w).alloc (Nat.le_refl _) _).alloc (by simp) _)
  have HPB : Hid (PBox ((w.alloc (.cells #[.slice A1 p.wt.length c1, .slice A2 p.cells.length c2] 25)).alloc (.cells #[.int .i64 0, .int .i64 0] 41)) w.heap.size (.slice A1 p.wt.length c1) (.slice A2 p.cells.length c2)) := Lib.hid ((Below.heap_alloc _ _ _ (PBox.made w _ _).lt).trans (PBox.made w _ _))
  have HFB : Hid (FBox ((w.alloc (.cells #[.slice A1 p.wt.length c1, .slice A2 p.cells.length c2] 25)).alloc (.cells #[.int .i64 0, .int .i64 0] 41)) (w.heap.size + 1) (.int .i64 0) (.int .i64 0)) := Lib.hid (by
    have := FBox.made (w.alloc (.cells #[.slice A1 p.wt.length c1, .slice A2 p.cells.length c2] 25)) (.int .i64 0) (.int .i64 0)
    simpa using this)
  have HC := Lib.hid (aPostsE_any p _ a s _ (hM.step HB1.out) hs (hT.belowAt HB1.out hT.2))
  have HHW := Lib.hid (fun (W : World) (hb : Below w.heap.size w W) => aHasW_any p _ x W (hM.below hb hb.size))
  have HE : Hid (postE p a x s = if postsE p a s = 0 then (if 0 ≤ x ∧ x < p.wt.length then 0 else 2) else postsE p a s) := Lib.hid rfl
  have HV : Hid (postV p a x s = if postE p a x s = 0 then postN p a.toNat x.toNat s else (0, 0)) := Lib.hid rfl
  have HPL : Hid (postsE p a s = 0 → postsL p a s = postL p a.toNat s) := Lib.hid (fun h => by unfold postsL; rw [if_pos h])
  have HPN : Hid (postsE p a s = 0 → ∀ i, i < p.wt.length → (postL p a.toNat s).getD i (0, 0) = postN p a.toNat i s) := Lib.hid (fun _ i hi => postL_at p _ s hi)
  have HLN : Hid ((postL p a.toNat s).length = p.wt.length) := Lib.hid (postL_len p _ s)
  clear hM hv hr hs hT
  generalize postE p a x s = PE at *
  generalize postV p a x s = PV at *
  generalize postsE p a s = E at *
  generalize postsL p a s = L at *
  generalize postL p a.toNat s = L2 at *
  generalize postN p a.toNat = pn at *
  generalize p.wt.length = n at *
  generalize p.cells.length = m at *
  by_cases h0 : E = 0
  · subst h0
    obtain rfl := HPL.out rfl
    have HE2 := HE.out
    rw [if_pos rfl] at HE2
    by_cases h1 : 0 ≤ x ∧ x < (n : Int)
    · rw [if_pos h1] at HE2
      subst HE2
      have HV2 := HV.out
      rw [if_pos rfl] at HV2
      rw [decide_eq_true h1] at HHW
      obtain ⟨k, rfl⟩ := Int.eq_ofNat_of_zero_le h1.1
      have hk : k < n := by omega
      rw [show ((k : Nat) : Int).toNat = k from rfl, ← HPN.out rfl k hk] at HV2
      have HV3 := Lib.hid HV2
      clear HE HV HV2 HPL HPN h1
      go_enter Tryd.func22, Tryd.ntmps22
      go_wp2_with fail
      generalize (w.alloc (.cells #[.slice A1 n c1, .slice A2 m c2] 25)).alloc (.cells #[.int .i64 0, .int .i64 0] 41) = w1 at *
      refine (HC.out).mono ?_
      rintro e w2 ⟨A, c, rfl, hrd, hb⟩
      rw [HLN.out] at hrd
      rw [HLN.out]
      have HPB2 := HPB.out.below hb HPB.out.lt
      have HFB2 := Lib.hid (HFB.out.below hb HFB.out.lt)
      have b0 := HPB2.c0
      have b1 := HPB2.c1
      have HB2 := Lib.hid (belowNext HB1.out hb)
      have HR := Lib.hid hrd
      clear hb HPB2 hrd HFB HB1 HPB
      go_wp2_with fail
      refine (HHW.out _ HB2.out).mono ?_
      rintro e w3 ⟨rfl, hb3⟩
      obtain ⟨fb, fo', rfl, had, hc0, hc1⟩ := (HR.out.below hb3).fr_at hk
      have HFB3 := Lib.hid (HFB2.out.below hb3 HFB2.out.lt)
      have HB3 := Lib.hid (belowNext HB2.out hb3)
      have f0 := HFB3.out.free 0
      have f1 := HFB3.out.free 1
      have y0 := HFB3.out.c0
      have y1 := HFB3.out.c1
      clear hb3 b0 b1
      generalize L.getD k (0, 0) = q at *
      go_wp2
      have HZ := Lib.hid (HFB3.out.set2 (.int .i64 (q.1 : Int)) (.int .i64 (q.2 : Int)))
      clear f0 f1 y0 y1 hc0 hc1
      generalize ((w3.setCell ⟨w.heap.size + 1, 0, none⟩ (.int .i64 (q.1 : Int))).setCell ⟨w.heap.size + 1, 1, none⟩ (.int .i64 (q.2 : Int))) = w7 at *
      (try simp only [Exit.inBlock, Exit.then])
      refine bodyPost_ret (ret_cellT rfl _ _ (w.heap.size + 1) _ _ _ _ rfl HZ.out.1 Tryd.underlying41 rfl (by kernel_rfl)) rfl ?_
      exact ⟨by rw [HV3.out]; rfl, HB3.out.trans (HZ.out.2.below (Nat.le_succ _) HB3.out.size)⟩
    · rw [if_neg h1] at HE2
      subst HE2
      have HV2 := HV.out
      rw [if_neg (by decide)] at HV2
      rw [decide_eq_false h1] at HHW
      have HV3 := Lib.hid HV2
      clear HE HV HV2 HPL HPN h1
      go_enter Tryd.func22, Tryd.ntmps22
      go_wp2_with fail
      generalize (w.alloc (.cells #[.slice A1 n c1, .slice A2 m c2] 25)).alloc (.cells #[.int .i64 0, .int .i64 0] 41) = w1 at *
      refine (HC.out).mono ?_
      rintro e w2 ⟨A, c, rfl, _, hb⟩
      have HPB2 := HPB.out.below hb HPB.out.lt
      have HFB2 := Lib.hid (HFB.out.below hb HFB.out.lt)
      have b0 := HPB2.c0
      have b1 := HPB2.c1
      have HB2 := Lib.hid (belowNext HB1.out hb)
      clear hb HPB2 HFB HB1 HPB
      go_wp2_with fail
      refine (HHW.out _ HB2.out).mono ?_
      rintro e w3 ⟨rfl, hb3⟩
      have HFB3 := Lib.hid (HFB2.out.below hb3 HFB2.out.lt)
      have HB3 := Lib.hid (belowNext HB2.out hb3)
      clear hb3 b0 b1
      have f0 := HFB3.out.free 0
      have f1 := HFB3.out.free 1
      have y0 := HFB3.out.c0
      have y1 := HFB3.out.c1
      go_wp2
      have HZ := Lib.hid (HFB3.out.set2 (.int .i64 0) (.int .i64 0))
      clear f0 f1 y0 y1
      generalize ((w3.setCell ⟨w.heap.size + 1, 0, none⟩ (.int .i64 0)).setCell ⟨w.heap.size + 1, 1, none⟩ (.int .i64 0)) = w7 at *
      (try simp only [Exit.inBlock, Exit.then])
      refine bodyPost_ret (ret_cellT rfl _ _ (w.heap.size + 1) _ _ _ _ rfl HZ.out.1 Tryd.underlying41 rfl (by kernel_rfl)) rfl ?_
      exact ⟨by rw [HV3.out]; rfl, HB3.out.trans (HZ.out.2.below (Nat.le_succ _) HB3.out.size)⟩
  · have HE2 := HE.out
    rw [if_neg h0] at HE2
    subst HE2
    have HV2 := HV.out
    rw [if_neg h0] at HV2
    have hz : (PE != 0) = true := by rw [bne_iff_ne]; exact h0
    have HV3 := Lib.hid HV2
    clear HE HV HV2 HPL HPN h0
    go_enter Tryd.func22, Tryd.ntmps22
    go_wp2_with fail
    generalize (w.alloc (.cells #[.slice A1 n c1, .slice A2 m c2] 25)).alloc (.cells #[.int .i64 0, .int .i64 0] 41) = w1 at *
    refine (HC.out).mono ?_
    rintro e w2 ⟨A, c, rfl, _, hb⟩
    have HPB2 := HPB.out.below hb HPB.out.lt
    have HFB2 := Lib.hid (HFB.out.below hb HFB.out.lt)
    have b0 := HPB2.c0
    have b1 := HPB2.c1
    have HB2 := Lib.hid (belowNext HB1.out hb)
    clear hb HPB2 HFB HB1 HPB
    have HFB3 := HFB2
    have HB3 := HB2
    clear b0 b1
    have f0 := HFB3.out.free 0
    have f1 := HFB3.out.free 1
    have y0 := HFB3.out.c0
    have y1 := HFB3.out.c1
    go_wp2
    have HZ := Lib.hid (HFB3.out.set2 (.int .i64 0) (.int .i64 0))
    clear f0 f1 y0 y1
    generalize ((w2.setCell ⟨w.heap.size + 1, 0, none⟩ (.int .i64 0)).setCell ⟨w.heap.size + 1, 1, none⟩ (.int .i64 0)) = w7 at *
    (try simp only [Exit.inBlock, Exit.then])
    refine bodyPost_ret (ret_cellT rfl _ _ (w.heap.size + 1) _ _ _ _ rfl HZ.out.1 Tryd.underlying41 rfl (by kernel_rfl)) rfl ?_
    exact ⟨by rw [HV3.out]; rfl, HB3.out.trans (HZ.out.2.below (Nat.le_succ _) HB3.out.size)⟩
end Go.Proofs.YtfbgabcdeecpoaaDoor
