/- Layer 17: the program's sets of worlds: what stands in memory, negation, common knowledge. -/
import Derived.Test.YtjpmhbnikoggaaaDoorNIb
import Derived.Test.YtjpmhbnikoggaaaDoorNLf
namespace Go.Proofs.YtjpmhbnikoggaaaDoor
open Go.RowKit Go.Proofs.Ws
set_option maxRecDepth 100000
set_option maxHeartbeats 8000000 in
theorem pGroupComb_own (m : Mo) (v : Value) (gi : Int) (w : World) (hM : MoR w w.heap.size v m) (hgi : -9223372036854775808 ≤ gi ∧ gi < 9223372036854775808) :
    Calls Tryd.prog 91 #[v, .int .i64 gi, .int .u64 (0 : Int), .func (.func 92) #[] #[]] w fun e w' => (((groupL m gi) = [] ∧ e = .returned (.slice none 0 0)) ∨ ∃ g c, e = .returned (.slice (some ⟨g, 0, none⟩) (groupL m gi).length c) ∧ w.heap.size ≤ g ∧ HoldsU w' g (groupL m gi)) ∧ Below w.heap.size w w' := by
  obtain ⟨A1, c1, A2, c2, rfl, hv, hr⟩ := hM.ex
  have HB := Lib.hid (MBox.made w m.n (.slice A1 m.val.length c1) (.slice A2 m.rel.length c2))
  have HBe : Hid (Below w.heap.size w (w.alloc (.cells #[.int .i64 m.n, .slice A1 m.val.length c1, .slice A2 m.rel.length c2] 25))) := Lib.hid ((Below.refl _ w).alloc (Nat.le_refl _) _)
  have HC := Lib.hid (fun W (hb : Below w.heap.size w W) => pCheck_any m (.agg #[.int .i64 m.n, .slice A1 m.val.length c1, .slice A2 m.rel.length c2]) W (hM.below hb hb.size))
  have HR := Lib.hid hr
  have HMM := Lib.hid hM
  have HE : Hid (isG m gi = false → groupL m gi = []) := Lib.hid (fun h => by unfold groupL; rw [h]; rfl)
  have HS : Hid (isG m gi = true → groupL m gi = (List.range m.n.toNat).map (fun x => gorK m.rel gi.toNat x m.rel.length)) := Lib.hid (fun h => by unfold groupL; rw [h]; rfl)
  clear hM hv hr
  by_cases hz : chkM m = 0
  · have ok := chkM_ok hz
    have hq4 := ok.agents
    rw [hz] at HC
    have hpl : (2 : Nat) ^ m.rel.length ≤ 2 ^ 4 := Nat.pow_le_pow_right (by decide) hq4
    have hpw : wrap64 (2 ^ m.rel.length) = ((2 ^ m.rel.length : Nat) : Int) := by
      have e : ((2 : Int) ^ m.rel.length) = ((2 ^ m.rel.length : Nat) : Int) := by simp
      rw [e]; generalize (2 : Nat) ^ m.rel.length = z at *; unfold wrap64; omega
    by_cases h1 : gi < 1
    · have d1 : decide (gi < 1) = true := decide_eq_true h1
      have HV := Lib.hid (HE.out (by unfold isG; rw [show decide (1 ≤ gi) = false from decide_eq_false (by omega)]; simp))
      generalize groupL m gi = res at *
      clear ok hz hpw hpl
      go_enter Tryd.func91, Tryd.ntmps91
      go_wp2_with fail
      refine (HC.out _ HBe.out).mono ?_
      rintro e w2 ⟨rfl, hb2⟩
      have HB2 := Lib.hid (HBe.out.trans (hb2.mono HBe.out.size))
      clear hb2
      go_wp2
      go_ret
      rw [HV.out]
      exact ⟨.inl ⟨rfl, rfl⟩, HB2.out⟩
    · by_cases h2 : (2 : Int) ^ m.rel.length ≤ gi
      · have d1 : decide (gi < 1) = false := decide_eq_false h1
        have d2 : decide (((2 ^ m.rel.length : Nat) : Int) ≤ gi) = true := decide_eq_true (by simpa using h2)
        have HV := Lib.hid (HE.out (by unfold isG; rw [show decide (gi < 2 ^ m.rel.length) = false from decide_eq_false (by omega)]; simp))
        generalize groupL m gi = res at *
        generalize (2 : Nat) ^ m.rel.length = p2q at *
        clear ok hz hpl
        go_enter Tryd.func91, Tryd.ntmps91
        go_wp2_with fail
        refine (HC.out _ HBe.out).mono ?_
        rintro e w2 ⟨rfl, hb2⟩
        have HB2 := Lib.hid (HBe.out.trans (hb2.mono HBe.out.size))
        have HX := Lib.hid (HB.out.below hb2 HB.out.lt)
        clear hb2
        have b2 := HX.out.c2
        go_wp2
        go_ret
        rw [HV.out]
        exact ⟨.inl ⟨rfl, rfl⟩, HB2.out⟩
      · have d1 : decide (gi < 1) = false := decide_eq_false h1
        have d2 : decide (((2 ^ m.rel.length : Nat) : Int) ≤ gi) = false := decide_eq_false (by simpa using h2)
        have HV := Lib.hid (HS.out (by unfold isG; rw [decide_eq_true hz, decide_eq_true (show 1 ≤ gi by omega), decide_eq_true (show gi < 2 ^ m.rel.length by omega)]; rfl))
        obtain ⟨g, rfl⟩ : ∃ g : Nat, gi = (g : Int) := ⟨gi.toNat, by omega⟩
        rw [show ((g : Nat) : Int).toNat = g from rfl] at HV
        have hg64 : g < 18446744073709551616 := by omega
        have d3 : decide (2 ^ m.rel.length ≤ g) = false := by
          rw [decide_eq_false_iff_not] at d2 ⊢
          exact fun h => d2 (Int.ofNat_le.2 h)
        clear d2
        have HNUM := Lib.hid ok.num
        have hle := ok.le
        have hpos := ok.pos
        have HRX := Lib.hid (fun k x => Nat.lt_of_lt_of_le (relW_lt ok.rel k x) (show 2 ^ m.n.toNat ≤ 18446744073709551616 from Nat.pow_le_pow_right (show 0 < 2 by decide) ok.le))
        have HRL := Lib.hid (fun k (h : k < m.rel.length) => ok.len (m.rel.getD k []) (getD_mem' h))
        have HFL : Hid (∀ k x, gorK m.rel g x k < 18446744073709551616) := Lib.hid (fun k x => (by exact gorK_lt64 HRX.out k x))
        generalize hres : groupL m (g : Int) = res at *
        have HRES := Lib.hid hres
        clear hres HE HS
        generalize hn : m.n.toNat = n at *
        have hmn : m.n = (n : Int) := by rw [HNUM.out]
        rw [hmn] at HB HBe HC HMM
        rw [hmn]
        clear ok hz hpl hn hmn HNUM
        generalize (2 : Nat) ^ m.rel.length = p2q at *
        generalize hrel : m.rel = rel at *
        have HREL := Lib.hid hrel
        clear hrel
        generalize hq : rel.length = q at *
        have HQ := Lib.hid hq
        clear hq
        have HRP := Lib.hid (fun W g0 (h : g0 < W.heap.size) hc => pRepeat_any 0 n g0 W hle hpos h hc)
        have HBIT := Lib.hid (fun k => bit_even (k := k) hg64)
        clear hg64
        go_enter Tryd.func91, Tryd.ntmps91
        go_wp2_with fail
        refine (HC.out _ HBe.out).mono ?_
        rintro e w2 ⟨rfl, hb2⟩
        have HB2 := Lib.hid (HBe.out.trans (hb2.mono HBe.out.size))
        have HX := Lib.hid (HB.out.below hb2 HB.out.lt)
        clear hb2
        have b0 := HX.out.c0
        have b2 := HX.out.c2
        have HNEW : Hid (w2.heap.size < (w2.alloc (.cells (us [0]).toArray 31)).heap.size ∧ (w2.alloc (.cells (us [0]).toArray 31)).cell? ⟨w2.heap.size, 0, none⟩ = some (.int .u64 (0 : Int))) := Lib.hid ⟨by simp, (HoldsU.made w2 [0]).cell 0 (by simp)⟩
        have hlt0 := HX.out.lt
        go_wp2_with fail
        refine (HRP.out _ w2.heap.size HNEW.out.1 HNEW.out.2).mono ?_
        rintro e w3 ⟨rfl, hU3, hb3⟩
        have HWA : Hid (Below w2.heap.size w2 w3) := Lib.hid (((Below.refl _ w2).alloc (Nat.le_refl _) _).trans (hb3.mono (by simp)))
        have hsz3 : (w2.alloc (.cells (us [0]).toArray 31)).heap.size = w2.heap.size + 1 := by simp
        have HU3 : Hid (HoldsU w3 (w2.heap.size + 1) (mixG (fun k x => gorK rel g x k) n 0 0)) := Lib.hid (by
          have e : mixG (fun k x => gorK rel g x k) n 0 0 = List.replicate n 0 := by
            rw [mixG_zero]
            apply List.ext_getElem (by simp)
            intro i h1 h2
            simp [gorK]
          rw [e, ← hsz3]
          exact hU3)
        have HG0 : Hid (w.heap.size < w2.heap.size + 1) := Lib.hid (by omega)
        have HB3 := Lib.hid (HB2.out.trans (HWA.out.mono HB2.out.size))
        have HX3 := Lib.hid (HX.out.below HWA.out HX.out.lt)
        have c2' := HX3.out.c2
        rw [hsz3]
        clear hU3 hb3 hsz3 b0 b2 HNEW HWA HX HB2
        generalize w2.heap.size + 1 = G at *
        go_wp2
        obtain ⟨FF, hFF⟩ : ∃ FF : Nat → Nat → Nat, FF = fun k x => gorK rel g x k := ⟨_, rfl⟩
        rw [← hFF] at HU3
        have HHIT : Hid (∀ k x, g.testBit k = true → FF (k + 1) x = FF k x ||| (rel.getD k []).getD x 0) := Lib.hid (fun k x h => by rw [hFF]; show gorK rel g x (k + 1) = _; rw [gorK, if_pos h])
        have HMISS : Hid (∀ k x, g.testBit k = false → FF (k + 1) x = FF k x) := Lib.hid (fun k x h => by rw [hFF]; show gorK rel g x (k + 1) = _; rw [gorK, h]; rfl)
        have HFL2 : Hid (∀ k x, FF k x < 18446744073709551616) := Lib.hid (fun k x => by rw [hFF]; exact HFL.out k x)
        have HV2 : Hid (res = (List.range n).map (FF q)) := Lib.hid (by rw [HV.out, hFF])
        clear hFF HFL HV c2'
        go_loopw [10, 11, 12, 36, 48] (fun _ _ _ i _ wr => ∃ k : Nat, k ≤ q ∧ i = .int .i64 k ∧ Hid (HoldsU wr G (mixG FF n k 0)) ∧ Hid (Below w.heap.size w wr)) (fun _ _ _ i _ _ => q - (intOf i).toNat)
        case atStart => exact ⟨0, Nat.zero_le _, rfl, HU3, HB3⟩
        case round =>
          obtain ⟨k, hk, rfl, HU, HBk⟩ := hrel
          by_cases hlt : k < q
          · obtain ⟨ad, Aj, cj, rfl, hb, hc0, hrj, hlj⟩ := HR.out.at_ hlt
            have hc := (HBk.out.cell (p := ad.add k) (by rw [block_of_add]; exact hb)).trans hc0
            have hlen := HRL.out k hlt
            rw [hlen] at hc hrj
            have HRJ := Lib.hid hrj
            have hba := HBIT.out k
            clear hc0 hlen hrj hlj
            by_cases hbit : g.testBit k = true
            · rw [if_pos hbit] at hba
              have HH := Lib.hid (fun x => HHIT.out k x hbit)
              clear hbit
              go_wp2
              go_loopw [12, 48] (fun _ i wy => ∃ j : Nat, j ≤ n ∧ i = .int .i64 j ∧ Hid (HoldsU wy G (mixG FF n k j)) ∧ Hid (Below w.heap.size w wy)) (fun _ i _ => n - (intOf i).toNat)
              case atStart => exact ⟨0, Nat.zero_le _, rfl, HU, HBk⟩
              case round =>
                obtain ⟨j, hj, rfl, HUj, HBj⟩ := hrel
                by_cases hlt2 : j < n
                · obtain ⟨aj, rfl, haj, hcj⟩ := (HRJ.out.below HBj.out).word_k (k := j) hlt2
                  have hcu := HUj.out.cell j (by rw [mixG_len]; exact hlt2)
                  rw [mixG_get hlt2] at hcu
                  have HSET := Lib.hid (fun (x : Nat) h => mixG_set (F := FF) (k := k) hlt2 (x := x) h)
                  have HNX := Lib.hid (HSET.out _ (HH.out j).symm)
                  have HII := Lib.hid (pGroupOp_any (FF k j) ((rel.getD k []).getD j 0) wr.drew (HFL2.out k j) (HRX.out k j))
                  clear HSET
                  have hfu := HUj.out.free j
                  have hcu2 : wr.drew.cell? ⟨G, j, none⟩ = _ := hcu
                  have hfu2 : wr.drew.frozen? ⟨G, j, none⟩ = false := hfu
                  have hcj2 : wr.drew.cell? (aj.add j) = _ := hcj
                  have HUd : Hid (HoldsU wr.drew G (mixG FF n k j)) := HUj
                  have HBd := Lib.hid HBj.out.drew
                  generalize (rel.getD k []).getD j 0 = z at *
                  generalize FF k j = x at *
                  go_wp2
                  refine wp_region_still_tail 13 (by kernel_rfl) (by kernel_rfl) ?_
                  simp only [List.take_succ_cons, List.take_zero, List.drop_succ_cons, List.drop_zero]
                  repeat still_step
                  still_call HII.out
                  repeat still_step
                  try refine wpStill_nil ?_
                  change wpList _ _ _ _ _ wr.drew
                  clear hcu hfu hcj HII hcu2 hfu2 hcj2 HUj HBj
                  have hcu := HUd.out.cell j (by rw [mixG_len]; exact hlt2)
                  have hfu := HUd.out.free j
                  generalize wr.drew = w6 at *
                  go_wp2
                  go_roundw
                  case rel => exact ⟨j + 1, by omega, by go_num, Lib.hid (by have h9 := HUd.out.put j (x ||| z); rw [HNX.out] at h9; exact h9), Lib.hid (HBd.out.trans ((OnlyB.set G j w6 _).below (Nat.le_of_lt HG0.out) HBd.out.size))⟩
                  case measure => first | (simp [intOf]; done) | (simp [intOf]; omega)
                · obtain rfl : n = j := by omega
                  have HUf := HUj
                  rw [mixG_full, ← mixG_zero] at HUf
                  clear hlt2 HUj
                  go_wp2
                  go_roundw
                  case rel => exact ⟨k + 1, by omega, by go_num, HUf, HBj⟩
                  case measure => first | (simp [intOf]; done) | (simp [intOf]; omega)
            · have hbit2 : g.testBit k = false := by simpa using hbit
              rw [if_neg hbit] at hba
              have HUf : Hid (HoldsU wr G (mixG FF n (k + 1) 0)) := Lib.hid (by
                have e : mixG FF n (k + 1) 0 = mixG FF n k 0 := by
                  rw [mixG_zero, mixG_zero]
                  exact List.map_congr_left (fun x _ => HMISS.out k x hbit2)
                rw [e]; exact HU.out)
              clear hbit hbit2
              go_wp2
              go_roundw
              case rel => exact ⟨k + 1, by omega, by go_num, HUf, HBk⟩
              case measure => first | (simp [intOf]; done) | (simp [intOf]; omega)
          · obtain rfl : q = k := by omega
            clear hlt
            go_wp2
            go_ret
            have h9 := HU.out
            rw [mixG_zero, ← HV2.out] at h9
            have h8 : res.length = n := by rw [HV2.out]; simp
            rw [h8]
            exact ⟨.inr ⟨_, _, rfl, Nat.le_of_lt HG0.out, h9⟩, HBk.out⟩
  · have hne : (chkM m != 0) = true := by rw [bne_iff_ne]; exact hz
    have HV := Lib.hid (HE.out (by unfold isG; rw [decide_eq_false hz]; rfl))
    generalize groupL m gi = res at *
    generalize chkM m = ce at *
    clear hz
    go_enter Tryd.func91, Tryd.ntmps91
    go_wp2_with fail
    refine (HC.out _ HBe.out).mono ?_
    rintro e w2 ⟨rfl, hb2⟩
    have HB2 := Lib.hid (HBe.out.trans (hb2.mono HBe.out.size))
    clear hb2
    go_wp2
    go_ret
    rw [HV.out]
    exact ⟨.inl ⟨rfl, rfl⟩, HB2.out⟩
set_option maxHeartbeats 4000000 in
theorem pGroup_own (m : Mo) (v : Value) (gi : Int) (w : World) (hM : MoR w w.heap.size v m) (hgi : -9223372036854775808 ≤ gi ∧ gi < 9223372036854775808) :
    Calls Tryd.prog 79 #[v, .int .i64 gi] w fun e w' => (((groupL m gi) = [] ∧ e = .returned (.slice none 0 0)) ∨ ∃ g c, e = .returned (.slice (some ⟨g, 0, none⟩) (groupL m gi).length c) ∧ w.heap.size ≤ g ∧ HoldsU w' g (groupL m gi)) ∧ Below w.heap.size w w' := by
  obtain ⟨A1, c1, A2, c2, rfl, hv, hr⟩ := hM.ex
  have HBe : Hid (Below w.heap.size w (w.alloc (.cells #[.int .i64 m.n, .slice A1 m.val.length c1, .slice A2 m.rel.length c2] 25))) := Lib.hid ((Below.refl _ w).alloc (Nat.le_refl _) _)
  have HC := Lib.hid (pGroupComb_own m (.agg #[.int .i64 m.n, .slice A1 m.val.length c1, .slice A2 m.rel.length c2]) gi _ (hM.below HBe.out HBe.out.size) hgi)
  clear hM hv hr
  generalize groupL m gi = res at *
  go_enter Tryd.func79, Tryd.ntmps79
  go_wp2_with fail
  refine (HC.out).mono ?_
  rintro e w2 ⟨hR, hb2⟩
  have HB2 := Lib.hid (HBe.out.trans (hb2.mono HBe.out.size))
  rcases hR with ⟨rfl, rfl⟩ | ⟨g, c, rfl, hg, hH⟩
  · clear hb2
    go_wp2
    go_ret
    exact ⟨.inl (by first | exact ⟨rfl, rfl⟩ | rfl | trivial), HB2.out⟩
  · have HG := Lib.hid hg
    have HH := Lib.hid hH
    clear hb2 hg hH
    go_wp2
    go_ret
    exact ⟨.inr ⟨g, c, rfl, Nat.le_trans HBe.out.size HG.out, HH.out⟩, HB2.out⟩
def bsC (l : List Bool) : List Value := l.map Value.bool
/-- the checker's state: the model, its worlds, the sets so far, and which nodes have a meaning -/
structure TS (W : World) (g : Nat) (m : Mo) (A1 : Option Addr) (c1 : Nat) (A2 : Option Addr) (c2 : Nat) (sets : List Nat) (has : List Bool) : Prop where
  ex : ∃ V2 V3, W.heap[g]? = some (.cells #[.int .i64 m.n, .slice A1 m.val.length c1, .slice A2 m.rel.length c2, .int .u64 (allV m.n : Int), V2, V3] 88 (0, 0)) ∧
    W.ownsRow (g + 1) 31 1 V2 sets.length (us sets) ∧ W.ownsRow (g + 1) 4 1 V3 has.length (bsC has)
theorem TS.lt {W : World} {g : Nat} {m : Mo} {A1 : Option Addr} {c1 : Nat} {A2 : Option Addr} {c2 : Nat} {sets : List Nat} {has : List Bool} (h : TS W g m A1 c1 A2 c2 sets has) : g < W.heap.size := by
  obtain ⟨_, _, hg, _, _⟩ := h.ex
  exact (Array.getElem?_eq_some_iff.1 hg).1
theorem TS.keep {W W' : World} {B g : Nat} {m : Mo} {A1 : Option Addr} {c1 : Nat} {A2 : Option Addr} {c2 : Nat} {sets : List Nat} {has : List Bool} (h : TS W g m A1 c1 A2 c2 sets has) (hb : Below B W W') (hB : W.heap.size ≤ B) : TS W' g m A1 c1 A2 c2 sets has := by
  have hlt := h.lt
  obtain ⟨V2, V3, hg, h2, h3⟩ := h.ex
  exact ⟨V2, V3, (hb.block g (Nat.lt_of_lt_of_le hlt hB)).trans hg, own_keep1K h2 (fun j hj => hb.block j (Nat.lt_of_lt_of_le (h2.lt j hj).2 hB)), own_keep1K h3 (fun j hj => hb.block j (Nat.lt_of_lt_of_le (h3.lt j hj).2 hB))⟩
theorem TS.below {W W' : World} {g : Nat} {m : Mo} {A1 : Option Addr} {c1 : Nat} {A2 : Option Addr} {c2 : Nat} {sets : List Nat} {has : List Bool} (h : TS W g m A1 c1 A2 c2 sets has) (hb : Below W.heap.size W W') : TS W' g m A1 c1 A2 c2 sets has := h.keep hb (Nat.le_refl _)
/-- its cells -/
theorem TS.cells {W : World} {g : Nat} {m : Mo} {A1 : Option Addr} {c1 : Nat} {A2 : Option Addr} {c2 : Nat} {sets : List Nat} {has : List Bool} (h : TS W g m A1 c1 A2 c2 sets has) :
    W.cell? ⟨g, 0, none⟩ = some (.int .i64 m.n) ∧ W.cell? ⟨g, 1, none⟩ = some (.slice A1 m.val.length c1) ∧ W.cell? ⟨g, 2, none⟩ = some (.slice A2 m.rel.length c2) ∧ W.cell? ⟨g, 3, none⟩ = some (.int .u64 (allV m.n : Int)) ∧
    (∃ A3 c3, W.cell? ⟨g, 4, none⟩ = some (.slice A3 sets.length c3) ∧ Reads W W.heap.size 1 A3 sets.length (us sets)) ∧ (∃ A4 c4, W.cell? ⟨g, 5, none⟩ = some (.slice A4 has.length c4) ∧ Reads W W.heap.size 1 A4 has.length (bsC has)) := by
  obtain ⟨V2, V3, hg, h2, h3⟩ := h.ex
  obtain ⟨A3, c3, rfl⟩ := own_slK h2
  obtain ⟨A4, c4, rfl⟩ := own_slK h3
  exact ⟨(Lib.cell_of_heap hg 0).trans rfl, (Lib.cell_of_heap hg 1).trans rfl, (Lib.cell_of_heap hg 2).trans rfl, (Lib.cell_of_heap hg 3).trans rfl, ⟨A3, c3, (Lib.cell_of_heap hg 4).trans rfl, Reads.of_own h2⟩, ⟨A4, c4, (Lib.cell_of_heap hg 5).trans rfl, Reads.of_own h3⟩⟩
theorem Reads.bool_k {w : World} {B n : Nat} {A : Option Addr} {l : List Bool} (h : Reads w B 1 A n (bsC l)) {k : Nat} (hk : k < n) :
    ∃ ad, A = some ad ∧ ad.block < B ∧ w.cell? (ad.add k) = some (.bool (l.getD k false)) := by
  obtain ⟨ad, u, hA, hb, hu, hc⟩ := h.at_ hk
  refine ⟨ad, hA, hb, hc.trans ?_⟩
  unfold bsC at hu
  rw [List.getElem?_map] at hu
  rw [List.getD_eq_getElem?_getD]
  cases e : l[k]? with
  | none => rw [e] at hu; cases hu
  | some b => rw [e] at hu; injection hu with hu; rw [← hu]; rfl
section
variable (m : Mo) (A1 : Option Addr) (c1 : Nat) (A2 : Option Addr) (c2 : Nat) (sets : List Nat) (has : List Bool) (g : Nat) (w : World) (hT : TS w g m A1 c1 A2 c2 sets has)
include hT
theorem ckNot_any (s : Nat) (hs : s < 18446744073709551616) :
    Calls Tryd.prog 76 #[.pointer (some ⟨g, 0, none⟩), .int .u64 (s : Int)] w fun e w' => e = .returned (.int .u64 ((anN (allV m.n) s : Nat) : Int)) ∧ w = w' := by
  have ha : allV m.n < 18446744073709551616 := allV_lt _
  obtain ⟨_, _, _, h3, _, _⟩ := hT.cells
  have hv := u64_andNot_nat (allV m.n) s ha hs
  unfold anN
  clear hT
  generalize allV m.n = al at *
  generalize al &&& (18446744073709551615 - s) = z at *
  go_enter Tryd.func76, Tryd.ntmps76
  go_wp2
  go_ret
  exact ⟨rfl, rfl⟩
set_option maxHeartbeats 8000000 in
theorem ckCommon_any (hM : MoR w w.heap.size (.agg #[.int .i64 m.n, .slice A1 m.val.length c1, .slice A2 m.rel.length c2]) m) (hz : chkM m = 0) (gi : Int) (hg : 1 ≤ gi ∧ gi < 2 ^ m.rel.length) (x y : Nat) (hx : x < 18446744073709551616) (hy : y < 18446744073709551616) (hTab : Tab w) :
    Calls Tryd.prog 81 #[.pointer (some ⟨g, 0, none⟩), .int .i64 gi, .int .u64 (x : Int), .int .u64 (y : Int)] w fun e w' => e = .returned (.int .u64 ((comV m gi x y : Nat) : Int)) ∧ Below w.heap.size w w' := by
  have ok0 := chkM_ok hz
  obtain ⟨N, hN⟩ : ∃ N : Nat, m.n = (N : Int) := ⟨m.n.toNat, ok0.num⟩
  have ok : OkM N m := by have h := ok0; rw [hN] at h; simpa using h
  clear ok0
  have hle := ok.le
  have hpos := ok.pos
  have hg64 : -9223372036854775808 ≤ gi ∧ gi < 9223372036854775808 := by
    have h2 : (2 : Int) ^ m.rel.length ≤ 2 ^ 4 := by
      have e : ((2 : Int) ^ m.rel.length) = ((2 ^ m.rel.length : Nat) : Int) := by simp
      rw [e]
      exact_mod_cast Nat.pow_le_pow_right (by decide) ok.agents
    have := hg.1
    have := hg.2
    omega
  have HG := Lib.hid (pGroup_own m _ gi w hM hg64)
  have hsh := (grp_sh hz ok hg).1
  have HL := Lib.hid hsh.1
  have HLW := Lib.hid (sh_words hle hsh)
  have hsa := sh_and hsh x
  have hra := sh_errQ hle hsa
  have HNOT := Lib.hid (fun W (hb : Below w.heap.size w W) s hs => ckNot_any m A1 c1 A2 c2 sets has g W (hT.below hb) s hs)
  have hconv : Sh N (convV ((groupL m gi).map (· &&& x))) := conv_sh' hsa
  have HCV : Hid (∀ (W : World) (A : Option Addr) (c : Nat), Below w.heap.size w W → Reads W W.heap.size 1 A N (us ((groupL m gi).map (· &&& x))) → Calls Tryd.prog 94 #[.slice A N c] W fun e w' => ∃ A5 c5, e = .returned (.tuple #[.slice A5 N c5, .int .i64 0]) ∧ Reads w' w'.heap.size 1 A5 N (us (convV ((groupL m gi).map (· &&& x)))) ∧ Below W.heap.size W w') := Lib.hid (fun W A c hb hR => (converse_any ((groupL m gi).map (· &&& x)) A N c W hR (sh_words hle hsa) (by unfold maxLen; omega) (hTab.below hb)).mono (fun e w' h => by
    rcases h with ⟨_, A5, c5, h1, h2, h3⟩ | ⟨hne, _⟩
    · rw [hconv.1] at h1 h2
      exact ⟨A5, c5, h1, h2, h3⟩
    · exact absurd (by rw [hsa.1]; exact hra) hne))
  have hrw : reachV (convV ((groupL m gi).map (· &&& x))) (anN (allV m.n) y) < 18446744073709551616 := pow64 hle (reach_lt (sh_errQ hle hconv) hconv.1 _)
  have hnw : anN (allV m.n) y < 18446744073709551616 := anN_lt _ _ (allV_lt _)
  have HRE := Lib.hid (fun W A c (hb : Below w.heap.size w W) (hR : Reads W W.heap.size 1 A N (us (convV ((groupL m gi).map (· &&& x))))) => reach_any (convV ((groupL m gi).map (· &&& x))) (anN (allV m.n) y) A N c W hR (sh_words hle hconv) (by unfold maxLen; omega) hnw (hTab.below hb))
  have HV : Hid (comV m gi x y = anN (allV m.n) (reachV (convV ((groupL m gi).map (· &&& x))) (anN (allV m.n) y))) := Lib.hid rfl
  have HN1F := Lib.hid (fun W (hb : Below w.heap.size w W) => HNOT.out W hb y hy)
  have HN2F := Lib.hid (fun W (hb : Below w.heap.size w W) => HNOT.out W hb _ hrw)
  clear HNOT
  rw [HV.out]
  obtain ⟨t0, t1, t2, _, _, _⟩ := hT.cells
  have hlen := hsh.1
  rw [hlen] at HG
  have HF := Lib.hid (fun k => words_getD HLW.out k)
  obtain ⟨F, hF⟩ : ∃ F : Nat → Nat → Nat, F = fun k j => if k = 0 then (groupL m gi).getD j 0 else (groupL m gi).getD j 0 &&& x := ⟨_, rfl⟩
  have HF0 : Hid ((List.range N).map (F 0) = groupL m gi) := Lib.hid (by
    rw [hF, ← hlen]
    apply List.ext_getElem (by simp)
    intro i h1 h2
    simp [List.getD_eq_getElem?_getD, List.getElem?_eq_getElem h2])
  have HF1 : Hid ((List.range N).map (F 1) = (groupL m gi).map (· &&& x)) := Lib.hid (by
    rw [hF, ← hlen]
    apply List.ext_getElem (by simp)
    intro i h1 h2
    have h3 : i < (groupL m gi).length := by simpa using h2
    simp [List.getD_eq_getElem?_getD, List.getElem?_eq_getElem h3])
  have HFF : Hid (∀ j, F 1 j = F 0 j &&& x ∧ F 0 j < 18446744073709551616) := Lib.hid (fun j => by rw [hF]; exact ⟨rfl, HF.out j⟩)
  clear hF HF HV hM hz hT ok hlen hsh hsa hra hconv hg hTab HLW hN hg64
  generalize groupL m gi = G at *
  generalize hTT : G.map (· &&& x) = T at *
  clear hTT
  generalize reachV (convV T) (anN (allV m.n) y) = rv at *
  generalize anN (allV m.n) y = ny at *
  generalize m.val.length = vl at *
  generalize m.rel.length = rl at *
  go_enter Tryd.func81, Tryd.ntmps81
  go_wp2_with fail
  refine (HG.out).mono ?_
  rintro e w1 ⟨hR, hb⟩
  have HB1 := Lib.hid hb
  clear hb t0 t1 t2 HG
  rcases hR with ⟨rfl, rfl⟩ | ⟨g2, c, rfl, hg2, hH⟩
  · exfalso
    have h := HL.out
    simp at h
    omega
  have HG2 := Lib.hid hg2
  have HU1 : Hid (HoldsU w1 g2 (mixG F N 0 0)) := Lib.hid (by rw [mixG_zero, HF0.out]; exact hH)
  clear hH hg2 HL HF0
  go_wp2
  go_loopw [10, 21] (fun _ i wr => ∃ k : Nat, k ≤ N ∧ i = .int .i64 k ∧ Hid (HoldsU wr g2 (mixG F N 0 k)) ∧ Hid (Below w.heap.size w wr)) (fun _ i _ => N - (intOf i).toNat)
  case atStart => exact ⟨0, Nat.zero_le _, rfl, HU1, HB1⟩
  case round =>
    obtain ⟨k, hk, rfl, HUk, HBk⟩ := hrel
    by_cases hlt : k < N
    · have hcu := HUk.out.cell k (by rw [mixG_len]; exact hlt)
      rw [mixG_get hlt] at hcu
      have hfu := HUk.out.free k
      have hff := HFF.out k
      have HPUT : Hid (∀ z, z = F 1 k → HoldsU (wr.setCell ⟨g2, k, none⟩ (.int .u64 (z : Int))) g2 (mixG F N 0 (k + 1))) := Lib.hid (fun z hz => by
        have h := HUk.out.put k z
        rw [mixG_set hlt hz] at h
        exact h)
      have HFE := Lib.hid hff.1.symm
      have hand := u64_and_nat (F 0 k) x hff.2 hx
      generalize F 0 k = f0 at *
      generalize F 1 k = f1 at *
      clear hff
      have HBS : Hid (∀ z, Below w.heap.size w (wr.setCell ⟨g2, k, none⟩ z)) := Lib.hid (fun z => HBk.out.setCell HG2.out _)
      go_wp2
      go_roundw
      case rel => exact ⟨k + 1, by omega, by go_num, Lib.hid (HPUT.out _ HFE.out), Lib.hid (HBS.out _)⟩
      case measure => simp [intOf]; omega
    · obtain rfl : N = k := by omega
      have h9 := HUk.out.reads
      rw [mixG_len, mixG_full, HF1.out] at h9
      have HCC := Lib.hid (HCV.out wr _ c HBk.out h9)
      clear hlt h9 HUk
      go_wp2_with fail
      refine (HCC.out).mono ?_
      rintro e w2 ⟨A5, c5, rfl, hr5, hb⟩
      have HB2 := Lib.hid (HBk.out.trans (hb.mono HBk.out.size))
      have HR5 := Lib.hid hr5
      clear hb hr5 HCC
      have HN1 := Lib.hid (HN1F.out w2 HB2.out)
      go_wp2_with fail
      refine (HN1.out).mono ?_
      rintro e w3 ⟨rfl, rfl⟩
      clear HN1
      have HR1 := Lib.hid (HRE.out w2 A5 c5 HB2.out HR5.out)
      go_wp2_with fail
      refine (HR1.out).mono ?_
      rintro e w3 ⟨rfl, hb⟩
      have HB3 := Lib.hid (HB2.out.trans (hb.mono HB2.out.size))
      clear hb HR1
      have HN2 := Lib.hid (HN2F.out w3 HB3.out)
      go_wp2_with fail
      refine (HN2.out).mono ?_
      rintro e w4 ⟨rfl, rfl⟩
      clear HN2
      go_wp2
      go_ret
      exact ⟨rfl, HB3.out⟩
end
end Go.Proofs.YtjpmhbnikoggaaaDoor
