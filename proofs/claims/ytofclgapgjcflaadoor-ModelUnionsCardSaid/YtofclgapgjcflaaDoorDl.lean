/- Layer 13: a model restricted to a set, and what is reached from a set, on both sides. -/
import Derived.Test.YtofclgapgjcflaaDoorDk
namespace Go.Proofs.Ws
def csE (m : Mo) (s : Nat) : Int := if chkM m = 0 then (if s < 2 ^ m.n.toNat then 0 else 2) else chkM m
def restE (m : Mo) (s : Nat) : Int := if csE m s = 0 then (if s = 0 then 6 else 0) else csE m s
def restM (m : Mo) (s : Nat) : Mo := if restE m s = 0 then pickM m (mem s) else mo0
def restL (m : Mo) (s : Nat) : List Nat := if restE m s = 0 then mem s else []
def genV (m : Mo) (s : Nat) : Nat := if csE m s = 0 then genF m.rel m.n.toNat s else 0
theorem csE_ok {m : Mo} {s : Nat} (h : csE m s = 0) : OkM m.n.toNat m ∧ s < 2 ^ m.n.toNat := by
  unfold csE at h
  split at h
  · rename_i h1
    split at h
    · rename_i h2
      exact ⟨chkM_ok h1, h2⟩
    · cases h
  · rename_i h1; exact absurd h h1
theorem csE_in {m : Mo} {s : Nat} (h : chkM m = 0) (h2 : s < 2 ^ m.n.toNat) : csE m s = 0 := by unfold csE; rw [if_pos h, if_pos h2]
theorem csE_out {m : Mo} {s : Nat} (h : chkM m = 0) (h2 : ¬ s < 2 ^ m.n.toNat) : csE m s = 2 := by unfold csE; rw [if_pos h, if_neg h2]
theorem csE_bad {m : Mo} {s : Nat} (h : chkM m ≠ 0) : csE m s = chkM m := by unfold csE; rw [if_neg h]
theorem mem_bound {s n : Nat} (h : s < 2 ^ n) : ∀ x ∈ mem s, x < n := fun x hx => bit_lt h ((mem_iff s x).1 hx).2
end Go.Proofs.Ws
namespace Go.Proofs.YtofclgapgjcflaaDoor
open Go.RowKit Go.Proofs.Ws
set_option maxRecDepth 100000
theorem MoR.zero (W : World) (B : Nat) : MoR W B (.agg #[.int .i64 0, .slice none 0 0, .slice none 0 0]) mo0 := by
  have hR : Reads W B 1 none 0 (us []) := by unfold us; exact Reads.none_
  exact ⟨⟨none, 0, none, 0, rfl, hR, ⟨rfl, [], Reads.none_, fun j hj => absurd hj (by simp [mo0])⟩⟩, ⟨by unfold maxLen; decide, by unfold maxLen; decide⟩, ⟨by decide, by decide⟩, fun x hx => absurd hx (by simp [mo0]), fun r hr => absurd hr (by simp [mo0])⟩
theorem results_cell2 {fn : Func} {p u v : Tmp} {ty : TypeId} (h : fn.results = #[.cell p ty, .tmp u, .tmp v]) (tmps : Array Value) (P : Program) (w : World) :
    (results fn tmps).run P w =
      ((asAddr (tmps.getD p undef)).run P w).andThen fun a w₁ => ((loadVar ty a).run P w₁).andThen fun x w₂ => .ok (.tuple #[x, tmps.getD u undef, tmps.getD v undef]) w₂ := by
  simp only [results, h]
  simp [Sem.run_bind, Result.andThen]
theorem ret_cell2 {P : Program} {fn : Func} {p u v : Tmp} {ty : TypeId} (h : fn.results = #[.cell p ty, .tmp u, .tmp v]) (tmps : Array Value) (w : World) (g : Nat) (t : TypeId) (cs : Array Value) (fr : Nat × Nat) (d : TypeDesc)
    (hp : tmps.getD p undef = .pointer (some ⟨g, 0, none⟩)) (hg : w.heap[g]? = some (.cells cs t fr))
    (hu : P.underlying ty = some d) (hd : (match d with | .struct _ | .array _ _ => true | _ => false) = true) (hi : (P.info? ty).map (·.size) = some cs.size) :
    (results fn tmps).run P w = .ok (.tuple #[.agg cs, tmps.getD u undef, tmps.getD v undef]) w := by
  rw [results_cell2 h, hp]
  simp [asAddr, Result.andThen, run_loadVar_row w g t ty cs fr d hg hu hd hi]
theorem ret_cellT {P : Program} {fn : Func} {p u : Tmp} {ty : TypeId} (h : fn.results = #[.cell p ty, .tmp u]) (tmps : Array Value) (w : World) (g : Nat) (t : TypeId) (cs : Array Value) (fr : Nat × Nat) (d : TypeDesc)
    (hp : tmps.getD p undef = .pointer (some ⟨g, 0, none⟩)) (hg : w.heap[g]? = some (.cells cs t fr))
    (hu : P.underlying ty = some d) (hd : (match d with | .struct _ | .array _ _ => true | _ => false) = true) (hi : (P.info? ty).map (·.size) = some cs.size) :
    (results fn tmps).run P w = .ok (.tuple #[.agg cs, tmps.getD u undef]) w := by
  rw [results_cell_tmp h, hp]
  simp [asAddr, Result.andThen, run_loadVar_row w g t ty cs fr d hg hu hd hi]
set_option maxHeartbeats 4000000 in
theorem pCheckSet_any (m : Mo) (v : Value) (s : Nat) (w : World) (hM : MoR w w.heap.size v m) (hs : s < 18446744073709551616) :
    Calls Tryd.prog 39 #[v, .int .u64 (s : Int)] w fun e w' => e = .returned (.int .i64 (csE m s)) ∧ Below w.heap.size w w' := by
  obtain ⟨A1, c1, A2, c2, rfl, hv, hr⟩ := hM.ex
  have HB := Lib.hid (MBox.made w m.n (.slice A1 m.val.length c1) (.slice A2 m.rel.length c2))
  have HBe : Hid (Below w.heap.size w (w.alloc (.cells #[.int .i64 m.n, .slice A1 m.val.length c1, .slice A2 m.rel.length c2] 25))) := Lib.hid ((Below.refl _ w).alloc (Nat.le_refl _) _)
  have HC := Lib.hid (fun W (hb : Below w.heap.size w W) => pCheck_any m (.agg #[.int .i64 m.n, .slice A1 m.val.length c1, .slice A2 m.rel.length c2]) W (hM.below hb hb.size))
  clear hM hv hr
  by_cases hz : chkM m = 0
  · have ok := chkM_ok hz
    have HN := Lib.hid ok.num
    have hle := ok.le
    have HI := Lib.hid (fun h => csE_in (s := s) hz h)
    have HO := Lib.hid (fun h => csE_out (s := s) hz h)
    rw [hz] at HC
    have HW := Lib.hid (fun W (g : Nat) (h : HoldsU W g [s]) => within_any m.n.toNat [s] (some ⟨g, 0, none⟩) 1 1 W.heap.size W hle h.reads (fun x hx => by rw [List.mem_singleton.1 hx]; exact hs) (by unfold maxLen; omega))
    have HIN : Hid (inW m.n.toNat [s] = decide (s < 2 ^ m.n.toNat)) := Lib.hid (by unfold inW; simp)
    generalize m.n.toNat = n at *
    have hmn : m.n = (n : Int) := HN.out
    clear hz ok
    rw [hmn] at HC HB HBe ⊢
    clear hmn
    go_enter Tryd.func39, Tryd.ntmps39
    go_wp2_with fail
    refine (HC.out _ HBe.out).mono ?_
    rintro e w2 ⟨rfl, hb2⟩
    have HB2 := Lib.hid (HBe.out.trans (hb2.mono HBe.out.size))
    have HX := Lib.hid (HB.out.below hb2 HB.out.lt)
    clear hb2
    have b0 := HX.out.c0
    have HU := Lib.hid (HoldsU.made w2 [s])
    have HB3 := Lib.hid (HB2.out.alloc HB2.out.size (.cells (us [s]).toArray 31))
    have b0a := ((((Below.refl _ w2).alloc (Nat.le_refl _) (.cells (us [s]).toArray 31))).cell (p := ⟨w.heap.size, 0, none⟩) HX.out.lt).trans b0
    have eus : (us [s]).toArray = #[.int .u64 (s : Int)] := rfl
    rw [eus] at HU HB3 b0a
    clear eus
    by_cases hin : s < 2 ^ n
    · have HE := Lib.hid (HI.out hin)
      rw [decide_eq_true hin] at HIN
      rw [HIN.out] at HW
      clear hin HI HO
      go_wp2_with fail
      refine (HW.out _ w2.heap.size HU.out).mono ?_
      rintro e w3 ⟨rfl, rfl⟩
      go_wp2
      go_ret
      exact ⟨ret_i64 HE.out.symm, HB3.out⟩
    · have HE := Lib.hid (HO.out hin)
      rw [decide_eq_false hin] at HIN
      rw [HIN.out] at HW
      clear hin HI HO
      go_wp2_with fail
      refine (HW.out _ w2.heap.size HU.out).mono ?_
      rintro e w3 ⟨rfl, rfl⟩
      go_wp2
      go_ret
      exact ⟨ret_i64 HE.out.symm, HB3.out⟩
  · have HE := Lib.hid (csE_bad (s := s) hz)
    have hz1 : (chkM m != 0) = true := by simpa using hz
    generalize chkM m = cm at *
    clear hz
    go_enter Tryd.func39, Tryd.ntmps39
    go_wp2_with fail
    refine (HC.out _ HBe.out).mono ?_
    rintro e w2 ⟨rfl, hb2⟩
    have HB2 := Lib.hid (HBe.out.trans (hb2.mono HBe.out.size))
    clear hb2
    go_wp2
    go_ret
    exact ⟨ret_i64 HE.out.symm, HB2.out⟩
theorem sdiff_and {x y : Nat} (hx : x < 18446744073709551616) (hy : y < 18446744073709551616) : x &&& (18446744073709551615 - y) = sdiff x y := by
  apply Nat.eq_of_testBit_eq
  intro i
  rw [Nat.testBit_and, sdiff_bit, show 18446744073709551615 - y = 2 ^ 64 - (y + 1) by omega, Nat.testBit_two_pow_sub_succ (by omega)]
  by_cases hi : i < 64
  · rw [decide_eq_true hi]; simp
  · rw [Nat.testBit_lt_two_pow (Nat.lt_of_lt_of_le (show x < 2 ^ 64 from hx) (Nat.pow_le_pow_right (by decide) (by omega)))]; simp
theorem open_step {x o r : Nat} (hx : x < 18446744073709551616) (ho : o < 18446744073709551616) (hr : r < 18446744073709551616) :
    bits .or .u64 (o : Int) (bits .andNot .u64 (x : Int) (r : Int)) = ((o ||| sdiff x r : Nat) : Int) := by
  rw [u64_andNot_nat x r hx hr, sdiff_and hx hr]
  exact u64_or_nat _ _ ho (sdiff_lt (n := 64) hx)
theorem opnK_lt {rel : List (List Nat)} {w o r n : Nat} (h : ∀ q ∈ rel, ∀ x ∈ q, x < 2 ^ n) (hn : n ≤ 64) (ho : o < 18446744073709551616) {k : Nat} (hk : k ≤ rel.length) : opnK rel w o r k < 18446744073709551616 :=
  Nat.or_lt_two_pow (n := 64) ho (sdiff_lt (n := 64) (Nat.lt_of_lt_of_le (orW_lt h k hk) (Nat.pow_le_pow_right (by decide) hn)))
theorem rchK_lt {rel : List (List Nat)} {w r n : Nat} (h : ∀ q ∈ rel, ∀ x ∈ q, x < 2 ^ n) (hn : n ≤ 64) (hr : r < 18446744073709551616) {k : Nat} (hk : k ≤ rel.length) : rchK rel w r k < 18446744073709551616 :=
  Nat.or_lt_two_pow (n := 64) hr (Nat.lt_of_lt_of_le (orW_lt h k hk) (Nat.pow_le_pow_right (by decide) hn))
set_option maxHeartbeats 8000000 in
theorem pGenerated_any (m : Mo) (v : Value) (s : Nat) (w : World) (hM : MoR w w.heap.size v m) (hs : s < 18446744073709551616) (hT : Tab w) :
    Calls Tryd.prog 19 #[v, .int .u64 (s : Int)] w fun e w' => e = .returned (.tuple #[.int .u64 ((genV m s : Nat) : Int), .int .i64 (csE m s)]) ∧ Below w.heap.size w w' := by
  obtain ⟨A1, c1, A2, c2, rfl, hv, hr⟩ := hM.ex
  have HB := Lib.hid (MBox.made w m.n (.slice A1 m.val.length c1) (.slice A2 m.rel.length c2))
  have HBe : Hid (Below w.heap.size w (w.alloc (.cells #[.int .i64 m.n, .slice A1 m.val.length c1, .slice A2 m.rel.length c2] 25))) := Lib.hid ((Below.refl _ w).alloc (Nat.le_refl _) _)
  have HC := Lib.hid (fun W (hb : Below w.heap.size w W) => pCheckSet_any m (.agg #[.int .i64 m.n, .slice A1 m.val.length c1, .slice A2 m.rel.length c2]) s W (hM.below hb hb.size) hs)
  have HRR := Lib.hid hr
  have HS := Lib.hid hs
  have HT := Lib.hid hT
  have HV : Hid (genV m s = if csE m s = 0 then genF m.rel m.n.toNat s else 0) := Lib.hid rfl
  have hlm := hM.lim.2
  unfold maxLen at hlm
  clear hM hv hr hs hT
  generalize genV m s = gv at *
  by_cases hz : csE m s = 0
  · obtain ⟨ok, hsn⟩ := csE_ok hz
    have HG := Lib.hid (genF_gen ok.rel hsn)
    have HST := Lib.hid (GenS.start (rel := m.rel) hsn)
    rw [if_pos hz] at HV
    rw [hz] at HC
    have HOK := Lib.hid ok
    have hle := ok.le
    have hag := ok.agents
    have HP : Hid (2 ^ m.n.toNat ≤ 18446744073709551616) := Lib.hid (Nat.pow_le_pow_right (show 0 < 2 by decide) hle)
    have HRL := Lib.hid ok.len
    have HRX := Lib.hid ok.rel
    clear ok hsn
    rw [hz]
    clear hz
    generalize m.n.toNat = n at *
    generalize m.n = mn at *
    generalize m.rel = rel at *
    generalize hq : rel.length = q at *
    have HQ := Lib.hid hq
    clear hq
    go_enter Tryd.func19, Tryd.ntmps19
    go_wp2_with fail
    refine (HC.out _ HBe.out).mono ?_
    rintro e w2 ⟨rfl, hb2⟩
    have HB2 := Lib.hid (HBe.out.trans (hb2.mono HBe.out.size))
    have HX := Lib.hid (HB.out.below hb2 HB.out.lt)
    clear hb2
    have HTw := Lib.hid (HT.out.belowAt HB2.out HT.out.2)
    have b2 := HX.out.c2
    go_wp2
    go_loopw [7, 8, 9, 11, 31] (fun u7 u8 _ _ _ wr => ∃ o r : Nat, u8 = .int .u64 (o : Int) ∧ u7 = .int .u64 (r : Int) ∧ Hid (GenS rel n s o r) ∧ w2 = wr) (fun u7 u8 _ _ _ _ => mesG (intOf u8).toNat (intOf u7).toNat)
    case atStart => exact ⟨s, s, rfl, rfl, HST, by first | rfl | trivial⟩
    case round =>
      obtain ⟨o, r, rfl, rfl, HGS, rfl⟩ := hrel
      by_cases ho : o = 0
      · subst ho
        have HE : Hid (gv = r) := Lib.hid (by rw [HV.out]; exact GenM.unique HG.out HGS.out.fin)
        go_wp2
        go_ret2
        exact ⟨by rw [HE.out]; rfl, HB2.out⟩
      · have ho64 : o < 18446744073709551616 := SubS.lt (n := 64) HGS.out.opn (Nat.lt_of_lt_of_le HGS.out.lt HP.out)
        have hr64 : r < 18446744073709551616 := Nat.lt_of_lt_of_le HGS.out.lt HP.out
        have HZ := Lib.hid (tz_any o w2 ho64 ho HTw.out)
        have hne : ((o : Int) != 0) = true := by simp; omega
        have hap := andpred o ho ho64
        have HNX := Lib.hid (HGS.out.next hle ho HRX.out)
        have HMS := Lib.hid (mesG_next (rel := rel) (r := r) ho ho64)
        have hlow : low o < n := bit_lt HGS.out.lt (HGS.out.opn _ (testBit_low o ho ho64))
        have HO1 : Hid (o &&& (o - 1) < 18446744073709551616) := Lib.hid (Nat.lt_of_le_of_lt Nat.and_le_left ho64)
        have HR64 := Lib.hid hr64
        clear ho ho64 hr64
        generalize hlo : low o = lo at *
        have HLO := Lib.hid hlo
        clear hlo
        generalize ho1 : o &&& (o - 1) = o1 at *
        have HOO := Lib.hid ho1
        clear ho1
        go_wp2_with fail
        refine (HZ.out).mono ?_
        rintro e w3 ⟨rfl, rfl⟩
        go_wp2
        go_loopw [7, 8, 11, 31] (fun u7 u8 _ i wr => ∃ a : Nat, a ≤ q ∧ i = .int .i64 a ∧ u8 = .int .u64 ((opnK rel lo o1 r a : Nat) : Int) ∧ u7 = .int .u64 ((rchK rel lo r a : Nat) : Int) ∧ w2 = wr) (fun _ _ _ i _ => q - (intOf i).toNat)
        case atStart => exact ⟨0, Nat.zero_le _, rfl, by unfold opnK orW sdiff; simp, by unfold rchK orW; simp, by first | rfl | trivial⟩
        case round =>
          obtain ⟨a, ha, rfl, rfl, rfl, rfl⟩ := hrel
          by_cases hlt : a < q
          · obtain ⟨ad, Aj, cj, rfl, had, hcell, hrj, hlj⟩ := (HRR.out.below HB2.out (Nat.le_refl _)).at_ hlt
            have hlen := HRL.out (rel.getD a []) (getD_mem' (by have := HQ.out; omega))
            rw [hlen] at hcell hrj
            obtain ⟨aj, rfl, haj, hcj⟩ := hrj.word_k (k := lo) hlow
            have hx64 : (rel.getD a []).getD lo 0 < 18446744073709551616 := Nat.lt_of_lt_of_le (relW_lt HRX.out a lo) HP.out
            have hok := opnK_lt (w := lo) (o := o1) (r := r) HRX.out hle HO1.out (show a ≤ rel.length by have := HQ.out; omega)
            have hrk := rchK_lt (w := lo) (r := r) HRX.out hle HR64.out (show a ≤ rel.length by have := HQ.out; omega)
            have e1 := opnK_succ rel lo o1 r a
            have e2 := rchK_succ rel lo r a
            generalize (rel.getD a []).getD lo 0 = x at *
            have hs1 := open_step hx64 hok hrk
            have hs2 := u64_or_nat (rchK rel lo r a) x hrk hx64
            rw [e1] at hs1
            rw [e2] at hs2
            clear e1 e2 hlen hrj hlj hok hrk hx64
            generalize hko : opnK rel lo o1 r a = ka at *
            generalize hkr : rchK rel lo r a = kr at *
            clear hko hkr
            go_wp2
            go_roundw
            case rel => exact ⟨a + 1, by omega, by go_num, rfl, rfl, by first | rfl | trivial⟩
            case measure => first | (simp [intOf]; done) | (simp [intOf]; omega)
          · obtain rfl : q = a := by omega
            rw [HQ.out] at HNX HMS
            generalize opnK rel lo o1 r q = o2 at *
            generalize rchK rel lo r q = r2 at *
            clear hlt
            go_wp2
            go_roundw
            case rel => exact ⟨o2, r2, rfl, rfl, HNX, by first | rfl | trivial⟩
            case measure => have := HMS.out; simp [intOf]; omega
  · have hz1 : (csE m s != 0) = true := by simpa using hz
    rw [if_neg hz] at HV
    have HV0 : Hid (gv = 0) := HV
    rw [HV0.out]
    generalize csE m s = cm at *
    clear hz HV HV0
    go_enter Tryd.func19, Tryd.ntmps19
    go_wp2_with fail
    refine (HC.out _ HBe.out).mono ?_
    rintro e w2 ⟨rfl, hb2⟩
    have HB2 := Lib.hid (HBe.out.trans (hb2.mono HBe.out.size))
    clear hb2
    go_wp2
    go_ret2
    exact ⟨rfl, HB2.out⟩
end Go.Proofs.YtofclgapgjcflaaDoor
