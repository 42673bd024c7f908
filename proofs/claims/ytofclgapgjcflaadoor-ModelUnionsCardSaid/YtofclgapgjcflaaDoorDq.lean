/- Layer 13: Rename on both sides. -/
import Derived.Test.YtofclgapgjcflaaDoorDp
namespace Go.Proofs.YtofclgapgjcflaaDoor
open Go.RowKit Go.Proofs.Ws
set_option maxRecDepth 100000
theorem renE_bad {m : Mo} {tp : List Int} (h : chkM m ≠ 0) : renE m tp = chkM m ∧ renM m tp = mo0 := by
  refine ⟨?_, ?_⟩
  · unfold renE; rw [if_neg h]
  · unfold renM; rw [if_neg (fun k => h k.1)]
theorem renE_yes {m : Mo} {tp : List Int} (h : chkM m = 0) (hp : PermL m.n.toNat tp) : renE m tp = 0 ∧ renM m tp = pickM m (invL m.n.toNat tp) := by
  have hb := (permB_iff _ _).2 hp
  refine ⟨?_, ?_⟩
  · unfold renE; rw [if_pos h, if_pos hb]
  · unfold renM; rw [if_pos ⟨h, hb⟩]
theorem renE_no {m : Mo} {tp : List Int} (h : chkM m = 0) (hp : ¬ PermL m.n.toNat tp) : renE m tp = 1 ∧ renM m tp = mo0 := by
  have hb : ¬ permB m.n.toNat tp = true := fun k => hp ((permB_iff _ _).1 k)
  refine ⟨?_, ?_⟩
  · unfold renE; rw [if_pos h, if_neg hb]
  · unfold renM; rw [if_neg (fun k => hb k.2)]
set_option maxHeartbeats 8000000 in
theorem pRename_any (m : Mo) (v : Value) (tp : List Int) (A : Option Addr) (q c : Nat) (w : World) (hM : MoR w w.heap.size v m) (hL : Reads w w.heap.size 1 A q (ints tp)) (_hq : q ≤ maxLen) :
    Calls Tryd.prog 25 #[v, .slice A q c] w fun e w' => ∃ v', e = .returned (.tuple #[v', .int .i64 (renE m tp)]) ∧ MoF w' w.heap.size v' (renM m tp) ∧ Below w.heap.size w w' := by
  obtain ⟨A1, c1, A2, c2, rfl, hv, hr⟩ := hM.ex
  have HM := Lib.hid hM
  have HL := Lib.hid hL
  have HR := Lib.hid (Rs.made w m.n (.slice A1 m.val.length c1) (.slice A2 m.rel.length c2))
  have HC := Lib.hid (fun W (hb : Below w.heap.size w W) => pCheck_any m (.agg #[.int .i64 m.n, .slice A1 m.val.length c1, .slice A2 m.rel.length c2]) W (hM.below hb hb.size))
  have HQL := Lib.hid hL.int_len
  clear hM hv hr hL
  by_cases hz : chkM m = 0
  · have ok := chkM_ok hz
    have HOK := Lib.hid ok
    have HN := Lib.hid ok.num
    have hle := ok.le
    have hmn : m.n = (m.n.toNat : Int) := HN.out
    have HMV : Hid (∀ W g, MBox W g m.n (.slice A1 m.val.length c1) (.slice A2 m.rel.length c2) → W.cell? ⟨g, 0, none⟩ = some (.int .i64 (m.n.toNat : Int))) := Lib.hid (fun W g h => by rw [h.c0, ← hmn])
    have HYES := Lib.hid (fun hp => renE_yes (tp := tp) hz hp)
    have HNO := Lib.hid (fun hp => renE_no (tp := tp) hz hp)
    rw [hz] at HC
    have HPK := Lib.hid (fun W (hb : Below w.heap.size w W) A c (h : Reads W W.heap.size 1 A m.n.toNat (iv (invL m.n.toNat tp))) (hp : PermL m.n.toNat tp) => pick_any m m.n.toNat (invL m.n.toNat tp) (.agg #[.int .i64 m.n, .slice A1 m.val.length c1, .slice A2 m.rel.length c2]) A m.n.toNat c W (HM.out.below hb hb.size) HOK.out h hle (invL_lt hp))
    have HIV := Lib.hid (fun W (hb : Below w.heap.size w W) (hqn : q = m.n.toNat ∨ False) => (by rcases hqn with h | h; exact h ▸ pInverse_any tp A q c W.heap.size W (Nat.le_refl _) ((HL.out.below hb).more hb.size) (by omega); exact h.elim : Calls Tryd.prog 46 #[.slice A q c] W (InvPost m.n.toNat tp W)))
    clear ok hmn hz HN
    generalize hq1 : m.val.length = nv at *
    generalize hq2 : m.rel.length = nr at *
    clear hq1 hq2
    generalize m.n.toNat = n at *
    by_cases hqn : q = n
    · have HQN := Lib.hid hqn
      have hne : ((q : Int) != (n : Int)) = false := by rw [hqn]; simp
      clear hqn
      go_enter Tryd.func25, Tryd.ntmps25
      go_wp2_with fail
      refine (HC.out _ HR.out.below).mono ?_
      rintro e w2 ⟨rfl, hb2⟩
      have HR2 := Lib.hid (HR.out.keep hb2)
      clear hb2
      have b0 := HMV.out _ _ HR2.out.box
      go_wp2_with fail
      clear b0
      refine (HIV.out _ HR2.out.below (.inl HQN.out)).mono ?_
      rintro e w3 ⟨hb3, ⟨hp, A3, c3, rfl, hr3⟩ | ⟨hp, rfl⟩⟩
      · have HR3 := Lib.hid (HR2.out.keep hb3)
        have HE := Lib.hid (HYES.out hp)
        have HP := Lib.hid hp
        have HRD := Lib.hid hr3
        have b0 := HR3.out.box.c0
        have b1 := HR3.out.box.c1
        have b2 := HR3.out.box.c2
        clear hb3 hp hr3
        go_wp2_with fail
        refine (HPK.out _ HR3.out.below A3 c3 HRD.out HP.out).mono ?_
        rintro e w4 ⟨v4, rfl, hm4, hb4⟩
        have HR4 := Lib.hid (HR3.out.keep hb4)
        obtain ⟨B1, d1, B2, d2, rfl, _, _⟩ := hm4.self.ex
        have HM4 := Lib.hid (hm4.mono (show w.heap.size + 2 ≤ w3.heap.size by have := HR3.out.res.lt; omega))
        clear hm4 hb4 b0 b1 b2
        generalize pickM m (invL n tp) = pm at *
        have y0 := HR4.out.res.c0
        have y1 := HR4.out.res.c1
        have y2 := HR4.out.res.c2
        have f0 := HR4.out.res.free 0
        have f1 := HR4.out.res.free 1
        have f2 := HR4.out.res.free 2
        go_wp2
        have HZ3 := Lib.hid (HR4.out.fin pm.n (.slice B1 pm.val.length d1) (.slice B2 pm.rel.length d2))
        clear y0 y1 y2 f0 f1 f2
        generalize (((w4.setCell ⟨w.heap.size + 1, 0, none⟩ (.int .i64 pm.n)).setCell ⟨w.heap.size + 1, 1, none⟩ (.slice B1 pm.val.length d1)).setCell ⟨w.heap.size + 1, 2, none⟩ (.slice B2 pm.rel.length d2)) = w7 at *
        (try simp only [Exit.inBlock, Exit.then])
        refine bodyPost_ret (ret_cellT rfl _ _ (w.heap.size + 1) _ _ _ _ rfl HZ3.out.1 Tryd.underlying25 rfl (by kernel_rfl)) rfl ?_
        rw [HE.out.1, HE.out.2]
        exact ⟨_, rfl, (HM4.out.only HZ3.out.2.2 (by omega)).mono (by omega), HZ3.out.2.1⟩

      · have HR3 := Lib.hid (HR2.out.keep hb3)
        have HE := Lib.hid (HNO.out hp)
        clear hb3 hp
        have y0 := HR3.out.res.c0
        have y1 := HR3.out.res.c1
        have y2 := HR3.out.res.c2
        have f0 := HR3.out.res.free 0
        have f1 := HR3.out.res.free 1
        have f2 := HR3.out.res.free 2
        go_wp2
        have HZ3 := Lib.hid (HR3.out.fin 0 (.slice none 0 0) (.slice none 0 0))
        clear y0 y1 y2 f0 f1 f2
        generalize (((w3.setCell ⟨w.heap.size + 1, 0, none⟩ (.int .i64 0)).setCell ⟨w.heap.size + 1, 1, none⟩ (.slice none 0 0)).setCell ⟨w.heap.size + 1, 2, none⟩ (.slice none 0 0)) = w7 at *
        (try simp only [Exit.inBlock, Exit.then])
        refine bodyPost_ret (ret_cellT rfl _ _ (w.heap.size + 1) _ _ _ _ rfl HZ3.out.1 Tryd.underlying25 rfl (by kernel_rfl)) rfl ?_
        exact ⟨_, by rw [HE.out.1]; rfl, by rw [HE.out.2]; exact MoF.zero _ _, HZ3.out.2.1⟩
    · have HE := Lib.hid (HNO.out (fun p => hqn (by rw [← HQL.out, p.len])))
      have hne : ((q : Int) != (n : Int)) = true := by rw [bne_iff_ne]; omega
      clear hqn
      go_enter Tryd.func25, Tryd.ntmps25
      go_wp2_with fail
      refine (HC.out _ HR.out.below).mono ?_
      rintro e w2 ⟨rfl, hb2⟩
      have HR2 := Lib.hid (HR.out.keep hb2)
      clear hb2
      have b0 := HMV.out _ _ HR2.out.box
      have y0 := HR2.out.res.c0
      have y1 := HR2.out.res.c1
      have y2 := HR2.out.res.c2
      have f0 := HR2.out.res.free 0
      have f1 := HR2.out.res.free 1
      have f2 := HR2.out.res.free 2
      go_wp2
      have HZ3 := Lib.hid (HR2.out.fin 0 (.slice none 0 0) (.slice none 0 0))
      clear y0 y1 y2 f0 f1 f2
      generalize (((w2.setCell ⟨w.heap.size + 1, 0, none⟩ (.int .i64 0)).setCell ⟨w.heap.size + 1, 1, none⟩ (.slice none 0 0)).setCell ⟨w.heap.size + 1, 2, none⟩ (.slice none 0 0)) = w7 at *
      (try simp only [Exit.inBlock, Exit.then])
      refine bodyPost_ret (ret_cellT rfl _ _ (w.heap.size + 1) _ _ _ _ rfl HZ3.out.1 Tryd.underlying25 rfl (by kernel_rfl)) rfl ?_
      exact ⟨_, by rw [HE.out.1]; rfl, by rw [HE.out.2]; exact MoF.zero _ _, HZ3.out.2.1⟩
  · have hz1 : (chkM m != 0) = true := by simpa using hz
    have HE := Lib.hid (renE_bad (tp := tp) hz)
    generalize chkM m = cm at *
    clear hz
    generalize hq1 : m.val.length = nv at *
    generalize hq2 : m.rel.length = nr at *
    clear hq1 hq2
    go_enter Tryd.func25, Tryd.ntmps25
    go_wp2_with fail
    refine (HC.out _ HR.out.below).mono ?_
    rintro e w2 ⟨rfl, hb2⟩
    have HR2 := Lib.hid (HR.out.keep hb2)
    clear hb2
    have y0 := HR2.out.res.c0
    have y1 := HR2.out.res.c1
    have y2 := HR2.out.res.c2
    have f0 := HR2.out.res.free 0
    have f1 := HR2.out.res.free 1
    have f2 := HR2.out.res.free 2
    go_wp2
    have HZ3 := Lib.hid (HR2.out.fin 0 (.slice none 0 0) (.slice none 0 0))
    clear y0 y1 y2 f0 f1 f2
    generalize (((w2.setCell ⟨w.heap.size + 1, 0, none⟩ (.int .i64 0)).setCell ⟨w.heap.size + 1, 1, none⟩ (.slice none 0 0)).setCell ⟨w.heap.size + 1, 2, none⟩ (.slice none 0 0)) = w7 at *
    (try simp only [Exit.inBlock, Exit.then])
    refine bodyPost_ret (ret_cellT rfl _ _ (w.heap.size + 1) _ _ _ _ rfl HZ3.out.1 Tryd.underlying25 rfl (by kernel_rfl)) rfl ?_
    exact ⟨_, by rw [HE.out.1]; rfl, by rw [HE.out.2]; exact MoF.zero _ _, HZ3.out.2.1⟩
set_option maxHeartbeats 8000000 in
theorem rRename_any (m : Mo) (v : Value) (tp : List Int) (A : Option Addr) (q c : Nat) (w : World) (hM : MoR w w.heap.size v m) (hL : Reads w w.heap.size 1 A q (ints tp)) (hq : q ≤ maxLen) :
    Calls Tryd.prog 26 #[v, .slice A q c] w fun e w' => ∃ v', e = .returned (.tuple #[v', .int .i64 (renE m tp)]) ∧ MoF w' w.heap.size v' (renM m tp) ∧ Below w.heap.size w w' := by
  obtain ⟨A1, c1, A2, c2, rfl, hv, hr⟩ := hM.ex
  have HM := Lib.hid hM
  have HL := Lib.hid hL
  have HR := Lib.hid (Rs.made w m.n (.slice A1 m.val.length c1) (.slice A2 m.rel.length c2))
  have HC := Lib.hid (fun W (hb : Below w.heap.size w W) => rCheck_any m (.agg #[.int .i64 m.n, .slice A1 m.val.length c1, .slice A2 m.rel.length c2]) W (hM.below hb hb.size))
  have HQL := Lib.hid hL.int_len
  clear hM hv hr hL
  by_cases hz : chkM m = 0
  · have ok := chkM_ok hz
    have HOK := Lib.hid ok
    have HN := Lib.hid ok.num
    have hle := ok.le
    have hmn : m.n = (m.n.toNat : Int) := HN.out
    have HMV : Hid (∀ W g, MBox W g m.n (.slice A1 m.val.length c1) (.slice A2 m.rel.length c2) → W.cell? ⟨g, 0, none⟩ = some (.int .i64 (m.n.toNat : Int))) := Lib.hid (fun W g h => by rw [h.c0, ← hmn])
    have HYES := Lib.hid (fun hp => renE_yes (tp := tp) hz hp)
    have HNO := Lib.hid (fun hp => renE_no (tp := tp) hz hp)
    rw [hz] at HC
    have HPK := Lib.hid (fun W (hb : Below w.heap.size w W) A c (h : Reads W W.heap.size 1 A m.n.toNat (iv (invL m.n.toNat tp))) (hp : PermL m.n.toNat tp) => take_any m m.n.toNat (invL m.n.toNat tp) (.agg #[.int .i64 m.n, .slice A1 m.val.length c1, .slice A2 m.rel.length c2]) A m.n.toNat c W (HM.out.below hb hb.size) HOK.out h hle (invL_lt hp))
    have HIV := Lib.hid (fun W (hb : Below w.heap.size w W) (hqn : q = m.n.toNat ∨ True) => rInverse_any tp A q m.n.toNat c W.heap.size W (Nat.le_refl _) ((HL.out.below hb).more hb.size) hle hq)
    clear ok hmn hz HN
    generalize hq1 : m.val.length = nv at *
    generalize hq2 : m.rel.length = nr at *
    clear hq1 hq2
    generalize m.n.toNat = n at *
    go_enter Tryd.func26, Tryd.ntmps26
    go_wp2_with fail
    refine (HC.out _ HR.out.below).mono ?_
    rintro e w2 ⟨rfl, hb2⟩
    have HR2 := Lib.hid (HR.out.keep hb2)
    clear hb2
    have b0 := HMV.out _ _ HR2.out.box
    go_wp2_with fail
    clear b0
    refine (HIV.out _ HR2.out.below (.inr trivial)).mono ?_
    rintro e w3 ⟨hb3, ⟨hp, A3, c3, rfl, hr3⟩ | ⟨hp, rfl⟩⟩
    · have HR3 := Lib.hid (HR2.out.keep hb3)
      have HE := Lib.hid (HYES.out hp)
      have HP := Lib.hid hp
      have HRD := Lib.hid hr3
      have b0 := HR3.out.box.c0
      have b1 := HR3.out.box.c1
      have b2 := HR3.out.box.c2
      clear hb3 hp hr3
      go_wp2_with fail
      refine (HPK.out _ HR3.out.below A3 c3 HRD.out HP.out).mono ?_
      rintro e w4 ⟨v4, rfl, hm4, hb4⟩
      have HR4 := Lib.hid (HR3.out.keep hb4)
      obtain ⟨B1, d1, B2, d2, rfl, _, _⟩ := hm4.self.ex
      have HM4 := Lib.hid (hm4.mono (show w.heap.size + 2 ≤ w3.heap.size by have := HR3.out.res.lt; omega))
      clear hm4 hb4 b0 b1 b2
      generalize pickM m (invL n tp) = pm at *
      have y0 := HR4.out.res.c0
      have y1 := HR4.out.res.c1
      have y2 := HR4.out.res.c2
      have f0 := HR4.out.res.free 0
      have f1 := HR4.out.res.free 1
      have f2 := HR4.out.res.free 2
      go_wp2
      have HZ3 := Lib.hid (HR4.out.fin pm.n (.slice B1 pm.val.length d1) (.slice B2 pm.rel.length d2))
      clear y0 y1 y2 f0 f1 f2
      generalize (((w4.setCell ⟨w.heap.size + 1, 0, none⟩ (.int .i64 pm.n)).setCell ⟨w.heap.size + 1, 1, none⟩ (.slice B1 pm.val.length d1)).setCell ⟨w.heap.size + 1, 2, none⟩ (.slice B2 pm.rel.length d2)) = w7 at *
      (try simp only [Exit.inBlock, Exit.then])
      refine bodyPost_ret (ret_cellT rfl _ _ (w.heap.size + 1) _ _ _ _ rfl HZ3.out.1 Tryd.underlying25 rfl (by kernel_rfl)) rfl ?_
      rw [HE.out.1, HE.out.2]
      exact ⟨_, rfl, (HM4.out.only HZ3.out.2.2 (by omega)).mono (by omega), HZ3.out.2.1⟩

    · have HR3 := Lib.hid (HR2.out.keep hb3)
      have HE := Lib.hid (HNO.out hp)
      clear hb3 hp
      have y0 := HR3.out.res.c0
      have y1 := HR3.out.res.c1
      have y2 := HR3.out.res.c2
      have f0 := HR3.out.res.free 0
      have f1 := HR3.out.res.free 1
      have f2 := HR3.out.res.free 2
      go_wp2
      have HZ3 := Lib.hid (HR3.out.fin 0 (.slice none 0 0) (.slice none 0 0))
      clear y0 y1 y2 f0 f1 f2
      generalize (((w3.setCell ⟨w.heap.size + 1, 0, none⟩ (.int .i64 0)).setCell ⟨w.heap.size + 1, 1, none⟩ (.slice none 0 0)).setCell ⟨w.heap.size + 1, 2, none⟩ (.slice none 0 0)) = w7 at *
      (try simp only [Exit.inBlock, Exit.then])
      refine bodyPost_ret (ret_cellT rfl _ _ (w.heap.size + 1) _ _ _ _ rfl HZ3.out.1 Tryd.underlying25 rfl (by kernel_rfl)) rfl ?_
      exact ⟨_, by rw [HE.out.1]; rfl, by rw [HE.out.2]; exact MoF.zero _ _, HZ3.out.2.1⟩
  · have hz1 : (chkM m != 0) = true := by simpa using hz
    have HE := Lib.hid (renE_bad (tp := tp) hz)
    generalize chkM m = cm at *
    clear hz
    generalize hq1 : m.val.length = nv at *
    generalize hq2 : m.rel.length = nr at *
    clear hq1 hq2
    go_enter Tryd.func26, Tryd.ntmps26
    go_wp2_with fail
    refine (HC.out _ HR.out.below).mono ?_
    rintro e w2 ⟨rfl, hb2⟩
    have HR2 := Lib.hid (HR.out.keep hb2)
    clear hb2
    have y0 := HR2.out.res.c0
    have y1 := HR2.out.res.c1
    have y2 := HR2.out.res.c2
    have f0 := HR2.out.res.free 0
    have f1 := HR2.out.res.free 1
    have f2 := HR2.out.res.free 2
    go_wp2
    have HZ3 := Lib.hid (HR2.out.fin 0 (.slice none 0 0) (.slice none 0 0))
    clear y0 y1 y2 f0 f1 f2
    generalize (((w2.setCell ⟨w.heap.size + 1, 0, none⟩ (.int .i64 0)).setCell ⟨w.heap.size + 1, 1, none⟩ (.slice none 0 0)).setCell ⟨w.heap.size + 1, 2, none⟩ (.slice none 0 0)) = w7 at *
    (try simp only [Exit.inBlock, Exit.then])
    refine bodyPost_ret (ret_cellT rfl _ _ (w.heap.size + 1) _ _ _ _ rfl HZ3.out.1 Tryd.underlying25 rfl (by kernel_rfl)) rfl ?_
    exact ⟨_, by rw [HE.out.1]; rfl, by rw [HE.out.2]; exact MoF.zero _ _, HZ3.out.2.1⟩
end Go.Proofs.YtofclgapgjcflaaDoor
