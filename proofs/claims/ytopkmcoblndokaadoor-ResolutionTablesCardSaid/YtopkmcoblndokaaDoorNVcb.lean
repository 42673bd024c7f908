/- Layer 6: texts joined: Ke Kf Kg. -/
import Derived.Test.YtopkmcoblndokaaDoorNVc
import Derived.Lib.Builder
/- Layer 5: the error of a node, and of a list of nodes, by the program. -/
namespace Go.Proofs.YtopkmcoblndokaaDoor
open Go.RowKit Go.Proofs.Ws
def opsB (O idx : Int) (n : Nd) : Bool := (decide (O < 1) || isB n.x idx) && (decide (O < 2) || isB n.y idx)
theorem beq_dec (a b : Int) : (a == b) = decide (a = b) := rfl
theorem form_split (n : Nd) (idx : Int) (h : known n.op = true) : (opsB (shO n.op) idx n && lrB (shN n.op) (shE n.op) (shG n.op) (shO n.op) n) = formOk n idx := by
  obtain ⟨op, i, e, g, x, y⟩ := n
  rcases known_cases op h with rfl | rfl | rfl | rfl | rfl | rfl | rfl | rfl | rfl | rfl | rfl | rfl | rfl | rfl | rfl | rfl | rfl | rfl | rfl | rfl | rfl
  all_goals
    simp [opsB, lrB, formOk, shN, shE, shG, shO, usesX, usesY, hasAgent, hasGroup, isB]
    simp only [beq_dec, Bool.and_assoc]
theorem range_split (n : Nd) : irB (shN n.op) (shE n.op) (shG n.op) n = rangeOk n := rfl
theorem nd_boxed {w : World} {n : Nd} {T : TypeId} {B : Nat} (hB : B = w.heap.size) :
    ∀ wr, Below (B + 1) (w.alloc (.cells #[.int .i64 n.op, .int .i64 n.i, .int .i64 n.e, .int .i64 n.g, .int .i64 n.x, .int .i64 n.y] T)) wr →
      wr.cell? ⟨B, 0, none⟩ = some (.int .i64 n.op) ∧ wr.cell? ⟨B, 1, none⟩ = some (.int .i64 n.i) ∧ wr.cell? ⟨B, 2, none⟩ = some (.int .i64 n.e) ∧ wr.cell? ⟨B, 3, none⟩ = some (.int .i64 n.g) ∧ wr.cell? ⟨B, 4, none⟩ = some (.int .i64 n.x) ∧ wr.cell? ⟨B, 5, none⟩ = some (.int .i64 n.y) := fun wr hb => by
  subst hB
  have hh := heap_alloc_new w (.cells #[.int .i64 n.op, .int .i64 n.i, .int .i64 n.e, .int .i64 n.g, .int .i64 n.x, .int .i64 n.y] T)
  refine ⟨(hb.cell (p := ⟨w.heap.size, 0, none⟩) (by simp)).trans ?_, (hb.cell (p := ⟨w.heap.size, 1, none⟩) (by simp)).trans ?_, (hb.cell (p := ⟨w.heap.size, 2, none⟩) (by simp)).trans ?_, (hb.cell (p := ⟨w.heap.size, 3, none⟩) (by simp)).trans ?_, (hb.cell (p := ⟨w.heap.size, 4, none⟩) (by simp)).trans ?_, (hb.cell (p := ⟨w.heap.size, 5, none⟩) (by simp)).trans ?_⟩ <;> (rw [Lib.cell_of_heap hh]; rfl)
theorem sh_boxed {w : World} {N E G O : Int} {T : TypeId} {B : Nat} (hB : B = w.heap.size) :
    ∀ wr, Below (B + 1) (w.alloc (.cells #[.int .i64 N, .int .i64 E, .int .i64 G, .int .i64 O] T)) wr →
      wr.cell? ⟨B, 0, none⟩ = some (.int .i64 N) ∧ wr.cell? ⟨B, 1, none⟩ = some (.int .i64 E) ∧ wr.cell? ⟨B, 2, none⟩ = some (.int .i64 G) ∧ wr.cell? ⟨B, 3, none⟩ = some (.int .i64 O) := fun wr hb => by
  subst hB
  have hh := heap_alloc_new w (.cells #[.int .i64 N, .int .i64 E, .int .i64 G, .int .i64 O] T)
  refine ⟨(hb.cell (p := ⟨w.heap.size, 0, none⟩) (by simp)).trans ?_, (hb.cell (p := ⟨w.heap.size, 1, none⟩) (by simp)).trans ?_, (hb.cell (p := ⟨w.heap.size, 2, none⟩) (by simp)).trans ?_, (hb.cell (p := ⟨w.heap.size, 3, none⟩) (by simp)).trans ?_⟩ <;> (rw [Lib.cell_of_heap hh]; rfl)
set_option maxRecDepth 100000 in
set_option maxHeartbeats 4000000 in
theorem pNode_any (n : Nd) (idx : Int) (w : World) : Calls Tryd.prog 37 #[nv n, .int .i64 idx] w fun e w' => e = .returned (.int .i64 (nodeErr n idx)) ∧ Below w.heap.size w w' := by
  have HS : Hid (∀ W, Calls Tryd.prog 63 #[.int .i64 n.op] W fun e w' => e = .returned (.tuple #[.agg #[.int .i64 (shN n.op), .int .i64 (shE n.op), .int .i64 (shG n.op), .int .i64 (shO n.op)], .bool (known n.op)]) ∧ Below W.heap.size W w') := Lib.hid (fun W => pShape_any n.op W)
  have HO := Lib.hid (fun W => pHasOps_any (shN n.op) (shE n.op) (shG n.op) (shO n.op) idx n W)
  have HL := Lib.hid (fun W => pLeaves_any (shN n.op) (shE n.op) (shG n.op) (shO n.op) n W)
  have HI := Lib.hid (fun W => pInRange_any (shN n.op) (shE n.op) (shG n.op) (shO n.op) n W)
  have HN := Lib.hid (@nd_boxed w n 55 _ rfl)
  have HF := Lib.hid (form_split n idx)
  have HG : Hid (irB (shN n.op) (shE n.op) (shG n.op) n = rangeOk n) := Lib.hid (range_split n)
  have HB0 : Hid (∀ o, Below w.heap.size w (w.alloc o)) := Lib.hid (fun o => (Below.refl _ w).alloc (Nat.le_refl _) o)
  have HV : Hid (nodeErr n idx = if known n.op = false then 10 else if formOk n idx = false then 3 else if rangeOk n = false then 2 else 0) := Lib.hid rfl
  have HK : Hid (∀ b, ((decide (shO n.op < 1) || isB n.x idx) && (decide (shO n.op < 2) || isB n.y idx)) = b → opsB (shO n.op) idx n = b) := Lib.hid (fun b h => h)
  unfold shc at HO HL HI
  obtain ⟨bo, ho⟩ : ∃ b, ((decide (shO n.op < 1) || isB n.x idx) && (decide (shO n.op < 2) || isB n.y idx)) = b := ⟨_, rfl⟩
  obtain ⟨bl, hl⟩ : ∃ b, lrB (shN n.op) (shE n.op) (shG n.op) (shO n.op) n = b := ⟨_, rfl⟩
  obtain ⟨br, hr⟩ : ∃ b, irB (shN n.op) (shE n.op) (shG n.op) n = b := ⟨_, rfl⟩
  have HF' : Hid (known n.op = true → (bo && bl) = formOk n idx) := Lib.hid (fun h => by rw [← HF.out h, HK.out _ ho, hl])
  have HG' : Hid (br = rangeOk n) := Lib.hid (by rw [← HG.out, hr])
  rw [ho] at HO
  rw [hl] at HL
  rw [hr] at HI
  clear ho hl hr HF HG HK
  unfold nv at HO HL HI ⊢
  generalize shN n.op = N at *
  generalize shE n.op = E at *
  generalize shG n.op = G at *
  generalize shO n.op = O at *
  cases hk : known n.op with
  | false =>
    rw [HV.out, if_pos hk]
    rw [hk] at HS
    clear hk HV
    obtain ⟨m0, m1, m2, m3, m4, m5⟩ := HN.out _ (Below.refl _ _)
    go_enter Tryd.func37, Tryd.ntmps37
    go_wp2_with fail
    refine (HS.out _).mono ?_
    rintro e w1 ⟨rfl, hb⟩
    have HB := Lib.hid ((HB0.out _).trans (hb.mono (by simp)))
    clear hb m0 m1 m2 m3 m4 m5
    go_wp2
    go_ret
    exact ⟨rfl, HB.out.alloc HB.out.size _⟩
  | true =>
    rw [hk] at HS HF'
    have HF2 := Lib.hid (HF'.out rfl)
    clear HF'
    obtain ⟨m0, m1, m2, m3, m4, m5⟩ := HN.out _ (Below.refl _ _)
    cases bo with
    | false =>
      rw [show nodeErr n idx = 3 from by rw [HV.out, if_neg (by rw [hk]; decide), if_pos (by rw [← HF2.out]; rfl)]]
      clear hk HV
      go_enter Tryd.func37, Tryd.ntmps37
      go_wp2_with fail
      refine (HS.out _).mono ?_
      rintro e w1 ⟨rfl, hb⟩
      have HB := Lib.hid ((HB0.out _).trans (hb.mono (by simp)))
      have hsz : w.heap.size + 1 ≤ w1.heap.size := by have := hb.size; simp at this; exact this
      have HN1 := Lib.hid (fun wr (h : Below (w.heap.size + 1) w1 wr) => HN.out wr ((hb.mono (by simp)).trans h))
      have HX := Lib.hid (@sh_boxed w1 N E G O 95 _ rfl)
      have HC := Lib.hid (fun o => (Below.refl (w1.heap.size) w1).alloc (Nat.le_refl _) o)
      clear hb m0 m1 m2 m3 m4 m5
      obtain ⟨m0, m1, m2, m3, m4, m5⟩ := HN1.out _ ((HC.out (.cells #[.int .i64 N, .int .i64 E, .int .i64 G, .int .i64 O] 95)).mono hsz)
      obtain ⟨s0, s1, s2, s3⟩ := HX.out _ (Below.refl _ _)
      have HD := Lib.hid (HC.out (.cells #[.int .i64 N, .int .i64 E, .int .i64 G, .int .i64 O] 95))
      have HQ := Lib.hid (Below.refl (w1.heap.size + 1) (w1.alloc (.cells #[.int .i64 N, .int .i64 E, .int .i64 G, .int .i64 O] 95)))
      clear HC
      go_wp2_with fail
      refine (HO.out _).mono ?_
      rintro e w2 ⟨rfl, hb⟩
      have HD0 := Lib.hid (HD.out.trans (hb.mono HD.out.size))
      have HQ0 := Lib.hid (HQ.out.trans (hb.mono (by first | exact HQ.out.size | (have h9 := HQ.out.size; simp at h9 ⊢; try omega))))
      clear hb m0 m1 m2 m3 m4 m5 s0 s1 s2 s3
      obtain ⟨m0, m1, m2, m3, m4, m5⟩ := HN1.out _ (HD0.out.mono hsz)
      obtain ⟨s0, s1, s2, s3⟩ := HX.out _ HQ0.out
      go_wp2
      go_ret
      exact ⟨rfl, HB.out.trans (HD0.out.mono HB.out.size)⟩
    | true =>
      cases bl with
      | false =>
        rw [show nodeErr n idx = 3 from by rw [HV.out, if_neg (by rw [hk]; decide), if_pos (by rw [← HF2.out]; rfl)]]
        clear hk HV
        go_enter Tryd.func37, Tryd.ntmps37
        go_wp2_with fail
        refine (HS.out _).mono ?_
        rintro e w1 ⟨rfl, hb⟩
        have HB := Lib.hid ((HB0.out _).trans (hb.mono (by simp)))
        have hsz : w.heap.size + 1 ≤ w1.heap.size := by have := hb.size; simp at this; exact this
        have HN1 := Lib.hid (fun wr (h : Below (w.heap.size + 1) w1 wr) => HN.out wr ((hb.mono (by simp)).trans h))
        have HX := Lib.hid (@sh_boxed w1 N E G O 95 _ rfl)
        have HC := Lib.hid (fun o => (Below.refl (w1.heap.size) w1).alloc (Nat.le_refl _) o)
        clear hb m0 m1 m2 m3 m4 m5
        obtain ⟨m0, m1, m2, m3, m4, m5⟩ := HN1.out _ ((HC.out (.cells #[.int .i64 N, .int .i64 E, .int .i64 G, .int .i64 O] 95)).mono hsz)
        obtain ⟨s0, s1, s2, s3⟩ := HX.out _ (Below.refl _ _)
        have HD := Lib.hid (HC.out (.cells #[.int .i64 N, .int .i64 E, .int .i64 G, .int .i64 O] 95))
        have HQ := Lib.hid (Below.refl (w1.heap.size + 1) (w1.alloc (.cells #[.int .i64 N, .int .i64 E, .int .i64 G, .int .i64 O] 95)))
        clear HC
        go_wp2_with fail
        refine (HO.out _).mono ?_
        rintro e w2 ⟨rfl, hb⟩
        have HD0 := Lib.hid (HD.out.trans (hb.mono HD.out.size))
        have HQ0 := Lib.hid (HQ.out.trans (hb.mono (by first | exact HQ.out.size | (have h9 := HQ.out.size; simp at h9 ⊢; try omega))))
        clear hb m0 m1 m2 m3 m4 m5 s0 s1 s2 s3
        obtain ⟨m0, m1, m2, m3, m4, m5⟩ := HN1.out _ (HD0.out.mono hsz)
        obtain ⟨s0, s1, s2, s3⟩ := HX.out _ HQ0.out
        go_wp2_with fail
        refine (HL.out _).mono ?_
        rintro e w3 ⟨rfl, hb⟩
        have HD1 := Lib.hid (HD0.out.trans (hb.mono HD0.out.size))
        have HQ1 := Lib.hid (HQ0.out.trans (hb.mono (by first | exact HQ0.out.size | (have h9 := HQ0.out.size; simp at h9 ⊢; try omega))))
        clear hb m0 m1 m2 m3 m4 m5 s0 s1 s2 s3
        obtain ⟨m0, m1, m2, m3, m4, m5⟩ := HN1.out _ (HD1.out.mono hsz)
        obtain ⟨s0, s1, s2, s3⟩ := HX.out _ HQ1.out
        go_wp2
        go_ret
        exact ⟨rfl, HB.out.trans (HD1.out.mono HB.out.size)⟩
      | true =>
        cases br with
        | false =>
          rw [show nodeErr n idx = 2 from by rw [HV.out, if_neg (by rw [hk]; decide), if_neg (by rw [← HF2.out]; decide), if_pos HG'.out.symm]]
          clear hk HV
          go_enter Tryd.func37, Tryd.ntmps37
          go_wp2_with fail
          refine (HS.out _).mono ?_
          rintro e w1 ⟨rfl, hb⟩
          have HB := Lib.hid ((HB0.out _).trans (hb.mono (by simp)))
          have hsz : w.heap.size + 1 ≤ w1.heap.size := by have := hb.size; simp at this; exact this
          have HN1 := Lib.hid (fun wr (h : Below (w.heap.size + 1) w1 wr) => HN.out wr ((hb.mono (by simp)).trans h))
          have HX := Lib.hid (@sh_boxed w1 N E G O 95 _ rfl)
          have HC := Lib.hid (fun o => (Below.refl (w1.heap.size) w1).alloc (Nat.le_refl _) o)
          clear hb m0 m1 m2 m3 m4 m5
          obtain ⟨m0, m1, m2, m3, m4, m5⟩ := HN1.out _ ((HC.out (.cells #[.int .i64 N, .int .i64 E, .int .i64 G, .int .i64 O] 95)).mono hsz)
          obtain ⟨s0, s1, s2, s3⟩ := HX.out _ (Below.refl _ _)
          have HD := Lib.hid (HC.out (.cells #[.int .i64 N, .int .i64 E, .int .i64 G, .int .i64 O] 95))
          have HQ := Lib.hid (Below.refl (w1.heap.size + 1) (w1.alloc (.cells #[.int .i64 N, .int .i64 E, .int .i64 G, .int .i64 O] 95)))
          clear HC
          go_wp2_with fail
          refine (HO.out _).mono ?_
          rintro e w2 ⟨rfl, hb⟩
          have HD0 := Lib.hid (HD.out.trans (hb.mono HD.out.size))
          have HQ0 := Lib.hid (HQ.out.trans (hb.mono (by first | exact HQ.out.size | (have h9 := HQ.out.size; simp at h9 ⊢; try omega))))
          clear hb m0 m1 m2 m3 m4 m5 s0 s1 s2 s3
          obtain ⟨m0, m1, m2, m3, m4, m5⟩ := HN1.out _ (HD0.out.mono hsz)
          obtain ⟨s0, s1, s2, s3⟩ := HX.out _ HQ0.out
          go_wp2_with fail
          refine (HL.out _).mono ?_
          rintro e w3 ⟨rfl, hb⟩
          have HD1 := Lib.hid (HD0.out.trans (hb.mono HD0.out.size))
          have HQ1 := Lib.hid (HQ0.out.trans (hb.mono (by first | exact HQ0.out.size | (have h9 := HQ0.out.size; simp at h9 ⊢; try omega))))
          clear hb m0 m1 m2 m3 m4 m5 s0 s1 s2 s3
          obtain ⟨m0, m1, m2, m3, m4, m5⟩ := HN1.out _ (HD1.out.mono hsz)
          obtain ⟨s0, s1, s2, s3⟩ := HX.out _ HQ1.out
          go_wp2_with fail
          refine (HI.out _).mono ?_
          rintro e w4 ⟨rfl, hb⟩
          have HD2 := Lib.hid (HD1.out.trans (hb.mono HD1.out.size))
          have HQ2 := Lib.hid (HQ1.out.trans (hb.mono (by first | exact HQ1.out.size | (have h9 := HQ1.out.size; simp at h9 ⊢; try omega))))
          clear hb m0 m1 m2 m3 m4 m5 s0 s1 s2 s3
          obtain ⟨m0, m1, m2, m3, m4, m5⟩ := HN1.out _ (HD2.out.mono hsz)
          obtain ⟨s0, s1, s2, s3⟩ := HX.out _ HQ2.out
          go_wp2
          go_ret
          exact ⟨rfl, HB.out.trans (HD2.out.mono HB.out.size)⟩
        | true =>
          rw [show nodeErr n idx = 0 from by rw [HV.out, if_neg (by rw [hk]; decide), if_neg (by rw [← HF2.out]; decide), if_neg (by rw [← HG'.out]; decide)]]
          clear hk HV
          go_enter Tryd.func37, Tryd.ntmps37
          go_wp2_with fail
          refine (HS.out _).mono ?_
          rintro e w1 ⟨rfl, hb⟩
          have HB := Lib.hid ((HB0.out _).trans (hb.mono (by simp)))
          have hsz : w.heap.size + 1 ≤ w1.heap.size := by have := hb.size; simp at this; exact this
          have HN1 := Lib.hid (fun wr (h : Below (w.heap.size + 1) w1 wr) => HN.out wr ((hb.mono (by simp)).trans h))
          have HX := Lib.hid (@sh_boxed w1 N E G O 95 _ rfl)
          have HC := Lib.hid (fun o => (Below.refl (w1.heap.size) w1).alloc (Nat.le_refl _) o)
          clear hb m0 m1 m2 m3 m4 m5
          obtain ⟨m0, m1, m2, m3, m4, m5⟩ := HN1.out _ ((HC.out (.cells #[.int .i64 N, .int .i64 E, .int .i64 G, .int .i64 O] 95)).mono hsz)
          obtain ⟨s0, s1, s2, s3⟩ := HX.out _ (Below.refl _ _)
          have HD := Lib.hid (HC.out (.cells #[.int .i64 N, .int .i64 E, .int .i64 G, .int .i64 O] 95))
          have HQ := Lib.hid (Below.refl (w1.heap.size + 1) (w1.alloc (.cells #[.int .i64 N, .int .i64 E, .int .i64 G, .int .i64 O] 95)))
          clear HC
          go_wp2_with fail
          refine (HO.out _).mono ?_
          rintro e w2 ⟨rfl, hb⟩
          have HD0 := Lib.hid (HD.out.trans (hb.mono HD.out.size))
          have HQ0 := Lib.hid (HQ.out.trans (hb.mono (by first | exact HQ.out.size | (have h9 := HQ.out.size; simp at h9 ⊢; try omega))))
          clear hb m0 m1 m2 m3 m4 m5 s0 s1 s2 s3
          obtain ⟨m0, m1, m2, m3, m4, m5⟩ := HN1.out _ (HD0.out.mono hsz)
          obtain ⟨s0, s1, s2, s3⟩ := HX.out _ HQ0.out
          go_wp2_with fail
          refine (HL.out _).mono ?_
          rintro e w3 ⟨rfl, hb⟩
          have HD1 := Lib.hid (HD0.out.trans (hb.mono HD0.out.size))
          have HQ1 := Lib.hid (HQ0.out.trans (hb.mono (by first | exact HQ0.out.size | (have h9 := HQ0.out.size; simp at h9 ⊢; try omega))))
          clear hb m0 m1 m2 m3 m4 m5 s0 s1 s2 s3
          obtain ⟨m0, m1, m2, m3, m4, m5⟩ := HN1.out _ (HD1.out.mono hsz)
          obtain ⟨s0, s1, s2, s3⟩ := HX.out _ HQ1.out
          go_wp2_with fail
          refine (HI.out _).mono ?_
          rintro e w4 ⟨rfl, hb⟩
          have HD2 := Lib.hid (HD1.out.trans (hb.mono HD1.out.size))
          have HQ2 := Lib.hid (HQ1.out.trans (hb.mono (by first | exact HQ1.out.size | (have h9 := HQ1.out.size; simp at h9 ⊢; try omega))))
          clear hb m0 m1 m2 m3 m4 m5 s0 s1 s2 s3
          obtain ⟨m0, m1, m2, m3, m4, m5⟩ := HN1.out _ (HD2.out.mono hsz)
          obtain ⟨s0, s1, s2, s3⟩ := HX.out _ HQ2.out
          go_wp2
          go_ret
          exact ⟨rfl, HB.out.trans (HD2.out.mono HB.out.size)⟩
end Go.Proofs.YtopkmcoblndokaaDoor
/- Layer 5: Check and valid of the program. -/
namespace Go.Proofs.YtopkmcoblndokaaDoor
open Go.RowKit Go.Proofs.Ws
theorem add_cell {w : World} {ad : Addr} {m j : Nat} {v : Option Value} (h : w.cell? (ad.add (m + (j + 1))) = v) : w.cell? ⟨(ad.add m).block, (ad.add m).off + (j + 1), none⟩ = v := by
  rw [← h, ← add_of_add]
  rfl
theorem errFrom_at : ∀ (l : List Nd) (k : Nat), k < l.length → errFrom k (l.drop k) = (if nodeErr (l.getD k nd0) (k : Int) ≠ 0 then nodeErr (l.getD k nd0) (k : Int) else errFrom (k + 1) (l.drop (k + 1))) := by
  intro l k hk
  rw [List.drop_eq_getElem_cons hk]
  show (if nodeErr l[k] (k : Int) ≠ 0 then nodeErr l[k] (k : Int) else errFrom (k + 1) (l.drop (k + 1))) = _
  rw [show l.getD k nd0 = l[k] from by simp [hk]]
theorem errFrom_end (l : List Nd) (k : Nat) (h : l.length ≤ k) : errFrom k (l.drop k) = 0 := by rw [List.drop_of_length_le h]; rfl
set_option maxRecDepth 100000 in
set_option maxHeartbeats 4000000 in
theorem pCheck_any (l : List Nd) (A : Option Addr) (n c : Nat) (w : World) (hR : Reads w w.heap.size 6 A n (nds l)) (hm : n ≤ maxLen) :
    Calls Tryd.prog 17 #[.slice A n c] w fun e w' => e = .returned (.int .i64 (fErr l)) ∧ Below w.heap.size w w' := by
  unfold maxLen at hm
  have hl := hR.nd_len
  have HL := Lib.hid hl
  have HR := Lib.hid hR
  clear hR
  by_cases h0 : n = 0
  · have HV : Hid (fErr l = 3) := Lib.hid (by unfold fErr; rw [if_pos (by omega)])
    subst h0
    clear hl
    go_enter Tryd.func17, Tryd.ntmps17
    go_wp2
    go_ret
    exact ⟨ret_i64 HV.out.symm, Below.refl _ _⟩
  have hne : ((n : Int) == 0) = false := by simp; omega
  by_cases h2 : 200 < n
  · have HV : Hid (fErr l = 8) := Lib.hid (by unfold fErr; rw [if_neg (by omega), if_pos (by omega)])
    have hgt : decide (200 < (n : Int)) = true := by simp; omega
    clear hl h0
    go_enter Tryd.func17, Tryd.ntmps17
    go_wp2
    go_ret
    exact ⟨ret_i64 HV.out.symm, Below.refl _ _⟩
  have HV : Hid (fErr l = errFrom 0 l) := Lib.hid (by unfold fErr; rw [if_neg (by omega), if_neg (by omega)])
  have hgt : decide (200 < (n : Int)) = false := by simp; omega
  have h200 : n ≤ 200 := by omega
  clear hl h0 h2
  go_enter Tryd.func17, Tryd.ntmps17
  go_wp2
  go_loopw [14] (fun i wr => ∃ k : Nat, k ≤ n ∧ i = .int .i64 k ∧ Hid (errFrom 0 l = errFrom k (l.drop k)) ∧ Hid (Below w.heap.size w wr)) (fun i _ => n - (intOf i).toNat)
  case atStart => exact ⟨0, Nat.zero_le _, rfl, Lib.hid rfl, Lib.hid (Below.refl _ _)⟩
  case round =>
    obtain ⟨k, hk, rfl, HI, HBR⟩ := hrel
    by_cases hlt : k < n
    · obtain ⟨ad, rfl, hb, m0, m1, m2, m3, m4, m5⟩ := (HR.out.below HBR.out).nd_at hlt
      have HE := Lib.hid (errFrom_at l k (by have := HL.out; omega))
      obtain ⟨x, hx⟩ : ∃ x, l.getD k nd0 = x := ⟨_, rfl⟩
      rw [hx] at m0 m1 m2 m3 m4 m5 HE
      have l1 := add_cell m1
      have l2 := add_cell m2
      have l3 := add_cell m3
      have l4 := add_cell m4
      have l5 := add_cell m5
      clear hx
      have HN : Hid (∀ W, Calls Tryd.prog 37 #[.agg #[.int .i64 x.op, .int .i64 x.i, .int .i64 x.e, .int .i64 x.g, .int .i64 x.x, .int .i64 x.y], .int .i64 (k : Int)] W fun e w' => e = .returned (.int .i64 (nodeErr x k)) ∧ Below W.heap.size W w') := Lib.hid (fun W => pNode_any x k W)
      have HA : Hid (∀ o w', Below (wr.alloc o).heap.size (wr.alloc o) w' → Below w.heap.size w w') := Lib.hid (fun o w' h => (HBR.out.alloc HBR.out.size o).trans (h.mono (by have := HBR.out.size; simp; omega)))
      obtain ⟨z, hz⟩ : ∃ z, nodeErr x (k : Int) = z := ⟨_, rfl⟩
      rw [hz] at HN HE
      clear hz
      by_cases hz0 : z = 0
      · subst hz0
        have HI2 := Lib.hid (HI.out.trans (by rw [HE.out, if_neg (by decide)]))
        clear HI HE
        go_wp2_with fail
        refine (HN.out _).mono ?_
        rintro e w2 ⟨rfl, hb2⟩
        have HB2 := Lib.hid (HA.out _ _ hb2)
        clear hb2 m0 m1 m2 m3 m4 m5 l1 l2 l3 l4 l5
        go_wp2
        go_roundw
        case rel => exact ⟨k + 1, by omega, by go_num, HI2, HB2⟩
        case measure => simp [intOf]; omega
      · have HI2 := Lib.hid (HV.out.trans (HI.out.trans (by rw [HE.out, if_pos hz0])))
        have hz1 : (z != 0) = true := by simpa using hz0
        clear HI HE hz0
        go_wp2_with fail
        refine (HN.out _).mono ?_
        rintro e w2 ⟨rfl, hb2⟩
        have HB2 := Lib.hid (HA.out _ _ hb2)
        clear hb2 m0 m1 m2 m3 m4 m5 l1 l2 l3 l4 l5
        go_wp2
        go_ret
        exact ⟨ret_i64 HI2.out.symm, HB2.out⟩
    · have HI2 := Lib.hid (HV.out.trans (HI.out.trans (errFrom_end l k (by have := HL.out; omega))))
      clear HI
      go_wp2
      go_ret
      exact ⟨ret_i64 HI2.out.symm, HBR.out⟩
theorem pValid_any (l : List Nd) (A : Option Addr) (n c : Nat) (w : World) (hR : Reads w w.heap.size 6 A n (nds l)) (hm : n ≤ maxLen) :
    Calls Tryd.prog 41 #[.slice A n c] w fun e w' => e = .returned (.bool (fErr l == 0)) ∧ Below w.heap.size w w' := by
  have HC := Lib.hid (pCheck_any l A n c w hR hm)
  generalize fErr l = z at *
  clear hR hm
  go_enter Tryd.func41, Tryd.ntmps41
  go_wp2_with fail
  refine HC.out.mono ?_
  rintro e w1 ⟨rfl, hb⟩
  have HB := Lib.hid hb
  clear hb HC
  go_wp2
  go_ret
  exact ⟨rfl, HB.out⟩
end Go.Proofs.YtopkmcoblndokaaDoor
/- Layer 5: the reference's small functions about operators. -/
namespace Go.Proofs.YtopkmcoblndokaaDoor
open Go.RowKit Go.Proofs.Ws
end Go.Proofs.YtopkmcoblndokaaDoor
