/- Layer 6: texts joined: Ke Kf Kg Kh. -/
import Derived.Test.YtjpmhbnikoggaaaGreatDoorNJb
import Derived.Lib.Builder
/- Layer 5: the error of a node, and of a list of nodes, by the program. -/
namespace Go.Proofs.YtjpmhbnikoggaaaGreatDoor
open Go.RowKit Go.Proofs.Ws
def opsB (O idx : Int) (n : Nd) : Bool := (decide (O < 1) || isB n.x idx) && (decide (O < 2) || isB n.y idx)
theorem beq_dec (a b : Int) : (a == b) = decide (a = b) := rfl
theorem form_split (n : Nd) (idx : Int) (h : known n.op = true) : (opsB (shO n.op) idx n && lrB (shN n.op) (shE n.op) (shG n.op) (shO n.op) n) = formOk n idx := by
  obtain ⟨op, i, e, g, x, y⟩ := n
  rcases known_cases op h with rfl | rfl | rfl | rfl | rfl | rfl | rfl | rfl | rfl | rfl | rfl | rfl | rfl | rfl | rfl | rfl | rfl | rfl | rfl | rfl | rfl
  all_goals
    simp [opsB, lrB, formOk, shN, shE, shG, shO, usesX, usesY, hasAgent, hasGroup, isB]
    simp only [beq_dec, Bool.and_assoc]
theorem range_split (n : Nd) : irB (shN n.op) (shE n.op) (shG n.op) n = rangeOk n := rfl
theorem nd_boxed {w : World} {n : Nd} {T : TypeId} {B : Nat} (hB : B = w.heap.size) :
    ∀ wr, Below (B + 1) (w.alloc (.cells #[.int .i64 n.op, .int .i64 n.i, .int .i64 n.e, .int .i64 n.g, .int .i64 n.x, .int .i64 n.y] T)) wr →
      wr.cell? ⟨B, 0, none⟩ = some (.int .i64 n.op) ∧ wr.cell? ⟨B, 1, none⟩ = some (.int .i64 n.i) ∧ wr.cell? ⟨B, 2, none⟩ = some (.int .i64 n.e) ∧ wr.cell? ⟨B, 3, none⟩ = some (.int .i64 n.g) ∧ wr.cell? ⟨B, 4, none⟩ = some (.int .i64 n.x) ∧ wr.cell? ⟨B, 5, none⟩ = some (.int .i64 n.y) := fun wr hb => by
  subst hB
  have hh := heap_alloc_new w (.cells #[.int .i64 n.op, .int .i64 n.i, .int .i64 n.e, .int .i64 n.g, .int .i64 n.x, .int .i64 n.y] T)
  refine ⟨(hb.cell (p := ⟨w.heap.size, 0, none⟩) (by simp)).trans ?_, (hb.cell (p := ⟨w.heap.size, 1, none⟩) (by simp)).trans ?_, (hb.cell (p := ⟨w.heap.size, 2, none⟩) (by simp)).trans ?_, (hb.cell (p := ⟨w.heap.size, 3, none⟩) (by simp)).trans ?_, (hb.cell (p := ⟨w.heap.size, 4, none⟩) (by simp)).trans ?_, (hb.cell (p := ⟨w.heap.size, 5, none⟩) (by simp)).trans ?_⟩ <;> (rw [Lib.cell_of_heap hh]; rfl)
theorem sh_boxed {w : World} {N E G O : Int} {T : TypeId} {B : Nat} (hB : B = w.heap.size) :
    ∀ wr, Below (B + 1) (w.alloc (.cells #[.int .i64 N, .int .i64 E, .int .i64 G, .int .i64 O] T)) wr →
      wr.cell? ⟨B, 0, none⟩ = some (.int .i64 N) ∧ wr.cell? ⟨B, 1, none⟩ = some (.int .i64 E) ∧ wr.cell? ⟨B, 2, none⟩ = some (.int .i64 G) ∧ wr.cell? ⟨B, 3, none⟩ = some (.int .i64 O) := fun wr hb => by
  subst hB
  have hh := heap_alloc_new w (.cells #[.int .i64 N, .int .i64 E, .int .i64 G, .int .i64 O] T)
  refine ⟨(hb.cell (p := ⟨w.heap.size, 0, none⟩) (by simp)).trans ?_, (hb.cell (p := ⟨w.heap.size, 1, none⟩) (by simp)).trans ?_, (hb.cell (p := ⟨w.heap.size, 2, none⟩) (by simp)).trans ?_, (hb.cell (p := ⟨w.heap.size, 3, none⟩) (by simp)).trans ?_⟩ <;> (rw [Lib.cell_of_heap hh]; rfl)
set_option maxRecDepth 100000 in
set_option maxHeartbeats 4000000 in
theorem pNode_any (n : Nd) (idx : Int) (w : World) : Calls Tryz.prog 89 #[nv n, .int .i64 idx] w fun e w' => e = .returned (.int .i64 (nodeErr n idx)) ∧ Below w.heap.size w w' := by
  have HS : Hid (∀ W, Calls Tryz.prog 141 #[.int .i64 n.op] W fun e w' => e = .returned (.tuple #[.agg #[.int .i64 (shN n.op), .int .i64 (shE n.op), .int .i64 (shG n.op), .int .i64 (shO n.op)], .bool (known n.op)]) ∧ Below W.heap.size W w') := Lib.hid (fun W => pShape_any n.op W)
  have HO := Lib.hid (fun W => pHasOps_any (shN n.op) (shE n.op) (shG n.op) (shO n.op) idx n W)
  have HL := Lib.hid (fun W => pLeaves_any (shN n.op) (shE n.op) (shG n.op) (shO n.op) n W)
  have HI := Lib.hid (fun W => pInRange_any (shN n.op) (shE n.op) (shG n.op) (shO n.op) n W)
  have HN := Lib.hid (@nd_boxed w n 79 _ rfl)
  have HF := Lib.hid (form_split n idx)
  have HG : Hid (irB (shN n.op) (shE n.op) (shG n.op) n = rangeOk n) := Lib.hid (range_split n)
  have HB0 : Hid (∀ o, Below w.heap.size w (w.alloc o)) := Lib.hid (fun o => (Below.refl _ w).alloc (Nat.le_refl _) o)
  have HV : Hid (nodeErr n idx = if known n.op = false then 10 else if formOk n idx = false then 3 else if rangeOk n = false then 2 else 0) := Lib.hid rfl
  have HK : Hid (∀ b, ((decide (shO n.op < 1) || isB n.x idx) && (decide (shO n.op < 2) || isB n.y idx)) = b → opsB (shO n.op) idx n = b) := Lib.hid (fun b h => h)
  unfold shc at HO HL HI
  obtain ⟨bo, ho⟩ : ∃ b, ((decide (shO n.op < 1) || isB n.x idx) && (decide (shO n.op < 2) || isB n.y idx)) = b := ⟨_, rfl⟩
  obtain ⟨bl, hl⟩ : ∃ b, lrB (shN n.op) (shE n.op) (shG n.op) (shO n.op) n = b := ⟨_, rfl⟩
  obtain ⟨br, hr⟩ : ∃ b, irB (shN n.op) (shE n.op) (shG n.op) n = b := ⟨_, rfl⟩
  have HF' : Hid (known n.op = true → (bo && bl) = formOk n idx) := Lib.hid (fun h => by rw [← HF.out h, HK.out _ ho, hl])
  have HG' : Hid (br = rangeOk n) := Lib.hid (by rw [← HG.out, hr])
  rw [ho] at HO
  rw [hl] at HL
  rw [hr] at HI
  clear ho hl hr HF HG HK
  unfold nv at HO HL HI ⊢
  generalize shN n.op = N at *
  generalize shE n.op = E at *
  generalize shG n.op = G at *
  generalize shO n.op = O at *
  cases hk : known n.op with
  | false =>
    rw [HV.out, if_pos hk]
    rw [hk] at HS
    clear hk HV
    obtain ⟨m0, m1, m2, m3, m4, m5⟩ := HN.out _ (Below.refl _ _)
    go_enter Tryz.func89, Tryz.ntmps89
    go_wp2_with fail
    refine (HS.out _).mono ?_
    rintro e w1 ⟨rfl, hb⟩
    have HB := Lib.hid ((HB0.out _).trans (hb.mono (by simp)))
    clear hb m0 m1 m2 m3 m4 m5
    go_wp2
    go_ret
    exact ⟨rfl, HB.out.alloc HB.out.size _⟩
  | true =>
    rw [hk] at HS HF'
    have HF2 := Lib.hid (HF'.out rfl)
    clear HF'
    obtain ⟨m0, m1, m2, m3, m4, m5⟩ := HN.out _ (Below.refl _ _)
    cases bo with
    | false =>
      rw [show nodeErr n idx = 3 from by rw [HV.out, if_neg (by rw [hk]; decide), if_pos (by rw [← HF2.out]; rfl)]]
      clear hk HV
      go_enter Tryz.func89, Tryz.ntmps89
      go_wp2_with fail
      refine (HS.out _).mono ?_
      rintro e w1 ⟨rfl, hb⟩
      have HB := Lib.hid ((HB0.out _).trans (hb.mono (by simp)))
      have hsz : w.heap.size + 1 ≤ w1.heap.size := by have := hb.size; simp at this; exact this
      have HN1 := Lib.hid (fun wr (h : Below (w.heap.size + 1) w1 wr) => HN.out wr ((hb.mono (by simp)).trans h))
      have HX := Lib.hid (@sh_boxed w1 N E G O 130 _ rfl)
      have HC := Lib.hid (fun o => (Below.refl (w1.heap.size) w1).alloc (Nat.le_refl _) o)
      clear hb m0 m1 m2 m3 m4 m5
      obtain ⟨m0, m1, m2, m3, m4, m5⟩ := HN1.out _ ((HC.out (.cells #[.int .i64 N, .int .i64 E, .int .i64 G, .int .i64 O] 130)).mono hsz)
      obtain ⟨s0, s1, s2, s3⟩ := HX.out _ (Below.refl _ _)
      have HD := Lib.hid (HC.out (.cells #[.int .i64 N, .int .i64 E, .int .i64 G, .int .i64 O] 130))
      have HQ := Lib.hid (Below.refl (w1.heap.size + 1) (w1.alloc (.cells #[.int .i64 N, .int .i64 E, .int .i64 G, .int .i64 O] 130)))
      clear HC
      go_wp2_with fail
      refine (HO.out _).mono ?_
      rintro e w2 ⟨rfl, hb⟩
      have HD0 := Lib.hid (HD.out.trans (hb.mono HD.out.size))
      have HQ0 := Lib.hid (HQ.out.trans (hb.mono (by first | exact HQ.out.size | (have h9 := HQ.out.size; simp at h9 ⊢; try omega))))
      clear hb m0 m1 m2 m3 m4 m5 s0 s1 s2 s3
      obtain ⟨m0, m1, m2, m3, m4, m5⟩ := HN1.out _ (HD0.out.mono hsz)
      obtain ⟨s0, s1, s2, s3⟩ := HX.out _ HQ0.out
      go_wp2
      go_ret
      exact ⟨rfl, HB.out.trans (HD0.out.mono HB.out.size)⟩
    | true =>
      cases bl with
      | false =>
        rw [show nodeErr n idx = 3 from by rw [HV.out, if_neg (by rw [hk]; decide), if_pos (by rw [← HF2.out]; rfl)]]
        clear hk HV
        go_enter Tryz.func89, Tryz.ntmps89
        go_wp2_with fail
        refine (HS.out _).mono ?_
        rintro e w1 ⟨rfl, hb⟩
        have HB := Lib.hid ((HB0.out _).trans (hb.mono (by simp)))
        have hsz : w.heap.size + 1 ≤ w1.heap.size := by have := hb.size; simp at this; exact this
        have HN1 := Lib.hid (fun wr (h : Below (w.heap.size + 1) w1 wr) => HN.out wr ((hb.mono (by simp)).trans h))
        have HX := Lib.hid (@sh_boxed w1 N E G O 130 _ rfl)
        have HC := Lib.hid (fun o => (Below.refl (w1.heap.size) w1).alloc (Nat.le_refl _) o)
        clear hb m0 m1 m2 m3 m4 m5
        obtain ⟨m0, m1, m2, m3, m4, m5⟩ := HN1.out _ ((HC.out (.cells #[.int .i64 N, .int .i64 E, .int .i64 G, .int .i64 O] 130)).mono hsz)
        obtain ⟨s0, s1, s2, s3⟩ := HX.out _ (Below.refl _ _)
        have HD := Lib.hid (HC.out (.cells #[.int .i64 N, .int .i64 E, .int .i64 G, .int .i64 O] 130))
        have HQ := Lib.hid (Below.refl (w1.heap.size + 1) (w1.alloc (.cells #[.int .i64 N, .int .i64 E, .int .i64 G, .int .i64 O] 130)))
        clear HC
        go_wp2_with fail
        refine (HO.out _).mono ?_
        rintro e w2 ⟨rfl, hb⟩
        have HD0 := Lib.hid (HD.out.trans (hb.mono HD.out.size))
        have HQ0 := Lib.hid (HQ.out.trans (hb.mono (by first | exact HQ.out.size | (have h9 := HQ.out.size; simp at h9 ⊢; try omega))))
        clear hb m0 m1 m2 m3 m4 m5 s0 s1 s2 s3
        obtain ⟨m0, m1, m2, m3, m4, m5⟩ := HN1.out _ (HD0.out.mono hsz)
        obtain ⟨s0, s1, s2, s3⟩ := HX.out _ HQ0.out
        go_wp2_with fail
        refine (HL.out _).mono ?_
        rintro e w3 ⟨rfl, hb⟩
        have HD1 := Lib.hid (HD0.out.trans (hb.mono HD0.out.size))
        have HQ1 := Lib.hid (HQ0.out.trans (hb.mono (by first | exact HQ0.out.size | (have h9 := HQ0.out.size; simp at h9 ⊢; try omega))))
        clear hb m0 m1 m2 m3 m4 m5 s0 s1 s2 s3
        obtain ⟨m0, m1, m2, m3, m4, m5⟩ := HN1.out _ (HD1.out.mono hsz)
        obtain ⟨s0, s1, s2, s3⟩ := HX.out _ HQ1.out
        go_wp2
        go_ret
        exact ⟨rfl, HB.out.trans (HD1.out.mono HB.out.size)⟩
      | true =>
        cases br with
        | false =>
          rw [show nodeErr n idx = 2 from by rw [HV.out, if_neg (by rw [hk]; decide), if_neg (by rw [← HF2.out]; decide), if_pos HG'.out.symm]]
          clear hk HV
          go_enter Tryz.func89, Tryz.ntmps89
          go_wp2_with fail
          refine (HS.out _).mono ?_
          rintro e w1 ⟨rfl, hb⟩
          have HB := Lib.hid ((HB0.out _).trans (hb.mono (by simp)))
          have hsz : w.heap.size + 1 ≤ w1.heap.size := by have := hb.size; simp at this; exact this
          have HN1 := Lib.hid (fun wr (h : Below (w.heap.size + 1) w1 wr) => HN.out wr ((hb.mono (by simp)).trans h))
          have HX := Lib.hid (@sh_boxed w1 N E G O 130 _ rfl)
          have HC := Lib.hid (fun o => (Below.refl (w1.heap.size) w1).alloc (Nat.le_refl _) o)
          clear hb m0 m1 m2 m3 m4 m5
          obtain ⟨m0, m1, m2, m3, m4, m5⟩ := HN1.out _ ((HC.out (.cells #[.int .i64 N, .int .i64 E, .int .i64 G, .int .i64 O] 130)).mono hsz)
          obtain ⟨s0, s1, s2, s3⟩ := HX.out _ (Below.refl _ _)
          have HD := Lib.hid (HC.out (.cells #[.int .i64 N, .int .i64 E, .int .i64 G, .int .i64 O] 130))
          have HQ := Lib.hid (Below.refl (w1.heap.size + 1) (w1.alloc (.cells #[.int .i64 N, .int .i64 E, .int .i64 G, .int .i64 O] 130)))
          clear HC
          go_wp2_with fail
          refine (HO.out _).mono ?_
          rintro e w2 ⟨rfl, hb⟩
          have HD0 := Lib.hid (HD.out.trans (hb.mono HD.out.size))
          have HQ0 := Lib.hid (HQ.out.trans (hb.mono (by first | exact HQ.out.size | (have h9 := HQ.out.size; simp at h9 ⊢; try omega))))
          clear hb m0 m1 m2 m3 m4 m5 s0 s1 s2 s3
          obtain ⟨m0, m1, m2, m3, m4, m5⟩ := HN1.out _ (HD0.out.mono hsz)
          obtain ⟨s0, s1, s2, s3⟩ := HX.out _ HQ0.out
          go_wp2_with fail
          refine (HL.out _).mono ?_
          rintro e w3 ⟨rfl, hb⟩
          have HD1 := Lib.hid (HD0.out.trans (hb.mono HD0.out.size))
          have HQ1 := Lib.hid (HQ0.out.trans (hb.mono (by first | exact HQ0.out.size | (have h9 := HQ0.out.size; simp at h9 ⊢; try omega))))
          clear hb m0 m1 m2 m3 m4 m5 s0 s1 s2 s3
          obtain ⟨m0, m1, m2, m3, m4, m5⟩ := HN1.out _ (HD1.out.mono hsz)
          obtain ⟨s0, s1, s2, s3⟩ := HX.out _ HQ1.out
          go_wp2_with fail
          refine (HI.out _).mono ?_
          rintro e w4 ⟨rfl, hb⟩
          have HD2 := Lib.hid (HD1.out.trans (hb.mono HD1.out.size))
          have HQ2 := Lib.hid (HQ1.out.trans (hb.mono (by first | exact HQ1.out.size | (have h9 := HQ1.out.size; simp at h9 ⊢; try omega))))
          clear hb m0 m1 m2 m3 m4 m5 s0 s1 s2 s3
          obtain ⟨m0, m1, m2, m3, m4, m5⟩ := HN1.out _ (HD2.out.mono hsz)
          obtain ⟨s0, s1, s2, s3⟩ := HX.out _ HQ2.out
          go_wp2
          go_ret
          exact ⟨rfl, HB.out.trans (HD2.out.mono HB.out.size)⟩
        | true =>
          rw [show nodeErr n idx = 0 from by rw [HV.out, if_neg (by rw [hk]; decide), if_neg (by rw [← HF2.out]; decide), if_neg (by rw [← HG'.out]; decide)]]
          clear hk HV
          go_enter Tryz.func89, Tryz.ntmps89
          go_wp2_with fail
          refine (HS.out _).mono ?_
          rintro e w1 ⟨rfl, hb⟩
          have HB := Lib.hid ((HB0.out _).trans (hb.mono (by simp)))
          have hsz : w.heap.size + 1 ≤ w1.heap.size := by have := hb.size; simp at this; exact this
          have HN1 := Lib.hid (fun wr (h : Below (w.heap.size + 1) w1 wr) => HN.out wr ((hb.mono (by simp)).trans h))
          have HX := Lib.hid (@sh_boxed w1 N E G O 130 _ rfl)
          have HC := Lib.hid (fun o => (Below.refl (w1.heap.size) w1).alloc (Nat.le_refl _) o)
          clear hb m0 m1 m2 m3 m4 m5
          obtain ⟨m0, m1, m2, m3, m4, m5⟩ := HN1.out _ ((HC.out (.cells #[.int .i64 N, .int .i64 E, .int .i64 G, .int .i64 O] 130)).mono hsz)
          obtain ⟨s0, s1, s2, s3⟩ := HX.out _ (Below.refl _ _)
          have HD := Lib.hid (HC.out (.cells #[.int .i64 N, .int .i64 E, .int .i64 G, .int .i64 O] 130))
          have HQ := Lib.hid (Below.refl (w1.heap.size + 1) (w1.alloc (.cells #[.int .i64 N, .int .i64 E, .int .i64 G, .int .i64 O] 130)))
          clear HC
          go_wp2_with fail
          refine (HO.out _).mono ?_
          rintro e w2 ⟨rfl, hb⟩
          have HD0 := Lib.hid (HD.out.trans (hb.mono HD.out.size))
          have HQ0 := Lib.hid (HQ.out.trans (hb.mono (by first | exact HQ.out.size | (have h9 := HQ.out.size; simp at h9 ⊢; try omega))))
          clear hb m0 m1 m2 m3 m4 m5 s0 s1 s2 s3
          obtain ⟨m0, m1, m2, m3, m4, m5⟩ := HN1.out _ (HD0.out.mono hsz)
          obtain ⟨s0, s1, s2, s3⟩ := HX.out _ HQ0.out
          go_wp2_with fail
          refine (HL.out _).mono ?_
          rintro e w3 ⟨rfl, hb⟩
          have HD1 := Lib.hid (HD0.out.trans (hb.mono HD0.out.size))
          have HQ1 := Lib.hid (HQ0.out.trans (hb.mono (by first | exact HQ0.out.size | (have h9 := HQ0.out.size; simp at h9 ⊢; try omega))))
          clear hb m0 m1 m2 m3 m4 m5 s0 s1 s2 s3
          obtain ⟨m0, m1, m2, m3, m4, m5⟩ := HN1.out _ (HD1.out.mono hsz)
          obtain ⟨s0, s1, s2, s3⟩ := HX.out _ HQ1.out
          go_wp2_with fail
          refine (HI.out _).mono ?_
          rintro e w4 ⟨rfl, hb⟩
          have HD2 := Lib.hid (HD1.out.trans (hb.mono HD1.out.size))
          have HQ2 := Lib.hid (HQ1.out.trans (hb.mono (by first | exact HQ1.out.size | (have h9 := HQ1.out.size; simp at h9 ⊢; try omega))))
          clear hb m0 m1 m2 m3 m4 m5 s0 s1 s2 s3
          obtain ⟨m0, m1, m2, m3, m4, m5⟩ := HN1.out _ (HD2.out.mono hsz)
          obtain ⟨s0, s1, s2, s3⟩ := HX.out _ HQ2.out
          go_wp2
          go_ret
          exact ⟨rfl, HB.out.trans (HD2.out.mono HB.out.size)⟩
end Go.Proofs.YtjpmhbnikoggaaaGreatDoor
/- Layer 5: Check and valid of the program. -/
namespace Go.Proofs.YtjpmhbnikoggaaaGreatDoor
open Go.RowKit Go.Proofs.Ws
theorem add_cell {w : World} {ad : Addr} {m j : Nat} {v : Option Value} (h : w.cell? (ad.add (m + (j + 1))) = v) : w.cell? ⟨(ad.add m).block, (ad.add m).off + (j + 1), none⟩ = v := by
  rw [← h, ← add_of_add]
  rfl
theorem errFrom_at : ∀ (l : List Nd) (k : Nat), k < l.length → errFrom k (l.drop k) = (if nodeErr (l.getD k nd0) (k : Int) ≠ 0 then nodeErr (l.getD k nd0) (k : Int) else errFrom (k + 1) (l.drop (k + 1))) := by
  intro l k hk
  rw [List.drop_eq_getElem_cons hk]
  show (if nodeErr l[k] (k : Int) ≠ 0 then nodeErr l[k] (k : Int) else errFrom (k + 1) (l.drop (k + 1))) = _
  rw [show l.getD k nd0 = l[k] from by simp [hk]]
theorem errFrom_end (l : List Nd) (k : Nat) (h : l.length ≤ k) : errFrom k (l.drop k) = 0 := by rw [List.drop_of_length_le h]; rfl
set_option maxRecDepth 100000 in
set_option maxHeartbeats 4000000 in
theorem fCheck_any (l : List Nd) (A : Option Addr) (n c : Nat) (w : World) (hR : Reads w w.heap.size 6 A n (nds l)) (hm : n ≤ maxLen) :
    Calls Tryz.prog 44 #[.slice A n c] w fun e w' => e = .returned (.int .i64 (fErr l)) ∧ Below w.heap.size w w' := by
  unfold maxLen at hm
  have hl := hR.nd_len
  have HL := Lib.hid hl
  have HR := Lib.hid hR
  clear hR
  by_cases h0 : n = 0
  · have HV : Hid (fErr l = 3) := Lib.hid (by unfold fErr; rw [if_pos (by omega)])
    subst h0
    clear hl
    go_enter Tryz.func44, Tryz.ntmps44
    go_wp2
    go_ret
    exact ⟨ret_i64 HV.out.symm, Below.refl _ _⟩
  have hne : ((n : Int) == 0) = false := by simp; omega
  by_cases h2 : 200 < n
  · have HV : Hid (fErr l = 8) := Lib.hid (by unfold fErr; rw [if_neg (by omega), if_pos (by omega)])
    have hgt : decide (200 < (n : Int)) = true := by simp; omega
    clear hl h0
    go_enter Tryz.func44, Tryz.ntmps44
    go_wp2
    go_ret
    exact ⟨ret_i64 HV.out.symm, Below.refl _ _⟩
  have HV : Hid (fErr l = errFrom 0 l) := Lib.hid (by unfold fErr; rw [if_neg (by omega), if_neg (by omega)])
  have hgt : decide (200 < (n : Int)) = false := by simp; omega
  have h200 : n ≤ 200 := by omega
  clear hl h0 h2
  go_enter Tryz.func44, Tryz.ntmps44
  go_wp2
  go_loopw [14] (fun i wr => ∃ k : Nat, k ≤ n ∧ i = .int .i64 k ∧ Hid (errFrom 0 l = errFrom k (l.drop k)) ∧ Hid (Below w.heap.size w wr)) (fun i _ => n - (intOf i).toNat)
  case atStart => exact ⟨0, Nat.zero_le _, rfl, Lib.hid rfl, Lib.hid (Below.refl _ _)⟩
  case round =>
    obtain ⟨k, hk, rfl, HI, HBR⟩ := hrel
    by_cases hlt : k < n
    · obtain ⟨ad, rfl, hb, m0, m1, m2, m3, m4, m5⟩ := (HR.out.below HBR.out).nd_at hlt
      have HE := Lib.hid (errFrom_at l k (by have := HL.out; omega))
      obtain ⟨x, hx⟩ : ∃ x, l.getD k nd0 = x := ⟨_, rfl⟩
      rw [hx] at m0 m1 m2 m3 m4 m5 HE
      have l1 := add_cell m1
      have l2 := add_cell m2
      have l3 := add_cell m3
      have l4 := add_cell m4
      have l5 := add_cell m5
      clear hx
      have HN : Hid (∀ W, Calls Tryz.prog 89 #[.agg #[.int .i64 x.op, .int .i64 x.i, .int .i64 x.e, .int .i64 x.g, .int .i64 x.x, .int .i64 x.y], .int .i64 (k : Int)] W fun e w' => e = .returned (.int .i64 (nodeErr x k)) ∧ Below W.heap.size W w') := Lib.hid (fun W => pNode_any x k W)
      have HA : Hid (∀ o w', Below (wr.alloc o).heap.size (wr.alloc o) w' → Below w.heap.size w w') := Lib.hid (fun o w' h => (HBR.out.alloc HBR.out.size o).trans (h.mono (by have := HBR.out.size; simp; omega)))
      obtain ⟨z, hz⟩ : ∃ z, nodeErr x (k : Int) = z := ⟨_, rfl⟩
      rw [hz] at HN HE
      clear hz
      by_cases hz0 : z = 0
      · subst hz0
        have HI2 := Lib.hid (HI.out.trans (by rw [HE.out, if_neg (by decide)]))
        clear HI HE
        go_wp2_with fail
        refine (HN.out _).mono ?_
        rintro e w2 ⟨rfl, hb2⟩
        have HB2 := Lib.hid (HA.out _ _ hb2)
        clear hb2 m0 m1 m2 m3 m4 m5 l1 l2 l3 l4 l5
        go_wp2
        go_roundw
        case rel => exact ⟨k + 1, by omega, by go_num, HI2, HB2⟩
        case measure => simp [intOf]; omega
      · have HI2 := Lib.hid (HV.out.trans (HI.out.trans (by rw [HE.out, if_pos hz0])))
        have hz1 : (z != 0) = true := by simpa using hz0
        clear HI HE hz0
        go_wp2_with fail
        refine (HN.out _).mono ?_
        rintro e w2 ⟨rfl, hb2⟩
        have HB2 := Lib.hid (HA.out _ _ hb2)
        clear hb2 m0 m1 m2 m3 m4 m5 l1 l2 l3 l4 l5
        go_wp2
        go_ret
        exact ⟨ret_i64 HI2.out.symm, HB2.out⟩
    · have HI2 := Lib.hid (HV.out.trans (HI.out.trans (errFrom_end l k (by have := HL.out; omega))))
      clear HI
      go_wp2
      go_ret
      exact ⟨ret_i64 HI2.out.symm, HBR.out⟩
theorem pValid_any (l : List Nd) (A : Option Addr) (n c : Nat) (w : World) (hR : Reads w w.heap.size 6 A n (nds l)) (hm : n ≤ maxLen) :
    Calls Tryz.prog 149 #[.slice A n c] w fun e w' => e = .returned (.bool (fErr l == 0)) ∧ Below w.heap.size w w' := by
  have HC := Lib.hid (fCheck_any l A n c w hR hm)
  generalize fErr l = z at *
  clear hR hm
  go_enter Tryz.func149, Tryz.ntmps149
  go_wp2_with fail
  refine HC.out.mono ?_
  rintro e w1 ⟨rfl, hb⟩
  have HB := Lib.hid hb
  clear hb HC
  go_wp2
  go_ret
  exact ⟨rfl, HB.out⟩
end Go.Proofs.YtjpmhbnikoggaaaGreatDoor
/- Layer 5: the reference's small functions about operators. -/
namespace Go.Proofs.YtjpmhbnikoggaaaGreatDoor
open Go.RowKit Go.Proofs.Ws
theorem rUsesX_1 (w : World) : Calls Tryz.prog 73 #[.int .i64 1] w fun e w' => e = .returned (.bool (usesX 1)) ∧ w = w' := by
  go_enter Tryz.func73, Tryz.ntmps73
  go_wp2
  go_ret
  exact ⟨rfl, rfl⟩
theorem rUsesX_2 (w : World) : Calls Tryz.prog 73 #[.int .i64 2] w fun e w' => e = .returned (.bool (usesX 2)) ∧ w = w' := by
  go_enter Tryz.func73, Tryz.ntmps73
  go_wp2
  go_ret
  exact ⟨rfl, rfl⟩
theorem rUsesX_3 (w : World) : Calls Tryz.prog 73 #[.int .i64 3] w fun e w' => e = .returned (.bool (usesX 3)) ∧ w = w' := by
  go_enter Tryz.func73, Tryz.ntmps73
  go_wp2
  go_ret
  exact ⟨rfl, rfl⟩
theorem rUsesX_4 (w : World) : Calls Tryz.prog 73 #[.int .i64 4] w fun e w' => e = .returned (.bool (usesX 4)) ∧ w = w' := by
  go_enter Tryz.func73, Tryz.ntmps73
  go_wp2
  go_ret
  exact ⟨rfl, rfl⟩
theorem rUsesX_5 (w : World) : Calls Tryz.prog 73 #[.int .i64 5] w fun e w' => e = .returned (.bool (usesX 5)) ∧ w = w' := by
  go_enter Tryz.func73, Tryz.ntmps73
  go_wp2
  go_ret
  exact ⟨rfl, rfl⟩
theorem rUsesX_6 (w : World) : Calls Tryz.prog 73 #[.int .i64 6] w fun e w' => e = .returned (.bool (usesX 6)) ∧ w = w' := by
  go_enter Tryz.func73, Tryz.ntmps73
  go_wp2
  go_ret
  exact ⟨rfl, rfl⟩
theorem rUsesX_7 (w : World) : Calls Tryz.prog 73 #[.int .i64 7] w fun e w' => e = .returned (.bool (usesX 7)) ∧ w = w' := by
  go_enter Tryz.func73, Tryz.ntmps73
  go_wp2
  go_ret
  exact ⟨rfl, rfl⟩
theorem rUsesX_8 (w : World) : Calls Tryz.prog 73 #[.int .i64 8] w fun e w' => e = .returned (.bool (usesX 8)) ∧ w = w' := by
  go_enter Tryz.func73, Tryz.ntmps73
  go_wp2
  go_ret
  exact ⟨rfl, rfl⟩
theorem rUsesX_9 (w : World) : Calls Tryz.prog 73 #[.int .i64 9] w fun e w' => e = .returned (.bool (usesX 9)) ∧ w = w' := by
  go_enter Tryz.func73, Tryz.ntmps73
  go_wp2
  go_ret
  exact ⟨rfl, rfl⟩
theorem rUsesX_10 (w : World) : Calls Tryz.prog 73 #[.int .i64 10] w fun e w' => e = .returned (.bool (usesX 10)) ∧ w = w' := by
  go_enter Tryz.func73, Tryz.ntmps73
  go_wp2
  go_ret
  exact ⟨rfl, rfl⟩
theorem rUsesX_11 (w : World) : Calls Tryz.prog 73 #[.int .i64 11] w fun e w' => e = .returned (.bool (usesX 11)) ∧ w = w' := by
  go_enter Tryz.func73, Tryz.ntmps73
  go_wp2
  go_ret
  exact ⟨rfl, rfl⟩
theorem rUsesX_12 (w : World) : Calls Tryz.prog 73 #[.int .i64 12] w fun e w' => e = .returned (.bool (usesX 12)) ∧ w = w' := by
  go_enter Tryz.func73, Tryz.ntmps73
  go_wp2
  go_ret
  exact ⟨rfl, rfl⟩
theorem rUsesX_13 (w : World) : Calls Tryz.prog 73 #[.int .i64 13] w fun e w' => e = .returned (.bool (usesX 13)) ∧ w = w' := by
  go_enter Tryz.func73, Tryz.ntmps73
  go_wp2
  go_ret
  exact ⟨rfl, rfl⟩
theorem rUsesX_14 (w : World) : Calls Tryz.prog 73 #[.int .i64 14] w fun e w' => e = .returned (.bool (usesX 14)) ∧ w = w' := by
  go_enter Tryz.func73, Tryz.ntmps73
  go_wp2
  go_ret
  exact ⟨rfl, rfl⟩
theorem rUsesX_15 (w : World) : Calls Tryz.prog 73 #[.int .i64 15] w fun e w' => e = .returned (.bool (usesX 15)) ∧ w = w' := by
  go_enter Tryz.func73, Tryz.ntmps73
  go_wp2
  go_ret
  exact ⟨rfl, rfl⟩
theorem rUsesX_16 (w : World) : Calls Tryz.prog 73 #[.int .i64 16] w fun e w' => e = .returned (.bool (usesX 16)) ∧ w = w' := by
  go_enter Tryz.func73, Tryz.ntmps73
  go_wp2
  go_ret
  exact ⟨rfl, rfl⟩
theorem rUsesX_17 (w : World) : Calls Tryz.prog 73 #[.int .i64 17] w fun e w' => e = .returned (.bool (usesX 17)) ∧ w = w' := by
  go_enter Tryz.func73, Tryz.ntmps73
  go_wp2
  go_ret
  exact ⟨rfl, rfl⟩
theorem rUsesX_18 (w : World) : Calls Tryz.prog 73 #[.int .i64 18] w fun e w' => e = .returned (.bool (usesX 18)) ∧ w = w' := by
  go_enter Tryz.func73, Tryz.ntmps73
  go_wp2
  go_ret
  exact ⟨rfl, rfl⟩
theorem rUsesX_19 (w : World) : Calls Tryz.prog 73 #[.int .i64 19] w fun e w' => e = .returned (.bool (usesX 19)) ∧ w = w' := by
  go_enter Tryz.func73, Tryz.ntmps73
  go_wp2
  go_ret
  exact ⟨rfl, rfl⟩
theorem rUsesX_20 (w : World) : Calls Tryz.prog 73 #[.int .i64 20] w fun e w' => e = .returned (.bool (usesX 20)) ∧ w = w' := by
  go_enter Tryz.func73, Tryz.ntmps73
  go_wp2
  go_ret
  exact ⟨rfl, rfl⟩
theorem rUsesX_21 (w : World) : Calls Tryz.prog 73 #[.int .i64 21] w fun e w' => e = .returned (.bool (usesX 21)) ∧ w = w' := by
  go_enter Tryz.func73, Tryz.ntmps73
  go_wp2
  go_ret
  exact ⟨rfl, rfl⟩
theorem rUsesX_any (op : Int) (h : known op = true) (w : World) : Calls Tryz.prog 73 #[.int .i64 op] w fun e w' => e = .returned (.bool (usesX op)) ∧ w = w' := by
  rcases known_cases op h with rfl | rfl | rfl | rfl | rfl | rfl | rfl | rfl | rfl | rfl | rfl | rfl | rfl | rfl | rfl | rfl | rfl | rfl | rfl | rfl | rfl
  · exact rUsesX_1 w
  · exact rUsesX_2 w
  · exact rUsesX_3 w
  · exact rUsesX_4 w
  · exact rUsesX_5 w
  · exact rUsesX_6 w
  · exact rUsesX_7 w
  · exact rUsesX_8 w
  · exact rUsesX_9 w
  · exact rUsesX_10 w
  · exact rUsesX_11 w
  · exact rUsesX_12 w
  · exact rUsesX_13 w
  · exact rUsesX_14 w
  · exact rUsesX_15 w
  · exact rUsesX_16 w
  · exact rUsesX_17 w
  · exact rUsesX_18 w
  · exact rUsesX_19 w
  · exact rUsesX_20 w
  · exact rUsesX_21 w
theorem rUsesY_1 (w : World) : Calls Tryz.prog 74 #[.int .i64 1] w fun e w' => e = .returned (.bool (usesY 1)) ∧ w = w' := by
  go_enter Tryz.func74, Tryz.ntmps74
  go_wp2
  go_ret
  exact ⟨rfl, rfl⟩
theorem rUsesY_2 (w : World) : Calls Tryz.prog 74 #[.int .i64 2] w fun e w' => e = .returned (.bool (usesY 2)) ∧ w = w' := by
  go_enter Tryz.func74, Tryz.ntmps74
  go_wp2
  go_ret
  exact ⟨rfl, rfl⟩
theorem rUsesY_3 (w : World) : Calls Tryz.prog 74 #[.int .i64 3] w fun e w' => e = .returned (.bool (usesY 3)) ∧ w = w' := by
  go_enter Tryz.func74, Tryz.ntmps74
  go_wp2
  go_ret
  exact ⟨rfl, rfl⟩
theorem rUsesY_4 (w : World) : Calls Tryz.prog 74 #[.int .i64 4] w fun e w' => e = .returned (.bool (usesY 4)) ∧ w = w' := by
  go_enter Tryz.func74, Tryz.ntmps74
  go_wp2
  go_ret
  exact ⟨rfl, rfl⟩
theorem rUsesY_5 (w : World) : Calls Tryz.prog 74 #[.int .i64 5] w fun e w' => e = .returned (.bool (usesY 5)) ∧ w = w' := by
  go_enter Tryz.func74, Tryz.ntmps74
  go_wp2
  go_ret
  exact ⟨rfl, rfl⟩
theorem rUsesY_6 (w : World) : Calls Tryz.prog 74 #[.int .i64 6] w fun e w' => e = .returned (.bool (usesY 6)) ∧ w = w' := by
  go_enter Tryz.func74, Tryz.ntmps74
  go_wp2
  go_ret
  exact ⟨rfl, rfl⟩
theorem rUsesY_7 (w : World) : Calls Tryz.prog 74 #[.int .i64 7] w fun e w' => e = .returned (.bool (usesY 7)) ∧ w = w' := by
  go_enter Tryz.func74, Tryz.ntmps74
  go_wp2
  go_ret
  exact ⟨rfl, rfl⟩
theorem rUsesY_8 (w : World) : Calls Tryz.prog 74 #[.int .i64 8] w fun e w' => e = .returned (.bool (usesY 8)) ∧ w = w' := by
  go_enter Tryz.func74, Tryz.ntmps74
  go_wp2
  go_ret
  exact ⟨rfl, rfl⟩
theorem rUsesY_9 (w : World) : Calls Tryz.prog 74 #[.int .i64 9] w fun e w' => e = .returned (.bool (usesY 9)) ∧ w = w' := by
  go_enter Tryz.func74, Tryz.ntmps74
  go_wp2
  go_ret
  exact ⟨rfl, rfl⟩
theorem rUsesY_10 (w : World) : Calls Tryz.prog 74 #[.int .i64 10] w fun e w' => e = .returned (.bool (usesY 10)) ∧ w = w' := by
  go_enter Tryz.func74, Tryz.ntmps74
  go_wp2
  go_ret
  exact ⟨rfl, rfl⟩
theorem rUsesY_11 (w : World) : Calls Tryz.prog 74 #[.int .i64 11] w fun e w' => e = .returned (.bool (usesY 11)) ∧ w = w' := by
  go_enter Tryz.func74, Tryz.ntmps74
  go_wp2
  go_ret
  exact ⟨rfl, rfl⟩
theorem rUsesY_12 (w : World) : Calls Tryz.prog 74 #[.int .i64 12] w fun e w' => e = .returned (.bool (usesY 12)) ∧ w = w' := by
  go_enter Tryz.func74, Tryz.ntmps74
  go_wp2
  go_ret
  exact ⟨rfl, rfl⟩
theorem rUsesY_13 (w : World) : Calls Tryz.prog 74 #[.int .i64 13] w fun e w' => e = .returned (.bool (usesY 13)) ∧ w = w' := by
  go_enter Tryz.func74, Tryz.ntmps74
  go_wp2
  go_ret
  exact ⟨rfl, rfl⟩
theorem rUsesY_14 (w : World) : Calls Tryz.prog 74 #[.int .i64 14] w fun e w' => e = .returned (.bool (usesY 14)) ∧ w = w' := by
  go_enter Tryz.func74, Tryz.ntmps74
  go_wp2
  go_ret
  exact ⟨rfl, rfl⟩
theorem rUsesY_15 (w : World) : Calls Tryz.prog 74 #[.int .i64 15] w fun e w' => e = .returned (.bool (usesY 15)) ∧ w = w' := by
  go_enter Tryz.func74, Tryz.ntmps74
  go_wp2
  go_ret
  exact ⟨rfl, rfl⟩
theorem rUsesY_16 (w : World) : Calls Tryz.prog 74 #[.int .i64 16] w fun e w' => e = .returned (.bool (usesY 16)) ∧ w = w' := by
  go_enter Tryz.func74, Tryz.ntmps74
  go_wp2
  go_ret
  exact ⟨rfl, rfl⟩
theorem rUsesY_17 (w : World) : Calls Tryz.prog 74 #[.int .i64 17] w fun e w' => e = .returned (.bool (usesY 17)) ∧ w = w' := by
  go_enter Tryz.func74, Tryz.ntmps74
  go_wp2
  go_ret
  exact ⟨rfl, rfl⟩
theorem rUsesY_18 (w : World) : Calls Tryz.prog 74 #[.int .i64 18] w fun e w' => e = .returned (.bool (usesY 18)) ∧ w = w' := by
  go_enter Tryz.func74, Tryz.ntmps74
  go_wp2
  go_ret
  exact ⟨rfl, rfl⟩
theorem rUsesY_19 (w : World) : Calls Tryz.prog 74 #[.int .i64 19] w fun e w' => e = .returned (.bool (usesY 19)) ∧ w = w' := by
  go_enter Tryz.func74, Tryz.ntmps74
  go_wp2
  go_ret
  exact ⟨rfl, rfl⟩
theorem rUsesY_20 (w : World) : Calls Tryz.prog 74 #[.int .i64 20] w fun e w' => e = .returned (.bool (usesY 20)) ∧ w = w' := by
  go_enter Tryz.func74, Tryz.ntmps74
  go_wp2
  go_ret
  exact ⟨rfl, rfl⟩
theorem rUsesY_21 (w : World) : Calls Tryz.prog 74 #[.int .i64 21] w fun e w' => e = .returned (.bool (usesY 21)) ∧ w = w' := by
  go_enter Tryz.func74, Tryz.ntmps74
  go_wp2
  go_ret
  exact ⟨rfl, rfl⟩
theorem rUsesY_any (op : Int) (h : known op = true) (w : World) : Calls Tryz.prog 74 #[.int .i64 op] w fun e w' => e = .returned (.bool (usesY op)) ∧ w = w' := by
  rcases known_cases op h with rfl | rfl | rfl | rfl | rfl | rfl | rfl | rfl | rfl | rfl | rfl | rfl | rfl | rfl | rfl | rfl | rfl | rfl | rfl | rfl | rfl
  · exact rUsesY_1 w
  · exact rUsesY_2 w
  · exact rUsesY_3 w
  · exact rUsesY_4 w
  · exact rUsesY_5 w
  · exact rUsesY_6 w
  · exact rUsesY_7 w
  · exact rUsesY_8 w
  · exact rUsesY_9 w
  · exact rUsesY_10 w
  · exact rUsesY_11 w
  · exact rUsesY_12 w
  · exact rUsesY_13 w
  · exact rUsesY_14 w
  · exact rUsesY_15 w
  · exact rUsesY_16 w
  · exact rUsesY_17 w
  · exact rUsesY_18 w
  · exact rUsesY_19 w
  · exact rUsesY_20 w
  · exact rUsesY_21 w
theorem ragent_1 (w : World) : Calls Tryz.prog 145 #[.int .i64 1] w fun e w' => e = .returned (.bool (hasAgent 1)) ∧ w = w' := by
  go_enter Tryz.func145, Tryz.ntmps145
  go_wp2
  go_ret
  exact ⟨rfl, rfl⟩
theorem ragent_2 (w : World) : Calls Tryz.prog 145 #[.int .i64 2] w fun e w' => e = .returned (.bool (hasAgent 2)) ∧ w = w' := by
  go_enter Tryz.func145, Tryz.ntmps145
  go_wp2
  go_ret
  exact ⟨rfl, rfl⟩
theorem ragent_3 (w : World) : Calls Tryz.prog 145 #[.int .i64 3] w fun e w' => e = .returned (.bool (hasAgent 3)) ∧ w = w' := by
  go_enter Tryz.func145, Tryz.ntmps145
  go_wp2
  go_ret
  exact ⟨rfl, rfl⟩
theorem ragent_4 (w : World) : Calls Tryz.prog 145 #[.int .i64 4] w fun e w' => e = .returned (.bool (hasAgent 4)) ∧ w = w' := by
  go_enter Tryz.func145, Tryz.ntmps145
  go_wp2
  go_ret
  exact ⟨rfl, rfl⟩
theorem ragent_5 (w : World) : Calls Tryz.prog 145 #[.int .i64 5] w fun e w' => e = .returned (.bool (hasAgent 5)) ∧ w = w' := by
  go_enter Tryz.func145, Tryz.ntmps145
  go_wp2
  go_ret
  exact ⟨rfl, rfl⟩
theorem ragent_6 (w : World) : Calls Tryz.prog 145 #[.int .i64 6] w fun e w' => e = .returned (.bool (hasAgent 6)) ∧ w = w' := by
  go_enter Tryz.func145, Tryz.ntmps145
  go_wp2
  go_ret
  exact ⟨rfl, rfl⟩
theorem ragent_7 (w : World) : Calls Tryz.prog 145 #[.int .i64 7] w fun e w' => e = .returned (.bool (hasAgent 7)) ∧ w = w' := by
  go_enter Tryz.func145, Tryz.ntmps145
  go_wp2
  go_ret
  exact ⟨rfl, rfl⟩
theorem ragent_8 (w : World) : Calls Tryz.prog 145 #[.int .i64 8] w fun e w' => e = .returned (.bool (hasAgent 8)) ∧ w = w' := by
  go_enter Tryz.func145, Tryz.ntmps145
  go_wp2
  go_ret
  exact ⟨rfl, rfl⟩
theorem ragent_9 (w : World) : Calls Tryz.prog 145 #[.int .i64 9] w fun e w' => e = .returned (.bool (hasAgent 9)) ∧ w = w' := by
  go_enter Tryz.func145, Tryz.ntmps145
  go_wp2
  go_ret
  exact ⟨rfl, rfl⟩
theorem ragent_10 (w : World) : Calls Tryz.prog 145 #[.int .i64 10] w fun e w' => e = .returned (.bool (hasAgent 10)) ∧ w = w' := by
  go_enter Tryz.func145, Tryz.ntmps145
  go_wp2
  go_ret
  exact ⟨rfl, rfl⟩
theorem ragent_11 (w : World) : Calls Tryz.prog 145 #[.int .i64 11] w fun e w' => e = .returned (.bool (hasAgent 11)) ∧ w = w' := by
  go_enter Tryz.func145, Tryz.ntmps145
  go_wp2
  go_ret
  exact ⟨rfl, rfl⟩
theorem ragent_12 (w : World) : Calls Tryz.prog 145 #[.int .i64 12] w fun e w' => e = .returned (.bool (hasAgent 12)) ∧ w = w' := by
  go_enter Tryz.func145, Tryz.ntmps145
  go_wp2
  go_ret
  exact ⟨rfl, rfl⟩
theorem ragent_13 (w : World) : Calls Tryz.prog 145 #[.int .i64 13] w fun e w' => e = .returned (.bool (hasAgent 13)) ∧ w = w' := by
  go_enter Tryz.func145, Tryz.ntmps145
  go_wp2
  go_ret
  exact ⟨rfl, rfl⟩
theorem ragent_14 (w : World) : Calls Tryz.prog 145 #[.int .i64 14] w fun e w' => e = .returned (.bool (hasAgent 14)) ∧ w = w' := by
  go_enter Tryz.func145, Tryz.ntmps145
  go_wp2
  go_ret
  exact ⟨rfl, rfl⟩
theorem ragent_15 (w : World) : Calls Tryz.prog 145 #[.int .i64 15] w fun e w' => e = .returned (.bool (hasAgent 15)) ∧ w = w' := by
  go_enter Tryz.func145, Tryz.ntmps145
  go_wp2
  go_ret
  exact ⟨rfl, rfl⟩
theorem ragent_16 (w : World) : Calls Tryz.prog 145 #[.int .i64 16] w fun e w' => e = .returned (.bool (hasAgent 16)) ∧ w = w' := by
  go_enter Tryz.func145, Tryz.ntmps145
  go_wp2
  go_ret
  exact ⟨rfl, rfl⟩
theorem ragent_17 (w : World) : Calls Tryz.prog 145 #[.int .i64 17] w fun e w' => e = .returned (.bool (hasAgent 17)) ∧ w = w' := by
  go_enter Tryz.func145, Tryz.ntmps145
  go_wp2
  go_ret
  exact ⟨rfl, rfl⟩
theorem ragent_18 (w : World) : Calls Tryz.prog 145 #[.int .i64 18] w fun e w' => e = .returned (.bool (hasAgent 18)) ∧ w = w' := by
  go_enter Tryz.func145, Tryz.ntmps145
  go_wp2
  go_ret
  exact ⟨rfl, rfl⟩
theorem ragent_19 (w : World) : Calls Tryz.prog 145 #[.int .i64 19] w fun e w' => e = .returned (.bool (hasAgent 19)) ∧ w = w' := by
  go_enter Tryz.func145, Tryz.ntmps145
  go_wp2
  go_ret
  exact ⟨rfl, rfl⟩
theorem ragent_20 (w : World) : Calls Tryz.prog 145 #[.int .i64 20] w fun e w' => e = .returned (.bool (hasAgent 20)) ∧ w = w' := by
  go_enter Tryz.func145, Tryz.ntmps145
  go_wp2
  go_ret
  exact ⟨rfl, rfl⟩
theorem ragent_21 (w : World) : Calls Tryz.prog 145 #[.int .i64 21] w fun e w' => e = .returned (.bool (hasAgent 21)) ∧ w = w' := by
  go_enter Tryz.func145, Tryz.ntmps145
  go_wp2
  go_ret
  exact ⟨rfl, rfl⟩
theorem ragent_any (op : Int) (h : known op = true) (w : World) : Calls Tryz.prog 145 #[.int .i64 op] w fun e w' => e = .returned (.bool (hasAgent op)) ∧ w = w' := by
  rcases known_cases op h with rfl | rfl | rfl | rfl | rfl | rfl | rfl | rfl | rfl | rfl | rfl | rfl | rfl | rfl | rfl | rfl | rfl | rfl | rfl | rfl | rfl
  · exact ragent_1 w
  · exact ragent_2 w
  · exact ragent_3 w
  · exact ragent_4 w
  · exact ragent_5 w
  · exact ragent_6 w
  · exact ragent_7 w
  · exact ragent_8 w
  · exact ragent_9 w
  · exact ragent_10 w
  · exact ragent_11 w
  · exact ragent_12 w
  · exact ragent_13 w
  · exact ragent_14 w
  · exact ragent_15 w
  · exact ragent_16 w
  · exact ragent_17 w
  · exact ragent_18 w
  · exact ragent_19 w
  · exact ragent_20 w
  · exact ragent_21 w
theorem rgroup_1 (w : World) : Calls Tryz.prog 146 #[.int .i64 1] w fun e w' => e = .returned (.bool (hasGroup 1)) ∧ w = w' := by
  go_enter Tryz.func146, Tryz.ntmps146
  go_wp2
  go_ret
  exact ⟨rfl, rfl⟩
theorem rgroup_2 (w : World) : Calls Tryz.prog 146 #[.int .i64 2] w fun e w' => e = .returned (.bool (hasGroup 2)) ∧ w = w' := by
  go_enter Tryz.func146, Tryz.ntmps146
  go_wp2
  go_ret
  exact ⟨rfl, rfl⟩
theorem rgroup_3 (w : World) : Calls Tryz.prog 146 #[.int .i64 3] w fun e w' => e = .returned (.bool (hasGroup 3)) ∧ w = w' := by
  go_enter Tryz.func146, Tryz.ntmps146
  go_wp2
  go_ret
  exact ⟨rfl, rfl⟩
theorem rgroup_4 (w : World) : Calls Tryz.prog 146 #[.int .i64 4] w fun e w' => e = .returned (.bool (hasGroup 4)) ∧ w = w' := by
  go_enter Tryz.func146, Tryz.ntmps146
  go_wp2
  go_ret
  exact ⟨rfl, rfl⟩
theorem rgroup_5 (w : World) : Calls Tryz.prog 146 #[.int .i64 5] w fun e w' => e = .returned (.bool (hasGroup 5)) ∧ w = w' := by
  go_enter Tryz.func146, Tryz.ntmps146
  go_wp2
  go_ret
  exact ⟨rfl, rfl⟩
theorem rgroup_6 (w : World) : Calls Tryz.prog 146 #[.int .i64 6] w fun e w' => e = .returned (.bool (hasGroup 6)) ∧ w = w' := by
  go_enter Tryz.func146, Tryz.ntmps146
  go_wp2
  go_ret
  exact ⟨rfl, rfl⟩
theorem rgroup_7 (w : World) : Calls Tryz.prog 146 #[.int .i64 7] w fun e w' => e = .returned (.bool (hasGroup 7)) ∧ w = w' := by
  go_enter Tryz.func146, Tryz.ntmps146
  go_wp2
  go_ret
  exact ⟨rfl, rfl⟩
theorem rgroup_8 (w : World) : Calls Tryz.prog 146 #[.int .i64 8] w fun e w' => e = .returned (.bool (hasGroup 8)) ∧ w = w' := by
  go_enter Tryz.func146, Tryz.ntmps146
  go_wp2
  go_ret
  exact ⟨rfl, rfl⟩
theorem rgroup_9 (w : World) : Calls Tryz.prog 146 #[.int .i64 9] w fun e w' => e = .returned (.bool (hasGroup 9)) ∧ w = w' := by
  go_enter Tryz.func146, Tryz.ntmps146
  go_wp2
  go_ret
  exact ⟨rfl, rfl⟩
theorem rgroup_10 (w : World) : Calls Tryz.prog 146 #[.int .i64 10] w fun e w' => e = .returned (.bool (hasGroup 10)) ∧ w = w' := by
  go_enter Tryz.func146, Tryz.ntmps146
  go_wp2
  go_ret
  exact ⟨rfl, rfl⟩
theorem rgroup_11 (w : World) : Calls Tryz.prog 146 #[.int .i64 11] w fun e w' => e = .returned (.bool (hasGroup 11)) ∧ w = w' := by
  go_enter Tryz.func146, Tryz.ntmps146
  go_wp2
  go_ret
  exact ⟨rfl, rfl⟩
theorem rgroup_12 (w : World) : Calls Tryz.prog 146 #[.int .i64 12] w fun e w' => e = .returned (.bool (hasGroup 12)) ∧ w = w' := by
  go_enter Tryz.func146, Tryz.ntmps146
  go_wp2
  go_ret
  exact ⟨rfl, rfl⟩
theorem rgroup_13 (w : World) : Calls Tryz.prog 146 #[.int .i64 13] w fun e w' => e = .returned (.bool (hasGroup 13)) ∧ w = w' := by
  go_enter Tryz.func146, Tryz.ntmps146
  go_wp2
  go_ret
  exact ⟨rfl, rfl⟩
theorem rgroup_14 (w : World) : Calls Tryz.prog 146 #[.int .i64 14] w fun e w' => e = .returned (.bool (hasGroup 14)) ∧ w = w' := by
  go_enter Tryz.func146, Tryz.ntmps146
  go_wp2
  go_ret
  exact ⟨rfl, rfl⟩
theorem rgroup_15 (w : World) : Calls Tryz.prog 146 #[.int .i64 15] w fun e w' => e = .returned (.bool (hasGroup 15)) ∧ w = w' := by
  go_enter Tryz.func146, Tryz.ntmps146
  go_wp2
  go_ret
  exact ⟨rfl, rfl⟩
theorem rgroup_16 (w : World) : Calls Tryz.prog 146 #[.int .i64 16] w fun e w' => e = .returned (.bool (hasGroup 16)) ∧ w = w' := by
  go_enter Tryz.func146, Tryz.ntmps146
  go_wp2
  go_ret
  exact ⟨rfl, rfl⟩
theorem rgroup_17 (w : World) : Calls Tryz.prog 146 #[.int .i64 17] w fun e w' => e = .returned (.bool (hasGroup 17)) ∧ w = w' := by
  go_enter Tryz.func146, Tryz.ntmps146
  go_wp2
  go_ret
  exact ⟨rfl, rfl⟩
theorem rgroup_18 (w : World) : Calls Tryz.prog 146 #[.int .i64 18] w fun e w' => e = .returned (.bool (hasGroup 18)) ∧ w = w' := by
  go_enter Tryz.func146, Tryz.ntmps146
  go_wp2
  go_ret
  exact ⟨rfl, rfl⟩
theorem rgroup_19 (w : World) : Calls Tryz.prog 146 #[.int .i64 19] w fun e w' => e = .returned (.bool (hasGroup 19)) ∧ w = w' := by
  go_enter Tryz.func146, Tryz.ntmps146
  go_wp2
  go_ret
  exact ⟨rfl, rfl⟩
theorem rgroup_20 (w : World) : Calls Tryz.prog 146 #[.int .i64 20] w fun e w' => e = .returned (.bool (hasGroup 20)) ∧ w = w' := by
  go_enter Tryz.func146, Tryz.ntmps146
  go_wp2
  go_ret
  exact ⟨rfl, rfl⟩
theorem rgroup_21 (w : World) : Calls Tryz.prog 146 #[.int .i64 21] w fun e w' => e = .returned (.bool (hasGroup 21)) ∧ w = w' := by
  go_enter Tryz.func146, Tryz.ntmps146
  go_wp2
  go_ret
  exact ⟨rfl, rfl⟩
theorem rgroup_any (op : Int) (h : known op = true) (w : World) : Calls Tryz.prog 146 #[.int .i64 op] w fun e w' => e = .returned (.bool (hasGroup op)) ∧ w = w' := by
  rcases known_cases op h with rfl | rfl | rfl | rfl | rfl | rfl | rfl | rfl | rfl | rfl | rfl | rfl | rfl | rfl | rfl | rfl | rfl | rfl | rfl | rfl | rfl
  · exact rgroup_1 w
  · exact rgroup_2 w
  · exact rgroup_3 w
  · exact rgroup_4 w
  · exact rgroup_5 w
  · exact rgroup_6 w
  · exact rgroup_7 w
  · exact rgroup_8 w
  · exact rgroup_9 w
  · exact rgroup_10 w
  · exact rgroup_11 w
  · exact rgroup_12 w
  · exact rgroup_13 w
  · exact rgroup_14 w
  · exact rgroup_15 w
  · exact rgroup_16 w
  · exact rgroup_17 w
  · exact rgroup_18 w
  · exact rgroup_19 w
  · exact rgroup_20 w
  · exact rgroup_21 w
end Go.Proofs.YtjpmhbnikoggaaaGreatDoor
/- Layer 5: the reference's error of a node (operators without a range). -/
namespace Go.Proofs.YtjpmhbnikoggaaaGreatDoor
open Go.RowKit Go.Proofs.Ws
theorem le_lt_dec (a b : Int) : (decide (0 ≤ a) && decide (a < b)) = (!decide (a < 0) && !decide (b ≤ a)) := by
  rw [Bool.eq_iff_iff]; simp
theorem le_le_dec (a : Int) : (decide (1 ≤ a) && decide (a ≤ 15)) = (!decide (a < 1) && !decide (16 ≤ a)) := by
  rw [Bool.eq_iff_iff]; simp; omega
theorem zero_dec (a : Int) : decide (a = 0) = !(a != 0) := by rw [Bool.eq_iff_iff]; simp
set_option maxRecDepth 100000 in
set_option maxHeartbeats 8000000 in
theorem rNode_a (op i e g x y idx : Int) (w : World) (hu : known op = true) (hx : usesX op = false) (hy : usesY op = false) (ha : hasAgent op = false) (hg : hasGroup op = false) (h3 : (op == 3) = false) (h17 : (op == 17) = false) (hN : shN op = 0) (hE : shE op = 0) (hG : shG op = 0) :
    Calls Tryz.prog 107 #[.agg #[.int .i64 op, .int .i64 i, .int .i64 e, .int .i64 g, .int .i64 x, .int .i64 y], .int .i64 idx] w fun e' w' => e' = .returned (.int .i64 (nodeErr ⟨op, i, e, g, x, y⟩ idx)) ∧ Below w.heap.size w w' := by
  have HX : Hid (∀ W, Calls Tryz.prog 73 #[.int .i64 op] W fun e w' => e = .returned (.bool false) ∧ W = w') := Lib.hid (fun W => hx ▸ rUsesX_any op hu W)
  have HY : Hid (∀ W, Calls Tryz.prog 74 #[.int .i64 op] W fun e w' => e = .returned (.bool false) ∧ W = w') := Lib.hid (fun W => hy ▸ rUsesY_any op hu W)
  have HA : Hid (∀ W, Calls Tryz.prog 145 #[.int .i64 op] W fun e w' => e = .returned (.bool false) ∧ W = w') := Lib.hid (fun W => ha ▸ ragent_any op hu W)
  have HG : Hid (∀ W, Calls Tryz.prog 146 #[.int .i64 op] W fun e w' => e = .returned (.bool false) ∧ W = w') := Lib.hid (fun W => hg ▸ rgroup_any op hu W)
  have HB : Hid (∀ o, Below w.heap.size w (w.alloc o)) := Lib.hid (fun o => (Below.refl _ w).alloc (Nat.le_refl _) o)
  have d3 : decide (op = 3) = false := h3
  have d17 : decide (op = 17) = false := h17
  have HV : Hid (nodeErr ⟨op, i, e, g, x, y⟩ idx = if ((!(x != 0)) && (!(y != 0)) && (!(i != 0)) && (!(e != 0)) && (!(g != 0))) = false then 3 else if ((true) && (true) && (true)) = false then 2 else 0) := Lib.hid (by
    unfold nodeErr formOk rangeOk
    simp only [hu, hx, hy, ha, hg, d3, d17, hN, hE, hG, le_lt_dec, zero_dec]
    rfl)
  have k17 : (op != 17) = true := by rw [bne, h17]; rfl
  have lo : decide (op < 1) = false := by
    simp only [known, Bool.and_eq_true, decide_eq_true_eq] at hu
    simp; omega
  have hi : decide (21 < op) = false := by
    simp only [known, Bool.and_eq_true, decide_eq_true_eq] at hu
    simp; omega
  clear hu hx hy ha hg d3 d17 hN hE hG
  cases c0 : (x != 0) with
  | true =>
    rw [show nodeErr ⟨op, i, e, g, x, y⟩ idx = 3 from by rw [HV.out]; simp only [c0]; rfl]
    clear HV
    go_enter Tryz.func107, Tryz.ntmps107
    go_wp2_with (first | (go_at_call 73; refine (HX.out _).mono ?_; rintro e' w' ⟨rfl, rfl⟩) | (go_at_call 74; refine (HY.out _).mono ?_; rintro e' w' ⟨rfl, rfl⟩) | (go_at_call 145; refine (HA.out _).mono ?_; rintro e' w' ⟨rfl, rfl⟩) | (go_at_call 146; refine (HG.out _).mono ?_; rintro e' w' ⟨rfl, rfl⟩))
    go_ret
    exact ⟨rfl, HB.out _⟩
  | false =>
    cases c1 : (y != 0) with
    | true =>
      rw [show nodeErr ⟨op, i, e, g, x, y⟩ idx = 3 from by rw [HV.out]; simp only [c0, c1]; rfl]
      clear HV
      go_enter Tryz.func107, Tryz.ntmps107
      go_wp2_with (first | (go_at_call 73; refine (HX.out _).mono ?_; rintro e' w' ⟨rfl, rfl⟩) | (go_at_call 74; refine (HY.out _).mono ?_; rintro e' w' ⟨rfl, rfl⟩) | (go_at_call 145; refine (HA.out _).mono ?_; rintro e' w' ⟨rfl, rfl⟩) | (go_at_call 146; refine (HG.out _).mono ?_; rintro e' w' ⟨rfl, rfl⟩))
      go_ret
      exact ⟨rfl, HB.out _⟩
    | false =>
      cases c2 : (i != 0) with
      | true =>
        rw [show nodeErr ⟨op, i, e, g, x, y⟩ idx = 3 from by rw [HV.out]; simp only [c0, c1, c2]; rfl]
        clear HV
        go_enter Tryz.func107, Tryz.ntmps107
        go_wp2_with (first | (go_at_call 73; refine (HX.out _).mono ?_; rintro e' w' ⟨rfl, rfl⟩) | (go_at_call 74; refine (HY.out _).mono ?_; rintro e' w' ⟨rfl, rfl⟩) | (go_at_call 145; refine (HA.out _).mono ?_; rintro e' w' ⟨rfl, rfl⟩) | (go_at_call 146; refine (HG.out _).mono ?_; rintro e' w' ⟨rfl, rfl⟩))
        go_ret
        exact ⟨rfl, HB.out _⟩
      | false =>
        cases c3 : (e != 0) with
        | true =>
          rw [show nodeErr ⟨op, i, e, g, x, y⟩ idx = 3 from by rw [HV.out]; simp only [c0, c1, c2, c3]; rfl]
          clear HV
          go_enter Tryz.func107, Tryz.ntmps107
          go_wp2_with (first | (go_at_call 73; refine (HX.out _).mono ?_; rintro e' w' ⟨rfl, rfl⟩) | (go_at_call 74; refine (HY.out _).mono ?_; rintro e' w' ⟨rfl, rfl⟩) | (go_at_call 145; refine (HA.out _).mono ?_; rintro e' w' ⟨rfl, rfl⟩) | (go_at_call 146; refine (HG.out _).mono ?_; rintro e' w' ⟨rfl, rfl⟩))
          go_ret
          exact ⟨rfl, HB.out _⟩
        | false =>
          cases c4 : (g != 0) with
          | true =>
            rw [show nodeErr ⟨op, i, e, g, x, y⟩ idx = 3 from by rw [HV.out]; simp only [c0, c1, c2, c3, c4]; rfl]
            clear HV
            go_enter Tryz.func107, Tryz.ntmps107
            go_wp2_with (first | (go_at_call 73; refine (HX.out _).mono ?_; rintro e' w' ⟨rfl, rfl⟩) | (go_at_call 74; refine (HY.out _).mono ?_; rintro e' w' ⟨rfl, rfl⟩) | (go_at_call 145; refine (HA.out _).mono ?_; rintro e' w' ⟨rfl, rfl⟩) | (go_at_call 146; refine (HG.out _).mono ?_; rintro e' w' ⟨rfl, rfl⟩))
            go_ret
            exact ⟨rfl, HB.out _⟩
          | false =>
            rw [show nodeErr ⟨op, i, e, g, x, y⟩ idx = 0 from by rw [HV.out]; simp only [c0, c1, c2, c3, c4]; rfl]
            clear HV
            go_enter Tryz.func107, Tryz.ntmps107
            go_wp2_with (first | (go_at_call 73; refine (HX.out _).mono ?_; rintro e' w' ⟨rfl, rfl⟩) | (go_at_call 74; refine (HY.out _).mono ?_; rintro e' w' ⟨rfl, rfl⟩) | (go_at_call 145; refine (HA.out _).mono ?_; rintro e' w' ⟨rfl, rfl⟩) | (go_at_call 146; refine (HG.out _).mono ?_; rintro e' w' ⟨rfl, rfl⟩))
            go_ret
            exact ⟨rfl, HB.out _⟩
set_option maxRecDepth 100000 in
set_option maxHeartbeats 8000000 in
theorem rNode_b (op i e g x y idx : Int) (w : World) (hu : known op = true) (hx : usesX op = false) (hy : usesY op = false) (ha : hasAgent op = false) (hg : hasGroup op = false) (h3 : (op == 3) = true) (h17 : (op == 17) = false) (hN : shN op = 8) (hE : shE op = 0) (hG : shG op = 0) :
    Calls Tryz.prog 107 #[.agg #[.int .i64 op, .int .i64 i, .int .i64 e, .int .i64 g, .int .i64 x, .int .i64 y], .int .i64 idx] w fun e' w' => e' = .returned (.int .i64 (nodeErr ⟨op, i, e, g, x, y⟩ idx)) ∧ Below w.heap.size w w' := by
  have HX : Hid (∀ W, Calls Tryz.prog 73 #[.int .i64 op] W fun e w' => e = .returned (.bool false) ∧ W = w') := Lib.hid (fun W => hx ▸ rUsesX_any op hu W)
  have HY : Hid (∀ W, Calls Tryz.prog 74 #[.int .i64 op] W fun e w' => e = .returned (.bool false) ∧ W = w') := Lib.hid (fun W => hy ▸ rUsesY_any op hu W)
  have HA : Hid (∀ W, Calls Tryz.prog 145 #[.int .i64 op] W fun e w' => e = .returned (.bool false) ∧ W = w') := Lib.hid (fun W => ha ▸ ragent_any op hu W)
  have HG : Hid (∀ W, Calls Tryz.prog 146 #[.int .i64 op] W fun e w' => e = .returned (.bool false) ∧ W = w') := Lib.hid (fun W => hg ▸ rgroup_any op hu W)
  have HB : Hid (∀ o, Below w.heap.size w (w.alloc o)) := Lib.hid (fun o => (Below.refl _ w).alloc (Nat.le_refl _) o)
  have d3 : decide (op = 3) = true := h3
  have d17 : decide (op = 17) = false := h17
  have HV : Hid (nodeErr ⟨op, i, e, g, x, y⟩ idx = if ((!(x != 0)) && (!(y != 0)) && (true) && (!(e != 0)) && (!(g != 0))) = false then 3 else if ((!decide (i < 0) && !decide (8 ≤ i)) && (true) && (true)) = false then 2 else 0) := Lib.hid (by
    unfold nodeErr formOk rangeOk
    simp only [hu, hx, hy, ha, hg, d3, d17, hN, hE, hG, le_lt_dec, zero_dec]
    rfl)
  have k17 : (op != 17) = true := by rw [bne, h17]; rfl
  have lo : decide (op < 1) = false := by
    simp only [known, Bool.and_eq_true, decide_eq_true_eq] at hu
    simp; omega
  have hi : decide (21 < op) = false := by
    simp only [known, Bool.and_eq_true, decide_eq_true_eq] at hu
    simp; omega
  clear hu hx hy ha hg d3 d17 hN hE hG
  cases c0 : (x != 0) with
  | true =>
    rw [show nodeErr ⟨op, i, e, g, x, y⟩ idx = 3 from by rw [HV.out]; simp only [c0]; rfl]
    clear HV
    go_enter Tryz.func107, Tryz.ntmps107
    go_wp2_with (first | (go_at_call 73; refine (HX.out _).mono ?_; rintro e' w' ⟨rfl, rfl⟩) | (go_at_call 74; refine (HY.out _).mono ?_; rintro e' w' ⟨rfl, rfl⟩) | (go_at_call 145; refine (HA.out _).mono ?_; rintro e' w' ⟨rfl, rfl⟩) | (go_at_call 146; refine (HG.out _).mono ?_; rintro e' w' ⟨rfl, rfl⟩))
    go_ret
    exact ⟨rfl, HB.out _⟩
  | false =>
    cases c1 : (y != 0) with
    | true =>
      rw [show nodeErr ⟨op, i, e, g, x, y⟩ idx = 3 from by rw [HV.out]; simp only [c0, c1]; rfl]
      clear HV
      go_enter Tryz.func107, Tryz.ntmps107
      go_wp2_with (first | (go_at_call 73; refine (HX.out _).mono ?_; rintro e' w' ⟨rfl, rfl⟩) | (go_at_call 74; refine (HY.out _).mono ?_; rintro e' w' ⟨rfl, rfl⟩) | (go_at_call 145; refine (HA.out _).mono ?_; rintro e' w' ⟨rfl, rfl⟩) | (go_at_call 146; refine (HG.out _).mono ?_; rintro e' w' ⟨rfl, rfl⟩))
      go_ret
      exact ⟨rfl, HB.out _⟩
    | false =>
      cases c2 : (e != 0) with
      | true =>
        rw [show nodeErr ⟨op, i, e, g, x, y⟩ idx = 3 from by rw [HV.out]; simp only [c0, c1, c2]; rfl]
        clear HV
        go_enter Tryz.func107, Tryz.ntmps107
        go_wp2_with (first | (go_at_call 73; refine (HX.out _).mono ?_; rintro e' w' ⟨rfl, rfl⟩) | (go_at_call 74; refine (HY.out _).mono ?_; rintro e' w' ⟨rfl, rfl⟩) | (go_at_call 145; refine (HA.out _).mono ?_; rintro e' w' ⟨rfl, rfl⟩) | (go_at_call 146; refine (HG.out _).mono ?_; rintro e' w' ⟨rfl, rfl⟩))
        go_ret
        exact ⟨rfl, HB.out _⟩
      | false =>
        cases c3 : (g != 0) with
        | true =>
          rw [show nodeErr ⟨op, i, e, g, x, y⟩ idx = 3 from by rw [HV.out]; simp only [c0, c1, c2, c3]; rfl]
          clear HV
          go_enter Tryz.func107, Tryz.ntmps107
          go_wp2_with (first | (go_at_call 73; refine (HX.out _).mono ?_; rintro e' w' ⟨rfl, rfl⟩) | (go_at_call 74; refine (HY.out _).mono ?_; rintro e' w' ⟨rfl, rfl⟩) | (go_at_call 145; refine (HA.out _).mono ?_; rintro e' w' ⟨rfl, rfl⟩) | (go_at_call 146; refine (HG.out _).mono ?_; rintro e' w' ⟨rfl, rfl⟩))
          go_ret
          exact ⟨rfl, HB.out _⟩
        | false =>
          cases c4 : (decide (i < 0)) with
          | true =>
            rw [show nodeErr ⟨op, i, e, g, x, y⟩ idx = 2 from by rw [HV.out]; simp only [c0, c1, c2, c3, c4]; rfl]
            clear HV
            go_enter Tryz.func107, Tryz.ntmps107
            go_wp2_with (first | (go_at_call 73; refine (HX.out _).mono ?_; rintro e' w' ⟨rfl, rfl⟩) | (go_at_call 74; refine (HY.out _).mono ?_; rintro e' w' ⟨rfl, rfl⟩) | (go_at_call 145; refine (HA.out _).mono ?_; rintro e' w' ⟨rfl, rfl⟩) | (go_at_call 146; refine (HG.out _).mono ?_; rintro e' w' ⟨rfl, rfl⟩))
            go_ret
            exact ⟨rfl, HB.out _⟩
          | false =>
            cases c5 : (decide (8 ≤ i)) with
            | true =>
              rw [show nodeErr ⟨op, i, e, g, x, y⟩ idx = 2 from by rw [HV.out]; simp only [c0, c1, c2, c3, c4, c5]; rfl]
              clear HV
              go_enter Tryz.func107, Tryz.ntmps107
              go_wp2_with (first | (go_at_call 73; refine (HX.out _).mono ?_; rintro e' w' ⟨rfl, rfl⟩) | (go_at_call 74; refine (HY.out _).mono ?_; rintro e' w' ⟨rfl, rfl⟩) | (go_at_call 145; refine (HA.out _).mono ?_; rintro e' w' ⟨rfl, rfl⟩) | (go_at_call 146; refine (HG.out _).mono ?_; rintro e' w' ⟨rfl, rfl⟩))
              go_ret
              exact ⟨rfl, HB.out _⟩
            | false =>
              rw [show nodeErr ⟨op, i, e, g, x, y⟩ idx = 0 from by rw [HV.out]; simp only [c0, c1, c2, c3, c4, c5]; rfl]
              clear HV
              go_enter Tryz.func107, Tryz.ntmps107
              go_wp2_with (first | (go_at_call 73; refine (HX.out _).mono ?_; rintro e' w' ⟨rfl, rfl⟩) | (go_at_call 74; refine (HY.out _).mono ?_; rintro e' w' ⟨rfl, rfl⟩) | (go_at_call 145; refine (HA.out _).mono ?_; rintro e' w' ⟨rfl, rfl⟩) | (go_at_call 146; refine (HG.out _).mono ?_; rintro e' w' ⟨rfl, rfl⟩))
              go_ret
              exact ⟨rfl, HB.out _⟩
set_option maxRecDepth 100000 in
set_option maxHeartbeats 8000000 in
theorem rNode_c (op i e g x y idx : Int) (w : World) (hu : known op = true) (hx : usesX op = true) (hy : usesY op = false) (ha : hasAgent op = false) (hg : hasGroup op = false) (h3 : (op == 3) = false) (h17 : (op == 17) = false) (hN : shN op = 0) (hE : shE op = 0) (hG : shG op = 0) :
    Calls Tryz.prog 107 #[.agg #[.int .i64 op, .int .i64 i, .int .i64 e, .int .i64 g, .int .i64 x, .int .i64 y], .int .i64 idx] w fun e' w' => e' = .returned (.int .i64 (nodeErr ⟨op, i, e, g, x, y⟩ idx)) ∧ Below w.heap.size w w' := by
  have HX : Hid (∀ W, Calls Tryz.prog 73 #[.int .i64 op] W fun e w' => e = .returned (.bool true) ∧ W = w') := Lib.hid (fun W => hx ▸ rUsesX_any op hu W)
  have HY : Hid (∀ W, Calls Tryz.prog 74 #[.int .i64 op] W fun e w' => e = .returned (.bool false) ∧ W = w') := Lib.hid (fun W => hy ▸ rUsesY_any op hu W)
  have HA : Hid (∀ W, Calls Tryz.prog 145 #[.int .i64 op] W fun e w' => e = .returned (.bool false) ∧ W = w') := Lib.hid (fun W => ha ▸ ragent_any op hu W)
  have HG : Hid (∀ W, Calls Tryz.prog 146 #[.int .i64 op] W fun e w' => e = .returned (.bool false) ∧ W = w') := Lib.hid (fun W => hg ▸ rgroup_any op hu W)
  have HB : Hid (∀ o, Below w.heap.size w (w.alloc o)) := Lib.hid (fun o => (Below.refl _ w).alloc (Nat.le_refl _) o)
  have d3 : decide (op = 3) = false := h3
  have d17 : decide (op = 17) = false := h17
  have HV : Hid (nodeErr ⟨op, i, e, g, x, y⟩ idx = if ((!decide (x < 0) && !decide (idx ≤ x)) && (!(y != 0)) && (!(i != 0)) && (!(e != 0)) && (!(g != 0))) = false then 3 else if ((true) && (true) && (true)) = false then 2 else 0) := Lib.hid (by
    unfold nodeErr formOk rangeOk
    simp only [hu, hx, hy, ha, hg, d3, d17, hN, hE, hG, le_lt_dec, zero_dec]
    rfl)
  have k17 : (op != 17) = true := by rw [bne, h17]; rfl
  have lo : decide (op < 1) = false := by
    simp only [known, Bool.and_eq_true, decide_eq_true_eq] at hu
    simp; omega
  have hi : decide (21 < op) = false := by
    simp only [known, Bool.and_eq_true, decide_eq_true_eq] at hu
    simp; omega
  clear hu hx hy ha hg d3 d17 hN hE hG
  cases c0 : (decide (x < 0)) with
  | true =>
    rw [show nodeErr ⟨op, i, e, g, x, y⟩ idx = 3 from by rw [HV.out]; simp only [c0]; rfl]
    clear HV
    go_enter Tryz.func107, Tryz.ntmps107
    go_wp2_with (first | (go_at_call 73; refine (HX.out _).mono ?_; rintro e' w' ⟨rfl, rfl⟩) | (go_at_call 74; refine (HY.out _).mono ?_; rintro e' w' ⟨rfl, rfl⟩) | (go_at_call 145; refine (HA.out _).mono ?_; rintro e' w' ⟨rfl, rfl⟩) | (go_at_call 146; refine (HG.out _).mono ?_; rintro e' w' ⟨rfl, rfl⟩))
    go_ret
    exact ⟨rfl, HB.out _⟩
  | false =>
    cases c1 : (decide (idx ≤ x)) with
    | true =>
      rw [show nodeErr ⟨op, i, e, g, x, y⟩ idx = 3 from by rw [HV.out]; simp only [c0, c1]; rfl]
      clear HV
      go_enter Tryz.func107, Tryz.ntmps107
      go_wp2_with (first | (go_at_call 73; refine (HX.out _).mono ?_; rintro e' w' ⟨rfl, rfl⟩) | (go_at_call 74; refine (HY.out _).mono ?_; rintro e' w' ⟨rfl, rfl⟩) | (go_at_call 145; refine (HA.out _).mono ?_; rintro e' w' ⟨rfl, rfl⟩) | (go_at_call 146; refine (HG.out _).mono ?_; rintro e' w' ⟨rfl, rfl⟩))
      go_ret
      exact ⟨rfl, HB.out _⟩
    | false =>
      cases c2 : (y != 0) with
      | true =>
        rw [show nodeErr ⟨op, i, e, g, x, y⟩ idx = 3 from by rw [HV.out]; simp only [c0, c1, c2]; rfl]
        clear HV
        go_enter Tryz.func107, Tryz.ntmps107
        go_wp2_with (first | (go_at_call 73; refine (HX.out _).mono ?_; rintro e' w' ⟨rfl, rfl⟩) | (go_at_call 74; refine (HY.out _).mono ?_; rintro e' w' ⟨rfl, rfl⟩) | (go_at_call 145; refine (HA.out _).mono ?_; rintro e' w' ⟨rfl, rfl⟩) | (go_at_call 146; refine (HG.out _).mono ?_; rintro e' w' ⟨rfl, rfl⟩))
        go_ret
        exact ⟨rfl, HB.out _⟩
      | false =>
        cases c3 : (i != 0) with
        | true =>
          rw [show nodeErr ⟨op, i, e, g, x, y⟩ idx = 3 from by rw [HV.out]; simp only [c0, c1, c2, c3]; rfl]
          clear HV
          go_enter Tryz.func107, Tryz.ntmps107
          go_wp2_with (first | (go_at_call 73; refine (HX.out _).mono ?_; rintro e' w' ⟨rfl, rfl⟩) | (go_at_call 74; refine (HY.out _).mono ?_; rintro e' w' ⟨rfl, rfl⟩) | (go_at_call 145; refine (HA.out _).mono ?_; rintro e' w' ⟨rfl, rfl⟩) | (go_at_call 146; refine (HG.out _).mono ?_; rintro e' w' ⟨rfl, rfl⟩))
          go_ret
          exact ⟨rfl, HB.out _⟩
        | false =>
          cases c4 : (e != 0) with
          | true =>
            rw [show nodeErr ⟨op, i, e, g, x, y⟩ idx = 3 from by rw [HV.out]; simp only [c0, c1, c2, c3, c4]; rfl]
            clear HV
            go_enter Tryz.func107, Tryz.ntmps107
            go_wp2_with (first | (go_at_call 73; refine (HX.out _).mono ?_; rintro e' w' ⟨rfl, rfl⟩) | (go_at_call 74; refine (HY.out _).mono ?_; rintro e' w' ⟨rfl, rfl⟩) | (go_at_call 145; refine (HA.out _).mono ?_; rintro e' w' ⟨rfl, rfl⟩) | (go_at_call 146; refine (HG.out _).mono ?_; rintro e' w' ⟨rfl, rfl⟩))
            go_ret
            exact ⟨rfl, HB.out _⟩
          | false =>
            cases c5 : (g != 0) with
            | true =>
              rw [show nodeErr ⟨op, i, e, g, x, y⟩ idx = 3 from by rw [HV.out]; simp only [c0, c1, c2, c3, c4, c5]; rfl]
              clear HV
              go_enter Tryz.func107, Tryz.ntmps107
              go_wp2_with (first | (go_at_call 73; refine (HX.out _).mono ?_; rintro e' w' ⟨rfl, rfl⟩) | (go_at_call 74; refine (HY.out _).mono ?_; rintro e' w' ⟨rfl, rfl⟩) | (go_at_call 145; refine (HA.out _).mono ?_; rintro e' w' ⟨rfl, rfl⟩) | (go_at_call 146; refine (HG.out _).mono ?_; rintro e' w' ⟨rfl, rfl⟩))
              go_ret
              exact ⟨rfl, HB.out _⟩
            | false =>
              rw [show nodeErr ⟨op, i, e, g, x, y⟩ idx = 0 from by rw [HV.out]; simp only [c0, c1, c2, c3, c4, c5]; rfl]
              clear HV
              go_enter Tryz.func107, Tryz.ntmps107
              go_wp2_with (first | (go_at_call 73; refine (HX.out _).mono ?_; rintro e' w' ⟨rfl, rfl⟩) | (go_at_call 74; refine (HY.out _).mono ?_; rintro e' w' ⟨rfl, rfl⟩) | (go_at_call 145; refine (HA.out _).mono ?_; rintro e' w' ⟨rfl, rfl⟩) | (go_at_call 146; refine (HG.out _).mono ?_; rintro e' w' ⟨rfl, rfl⟩))
              go_ret
              exact ⟨rfl, HB.out _⟩
set_option maxRecDepth 100000 in
set_option maxHeartbeats 8000000 in
theorem rNode_d (op i e g x y idx : Int) (w : World) (hu : known op = true) (hx : usesX op = true) (hy : usesY op = true) (ha : hasAgent op = false) (hg : hasGroup op = false) (h3 : (op == 3) = false) (h17 : (op == 17) = false) (hN : shN op = 0) (hE : shE op = 0) (hG : shG op = 0) :
    Calls Tryz.prog 107 #[.agg #[.int .i64 op, .int .i64 i, .int .i64 e, .int .i64 g, .int .i64 x, .int .i64 y], .int .i64 idx] w fun e' w' => e' = .returned (.int .i64 (nodeErr ⟨op, i, e, g, x, y⟩ idx)) ∧ Below w.heap.size w w' := by
  have HX : Hid (∀ W, Calls Tryz.prog 73 #[.int .i64 op] W fun e w' => e = .returned (.bool true) ∧ W = w') := Lib.hid (fun W => hx ▸ rUsesX_any op hu W)
  have HY : Hid (∀ W, Calls Tryz.prog 74 #[.int .i64 op] W fun e w' => e = .returned (.bool true) ∧ W = w') := Lib.hid (fun W => hy ▸ rUsesY_any op hu W)
  have HA : Hid (∀ W, Calls Tryz.prog 145 #[.int .i64 op] W fun e w' => e = .returned (.bool false) ∧ W = w') := Lib.hid (fun W => ha ▸ ragent_any op hu W)
  have HG : Hid (∀ W, Calls Tryz.prog 146 #[.int .i64 op] W fun e w' => e = .returned (.bool false) ∧ W = w') := Lib.hid (fun W => hg ▸ rgroup_any op hu W)
  have HB : Hid (∀ o, Below w.heap.size w (w.alloc o)) := Lib.hid (fun o => (Below.refl _ w).alloc (Nat.le_refl _) o)
  have d3 : decide (op = 3) = false := h3
  have d17 : decide (op = 17) = false := h17
  have HV : Hid (nodeErr ⟨op, i, e, g, x, y⟩ idx = if ((!decide (x < 0) && !decide (idx ≤ x)) && (!decide (y < 0) && !decide (idx ≤ y)) && (!(i != 0)) && (!(e != 0)) && (!(g != 0))) = false then 3 else if ((true) && (true) && (true)) = false then 2 else 0) := Lib.hid (by
    unfold nodeErr formOk rangeOk
    simp only [hu, hx, hy, ha, hg, d3, d17, hN, hE, hG, le_lt_dec, zero_dec]
    rfl)
  have k17 : (op != 17) = true := by rw [bne, h17]; rfl
  have lo : decide (op < 1) = false := by
    simp only [known, Bool.and_eq_true, decide_eq_true_eq] at hu
    simp; omega
  have hi : decide (21 < op) = false := by
    simp only [known, Bool.and_eq_true, decide_eq_true_eq] at hu
    simp; omega
  clear hu hx hy ha hg d3 d17 hN hE hG
  cases c0 : (decide (x < 0)) with
  | true =>
    rw [show nodeErr ⟨op, i, e, g, x, y⟩ idx = 3 from by rw [HV.out]; simp only [c0]; rfl]
    clear HV
    go_enter Tryz.func107, Tryz.ntmps107
    go_wp2_with (first | (go_at_call 73; refine (HX.out _).mono ?_; rintro e' w' ⟨rfl, rfl⟩) | (go_at_call 74; refine (HY.out _).mono ?_; rintro e' w' ⟨rfl, rfl⟩) | (go_at_call 145; refine (HA.out _).mono ?_; rintro e' w' ⟨rfl, rfl⟩) | (go_at_call 146; refine (HG.out _).mono ?_; rintro e' w' ⟨rfl, rfl⟩))
    go_ret
    exact ⟨rfl, HB.out _⟩
  | false =>
    cases c1 : (decide (idx ≤ x)) with
    | true =>
      rw [show nodeErr ⟨op, i, e, g, x, y⟩ idx = 3 from by rw [HV.out]; simp only [c0, c1]; rfl]
      clear HV
      go_enter Tryz.func107, Tryz.ntmps107
      go_wp2_with (first | (go_at_call 73; refine (HX.out _).mono ?_; rintro e' w' ⟨rfl, rfl⟩) | (go_at_call 74; refine (HY.out _).mono ?_; rintro e' w' ⟨rfl, rfl⟩) | (go_at_call 145; refine (HA.out _).mono ?_; rintro e' w' ⟨rfl, rfl⟩) | (go_at_call 146; refine (HG.out _).mono ?_; rintro e' w' ⟨rfl, rfl⟩))
      go_ret
      exact ⟨rfl, HB.out _⟩
    | false =>
      cases c2 : (decide (y < 0)) with
      | true =>
        rw [show nodeErr ⟨op, i, e, g, x, y⟩ idx = 3 from by rw [HV.out]; simp only [c0, c1, c2]; rfl]
        clear HV
        go_enter Tryz.func107, Tryz.ntmps107
        go_wp2_with (first | (go_at_call 73; refine (HX.out _).mono ?_; rintro e' w' ⟨rfl, rfl⟩) | (go_at_call 74; refine (HY.out _).mono ?_; rintro e' w' ⟨rfl, rfl⟩) | (go_at_call 145; refine (HA.out _).mono ?_; rintro e' w' ⟨rfl, rfl⟩) | (go_at_call 146; refine (HG.out _).mono ?_; rintro e' w' ⟨rfl, rfl⟩))
        go_ret
        exact ⟨rfl, HB.out _⟩
      | false =>
        cases c3 : (decide (idx ≤ y)) with
        | true =>
          rw [show nodeErr ⟨op, i, e, g, x, y⟩ idx = 3 from by rw [HV.out]; simp only [c0, c1, c2, c3]; rfl]
          clear HV
          go_enter Tryz.func107, Tryz.ntmps107
          go_wp2_with (first | (go_at_call 73; refine (HX.out _).mono ?_; rintro e' w' ⟨rfl, rfl⟩) | (go_at_call 74; refine (HY.out _).mono ?_; rintro e' w' ⟨rfl, rfl⟩) | (go_at_call 145; refine (HA.out _).mono ?_; rintro e' w' ⟨rfl, rfl⟩) | (go_at_call 146; refine (HG.out _).mono ?_; rintro e' w' ⟨rfl, rfl⟩))
          go_ret
          exact ⟨rfl, HB.out _⟩
        | false =>
          cases c4 : (i != 0) with
          | true =>
            rw [show nodeErr ⟨op, i, e, g, x, y⟩ idx = 3 from by rw [HV.out]; simp only [c0, c1, c2, c3, c4]; rfl]
            clear HV
            go_enter Tryz.func107, Tryz.ntmps107
            go_wp2_with (first | (go_at_call 73; refine (HX.out _).mono ?_; rintro e' w' ⟨rfl, rfl⟩) | (go_at_call 74; refine (HY.out _).mono ?_; rintro e' w' ⟨rfl, rfl⟩) | (go_at_call 145; refine (HA.out _).mono ?_; rintro e' w' ⟨rfl, rfl⟩) | (go_at_call 146; refine (HG.out _).mono ?_; rintro e' w' ⟨rfl, rfl⟩))
            go_ret
            exact ⟨rfl, HB.out _⟩
          | false =>
            cases c5 : (e != 0) with
            | true =>
              rw [show nodeErr ⟨op, i, e, g, x, y⟩ idx = 3 from by rw [HV.out]; simp only [c0, c1, c2, c3, c4, c5]; rfl]
              clear HV
              go_enter Tryz.func107, Tryz.ntmps107
              go_wp2_with (first | (go_at_call 73; refine (HX.out _).mono ?_; rintro e' w' ⟨rfl, rfl⟩) | (go_at_call 74; refine (HY.out _).mono ?_; rintro e' w' ⟨rfl, rfl⟩) | (go_at_call 145; refine (HA.out _).mono ?_; rintro e' w' ⟨rfl, rfl⟩) | (go_at_call 146; refine (HG.out _).mono ?_; rintro e' w' ⟨rfl, rfl⟩))
              go_ret
              exact ⟨rfl, HB.out _⟩
            | false =>
              cases c6 : (g != 0) with
              | true =>
                rw [show nodeErr ⟨op, i, e, g, x, y⟩ idx = 3 from by rw [HV.out]; simp only [c0, c1, c2, c3, c4, c5, c6]; rfl]
                clear HV
                go_enter Tryz.func107, Tryz.ntmps107
                go_wp2_with (first | (go_at_call 73; refine (HX.out _).mono ?_; rintro e' w' ⟨rfl, rfl⟩) | (go_at_call 74; refine (HY.out _).mono ?_; rintro e' w' ⟨rfl, rfl⟩) | (go_at_call 145; refine (HA.out _).mono ?_; rintro e' w' ⟨rfl, rfl⟩) | (go_at_call 146; refine (HG.out _).mono ?_; rintro e' w' ⟨rfl, rfl⟩))
                go_ret
                exact ⟨rfl, HB.out _⟩
              | false =>
                rw [show nodeErr ⟨op, i, e, g, x, y⟩ idx = 0 from by rw [HV.out]; simp only [c0, c1, c2, c3, c4, c5, c6]; rfl]
                clear HV
                go_enter Tryz.func107, Tryz.ntmps107
                go_wp2_with (first | (go_at_call 73; refine (HX.out _).mono ?_; rintro e' w' ⟨rfl, rfl⟩) | (go_at_call 74; refine (HY.out _).mono ?_; rintro e' w' ⟨rfl, rfl⟩) | (go_at_call 145; refine (HA.out _).mono ?_; rintro e' w' ⟨rfl, rfl⟩) | (go_at_call 146; refine (HG.out _).mono ?_; rintro e' w' ⟨rfl, rfl⟩))
                go_ret
                exact ⟨rfl, HB.out _⟩
end Go.Proofs.YtjpmhbnikoggaaaGreatDoor
