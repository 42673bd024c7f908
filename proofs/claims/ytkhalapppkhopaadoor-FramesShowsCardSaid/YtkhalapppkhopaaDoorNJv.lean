/- Layer 6: texts joined: Ke Kf Kg Kh Kj Ki Kk Kl Kn Ko Kr Ks Kt Kq. -/
import Derived.Test.YtkhalapppkhopaaDoorNJt
import Derived.Test.YtkhalapppkhopaaDoorNJu
import Derived.Lib.Builder
import Derived.Laws.StructEq
import Derived.Deep.RegionLaw
import Derived.Deep.RegionHeld3
import Derived.Deep.AppendLies
import Derived.KernelRfl
import Derived.Maps.OwnSet
import Derived.Maps.OwnOps
import Derived.Maps.Views
/- Layer 5: the error of a node, and of a list of nodes, by the program. -/
namespace Go.Proofs.YtkhalapppkhopaaDoor
open Go.RowKit Go.Proofs.Ws
def opsB (O idx : Int) (n : Nd) : Bool := (decide (O < 1) || isB n.x idx) && (decide (O < 2) || isB n.y idx)
theorem beq_dec (a b : Int) : (a == b) = decide (a = b) := rfl
theorem form_split (n : Nd) (idx : Int) (h : known n.op = true) : (opsB (shO n.op) idx n && lrB (shN n.op) (shE n.op) (shG n.op) (shO n.op) n) = formOk n idx := by
  obtain ⟨op, i, e, g, x, y⟩ := n
  rcases known_cases op h with rfl | rfl | rfl | rfl | rfl | rfl | rfl | rfl | rfl | rfl | rfl | rfl | rfl | rfl | rfl | rfl | rfl | rfl | rfl | rfl | rfl
  all_goals
    simp [opsB, lrB, formOk, shN, shE, shG, shO, usesX, usesY, hasAgent, hasGroup, isB]
    simp only [beq_dec, Bool.and_assoc]
theorem range_split (n : Nd) : irB (shN n.op) (shE n.op) (shG n.op) n = rangeOk n := rfl
theorem nd_boxed {w : World} {n : Nd} {T : TypeId} {B : Nat} (hB : B = w.heap.size) :
    ∀ wr, Below (B + 1) (w.alloc (.cells #[.int .i64 n.op, .int .i64 n.i, .int .i64 n.e, .int .i64 n.g, .int .i64 n.x, .int .i64 n.y] T)) wr →
      wr.cell? ⟨B, 0, none⟩ = some (.int .i64 n.op) ∧ wr.cell? ⟨B, 1, none⟩ = some (.int .i64 n.i) ∧ wr.cell? ⟨B, 2, none⟩ = some (.int .i64 n.e) ∧ wr.cell? ⟨B, 3, none⟩ = some (.int .i64 n.g) ∧ wr.cell? ⟨B, 4, none⟩ = some (.int .i64 n.x) ∧ wr.cell? ⟨B, 5, none⟩ = some (.int .i64 n.y) := fun wr hb => by
  subst hB
  have hh := heap_alloc_new w (.cells #[.int .i64 n.op, .int .i64 n.i, .int .i64 n.e, .int .i64 n.g, .int .i64 n.x, .int .i64 n.y] T)
  refine ⟨(hb.cell (p := ⟨w.heap.size, 0, none⟩) (by simp)).trans ?_, (hb.cell (p := ⟨w.heap.size, 1, none⟩) (by simp)).trans ?_, (hb.cell (p := ⟨w.heap.size, 2, none⟩) (by simp)).trans ?_, (hb.cell (p := ⟨w.heap.size, 3, none⟩) (by simp)).trans ?_, (hb.cell (p := ⟨w.heap.size, 4, none⟩) (by simp)).trans ?_, (hb.cell (p := ⟨w.heap.size, 5, none⟩) (by simp)).trans ?_⟩ <;> (rw [Lib.cell_of_heap hh]; rfl)
theorem sh_boxed {w : World} {N E G O : Int} {T : TypeId} {B : Nat} (hB : B = w.heap.size) :
    ∀ wr, Below (B + 1) (w.alloc (.cells #[.int .i64 N, .int .i64 E, .int .i64 G, .int .i64 O] T)) wr →
      wr.cell? ⟨B, 0, none⟩ = some (.int .i64 N) ∧ wr.cell? ⟨B, 1, none⟩ = some (.int .i64 E) ∧ wr.cell? ⟨B, 2, none⟩ = some (.int .i64 G) ∧ wr.cell? ⟨B, 3, none⟩ = some (.int .i64 O) := fun wr hb => by
  subst hB
  have hh := heap_alloc_new w (.cells #[.int .i64 N, .int .i64 E, .int .i64 G, .int .i64 O] T)
  refine ⟨(hb.cell (p := ⟨w.heap.size, 0, none⟩) (by simp)).trans ?_, (hb.cell (p := ⟨w.heap.size, 1, none⟩) (by simp)).trans ?_, (hb.cell (p := ⟨w.heap.size, 2, none⟩) (by simp)).trans ?_, (hb.cell (p := ⟨w.heap.size, 3, none⟩) (by simp)).trans ?_⟩ <;> (rw [Lib.cell_of_heap hh]; rfl)
set_option maxRecDepth 100000 in
set_option maxHeartbeats 4000000 in
theorem pNode_any (n : Nd) (idx : Int) (w : World) : Calls Tryd.prog 108 #[nv n, .int .i64 idx] w fun e w' => e = .returned (.int .i64 (nodeErr n idx)) ∧ Below w.heap.size w w' := by
  have HS : Hid (∀ W, Calls Tryd.prog 109 #[.int .i64 n.op] W fun e w' => e = .returned (.tuple #[.agg #[.int .i64 (shN n.op), .int .i64 (shE n.op), .int .i64 (shG n.op), .int .i64 (shO n.op)], .bool (known n.op)]) ∧ Below W.heap.size W w') := Lib.hid (fun W => pShape_any n.op W)
  have HO := Lib.hid (fun W => pHasOps_any (shN n.op) (shE n.op) (shG n.op) (shO n.op) idx n W)
  have HL := Lib.hid (fun W => pLeaves_any (shN n.op) (shE n.op) (shG n.op) (shO n.op) n W)
  have HI := Lib.hid (fun W => pInRange_any (shN n.op) (shE n.op) (shG n.op) (shO n.op) n W)
  have HN := Lib.hid (@nd_boxed w n 86 _ rfl)
  have HF := Lib.hid (form_split n idx)
  have HG : Hid (irB (shN n.op) (shE n.op) (shG n.op) n = rangeOk n) := Lib.hid (range_split n)
  have HB0 : Hid (∀ o, Below w.heap.size w (w.alloc o)) := Lib.hid (fun o => (Below.refl _ w).alloc (Nat.le_refl _) o)
  have HV : Hid (nodeErr n idx = if known n.op = false then 10 else if formOk n idx = false then 3 else if rangeOk n = false then 2 else 0) := Lib.hid rfl
  have HK : Hid (∀ b, ((decide (shO n.op < 1) || isB n.x idx) && (decide (shO n.op < 2) || isB n.y idx)) = b → opsB (shO n.op) idx n = b) := Lib.hid (fun b h => h)
  unfold shc at HO HL HI
  obtain ⟨bo, ho⟩ : ∃ b, ((decide (shO n.op < 1) || isB n.x idx) && (decide (shO n.op < 2) || isB n.y idx)) = b := ⟨_, rfl⟩
  obtain ⟨bl, hl⟩ : ∃ b, lrB (shN n.op) (shE n.op) (shG n.op) (shO n.op) n = b := ⟨_, rfl⟩
  obtain ⟨br, hr⟩ : ∃ b, irB (shN n.op) (shE n.op) (shG n.op) n = b := ⟨_, rfl⟩
  have HF' : Hid (known n.op = true → (bo && bl) = formOk n idx) := Lib.hid (fun h => by rw [← HF.out h, HK.out _ ho, hl])
  have HG' : Hid (br = rangeOk n) := Lib.hid (by rw [← HG.out, hr])
  rw [ho] at HO
  rw [hl] at HL
  rw [hr] at HI
  clear ho hl hr HF HG HK
  unfold nv at HO HL HI ⊢
  generalize shN n.op = N at *
  generalize shE n.op = E at *
  generalize shG n.op = G at *
  generalize shO n.op = O at *
  cases hk : known n.op with
  | false =>
    rw [HV.out, if_pos hk]
    rw [hk] at HS
    clear hk HV
    obtain ⟨m0, m1, m2, m3, m4, m5⟩ := HN.out _ (Below.refl _ _)
    go_enter Tryd.func108, Tryd.ntmps108
    go_wp2_with fail
    refine (HS.out _).mono ?_
    rintro e w1 ⟨rfl, hb⟩
    have HB := Lib.hid ((HB0.out _).trans (hb.mono (by simp)))
    clear hb m0 m1 m2 m3 m4 m5
    go_wp2
    go_ret
    exact ⟨rfl, HB.out.alloc HB.out.size _⟩
  | true =>
    rw [hk] at HS HF'
    have HF2 := Lib.hid (HF'.out rfl)
    clear HF'
    obtain ⟨m0, m1, m2, m3, m4, m5⟩ := HN.out _ (Below.refl _ _)
    cases bo with
    | false =>
      rw [show nodeErr n idx = 3 from by rw [HV.out, if_neg (by rw [hk]; decide), if_pos (by rw [← HF2.out]; rfl)]]
      clear hk HV
      go_enter Tryd.func108, Tryd.ntmps108
      go_wp2_with fail
      refine (HS.out _).mono ?_
      rintro e w1 ⟨rfl, hb⟩
      have HB := Lib.hid ((HB0.out _).trans (hb.mono (by simp)))
      have hsz : w.heap.size + 1 ≤ w1.heap.size := by have := hb.size; simp at this; exact this
      have HN1 := Lib.hid (fun wr (h : Below (w.heap.size + 1) w1 wr) => HN.out wr ((hb.mono (by simp)).trans h))
      have HX := Lib.hid (@sh_boxed w1 N E G O 110 _ rfl)
      have HC := Lib.hid (fun o => (Below.refl (w1.heap.size) w1).alloc (Nat.le_refl _) o)
      clear hb m0 m1 m2 m3 m4 m5
      obtain ⟨m0, m1, m2, m3, m4, m5⟩ := HN1.out _ ((HC.out (.cells #[.int .i64 N, .int .i64 E, .int .i64 G, .int .i64 O] 110)).mono hsz)
      obtain ⟨s0, s1, s2, s3⟩ := HX.out _ (Below.refl _ _)
      have HD := Lib.hid (HC.out (.cells #[.int .i64 N, .int .i64 E, .int .i64 G, .int .i64 O] 110))
      have HQ := Lib.hid (Below.refl (w1.heap.size + 1) (w1.alloc (.cells #[.int .i64 N, .int .i64 E, .int .i64 G, .int .i64 O] 110)))
      clear HC
      go_wp2_with fail
      refine (HO.out _).mono ?_
      rintro e w2 ⟨rfl, hb⟩
      have HD0 := Lib.hid (HD.out.trans (hb.mono HD.out.size))
      have HQ0 := Lib.hid (HQ.out.trans (hb.mono (by first | exact HQ.out.size | (have h9 := HQ.out.size; simp at h9 ⊢; try omega))))
      clear hb m0 m1 m2 m3 m4 m5 s0 s1 s2 s3
      obtain ⟨m0, m1, m2, m3, m4, m5⟩ := HN1.out _ (HD0.out.mono hsz)
      obtain ⟨s0, s1, s2, s3⟩ := HX.out _ HQ0.out
      go_wp2
      go_ret
      exact ⟨rfl, HB.out.trans (HD0.out.mono HB.out.size)⟩
    | true =>
      cases bl with
      | false =>
        rw [show nodeErr n idx = 3 from by rw [HV.out, if_neg (by rw [hk]; decide), if_pos (by rw [← HF2.out]; rfl)]]
        clear hk HV
        go_enter Tryd.func108, Tryd.ntmps108
        go_wp2_with fail
        refine (HS.out _).mono ?_
        rintro e w1 ⟨rfl, hb⟩
        have HB := Lib.hid ((HB0.out _).trans (hb.mono (by simp)))
        have hsz : w.heap.size + 1 ≤ w1.heap.size := by have := hb.size; simp at this; exact this
        have HN1 := Lib.hid (fun wr (h : Below (w.heap.size + 1) w1 wr) => HN.out wr ((hb.mono (by simp)).trans h))
        have HX := Lib.hid (@sh_boxed w1 N E G O 110 _ rfl)
        have HC := Lib.hid (fun o => (Below.refl (w1.heap.size) w1).alloc (Nat.le_refl _) o)
        clear hb m0 m1 m2 m3 m4 m5
        obtain ⟨m0, m1, m2, m3, m4, m5⟩ := HN1.out _ ((HC.out (.cells #[.int .i64 N, .int .i64 E, .int .i64 G, .int .i64 O] 110)).mono hsz)
        obtain ⟨s0, s1, s2, s3⟩ := HX.out _ (Below.refl _ _)
        have HD := Lib.hid (HC.out (.cells #[.int .i64 N, .int .i64 E, .int .i64 G, .int .i64 O] 110))
        have HQ := Lib.hid (Below.refl (w1.heap.size + 1) (w1.alloc (.cells #[.int .i64 N, .int .i64 E, .int .i64 G, .int .i64 O] 110)))
        clear HC
        go_wp2_with fail
        refine (HO.out _).mono ?_
        rintro e w2 ⟨rfl, hb⟩
        have HD0 := Lib.hid (HD.out.trans (hb.mono HD.out.size))
        have HQ0 := Lib.hid (HQ.out.trans (hb.mono (by first | exact HQ.out.size | (have h9 := HQ.out.size; simp at h9 ⊢; try omega))))
        clear hb m0 m1 m2 m3 m4 m5 s0 s1 s2 s3
        obtain ⟨m0, m1, m2, m3, m4, m5⟩ := HN1.out _ (HD0.out.mono hsz)
        obtain ⟨s0, s1, s2, s3⟩ := HX.out _ HQ0.out
        go_wp2_with fail
        refine (HL.out _).mono ?_
        rintro e w3 ⟨rfl, hb⟩
        have HD1 := Lib.hid (HD0.out.trans (hb.mono HD0.out.size))
        have HQ1 := Lib.hid (HQ0.out.trans (hb.mono (by first | exact HQ0.out.size | (have h9 := HQ0.out.size; simp at h9 ⊢; try omega))))
        clear hb m0 m1 m2 m3 m4 m5 s0 s1 s2 s3
        obtain ⟨m0, m1, m2, m3, m4, m5⟩ := HN1.out _ (HD1.out.mono hsz)
        obtain ⟨s0, s1, s2, s3⟩ := HX.out _ HQ1.out
        go_wp2
        go_ret
        exact ⟨rfl, HB.out.trans (HD1.out.mono HB.out.size)⟩
      | true =>
        cases br with
        | false =>
          rw [show nodeErr n idx = 2 from by rw [HV.out, if_neg (by rw [hk]; decide), if_neg (by rw [← HF2.out]; decide), if_pos HG'.out.symm]]
          clear hk HV
          go_enter Tryd.func108, Tryd.ntmps108
          go_wp2_with fail
          refine (HS.out _).mono ?_
          rintro e w1 ⟨rfl, hb⟩
          have HB := Lib.hid ((HB0.out _).trans (hb.mono (by simp)))
          have hsz : w.heap.size + 1 ≤ w1.heap.size := by have := hb.size; simp at this; exact this
          have HN1 := Lib.hid (fun wr (h : Below (w.heap.size + 1) w1 wr) => HN.out wr ((hb.mono (by simp)).trans h))
          have HX := Lib.hid (@sh_boxed w1 N E G O 110 _ rfl)
          have HC := Lib.hid (fun o => (Below.refl (w1.heap.size) w1).alloc (Nat.le_refl _) o)
          clear hb m0 m1 m2 m3 m4 m5
          obtain ⟨m0, m1, m2, m3, m4, m5⟩ := HN1.out _ ((HC.out (.cells #[.int .i64 N, .int .i64 E, .int .i64 G, .int .i64 O] 110)).mono hsz)
          obtain ⟨s0, s1, s2, s3⟩ := HX.out _ (Below.refl _ _)
          have HD := Lib.hid (HC.out (.cells #[.int .i64 N, .int .i64 E, .int .i64 G, .int .i64 O] 110))
          have HQ := Lib.hid (Below.refl (w1.heap.size + 1) (w1.alloc (.cells #[.int .i64 N, .int .i64 E, .int .i64 G, .int .i64 O] 110)))
          clear HC
          go_wp2_with fail
          refine (HO.out _).mono ?_
          rintro e w2 ⟨rfl, hb⟩
          have HD0 := Lib.hid (HD.out.trans (hb.mono HD.out.size))
          have HQ0 := Lib.hid (HQ.out.trans (hb.mono (by first | exact HQ.out.size | (have h9 := HQ.out.size; simp at h9 ⊢; try omega))))
          clear hb m0 m1 m2 m3 m4 m5 s0 s1 s2 s3
          obtain ⟨m0, m1, m2, m3, m4, m5⟩ := HN1.out _ (HD0.out.mono hsz)
          obtain ⟨s0, s1, s2, s3⟩ := HX.out _ HQ0.out
          go_wp2_with fail
          refine (HL.out _).mono ?_
          rintro e w3 ⟨rfl, hb⟩
          have HD1 := Lib.hid (HD0.out.trans (hb.mono HD0.out.size))
          have HQ1 := Lib.hid (HQ0.out.trans (hb.mono (by first | exact HQ0.out.size | (have h9 := HQ0.out.size; simp at h9 ⊢; try omega))))
          clear hb m0 m1 m2 m3 m4 m5 s0 s1 s2 s3
          obtain ⟨m0, m1, m2, m3, m4, m5⟩ := HN1.out _ (HD1.out.mono hsz)
          obtain ⟨s0, s1, s2, s3⟩ := HX.out _ HQ1.out
          go_wp2_with fail
          refine (HI.out _).mono ?_
          rintro e w4 ⟨rfl, hb⟩
          have HD2 := Lib.hid (HD1.out.trans (hb.mono HD1.out.size))
          have HQ2 := Lib.hid (HQ1.out.trans (hb.mono (by first | exact HQ1.out.size | (have h9 := HQ1.out.size; simp at h9 ⊢; try omega))))
          clear hb m0 m1 m2 m3 m4 m5 s0 s1 s2 s3
          obtain ⟨m0, m1, m2, m3, m4, m5⟩ := HN1.out _ (HD2.out.mono hsz)
          obtain ⟨s0, s1, s2, s3⟩ := HX.out _ HQ2.out
          go_wp2
          go_ret
          exact ⟨rfl, HB.out.trans (HD2.out.mono HB.out.size)⟩
        | true =>
          rw [show nodeErr n idx = 0 from by rw [HV.out, if_neg (by rw [hk]; decide), if_neg (by rw [← HF2.out]; decide), if_neg (by rw [← HG'.out]; decide)]]
          clear hk HV
          go_enter Tryd.func108, Tryd.ntmps108
          go_wp2_with fail
          refine (HS.out _).mono ?_
          rintro e w1 ⟨rfl, hb⟩
          have HB := Lib.hid ((HB0.out _).trans (hb.mono (by simp)))
          have hsz : w.heap.size + 1 ≤ w1.heap.size := by have := hb.size; simp at this; exact this
          have HN1 := Lib.hid (fun wr (h : Below (w.heap.size + 1) w1 wr) => HN.out wr ((hb.mono (by simp)).trans h))
          have HX := Lib.hid (@sh_boxed w1 N E G O 110 _ rfl)
          have HC := Lib.hid (fun o => (Below.refl (w1.heap.size) w1).alloc (Nat.le_refl _) o)
          clear hb m0 m1 m2 m3 m4 m5
          obtain ⟨m0, m1, m2, m3, m4, m5⟩ := HN1.out _ ((HC.out (.cells #[.int .i64 N, .int .i64 E, .int .i64 G, .int .i64 O] 110)).mono hsz)
          obtain ⟨s0, s1, s2, s3⟩ := HX.out _ (Below.refl _ _)
          have HD := Lib.hid (HC.out (.cells #[.int .i64 N, .int .i64 E, .int .i64 G, .int .i64 O] 110))
          have HQ := Lib.hid (Below.refl (w1.heap.size + 1) (w1.alloc (.cells #[.int .i64 N, .int .i64 E, .int .i64 G, .int .i64 O] 110)))
          clear HC
          go_wp2_with fail
          refine (HO.out _).mono ?_
          rintro e w2 ⟨rfl, hb⟩
          have HD0 := Lib.hid (HD.out.trans (hb.mono HD.out.size))
          have HQ0 := Lib.hid (HQ.out.trans (hb.mono (by first | exact HQ.out.size | (have h9 := HQ.out.size; simp at h9 ⊢; try omega))))
          clear hb m0 m1 m2 m3 m4 m5 s0 s1 s2 s3
          obtain ⟨m0, m1, m2, m3, m4, m5⟩ := HN1.out _ (HD0.out.mono hsz)
          obtain ⟨s0, s1, s2, s3⟩ := HX.out _ HQ0.out
          go_wp2_with fail
          refine (HL.out _).mono ?_
          rintro e w3 ⟨rfl, hb⟩
          have HD1 := Lib.hid (HD0.out.trans (hb.mono HD0.out.size))
          have HQ1 := Lib.hid (HQ0.out.trans (hb.mono (by first | exact HQ0.out.size | (have h9 := HQ0.out.size; simp at h9 ⊢; try omega))))
          clear hb m0 m1 m2 m3 m4 m5 s0 s1 s2 s3
          obtain ⟨m0, m1, m2, m3, m4, m5⟩ := HN1.out _ (HD1.out.mono hsz)
          obtain ⟨s0, s1, s2, s3⟩ := HX.out _ HQ1.out
          go_wp2_with fail
          refine (HI.out _).mono ?_
          rintro e w4 ⟨rfl, hb⟩
          have HD2 := Lib.hid (HD1.out.trans (hb.mono HD1.out.size))
          have HQ2 := Lib.hid (HQ1.out.trans (hb.mono (by first | exact HQ1.out.size | (have h9 := HQ1.out.size; simp at h9 ⊢; try omega))))
          clear hb m0 m1 m2 m3 m4 m5 s0 s1 s2 s3
          obtain ⟨m0, m1, m2, m3, m4, m5⟩ := HN1.out _ (HD2.out.mono hsz)
          obtain ⟨s0, s1, s2, s3⟩ := HX.out _ HQ2.out
          go_wp2
          go_ret
          exact ⟨rfl, HB.out.trans (HD2.out.mono HB.out.size)⟩
end Go.Proofs.YtkhalapppkhopaaDoor
/- Layer 5: Check and valid of the program. -/
namespace Go.Proofs.YtkhalapppkhopaaDoor
open Go.RowKit Go.Proofs.Ws
theorem add_cell {w : World} {ad : Addr} {m j : Nat} {v : Option Value} (h : w.cell? (ad.add (m + (j + 1))) = v) : w.cell? ⟨(ad.add m).block, (ad.add m).off + (j + 1), none⟩ = v := by
  rw [← h, ← add_of_add]
  rfl
theorem errFrom_at : ∀ (l : List Nd) (k : Nat), k < l.length → errFrom k (l.drop k) = (if nodeErr (l.getD k nd0) (k : Int) ≠ 0 then nodeErr (l.getD k nd0) (k : Int) else errFrom (k + 1) (l.drop (k + 1))) := by
  intro l k hk
  rw [List.drop_eq_getElem_cons hk]
  show (if nodeErr l[k] (k : Int) ≠ 0 then nodeErr l[k] (k : Int) else errFrom (k + 1) (l.drop (k + 1))) = _
  rw [show l.getD k nd0 = l[k] from by simp [hk]]
theorem errFrom_end (l : List Nd) (k : Nat) (h : l.length ≤ k) : errFrom k (l.drop k) = 0 := by rw [List.drop_of_length_le h]; rfl
set_option maxRecDepth 100000 in
set_option maxHeartbeats 4000000 in
theorem fCheck_any (l : List Nd) (A : Option Addr) (n c : Nat) (w : World) (hR : Reads w w.heap.size 6 A n (nds l)) (hm : n ≤ maxLen) :
    Calls Tryd.prog 62 #[.slice A n c] w fun e w' => e = .returned (.int .i64 (fErr l)) ∧ Below w.heap.size w w' := by
  unfold maxLen at hm
  have hl := hR.nd_len
  have HL := Lib.hid hl
  have HR := Lib.hid hR
  clear hR
  by_cases h0 : n = 0
  · have HV : Hid (fErr l = 3) := Lib.hid (by unfold fErr; rw [if_pos (by omega)])
    subst h0
    clear hl
    go_enter Tryd.func62, Tryd.ntmps62
    go_wp2
    go_ret
    exact ⟨ret_i64 HV.out.symm, Below.refl _ _⟩
  have hne : ((n : Int) == 0) = false := by simp; omega
  by_cases h2 : 200 < n
  · have HV : Hid (fErr l = 8) := Lib.hid (by unfold fErr; rw [if_neg (by omega), if_pos (by omega)])
    have hgt : decide (200 < (n : Int)) = true := by simp; omega
    clear hl h0
    go_enter Tryd.func62, Tryd.ntmps62
    go_wp2
    go_ret
    exact ⟨ret_i64 HV.out.symm, Below.refl _ _⟩
  have HV : Hid (fErr l = errFrom 0 l) := Lib.hid (by unfold fErr; rw [if_neg (by omega), if_neg (by omega)])
  have hgt : decide (200 < (n : Int)) = false := by simp; omega
  have h200 : n ≤ 200 := by omega
  clear hl h0 h2
  go_enter Tryd.func62, Tryd.ntmps62
  go_wp2
  go_loopw [14] (fun i wr => ∃ k : Nat, k ≤ n ∧ i = .int .i64 k ∧ Hid (errFrom 0 l = errFrom k (l.drop k)) ∧ Hid (Below w.heap.size w wr)) (fun i _ => n - (intOf i).toNat)
  case atStart => exact ⟨0, Nat.zero_le _, rfl, Lib.hid rfl, Lib.hid (Below.refl _ _)⟩
  case round =>
    obtain ⟨k, hk, rfl, HI, HBR⟩ := hrel
    by_cases hlt : k < n
    · obtain ⟨ad, rfl, hb, m0, m1, m2, m3, m4, m5⟩ := (HR.out.below HBR.out).nd_at hlt
      have HE := Lib.hid (errFrom_at l k (by have := HL.out; omega))
      obtain ⟨x, hx⟩ : ∃ x, l.getD k nd0 = x := ⟨_, rfl⟩
      rw [hx] at m0 m1 m2 m3 m4 m5 HE
      have l1 := add_cell m1
      have l2 := add_cell m2
      have l3 := add_cell m3
      have l4 := add_cell m4
      have l5 := add_cell m5
      clear hx
      have HN : Hid (∀ W, Calls Tryd.prog 108 #[.agg #[.int .i64 x.op, .int .i64 x.i, .int .i64 x.e, .int .i64 x.g, .int .i64 x.x, .int .i64 x.y], .int .i64 (k : Int)] W fun e w' => e = .returned (.int .i64 (nodeErr x k)) ∧ Below W.heap.size W w') := Lib.hid (fun W => pNode_any x k W)
      have HA : Hid (∀ o w', Below (wr.alloc o).heap.size (wr.alloc o) w' → Below w.heap.size w w') := Lib.hid (fun o w' h => (HBR.out.alloc HBR.out.size o).trans (h.mono (by have := HBR.out.size; simp; omega)))
      obtain ⟨z, hz⟩ : ∃ z, nodeErr x (k : Int) = z := ⟨_, rfl⟩
      rw [hz] at HN HE
      clear hz
      by_cases hz0 : z = 0
      · subst hz0
        have HI2 := Lib.hid (HI.out.trans (by rw [HE.out, if_neg (by decide)]))
        clear HI HE
        go_wp2_with fail
        refine (HN.out _).mono ?_
        rintro e w2 ⟨rfl, hb2⟩
        have HB2 := Lib.hid (HA.out _ _ hb2)
        clear hb2 m0 m1 m2 m3 m4 m5 l1 l2 l3 l4 l5
        go_wp2
        go_roundw
        case rel => exact ⟨k + 1, by omega, by go_num, HI2, HB2⟩
        case measure => simp [intOf]; omega
      · have HI2 := Lib.hid (HV.out.trans (HI.out.trans (by rw [HE.out, if_pos hz0])))
        have hz1 : (z != 0) = true := by simpa using hz0
        clear HI HE hz0
        go_wp2_with fail
        refine (HN.out _).mono ?_
        rintro e w2 ⟨rfl, hb2⟩
        have HB2 := Lib.hid (HA.out _ _ hb2)
        clear hb2 m0 m1 m2 m3 m4 m5 l1 l2 l3 l4 l5
        go_wp2
        go_ret
        exact ⟨ret_i64 HI2.out.symm, HB2.out⟩
    · have HI2 := Lib.hid (HV.out.trans (HI.out.trans (errFrom_end l k (by have := HL.out; omega))))
      clear HI
      go_wp2
      go_ret
      exact ⟨ret_i64 HI2.out.symm, HBR.out⟩
theorem pValid_any (l : List Nd) (A : Option Addr) (n c : Nat) (w : World) (hR : Reads w w.heap.size 6 A n (nds l)) (hm : n ≤ maxLen) :
    Calls Tryd.prog 111 #[.slice A n c] w fun e w' => e = .returned (.bool (fErr l == 0)) ∧ Below w.heap.size w w' := by
  have HC := Lib.hid (fCheck_any l A n c w hR hm)
  generalize fErr l = z at *
  clear hR hm
  go_enter Tryd.func111, Tryd.ntmps111
  go_wp2_with fail
  refine HC.out.mono ?_
  rintro e w1 ⟨rfl, hb⟩
  have HB := Lib.hid hb
  clear hb HC
  go_wp2
  go_ret
  exact ⟨rfl, HB.out⟩
end Go.Proofs.YtkhalapppkhopaaDoor
/- Layer 5: the reference's small functions about operators. -/
namespace Go.Proofs.YtkhalapppkhopaaDoor
open Go.RowKit Go.Proofs.Ws
end Go.Proofs.YtkhalapppkhopaaDoor
/- Layer 5: the reference's error of a node (operators without a range). -/
namespace Go.Proofs.YtkhalapppkhopaaDoor
open Go.RowKit Go.Proofs.Ws
end Go.Proofs.YtkhalapppkhopaaDoor
/- Layer 5: the reference's error of a node (the rest). -/
namespace Go.Proofs.YtkhalapppkhopaaDoor
open Go.RowKit Go.Proofs.Ws
end Go.Proofs.YtkhalapppkhopaaDoor
/- Layer 5: the reference's error of a node (agents and groups). -/
namespace Go.Proofs.YtkhalapppkhopaaDoor
open Go.RowKit Go.Proofs.Ws
end Go.Proofs.YtkhalapppkhopaaDoor
/- Layer 5: the reference's error of any node, and of a list of nodes. -/
namespace Go.Proofs.YtkhalapppkhopaaDoor
open Go.RowKit Go.Proofs.Ws
end Go.Proofs.YtkhalapppkhopaaDoor
/- Layer 5: nodes compared, a node appended, the reference put. -/
namespace Go.Proofs.YtkhalapppkhopaaDoor
open Go.RowKit Go.Proofs.Ws
def eqN (a b : Nd) : Bool := decide (a = b)
theorem eqN_fields (a b : Nd) : (a.op == b.op && (a.i == b.i && (a.e == b.e && (a.g == b.g && (a.x == b.x && a.y == b.y))))) = eqN a b := by
  obtain ⟨a1, a2, a3, a4, a5, a6⟩ := a
  obtain ⟨b1, b2, b3, b4, b5, b6⟩ := b
  unfold eqN
  rw [Bool.eq_iff_iff]
  simp
@[go_sem] theorem Tryd.eqNode (a b : Nd) (w : World) : (Op.equalIn 10000 86 (.agg #[.int .i64 a.op, .int .i64 a.i, .int .i64 a.e, .int .i64 a.g, .int .i64 a.x, .int .i64 a.y]) (.agg #[.int .i64 b.op, .int .i64 b.i, .int .i64 b.e, .int .i64 b.g, .int .i64 b.x, .int .i64 b.y])).run Tryd.prog w = .ok (eqN a b) w := by
  have u3 := Tryd.underlying3
  have a3 := Tryd.isAgg3
  have z3 := Tryd.sizeOf3
  have hS : Tryd.prog.underlying 86 = some (.struct (Tryd.prog.fieldsOf 86)) := by kernel_rfl
  have hp : Tryd.prog.stoodInHeld 86 = false := by kernel_rfl
  rw [show (10000 : Nat) = 9999 + 1 from rfl, run_equalIn_agg w 9999 _ _ _ hS hp]
  simp only [Program.fieldsOf, Tryd.underlying86]
  rw [← eqN_fields]
  go_simp
  by_cases h1 : a.op = b.op <;> by_cases h2 : a.i = b.i <;> by_cases h3 : a.e = b.e <;> by_cases h4 : a.g = b.g <;> by_cases h5 : a.x = b.x <;> by_cases h6 : a.y = b.y <;> simp [h1, h2, h3, h4, h5, h6]
@[go_sem] theorem Tryd.eqNodeGuard : Tryd.prog.eqGuardType Tryd.prog.depth 86 = false := by kernel_rfl
theorem eqRun (a b : Nd) (w : World) : (binOp .eql 86 (.agg #[.int .i64 a.op, .int .i64 a.i, .int .i64 a.e, .int .i64 a.g, .int .i64 a.x, .int .i64 a.y]) (.agg #[.int .i64 b.op, .int .i64 b.i, .int .i64 b.e, .int .i64 b.g, .int .i64 b.x, .int .i64 b.y])).run Tryd.prog w = .ok (.bool (eqN a b)) w := by
  rw [run_eql_struct, Tryd.eqNode]
  rfl
theorem own_slK {w : World} {base : Nat} {e : TypeId} {v : Value} {n size : Nat} {xs : List Value} (h : w.ownsRow base e size v n xs) : ∃ A c, v = .slice A n c := by
  rcases h.2 with ⟨rfl, rfl⟩ | ⟨g, cap, cur, rfl, _⟩
  · exact ⟨_, _, rfl⟩
  · exact ⟨_, _, rfl⟩
theorem own_keep6 {W W' : World} {lo size : Nat} {e : TypeId} {v : Value} {n : Nat} {xs : List Value} (h : W.ownsRow lo e size v n xs) (hk : ∀ g, lo ≤ g → g < W.heap.size → W'.heap[g]? = W.heap[g]?) : W'.ownsRow lo e size v n xs := by
  refine ⟨h.1, ?_⟩
  rcases h.2 with hn | ⟨g, cap, cur, hv, hb, hg, rest⟩
  · exact .inl hn
  · exact .inr ⟨g, cap, cur, hv, hb, by rw [hk g hb (Array.getElem?_eq_some_iff.1 hg).1]; exact hg, rest⟩
theorem addr_zero (b j : Nat) : (⟨b, 0, none⟩ : Addr).add j = ⟨b, j, none⟩ := by
  cases j <;> simp [Addr.add]
theorem Tryd.infoNode : (Tryd.prog.info? 86).map (fun i => (i.zero, i.size, i.bytes)) = some (some (.agg #[.int .i64 0, .int .i64 0, .int .i64 0, .int .i64 0, .int .i64 0, .int .i64 0]), 6, 48) := by kernel_rfl
/-- append of one node to a list of nodes of the call's own -/
theorem wp_appN {ops : Array Oper} {rest : List Oper} {o : Oper} {a : Act} {Q : Exit → Act → World → Prop} {out : List Nd} (n : Nd) (W : World) (hgd : o.guard = none) (s x : Operand)
    (ho : o.op = .call { callee := .builtin .append, args := #[s, x], argTypes := #[53, 53] }) (base b : Nat) (v : Value)
    (hs : a.eval s = v) (hown : W.ownsRow base 86 6 v out.length (nds out)) (hx : a.eval x = .slice (some ⟨b, 0, none⟩) 1 1)
    (hc : ∀ j u, (ndC n)[j]? = some u → W.cell? ⟨b, j, none⟩ = some u) (hl : out.length ≤ 1000) (hbase : base ≤ W.heap.size)
    (h : ∀ v' w', w'.ownsRow base 86 6 v' (out ++ [n]).length (nds (out ++ [n])) → W.grownBy w' v.ownBlock → wpList Tryd.prog ops Q rest (a.put o.dst v') w') : wpList Tryd.prog ops Q (o :: rest) a W := by
  obtain ⟨i0, hi, hz0, hz1, hz2⟩ := info_parts Tryd.infoNode
  refine wpList_append_own W hgd s x 53 ho base 86 i0 _ 6 48 Tryd.underlying53 hi hz0 hz1 hz2 rfl (by decide) v out.length (nds out) hs hown ⟨b, 0, none⟩ 1 1 (ndC n) hx rfl ?_ ?_ (by unfold maxLen; omega) (by omega) hbase ?_
  · intro j u hj
    have := hc j u hj
    rw [addr_zero]
    exact this
  · intro u hu
    simp only [ndC, List.mem_cons, List.not_mem_nil, or_false] at hu
    rcases hu with rfl | rfl | rfl | rfl | rfl | rfl <;> rfl
  · intro v' w' h1 h2 _
    refine h v' w' ?_ h2
    rw [nds_append, List.length_append]
    have e : nds [n] = ndC n := by simp [nds]
    rw [e]
    exact h1
theorem row_new {v : Value} {g3 n c H H0 : Nat} (h : v.ownBlock = some g3 ∨ H ≤ g3) (hH : H0 ≤ H) : (Value.slice (some ⟨g3, 0, none⟩) n c).ownBlock = v.ownBlock ∨ ∃ g, (Value.slice (some ⟨g3, 0, none⟩) n c).ownBlock = some g ∧ H0 ≤ g := by
  rcases h with h | h
  · exact .inl h.symm
  · exact .inr ⟨g3, rfl, by omega⟩
theorem step_appN {ops : Array Oper} {o : Oper} {a : Act} {K : Act → World → Prop} {Q : Exit → Act → World → Prop} {E : Prop} {out : List Nd} (n : Nd) (W : World) (hgd : o.guard = none) (s x : Operand)
    (ho : o.op = .call { callee := .builtin .append, args := #[s, x], argTypes := #[53, 53] }) (base b : Nat) (v : Value)
    (hs : a.eval s = v) (hown : W.ownsRow base 86 6 v out.length (nds out)) (hx : a.eval x = .slice (some ⟨b, 0, none⟩) 1 1)
    (hc : ∀ j u, (ndC n)[j]? = some u → W.cell? ⟨b, j, none⟩ = some u) (hl : out.length ≤ 1000) (hbase : base ≤ W.heap.size)
    (h : ∀ g cap w', w'.ownsRow base 86 6 (.slice (some ⟨g, 0, none⟩) (out.length + 1) cap) (out ++ [n]).length (nds (out ++ [n])) → W.grownBy w' v.ownBlock → (v.ownBlock = some g ∨ W.heap.size ≤ g) → K (a.put o.dst (.slice (some ⟨g, 0, none⟩) (out.length + 1) cap)) w') :
    if Region.wanted o (yielded ops a.tmps) = true then Oper.wp Tryd.prog o a W K Q else E := by
  obtain ⟨i0, hi, hz0, hz1, hz2⟩ := info_parts Tryd.infoNode
  refine step_append_lies W hgd s x 53 ho base 86 i0 _ 6 48 Tryd.underlying53 hi hz0 hz1 hz2 rfl (by decide) v out.length (nds out) hs hown ⟨b, 0, none⟩ 1 1 (ndC n) hx rfl ?_ ?_ (by decide) (by unfold maxLen; omega) (by omega) hbase _ rfl ?_
  · intro j u hj
    have := hc j u hj
    rw [addr_zero]
    exact this
  · intro u hu
    simp only [ndC, List.mem_cons, List.not_mem_nil, or_false] at hu
    rcases hu with rfl | rfl | rfl | rfl | rfl | rfl <;> rfl
  · intro g cap w' h1 h2 h3 _
    refine h g cap w' ?_ h2 (h3.imp id (fun e => by omega))
    rw [nds_append, List.length_append]
    have e : nds [n] = ndC n := by simp [nds]
    rw [e]
    exact h1
end Go.Proofs.YtkhalapppkhopaaDoor
/- Layer 5: the state of the reference's walk, and put at it. -/
namespace Go.Proofs.YtkhalapppkhopaaDoor
open Go.RowKit Go.Proofs.Ws
def dnV (d : Option Nat) : Value := .int .i64 (match d with | none => -1 | some k => (k : Int))
/-- the walk at block bw: the list so far (a row of its own), and the numbers of the nodes in block bd -/
structure RW (W : World) (base bw bd n : Nat) (s : Wk) : Prop where
  lw : bw < base
  ld : bd < base
  ne : bw ≠ bd
  lb : base ≤ W.heap.size
  out : ∃ A c, W.cell? ⟨bw, 0, none⟩ = some (.slice A s.out.length c) ∧ W.ownsRow base 86 6 (.slice A s.out.length c) s.out.length (nds s.out)
  fout : W.frozen? ⟨bw, 0, none⟩ = false
  dn : ∃ c, W.cell? ⟨bw, 1, none⟩ = some (.slice (some ⟨bd, 0, none⟩) n c)
  len : s.done.length = n
  cells : ∀ j, j < n → W.cell? ⟨bd, j, none⟩ = some (dnV (s.done.getD j none))
  free : ∀ j, j < n → W.frozen? ⟨bd, j, none⟩ = false
def rowOf (W : World) (bw : Nat) : Option Nat := match W.cell? ⟨bw, 0, none⟩ with | some v => v.ownBlock | none => none
/-- what a step of the walk leaves -/
structure Fr (bw bd : Nat) (w w' : World) : Prop where
  os : w'.os = w.os
  tape : w'.tape = w.tape
  output : w'.output = w.output
  size : w.heap.size ≤ w'.heap.size
  block : ∀ g, g < w.heap.size → g ≠ bw → g ≠ bd → some g ≠ rowOf w bw → w'.heap[g]? = w.heap[g]?
  row : rowOf w' bw = rowOf w bw ∨ ∃ g, rowOf w' bw = some g ∧ w.heap.size ≤ g
theorem rowOf_of {W : World} {bw : Nat} {v : Value} (h : W.cell? ⟨bw, 0, none⟩ = some v) : rowOf W bw = v.ownBlock := by unfold rowOf; rw [h]
theorem rowOf_same {w w' : World} {bw : Nat} (h : w'.cell? ⟨bw, 0, none⟩ = w.cell? ⟨bw, 0, none⟩) : rowOf w' bw = rowOf w bw := by unfold rowOf; rw [h]
theorem Fr.of_below {w w' : World} {bw bd : Nat} (h : Below w.heap.size w w') (hb : bw < w.heap.size) : Fr bw bd w w' :=
  ⟨h.os, h.tape, h.output, h.size, fun g hg _ _ _ => h.block g hg, .inl (rowOf_same (h.cell (p := ⟨bw, 0, none⟩) hb))⟩
theorem Fr.trans {a b c : World} {bw bd : Nat} (h : Fr bw bd a b) (k : Fr bw bd b c) : Fr bw bd a c := by
  refine ⟨k.os.trans h.os, k.tape.trans h.tape, k.output.trans h.output, Nat.le_trans h.size k.size, fun g hg h1 h2 h3 => ?_, ?_⟩
  · refine (k.block g (Nat.lt_of_lt_of_le hg h.size) h1 h2 ?_).trans (h.block g hg h1 h2 h3)
    rcases h.row with e | ⟨g2, e, hl⟩
    · rw [e]; exact h3
    · rw [e]; intro e2; injection e2; omega
  · rcases k.row with e | ⟨g2, e, hl⟩
    · rw [e]; exact h.row
    · exact .inr ⟨g2, e, Nat.le_trans h.size hl⟩
theorem RW.below {W W' : World} {base bw bd n : Nat} {s : Wk} (h : RW W base bw bd n s) (hb : Below W.heap.size W W') : RW W' base bw bd n s := by
  have lw := h.lw
  have ld := h.ld
  have lb := h.lb
  obtain ⟨A, c, h1, h2⟩ := h.out
  obtain ⟨c2, h3⟩ := h.dn
  exact ⟨lw, ld, h.ne, Nat.le_trans lb hb.size,
    ⟨A, c, (hb.cell (p := ⟨bw, 0, none⟩) (by show bw < _; omega)).trans h1, own_keep6 h2 (fun g _ hg => hb.block g hg)⟩,
    (hb.frozen (p := ⟨bw, 0, none⟩) (by show bw < _; omega)).trans h.fout, ⟨c2, (hb.cell (p := ⟨bw, 1, none⟩) (by show bw < _; omega)).trans h3⟩, h.len,
    fun j hj => (hb.cell (p := ⟨bd, j, none⟩) (by show bd < _; omega)).trans (h.cells j hj), fun j hj => (hb.frozen (p := ⟨bd, j, none⟩) (by show bd < _; omega)).trans (h.free j hj)⟩
end Go.Proofs.YtkhalapppkhopaaDoor
/- Layer 5: the reference's walk: how its state is kept, and finish. -/
namespace Go.Proofs.YtkhalapppkhopaaDoor
open Go.RowKit Go.Proofs.Ws
theorem own_keep1K {W W' : World} {lo size : Nat} {e : TypeId} {v : Value} {n : Nat} {xs : List Value} (h : W.ownsRow lo e size v n xs) (hk : ∀ g, v.ownBlock = some g → W'.heap[g]? = W.heap[g]?) : W'.ownsRow lo e size v n xs := by
  refine ⟨h.1, ?_⟩
  rcases h.2 with hn | ⟨g, cap, cur, hv, hb, hg, rest⟩
  · exact .inl hn
  · exact .inr ⟨g, cap, cur, hv, hb, by rw [hk g (by rw [hv]; rfl)]; exact hg, rest⟩
theorem RW.row {W : World} {base bw bd n : Nat} {s : Wk} (h : RW W base bw bd n s) : ∀ g, rowOf W bw = some g → base ≤ g ∧ g < W.heap.size := by
  obtain ⟨A, c, h1, h2⟩ := h.out
  intro g hg
  rw [rowOf_of h1] at hg
  exact h2.lt g hg
theorem RW.keep {W W' : World} {base bw bd n : Nat} {s : Wk} (h : RW W base bw bd n s) (hs : W.heap.size ≤ W'.heap.size) (hw : W'.heap[bw]? = W.heap[bw]?) (hd : W'.heap[bd]? = W.heap[bd]?)
    (hr : ∀ g, rowOf W bw = some g → W'.heap[g]? = W.heap[g]?) : RW W' base bw bd n s := by
  obtain ⟨A, c, h1, h2⟩ := h.out
  obtain ⟨c2, h3⟩ := h.dn
  refine ⟨h.lw, h.ld, h.ne, Nat.le_trans h.lb hs, ⟨A, c, (World.cell?_of_block (a := ⟨bw, 0, none⟩) hw).trans h1, own_keep1K h2 (fun g hg => hr g (by rw [rowOf_of h1]; exact hg))⟩,
    (World.frozen?_of_block (a := ⟨bw, 0, none⟩) hw).trans h.fout, ⟨c2, (World.cell?_of_block (a := ⟨bw, 1, none⟩) hw).trans h3⟩, h.len,
    fun j hj => (World.cell?_of_block (a := ⟨bd, j, none⟩) hd).trans (h.cells j hj), fun j hj => (World.frozen?_of_block (a := ⟨bd, j, none⟩) hd).trans (h.free j hj)⟩
/-- a cell of a block that is no part of the walk is set -/
theorem RW.other {W : World} {base bw bd n : Nat} {s : Wk} (h : RW W base bw bd n s) {g j : Nat} (v : Value) (h1 : g ≠ bw) (h2 : g ≠ bd) (h3 : some g ≠ rowOf W bw) : RW (W.setCell ⟨g, j, none⟩ v) base bw bd n s :=
  h.keep (by simp) (Below.heap_setCell _ _ _ _ h1.symm) (Below.heap_setCell _ _ _ _ h2.symm) (fun k hk => Below.heap_setCell _ _ _ _ (fun e => h3 (by rw [hk, e])))
theorem RW.drewN {W : World} {base bw bd n : Nat} {s : Wk} (h : RW W base bw bd n s) (k : Nat) : RW (W.drewN k) base bw bd n s :=
  h.keep (Nat.le_refl _) rfl rfl (fun _ _ => rfl)
theorem RW.set {W : World} {base bw bd n : Nat} {s : Wk} (h : RW W base bw bd n s) {i : Nat} (hi : i < n) (k : Nat) : RW (W.setCell ⟨bd, i, none⟩ (.int .i64 (k : Int))) base bw bd n ⟨s.out, s.done.set i (some k)⟩ := by
  obtain ⟨A, c, h1, h2⟩ := h.out
  obtain ⟨c2, h3⟩ := h.dn
  have hw : (W.setCell ⟨bd, i, none⟩ (.int .i64 (k : Int))).heap[bw]? = W.heap[bw]? := Below.heap_setCell _ _ _ _ h.ne
  refine ⟨h.lw, h.ld, h.ne, by simpa using h.lb, ⟨A, c, (World.cell?_of_block (a := ⟨bw, 0, none⟩) hw).trans h1, ownsRow_setCell_below h2 h.ld _⟩,
    (World.frozen?_of_block (a := ⟨bw, 0, none⟩) hw).trans h.fout, ⟨c2, (World.cell?_of_block (a := ⟨bw, 1, none⟩) hw).trans h3⟩, by show (s.done.set i (some k)).length = n; rw [List.length_set, h.len],
    fun j hj => ?_, fun j hj => by rw [World.frozen?_setCell]; exact h.free j hj⟩
  show _ = some (dnV ((s.done.set i (some k)).getD j none))
  rw [getD_set (by rw [h.len]; exact hi)]
  by_cases e : i = j
  · subst e
    rw [if_pos rfl]
    exact World.cell?_setCell_same W _ _ (h.cells i hi)
  · rw [if_neg e, World.cell?_setCell_other W ⟨bd, i, none⟩ ⟨bd, j, none⟩ _ (fun e2 => by have h9 := congrArg Addr.off e2; dsimp only at h9; omega)]
    exact h.cells j hj
theorem Fr.low {bw bd : Nat} {w w' : World} (h : Fr bw bd w w') {B : Nat} (h0 : B ≤ w.heap.size) (h1 : B ≤ bw) (h2 : B ≤ bd) (h3 : ∀ g, rowOf w bw = some g → B ≤ g) : Below B w w' :=
  ⟨h.os, h.tape, h.output, h.size, fun g hg => h.block g (by omega) (by omega) (by omega) (fun e => by have := h3 g e.symm; omega)⟩
theorem Fr.other {bw bd : Nat} {w W : World} (h : Fr bw bd w W) {g j : Nat} (v : Value) (h1 : w.heap.size ≤ g) (h2 : g ≠ bw) : Fr bw bd w (W.setCell ⟨g, j, none⟩ v) := by
  refine ⟨h.os, h.tape, h.output, by simpa using h.size, fun k hk a b c => (Below.heap_setCell _ _ _ _ (by show k ≠ g; omega)).trans (h.block k hk a b c), ?_⟩
  have e : rowOf (W.setCell ⟨g, j, none⟩ v) bw = rowOf W bw := rowOf_same (World.cell?_of_block (a := ⟨bw, 0, none⟩) (Below.heap_setCell _ _ _ _ h2.symm))
  rw [e]; exact h.row
theorem Fr.drewN {bw bd : Nat} {w W : World} (h : Fr bw bd w W) (k : Nat) : Fr bw bd w (W.drewN k) :=
  ⟨h.os, h.tape, h.output, h.size, h.block, h.row⟩
/-- how many nodes are finished, and no more nodes in the list -/
def Cnt (s : Wk) : Prop := s.out.length ≤ s.done.countP Option.isSome ∧ ∀ j k, s.done.getD j none = some k → k < s.out.length
theorem Cnt.le {s : Wk} (h : Cnt s) {n : Nat} (hl : s.done.length = n) : s.out.length ≤ n := Nat.le_trans h.1 (hl ▸ List.countP_le_length)
theorem countP_set {l : List (Option Nat)} : ∀ {i : Nat} {k : Nat}, i < l.length → l.getD i none = none → (l.set i (some k)).countP Option.isSome = l.countP Option.isSome + 1 := by
  induction l with
  | nil => intro i k h; simp at h
  | cons a l ih =>
    intro i k h hd
    cases i with
    | zero =>
      have : a = none := hd
      subst this
      simp
    | succ i =>
      have := ih (k := k) (by simpa using h) hd
      simp only [List.set_cons_succ, List.countP_cons, this]
      omega
theorem finW_cnt {f : List Nd} (hf : opsL f) : ∀ (fuel i : Nat) (s : Wk), i < fuel → i < f.length → s.done.length = f.length → Cnt s →
    Cnt (finW f fuel i s).2 ∧ (finW f fuel i s).2.done.length = f.length ∧ (∀ j, i < j → (finW f fuel i s).2.done.getD j none = s.done.getD j none) := by
  intro fuel
  induction fuel with
  | zero => intro i s h; omega
  | succ fuel ih =>
    intro i s h hi hl hc
    unfold finW
    cases hd : s.done.getD i none with
    | some k => exact ⟨hc, hl, fun _ _ => rfl⟩
    | none =>
      simp only
      have ho := hf i hi
      have fin : ∀ (r : Nat × Wk) (m : Nd), Cnt r.2 → r.2.done.length = f.length → (∀ j, i ≤ j → r.2.done.getD j none = s.done.getD j none) →
          Cnt ⟨(putNd r.2.out m).2, r.2.done.set i (some (putNd r.2.out m).1)⟩ ∧ (r.2.done.set i (some (putNd r.2.out m).1)).length = f.length ∧ (∀ j, i < j → (r.2.done.set i (some (putNd r.2.out m).1)).getD j none = s.done.getD j none) := by
        intro r m h1 h2 h3
        refine ⟨?_, by rw [List.length_set, h2], fun j hj => by rw [getD_set (by rw [h2]; exact hi), if_neg (by omega)]; exact h3 j (by omega)⟩
        refine ⟨?_, fun j k hj => ?_⟩
        · show (putNd r.2.out m).2.length ≤ (r.2.done.set i (some (putNd r.2.out m).1)).countP Option.isSome
          rw [countP_set (by rw [h2]; exact hi) (by rw [h3 i (Nat.le_refl _)]; exact hd)]
          have := (putNd_len r.2.out m).1
          have h4 : r.2.out.length ≤ _ := h1.1
          omega
        · show k < (putNd r.2.out m).2.length
          have hj : (r.2.done.set i (some (putNd r.2.out m).1)).getD j none = some k := hj
          rw [getD_set (by rw [h2]; exact hi)] at hj
          by_cases e : i = j
          · rw [if_pos e] at hj
            injection hj with hj
            rw [← hj]; exact (putNd_len r.2.out m).2
          · rw [if_neg e] at hj
            have := h1.2 j k hj
            have := (putNd_pre r.2.out m).length_le
            omega
      by_cases hx : usesX (f.getD i nd0).op = true
      · have ox := opsOk_x ho hx
        rw [if_pos hx]
        obtain ⟨a1, a2, a3⟩ := ih (f.getD i nd0).x.toNat s (by omega) (by omega) hl hc
        by_cases hy : usesY (f.getD i nd0).op = true
        · have oy := opsOk_y ho hy
          rw [if_pos hy]
          obtain ⟨b1, b2, b3⟩ := ih (f.getD i nd0).y.toNat (finW f fuel (f.getD i nd0).x.toNat s).2 (by omega) (by omega) a2 a1
          exact fin _ _ b1 b2 (fun j hj => by rw [b3 j (by omega), a3 j (by omega)])
        · rw [if_neg hy]
          exact fin (_, (finW f fuel (f.getD i nd0).x.toNat s).2) _ a1 a2 (fun j hj => a3 j (by omega))
      · rw [if_neg hx]
        by_cases hy : usesY (f.getD i nd0).op = true
        · exact absurd (usesY_X hy) hx
        · rw [if_neg hy]
          exact fin (_, s) _ hc hl (fun _ _ => rfl)
theorem finW_done {f : List Nd} (_hf : opsL f) : ∀ (fuel i : Nat) (s : Wk), i < fuel → i < f.length → s.done.length = f.length → (finW f fuel i s).2.done.getD i none = some (finW f fuel i s).1 := by
  intro fuel
  have hlen : ∀ (fuel i : Nat) (s : Wk), (finW f fuel i s).2.done.length = s.done.length := by
    intro fuel
    induction fuel with
    | zero => intro i s; rfl
    | succ fuel ih =>
      intro i s
      unfold finW
      cases hd : s.done.getD i none with
      | some k => rfl
      | none =>
        simp only [List.length_set]
        split <;> split <;> simp only [ih]
  cases fuel with
  | zero => intro i s h; omega
  | succ fuel =>
    intro i s h hi hl
    unfold finW
    cases hd : s.done.getD i none with
    | some k => exact hd
    | none =>
      simp only
      rw [getD_set, if_pos rfl]
      split <;> split <;> simp only [hlen] <;> omega
/-- the box of one node, in a block of its own -/
def Box (W : World) (g : Nat) (x : Nd) : Prop :=
  W.cell? ⟨g, 0, none⟩ = some (.int .i64 x.op) ∧ W.cell? ⟨g, 1, none⟩ = some (.int .i64 x.i) ∧ W.cell? ⟨g, 2, none⟩ = some (.int .i64 x.e) ∧ W.cell? ⟨g, 3, none⟩ = some (.int .i64 x.g) ∧ W.cell? ⟨g, 4, none⟩ = some (.int .i64 x.x) ∧ W.cell? ⟨g, 5, none⟩ = some (.int .i64 x.y) ∧ ∀ j, W.frozen? ⟨g, j, none⟩ = false
theorem Box.keep {W W' : World} {g : Nat} {x : Nd} (h : Box W g x) (hb : W'.heap[g]? = W.heap[g]?) : Box W' g x := by
  obtain ⟨h0, h1, h2, h3, h4, h5, hf⟩ := h
  have e : ∀ j, W'.cell? ⟨g, j, none⟩ = W.cell? ⟨g, j, none⟩ := fun j => World.cell?_of_block (a := ⟨g, j, none⟩) hb
  exact ⟨(e 0).trans h0, (e 1).trans h1, (e 2).trans h2, (e 3).trans h3, (e 4).trans h4, (e 5).trans h5, fun j => (World.frozen?_of_block (a := ⟨g, j, none⟩) hb).trans (hf j)⟩
theorem Box.setX {W : World} {g : Nat} {x : Nd} (h : Box W g x) (v : Int) : Box (W.setCell ⟨g, 4, none⟩ (.int .i64 v)) g { x with x := v } := by
  obtain ⟨h0, h1, h2, h3, h4, h5, hf⟩ := h
  have e : ∀ j, j ≠ 4 → (W.setCell ⟨g, 4, none⟩ (.int .i64 v)).cell? ⟨g, j, none⟩ = W.cell? ⟨g, j, none⟩ := fun j hj => World.cell?_setCell_other W ⟨g, 4, none⟩ ⟨g, j, none⟩ _ (fun e2 => by have h9 := congrArg Addr.off e2; have h9 : _ = _ := h9; dsimp only at h9; omega)
  exact ⟨(e 0 (by decide)).trans h0, (e 1 (by decide)).trans h1, (e 2 (by decide)).trans h2, (e 3 (by decide)).trans h3, World.cell?_setCell_same W _ _ h4, (e 5 (by decide)).trans h5, fun j => by rw [World.frozen?_setCell]; exact hf j⟩
theorem Box.setY {W : World} {g : Nat} {x : Nd} (h : Box W g x) (v : Int) : Box (W.setCell ⟨g, 5, none⟩ (.int .i64 v)) g { x with y := v } := by
  obtain ⟨h0, h1, h2, h3, h4, h5, hf⟩ := h
  have e : ∀ j, j ≠ 5 → (W.setCell ⟨g, 5, none⟩ (.int .i64 v)).cell? ⟨g, j, none⟩ = W.cell? ⟨g, j, none⟩ := fun j hj => World.cell?_setCell_other W ⟨g, 5, none⟩ ⟨g, j, none⟩ _ (fun e2 => by have h9 := congrArg Addr.off e2; have h9 : _ = _ := h9; dsimp only at h9; omega)
  exact ⟨(e 0 (by decide)).trans h0, (e 1 (by decide)).trans h1, (e 2 (by decide)).trans h2, (e 3 (by decide)).trans h3, (e 4 (by decide)).trans h4, World.cell?_setCell_same W _ _ h5, fun j => by rw [World.frozen?_setCell]; exact hf j⟩
theorem Box.made (w : World) (x : Nd) (t : TypeId) : Box (w.alloc (.cells #[.int .i64 x.op, .int .i64 x.i, .int .i64 x.e, .int .i64 x.g, .int .i64 x.x, .int .i64 x.y] t)) w.heap.size x := by
  have hh := heap_alloc_new w (.cells #[.int .i64 x.op, .int .i64 x.i, .int .i64 x.e, .int .i64 x.g, .int .i64 x.x, .int .i64 x.y] t)
  have := Lib.cell_of_heap hh
  exact ⟨this 0, this 1, this 2, this 3, this 4, this 5, fun j => Lib.frozen_of_heap hh j⟩
/-- a state of the reference's finish: the walk, the list that is read, the box of the node, what has been left -/
structure RQ (w W : World) (B base bw bd n : Nat) (A : Option Addr) (f : List Nd) (s : Wk) (x : Nd) : Prop where
  st : RW W base bw bd n s
  rd : Reads W B 6 A n (nds f)
  bx : Box W w.heap.size x
  fr : Fr bw bd w W
  lt : w.heap.size < W.heap.size
  rg : some w.heap.size ≠ rowOf W bw
  bs : base ≤ w.heap.size
theorem RQ.start {w : World} {B base bw bd n : Nat} {A : Option Addr} {f : List Nd} {s : Wk} (h : RW w base bw bd n s) (hR : Reads w B 6 A n (nds f)) (hB : B ≤ w.heap.size) (x : Nd) (t : TypeId) :
    RQ w (w.alloc (.cells #[.int .i64 x.op, .int .i64 x.i, .int .i64 x.e, .int .i64 x.g, .int .i64 x.x, .int .i64 x.y] t)) B base bw bd n A f s x := by
  have hb : Below w.heap.size w (w.alloc (.cells #[.int .i64 x.op, .int .i64 x.i, .int .i64 x.e, .int .i64 x.g, .int .i64 x.x, .int .i64 x.y] t)) := (Below.refl _ w).alloc (Nat.le_refl _) _
  have lw : bw < w.heap.size := Nat.lt_of_lt_of_le h.lw h.lb
  refine ⟨h.below hb, hR.alloc hB _, Box.made w x t, Fr.of_below hb lw, by simp, ?_, h.lb⟩
  rw [rowOf_same (hb.cell (p := ⟨bw, 0, none⟩) lw)]
  intro e
  have := (h.row _ e.symm).2
  omega
theorem RQ.step {w W W' : World} {B base bw bd n : Nat} {A : Option Addr} {f : List Nd} {s s' : Wk} {x : Nd} (h : RQ w W B base bw bd n A f s x) (hS : RW W' base bw bd n s') (hF : Fr bw bd W W') (hB1 : B ≤ bw) (hB2 : B ≤ bd) (_hB3 : B ≤ base) :
    RQ w W' B base bw bd n A f s' x := by
  have l0 := h.st.lb
  have lw := h.st.lw
  have ld := h.st.ld
  have l1 := h.fr.size
  have hb := hF.low (B := B) (by omega) hB1 hB2 (fun g hg => by have := (h.st.row g hg).1; omega)
  have l3 := h.bs
  have hne : w.heap.size ≠ bw ∧ w.heap.size ≠ bd := ⟨by omega, by omega⟩
  refine ⟨hS, h.rd.below hb, h.bx.keep (hF.block _ h.lt hne.1 hne.2 h.rg), h.fr.trans hF, Nat.lt_of_lt_of_le h.lt hF.size, ?_, h.bs⟩
  rcases hF.row with e | ⟨g, e, hl⟩
  · rw [e]; exact h.rg
  · rw [e]; intro e2; injection e2; have := h.lt; omega
theorem RQ.set {w W : World} {B base bw bd n : Nat} {A : Option Addr} {f : List Nd} {s : Wk} {x x' : Nd} (h : RQ w W B base bw bd n A f s x) {j : Nat} {v : Value} (hx : Box (W.setCell ⟨w.heap.size, j, none⟩ v) w.heap.size x') (hB3 : B ≤ base) :
    RQ w (W.setCell ⟨w.heap.size, j, none⟩ v) B base bw bd n A f s x' := by
  have l0 := h.bs
  have lw := h.st.lw
  have ld := h.st.ld
  refine ⟨h.st.other v (by omega) (by omega) h.rg, h.rd.setCell (by show B ≤ w.heap.size; omega) v, hx, h.fr.other v (Nat.le_refl _) (by omega), by simpa using h.lt, ?_, l0⟩
  rw [rowOf_same (World.cell?_of_block (a := ⟨bw, 0, none⟩) (Below.heap_setCell _ _ _ _ (by show bw ≠ w.heap.size; omega)))]
  exact h.rg
end Go.Proofs.YtkhalapppkhopaaDoor
/- Layer 5: the program's walk: nodes as keys of a map, the state of the walk. -/
namespace Go.Proofs.YtkhalapppkhopaaDoor
open Go.RowKit Go.Proofs.Ws Go.Maps
theorem nodeKT : Tryd.prog.keyType 86 = true := by kernel_rfl
theorem nodeSize : Tryd.prog.types.size = (Tryd.prog.types.size - 1) + 1 := by kernel_rfl
theorem nodeLaid : laidOutB Tryd.prog = true := by kernel_rfl
theorem nodeLaw : Keyed Tryd.prog 86 :=
  Keyed.of_law (deep_law_laid nodeLaid (m := 9999) (by omega) (of_decide_eq_true (by kernel_rfl)) (by kernel_rfl) (by kernel_rfl))
theorem nodeCells : Tryd.prog.cellsOf 86 = 6 := by kernel_rfl
theorem intCells : Tryd.prog.cellsOf 3 = 1 := by kernel_rfl
/-- the fields of a node are machine integers -/
structure NdW (n : Nd) : Prop where
  op : (Lit.int .i64 n.op).wf = true
  i : (Lit.int .i64 n.i).wf = true
  e : (Lit.int .i64 n.e).wf = true
  g : (Lit.int .i64 n.g).wf = true
  x : (Lit.int .i64 n.x).wf = true
  y : (Lit.int .i64 n.y).wf = true
def keyN (n : Nd) : Lit := .string (keyBytes [.int .i64 n.op, .int .i64 n.i, .int .i64 n.e, .int .i64 n.g, .int .i64 n.x, .int .i64 n.y])
theorem key_nd {n : Nd} (h : NdW n) : keyOf Tryd.prog 86 (nv n) = some (keyN n) := by
  obtain ⟨h0, h1, h2, h3, h4, h5⟩ := h
  unfold keyOf nv
  simp only [Tryd.underlying86]
  rw [if_pos (by rw [nodeKT]; simp [Value.formed, Tryd.underlying86]; kernel_rfl), nodeSize]
  unfold Program.keyLits
  simp only [Tryd.underlying86, Value.cells]
  rw [if_pos ⟨by rw [nodeCells]; rfl, by kernel_rfl⟩, List.mapM_cons, List.mapM_cons, List.mapM_cons, List.mapM_cons, List.mapM_cons, List.mapM_cons, List.mapM_nil]
  simp [intCells, Program.keyLits, Tryd.underlying3, h0, h1, h2, h3, h4, h5, keyN]
theorem keyN_inj {n m : Nd} (hn : NdW n) (hm : NdW m) (h : keyN n = keyN m) : n = m := by
  have := nodeLaw.inj (key_nd hn) (by rw [h]; exact key_nd hm)
  unfold nv at this
  injection this with h1
  simp at h1
  obtain ⟨e0, e1, e2, e3, e4, e5⟩ := h1
  cases n; cases m; simp at e0 e1 e2 e3 e4 e5; simp [e0, e1, e2, e3, e4, e5]
/-- the map gives each node of the list its number -/
structure MapOf (out : List Nd) (D : DataW Unit) : Prop where
  map : IsMap D
  wide : ∀ n ∈ out, NdW n
  there : ∀ n, NdW n → (Maps.has D (keyN n) = true ↔ n ∈ out)
  at_ : ∀ n ∈ out, D.atKey (keyN n) (.lit (.int .i64 0)) = .lit (.int .i64 (out.idxOf n : Int))
theorem MapOf.start : MapOf [] (.map []) where
  map := ⟨[], rfl⟩
  wide := fun n h => absurd h (by simp)
  there := fun n _ => ⟨fun h => by simp [Maps.has] at h, fun h => absurd h (by simp)⟩
  at_ := fun n h => absurd h (by simp)
theorem MapOf.put {out : List Nd} {D : DataW Unit} (h : MapOf out D) {n : Nd} (hn : NdW n) (hi : n ∉ out) : MapOf (out ++ [n]) (D.put (keyN n) (.lit (.int .i64 (out.length : Int)))) := by
  have hkey : WideAt.IsKeyLit (keyN n) := nodeLaw.key (key_nd hn)
  refine ⟨h.map.put _ _, fun m hm => ?_, fun m hm => ?_, fun m hm => ?_⟩
  · rcases List.mem_append.1 hm with hm | hm
    · exact h.wide m hm
    · rw [List.mem_singleton.1 hm]; exact hn
  · by_cases e : m = n
    · subst e
      rw [has_put_same h.map hkey]
      simp
    · rw [has_put_other (fun e2 => e (keyN_inj hm hn e2)), h.there m hm]
      simp [e]
  · by_cases e : m = n
    · subst e
      rw [atKey_put_same h.map hkey, List.idxOf_append, if_neg hi]
      simp
    · have hmo : m ∈ out := by
        rcases List.mem_append.1 hm with hm | hm
        · exact hm
        · exact absurd (List.mem_singleton.1 hm) e
      rw [atKey_put_other (fun e2 => e (keyN_inj (h.wide m hmo) hn e2)), h.at_ m hmo, List.idxOf_append, if_pos hmo]
def plV (d : Option Nat) : Value := .int .i64 (match d with | none => 0 | some k => ((k + 1 : Nat) : Int))
/-- the walk of the program at block bw: what it walks over, the numbers (plus 1) in block bp, the list (a row of its own), the map in block bm -/
structure PW (W : World) (base bw bp bm : Nat) (A : Option Addr) (c n : Nat) (s : Wk) : Prop where
  lw : bw < base
  lp : bp < base
  lm : bm < base
  n1 : bw ≠ bp
  n2 : bw ≠ bm
  n3 : bp ≠ bm
  lb : base ≤ W.heap.size
  frm : W.cell? ⟨bw, 0, none⟩ = some (.slice A n c)
  pl : W.cell? ⟨bw, 1, none⟩ = some (.slice (some ⟨bp, 0, none⟩) n n)
  out : ∃ A2 c2, W.cell? ⟨bw, 2, none⟩ = some (.slice A2 s.out.length c2) ∧ W.ownsRow base 86 6 (.slice A2 s.out.length c2) s.out.length (nds s.out)
  fout : W.frozen? ⟨bw, 2, none⟩ = false
  mp : W.cell? ⟨bw, 3, none⟩ = some (.map (some bm))
  map : ∃ D, W.ownsMap Tryd.prog 86 (plainElem (H := Unit) Tryd.prog 3) bm s.out.length D ∧ MapOf s.out D
  len : s.done.length = n
  cells : ∀ j, j < n → W.cell? ⟨bp, j, none⟩ = some (plV (s.done.getD j none))
  free : ∀ j, j < n → W.frozen? ⟨bp, j, none⟩ = false
def rowP (W : World) (bw : Nat) : Option Nat := match W.cell? ⟨bw, 2, none⟩ with | some v => v.ownBlock | none => none
theorem rowP_of {W : World} {bw : Nat} {v : Value} (h : W.cell? ⟨bw, 2, none⟩ = some v) : rowP W bw = v.ownBlock := by unfold rowP; rw [h]
theorem rowP_same {w w' : World} {bw : Nat} (h : w'.heap[bw]? = w.heap[bw]?) : rowP w' bw = rowP w bw := by unfold rowP; rw [World.cell?_of_block (a := ⟨bw, 2, none⟩) h]
/-- what a step of the program's walk leaves -/
structure Fp (bw bp bm : Nat) (w w' : World) : Prop where
  os : w'.os = w.os
  tape : w'.tape = w.tape
  output : w'.output = w.output
  size : w.heap.size ≤ w'.heap.size
  block : ∀ g, g < w.heap.size → g ≠ bw → g ≠ bp → g ≠ bm → some g ≠ rowP w bw → w'.heap[g]? = w.heap[g]?
  row : rowP w' bw = rowP w bw ∨ ∃ g, rowP w' bw = some g ∧ w.heap.size ≤ g
theorem Fp.of_below {w w' : World} {bw bp bm : Nat} (h : Below w.heap.size w w') (hb : bw < w.heap.size) : Fp bw bp bm w w' :=
  ⟨h.os, h.tape, h.output, h.size, fun g hg _ _ _ _ => h.block g hg, .inl (rowP_same (h.block bw hb))⟩
theorem Fp.trans {a b c : World} {bw bp bm : Nat} (h : Fp bw bp bm a b) (k : Fp bw bp bm b c) : Fp bw bp bm a c := by
  refine ⟨k.os.trans h.os, k.tape.trans h.tape, k.output.trans h.output, Nat.le_trans h.size k.size, fun g hg h1 h2 h3 h4 => ?_, ?_⟩
  · refine (k.block g (Nat.lt_of_lt_of_le hg h.size) h1 h2 h3 ?_).trans (h.block g hg h1 h2 h3 h4)
    rcases h.row with e | ⟨g2, e, hl⟩
    · rw [e]; exact h4
    · rw [e]; intro e2; injection e2; omega
  · rcases k.row with e | ⟨g2, e, hl⟩
    · rw [e]; exact h.row
    · exact .inr ⟨g2, e, Nat.le_trans h.size hl⟩
theorem Fp.low {bw bp bm : Nat} {w w' : World} (h : Fp bw bp bm w w') {B : Nat} (h0 : B ≤ w.heap.size) (h1 : B ≤ bw) (h2 : B ≤ bp) (h4 : B ≤ bm) (h3 : ∀ g, rowP w bw = some g → B ≤ g) : Below B w w' :=
  ⟨h.os, h.tape, h.output, h.size, fun g hg => h.block g (by omega) (by omega) (by omega) (by omega) (fun e => by have := h3 g e.symm; omega)⟩
theorem Fp.other {bw bp bm : Nat} {w W : World} (h : Fp bw bp bm w W) {g j : Nat} (v : Value) (h1 : w.heap.size ≤ g) (h2 : g ≠ bw) : Fp bw bp bm w (W.setCell ⟨g, j, none⟩ v) := by
  refine ⟨h.os, h.tape, h.output, by simpa using h.size, fun k hk a b c d => (Below.heap_setCell _ _ _ _ (by show k ≠ g; omega)).trans (h.block k hk a b c d), ?_⟩
  rw [rowP_same (Below.heap_setCell W ⟨g, j, none⟩ v bw h2.symm)]; exact h.row
theorem Fp.setP {bw bp bm : Nat} {w W : World} (h : Fp bw bp bm w W) {j : Nat} (v : Value) (hne : bw ≠ bp) : Fp bw bp bm w (W.setCell ⟨bp, j, none⟩ v) := by
  refine ⟨h.os, h.tape, h.output, by simpa using h.size, fun k hk a b c d => (Below.heap_setCell _ _ _ _ b).trans (h.block k hk a b c d), ?_⟩
  rw [rowP_same (Below.heap_setCell W ⟨bp, j, none⟩ v bw hne)]; exact h.row
theorem Fp.drewN {bw bp bm : Nat} {w W : World} (h : Fp bw bp bm w W) (k : Nat) : Fp bw bp bm w (W.drewN k) :=
  ⟨h.os, h.tape, h.output, h.size, h.block, h.row⟩
theorem ownsMap_keep {w w' : World} {P : Program} {t : TypeId} {R : Value → Option (DataW Unit × List MemPlace)} {B n : Nat} {D : DataW Unit} (h : w.ownsMap P t R B n D) (hb : w'.heap[B]? = w.heap[B]?) : w'.ownsMap P t R B n D := by
  obtain ⟨es, clock, h1, rest⟩ := h
  exact ⟨es, clock, hb.trans h1, rest⟩
theorem PW.row {W : World} {base bw bp bm c n : Nat} {A : Option Addr} {s : Wk} (h : PW W base bw bp bm A c n s) : ∀ g, rowP W bw = some g → base ≤ g ∧ g < W.heap.size := by
  obtain ⟨A2, c2, h1, h2⟩ := h.out
  intro g hg
  rw [rowP_of h1] at hg
  exact h2.lt g hg
theorem PW.keep {W W' : World} {base bw bp bm c n : Nat} {A : Option Addr} {s : Wk} (h : PW W base bw bp bm A c n s) (hs : W.heap.size ≤ W'.heap.size) (hw : W'.heap[bw]? = W.heap[bw]?) (hd : W'.heap[bp]? = W.heap[bp]?) (hm : W'.heap[bm]? = W.heap[bm]?)
    (hr : ∀ g, rowP W bw = some g → W'.heap[g]? = W.heap[g]?) : PW W' base bw bp bm A c n s := by
  obtain ⟨A2, c2, h1, h2⟩ := h.out
  obtain ⟨D, h5, h6⟩ := h.map
  have e : ∀ j, W'.cell? ⟨bw, j, none⟩ = W.cell? ⟨bw, j, none⟩ := fun j => World.cell?_of_block (a := ⟨bw, j, none⟩) hw
  exact ⟨h.lw, h.lp, h.lm, h.n1, h.n2, h.n3, Nat.le_trans h.lb hs, (e 0).trans h.frm, (e 1).trans h.pl, ⟨A2, c2, (e 2).trans h1, own_keep1K h2 (fun g hg => hr g (by rw [rowP_of h1]; exact hg))⟩,
    (World.frozen?_of_block (a := ⟨bw, 2, none⟩) hw).trans h.fout, (e 3).trans h.mp, ⟨D, ownsMap_keep h5 hm, h6⟩, h.len,
    fun j hj => (World.cell?_of_block (a := ⟨bp, j, none⟩) hd).trans (h.cells j hj), fun j hj => (World.frozen?_of_block (a := ⟨bp, j, none⟩) hd).trans (h.free j hj)⟩
theorem PW.below {W W' : World} {base bw bp bm c n : Nat} {A : Option Addr} {s : Wk} (h : PW W base bw bp bm A c n s) (hb : Below W.heap.size W W') : PW W' base bw bp bm A c n s := by
  have lw := h.lw
  have lp := h.lp
  have lm := h.lm
  have lb := h.lb
  exact h.keep hb.size (hb.block _ (by omega)) (hb.block _ (by omega)) (hb.block _ (by omega)) (fun g hg => hb.block g (h.row g hg).2)
theorem PW.drewN {W : World} {base bw bp bm c n : Nat} {A : Option Addr} {s : Wk} (h : PW W base bw bp bm A c n s) (k : Nat) : PW (W.drewN k) base bw bp bm A c n s :=
  h.keep (Nat.le_refl _) rfl rfl rfl (fun _ _ => rfl)
theorem PW.set {W : World} {base bw bp bm c n : Nat} {A : Option Addr} {s : Wk} (h : PW W base bw bp bm A c n s) {i : Nat} (hi : i < n) (k : Nat) : PW (W.setCell ⟨bp, i, none⟩ (.int .i64 ((k + 1 : Nat) : Int))) base bw bp bm A c n ⟨s.out, s.done.set i (some k)⟩ := by
  obtain ⟨A2, c2, h1, h2⟩ := h.out
  obtain ⟨D, h5, h6⟩ := h.map
  have hw : (W.setCell ⟨bp, i, none⟩ (.int .i64 ((k + 1 : Nat) : Int))).heap[bw]? = W.heap[bw]? := Below.heap_setCell _ _ _ _ h.n1
  have e : ∀ j, (W.setCell ⟨bp, i, none⟩ (.int .i64 ((k + 1 : Nat) : Int))).cell? ⟨bw, j, none⟩ = W.cell? ⟨bw, j, none⟩ := fun j => World.cell?_of_block (a := ⟨bw, j, none⟩) hw
  refine ⟨h.lw, h.lp, h.lm, h.n1, h.n2, h.n3, by simpa using h.lb, (e 0).trans h.frm, (e 1).trans h.pl, ⟨A2, c2, (e 2).trans h1, ownsRow_setCell_below h2 h.lp _⟩,
    (World.frozen?_of_block (a := ⟨bw, 2, none⟩) hw).trans h.fout, (e 3).trans h.mp, ⟨D, ownsMap_keep h5 (Below.heap_setCell _ _ _ _ h.n3.symm), h6⟩, by show (s.done.set i (some k)).length = n; rw [List.length_set, h.len],
    fun j hj => ?_, fun j hj => by rw [World.frozen?_setCell]; exact h.free j hj⟩
  show _ = some (plV ((s.done.set i (some k)).getD j none))
  rw [getD_set (by rw [h.len]; exact hi)]
  by_cases e : i = j
  · subst e
    rw [if_pos rfl]
    exact World.cell?_setCell_same W _ _ (h.cells i hi)
  · rw [if_neg e, World.cell?_setCell_other W ⟨bp, i, none⟩ ⟨bp, j, none⟩ _ (fun e2 => by have h9 := congrArg Addr.off e2; dsimp only at h9; omega)]
    exact h.cells j hj
/-- a block that is no part of the program's walk -/
structure Aside (W : World) (bw bp bm g : Nat) : Prop where
  lt : g < W.heap.size
  n1 : g ≠ bw
  n2 : g ≠ bp
  n3 : g ≠ bm
  row : some g ≠ rowP W bw
theorem Aside.step {W W' : World} {bw bp bm g : Nat} (h : Aside W bw bp bm g) (hF : Fp bw bp bm W W') : W'.heap[g]? = W.heap[g]? ∧ Aside W' bw bp bm g := by
  refine ⟨hF.block g h.lt h.n1 h.n2 h.n3 h.row, Nat.lt_of_lt_of_le h.lt hF.size, h.n1, h.n2, h.n3, ?_⟩
  rcases hF.row with e | ⟨k, e, hl⟩
  · rw [e]; exact h.row
  · rw [e]; intro e2; injection e2; have := h.lt; omega
theorem Aside.low {W W' : World} {bw bp bm g : Nat} (h : Aside W bw bp bm g) (hb : Below W.heap.size W W') (hw : bw < W.heap.size) : Aside W' bw bp bm g :=
  ⟨Nat.lt_of_lt_of_le h.lt hb.size, h.n1, h.n2, h.n3, by rw [rowP_same (hb.block bw hw)]; exact h.row⟩
theorem Aside.new {W W' : World} {base bw bp bm c n g : Nat} {A : Option Addr} {s : Wk} (hS : PW W base bw bp bm A c n s) (hb : Below W.heap.size W W') (h1 : W.heap.size ≤ g) (h2 : g < W'.heap.size) : Aside W' bw bp bm g := by
  have lw := hS.lw
  have lp := hS.lp
  have lm := hS.lm
  have lb := hS.lb
  refine ⟨h2, by omega, by omega, by omega, ?_⟩
  rw [rowP_same (hb.block bw (by omega))]
  intro e
  have := (hS.row g e.symm).2
  omega
theorem Aside.set {W : World} {bw bp bm g g2 j : Nat} (h : Aside W bw bp bm g) (hg : g2 ≠ bw) (v : Value) : Aside (W.setCell ⟨g2, j, none⟩ v) bw bp bm g :=
  ⟨by simpa using h.lt, h.n1, h.n2, h.n3, by rw [rowP_same (Below.heap_setCell W ⟨g2, j, none⟩ v bw hg.symm)]; exact h.row⟩
theorem PW.other {W : World} {base bw bp bm c n g j : Nat} {A : Option Addr} {s : Wk} (h : PW W base bw bp bm A c n s) (ha : Aside W bw bp bm g) (v : Value) : PW (W.setCell ⟨g, j, none⟩ v) base bw bp bm A c n s :=
  h.keep (by simp) (Below.heap_setCell _ _ _ _ ha.n1.symm) (Below.heap_setCell _ _ _ _ ha.n2.symm) (Below.heap_setCell _ _ _ _ ha.n3.symm) (fun k hk => Below.heap_setCell _ _ _ _ (fun e => ha.row (by rw [hk, e])))
/-- the three boxes of renumber: the node, its result, its shape -/
structure PQ (w W : World) (B base bw bp bm c n : Nat) (A : Option Addr) (f : List Nd) (s : Wk) (g0 g1 g2 : Nat) (x : Nd) (a1 a2 a3 a4 : Int) : Prop where
  st : PW W base bw bp bm A c n s
  rd : Reads W B 6 A n (nds f)
  bx : Box W g0 x
  rs : W.heap[g1]? = some (.cells #[.int .i64 0, .int .i64 0, .int .i64 0, .int .i64 0, .int .i64 0, .int .i64 0] 86 (0, 0))
  sh : W.heap[g2]? = some (.cells #[.int .i64 a1, .int .i64 a2, .int .i64 a3, .int .i64 a4] 110 (0, 0))
  fr : Fp bw bp bm w W
  a0 : Aside W bw bp bm g0
  a1 : Aside W bw bp bm g1
  a2 : Aside W bw bp bm g2
  l0 : w.heap.size ≤ g0
  n01 : g0 ≠ g1
  n02 : g0 ≠ g2
theorem PQ.step {w W W' : World} {B base bw bp bm c n : Nat} {A : Option Addr} {f : List Nd} {s s' : Wk} {g0 g1 g2 : Nat} {x : Nd} {a1 a2 a3 a4 : Int} (h : PQ w W B base bw bp bm c n A f s g0 g1 g2 x a1 a2 a3 a4)
    (hS : PW W' base bw bp bm A c n s') (hF : Fp bw bp bm W W') (hB1 : B ≤ bw) (hB2 : B ≤ bp) (hB4 : B ≤ bm) (hB3 : B ≤ base) : PQ w W' B base bw bp bm c n A f s' g0 g1 g2 x a1 a2 a3 a4 := by
  have lb := h.st.lb
  obtain ⟨e0, k0⟩ := h.a0.step hF
  obtain ⟨e1, k1⟩ := h.a1.step hF
  obtain ⟨e2, k2⟩ := h.a2.step hF
  exact ⟨hS, h.rd.below (hF.low (by omega) hB1 hB2 hB4 (fun g hg => by have := (h.st.row g hg).1; omega)), h.bx.keep e0, e1.trans h.rs, e2.trans h.sh, h.fr.trans hF, k0, k1, k2, h.l0, h.n01, h.n02⟩
theorem PQ.set {w W : World} {B base bw bp bm c n : Nat} {A : Option Addr} {f : List Nd} {s : Wk} {g0 g1 g2 j : Nat} {x x' : Nd} {a1 a2 a3 a4 : Int} {v : Value} (h : PQ w W B base bw bp bm c n A f s g0 g1 g2 x a1 a2 a3 a4)
    (hx : Box (W.setCell ⟨g0, j, none⟩ v) g0 x') (hB : B ≤ w.heap.size) : PQ w (W.setCell ⟨g0, j, none⟩ v) B base bw bp bm c n A f s g0 g1 g2 x' a1 a2 a3 a4 := by
  have l0 := h.l0
  exact ⟨h.st.other h.a0 v, h.rd.setCell (by show B ≤ g0; omega) v, hx, (Below.heap_setCell _ _ _ _ h.n01.symm).trans h.rs, (Below.heap_setCell _ _ _ _ h.n02.symm).trans h.sh, h.fr.other v h.l0 h.a0.n1,
    h.a0.set h.a0.n1 v, h.a1.set h.a0.n1 v, h.a2.set h.a0.n1 v, h.l0, h.n01, h.n02⟩
theorem PQ.cells {w W : World} {B base bw bp bm c n : Nat} {A : Option Addr} {f : List Nd} {s : Wk} {g0 g1 g2 : Nat} {x : Nd} {a1 a2 a3 a4 : Int} (h : PQ w W B base bw bp bm c n A f s g0 g1 g2 x a1 a2 a3 a4) : W.cell? ⟨g2, 3, none⟩ = some (.int .i64 a4) := Lib.cell_of_heap h.sh 3
theorem PQ.start {w w1 : World} {B base bw bp bm c n : Nat} {A : Option Addr} {f : List Nd} {s : Wk} (h : PW w base bw bp bm A c n s) (hR : Reads w B 6 A n (nds f)) (hB : B ≤ w.heap.size) (x : Nd) (a1 a2 a3 a4 : Int)
    (hb : Below ((w.alloc (.cells #[.int .i64 x.op, .int .i64 x.i, .int .i64 x.e, .int .i64 x.g, .int .i64 x.x, .int .i64 x.y] 86)).alloc (.cells #[.int .i64 0, .int .i64 0, .int .i64 0, .int .i64 0, .int .i64 0, .int .i64 0] 86)).heap.size
      ((w.alloc (.cells #[.int .i64 x.op, .int .i64 x.i, .int .i64 x.e, .int .i64 x.g, .int .i64 x.x, .int .i64 x.y] 86)).alloc (.cells #[.int .i64 0, .int .i64 0, .int .i64 0, .int .i64 0, .int .i64 0, .int .i64 0] 86)) w1) :
    PQ w (w1.alloc (.cells #[.int .i64 a1, .int .i64 a2, .int .i64 a3, .int .i64 a4] 110)) B base bw bp bm c n A f s w.heap.size (w.heap.size + 1) w1.heap.size x a1 a2 a3 a4 := by
  have hs1 : (w.alloc (.cells #[.int .i64 x.op, .int .i64 x.i, .int .i64 x.e, .int .i64 x.g, .int .i64 x.x, .int .i64 x.y] 86)).heap.size = w.heap.size + 1 := by simp
  have hbx := Box.made w x 86
  have hba : Below w.heap.size w (w.alloc (.cells #[.int .i64 x.op, .int .i64 x.i, .int .i64 x.e, .int .i64 x.g, .int .i64 x.x, .int .i64 x.y] 86)) := (Below.refl _ w).alloc (Nat.le_refl _) _
  generalize w.alloc (.cells #[.int .i64 x.op, .int .i64 x.i, .int .i64 x.e, .int .i64 x.g, .int .i64 x.x, .int .i64 x.y] 86) = wa at *
  have hs2 : (wa.alloc (.cells #[.int .i64 0, .int .i64 0, .int .i64 0, .int .i64 0, .int .i64 0, .int .i64 0] 86)).heap.size = w.heap.size + 2 := by simp; omega
  have hr0 := heap_alloc_new wa (.cells #[.int .i64 0, .int .i64 0, .int .i64 0, .int .i64 0, .int .i64 0, .int .i64 0] 86)
  have hbb : Below wa.heap.size wa (wa.alloc (.cells #[.int .i64 0, .int .i64 0, .int .i64 0, .int .i64 0, .int .i64 0, .int .i64 0] 86)) := (Below.refl _ wa).alloc (Nat.le_refl _) _
  generalize wa.alloc (.cells #[.int .i64 0, .int .i64 0, .int .i64 0, .int .i64 0, .int .i64 0, .int .i64 0] 86) = wb at *
  have hbc : Below w1.heap.size w1 (w1.alloc (.cells #[.int .i64 a1, .int .i64 a2, .int .i64 a3, .int .i64 a4] 110)) := (Below.refl _ w1).alloc (Nat.le_refl _) _
  have hsh := heap_alloc_new w1 (.cells #[.int .i64 a1, .int .i64 a2, .int .i64 a3, .int .i64 a4] 110)
  have hs3 : (w1.alloc (.cells #[.int .i64 a1, .int .i64 a2, .int .i64 a3, .int .i64 a4] 110)).heap.size = w1.heap.size + 1 := by simp
  generalize w1.alloc (.cells #[.int .i64 a1, .int .i64 a2, .int .i64 a3, .int .i64 a4] 110) = w2 at *
  have s1 := hb.size
  have lb := h.lb
  have lw := h.lw
  have hall : Below w.heap.size w w2 := (hba.trans (hbb.mono (by omega))).trans ((hb.mono (by omega)).trans (hbc.mono (by omega)))
  refine ⟨h.below hall, hR.below (hall.mono hB), hbx.keep ?_, ?_, hsh, Fp.of_below hall (by omega), Aside.new h hall (Nat.le_refl _) (by omega), Aside.new h hall (by omega) (by omega), Aside.new h hall (by omega) (by omega), Nat.le_refl _, by omega, by omega⟩
  · exact (hbc.block _ (by omega)).trans ((hb.block _ (by omega)).trans (hbb.block _ (by omega)))
  · rw [hs1] at hr0
    exact (hbc.block _ (by omega)).trans ((hb.block _ (by omega)).trans hr0)
/-- a node stored into a block -/
def putBox (W : World) (g : Nat) (x : Nd) : World := (((((W.setCell ⟨g, 0, none⟩ (.int .i64 x.op)).setCell ⟨g, 1, none⟩ (.int .i64 x.i)).setCell ⟨g, 2, none⟩ (.int .i64 x.e)).setCell ⟨g, 3, none⟩ (.int .i64 x.g)).setCell ⟨g, 4, none⟩ (.int .i64 x.x)).setCell ⟨g, 5, none⟩ (.int .i64 x.y)
theorem putBox_block {W : World} {g : Nat} {a b c d e f : Value} {t : TypeId} (h : W.heap[g]? = some (.cells #[a, b, c, d, e, f] t (0, 0))) (x : Nd) :
    (putBox W g x).heap[g]? = some (.cells #[.int .i64 x.op, .int .i64 x.i, .int .i64 x.e, .int .i64 x.g, .int .i64 x.x, .int .i64 x.y] t (0, 0)) := by
  unfold putBox
  simp [World.setCell, Array.getElem?_modify, h]
theorem PQ.done {w W : World} {B base bw bp bm c n : Nat} {A : Option Addr} {f : List Nd} {s : Wk} {g0 g1 g2 : Nat} {x : Nd} {a1 a2 a3 a4 : Int} (h : PQ w W B base bw bp bm c n A f s g0 g1 g2 x a1 a2 a3 a4) (hl : w.heap.size ≤ g1) (z : Nd) :
    PW (putBox W g1 z) base bw bp bm A c n s ∧ Fp bw bp bm w (putBox W g1 z) := by
  have a0 := h.a1
  have n1 := a0.n1
  have a1 := a0.set (j := 0) n1 (.int .i64 z.op)
  have a2 := a1.set (j := 1) n1 (.int .i64 z.i)
  have a3 := a2.set (j := 2) n1 (.int .i64 z.e)
  have a4 := a3.set (j := 3) n1 (.int .i64 z.g)
  have a5 := a4.set (j := 4) n1 (.int .i64 z.x)
  exact ⟨(((((h.st.other a0 _).other a1 _).other a2 _).other a3 _).other a4 _).other a5 _, (((((h.fr.other _ hl n1).other _ hl n1).other _ hl n1).other _ hl n1).other _ hl n1).other _ hl n1⟩
theorem PQ.zero {w W : World} {B base bw bp bm c n : Nat} {A : Option Addr} {f : List Nd} {s : Wk} {g0 g1 g2 : Nat} {x : Nd} {a1 a2 a3 a4 : Int} (h : PQ w W B base bw bp bm c n A f s g0 g1 g2 x a1 a2 a3 a4) :
    Box W g1 ⟨0, 0, 0, 0, 0, 0⟩ := by
  have := Lib.cell_of_heap h.rs
  exact ⟨this 0, this 1, this 2, this 3, this 4, this 5, fun j => Lib.frozen_of_heap h.rs j⟩
end Go.Proofs.YtkhalapppkhopaaDoor
/- Layer 5: the program's add. -/
namespace Go.Proofs.YtkhalapppkhopaaDoor
open Go.RowKit Go.Proofs.Ws Go.Maps
set_option maxRecDepth 100000 in
theorem zeroI (w : World) : (zeroValue 3).run Tryd.prog w = .ok (.int .i64 0) w := by kernel_rfl
set_option maxRecDepth 100000 in
theorem look_old {W : World} {bm m : Nat} {D : DataW Unit} {out : List Nd} {n : Nd} (h : W.ownsMap Tryd.prog 86 (plainElem (H := Unit) Tryd.prog 3) bm m D) (hM : MapOf out D) (hi : n ∈ out) :
    (Instr.lookup 126 (.map (some bm)) (nv n) true).run Tryd.prog W = .ok (.tuple #[.int .i64 (out.idxOf n : Int), .bool true]) W := by
  obtain ⟨v, ps, hrun, hv⟩ := h.look_ok nodeLaw Tryd.underlying126 (zeroI W) (plainElem_int Tryd.underlying3 (by decide)) (key_nd (hM.wide n hi))
  rw [hM.at_ n hi] at hv
  obtain ⟨c, rfl, hc, hwc⟩ := plainElem_int_inv Tryd.underlying3 hv
  rw [hrun, (hM.there n (hM.wide n hi)).2 hi]
  have := congrArg Prod.fst hc
  injection this with h1
  injection h1 with _ h2
  rw [h2]
set_option maxRecDepth 100000 in
theorem look_new {W : World} {bm m : Nat} {D : DataW Unit} {out : List Nd} {n : Nd} (h : W.ownsMap Tryd.prog 86 (plainElem (H := Unit) Tryd.prog 3) bm m D) (hM : MapOf out D) (hw : NdW n) (hi : n ∉ out) :
    ∃ c : Int, ∀ k, (Instr.lookup 126 (.map (some bm)) (nv n) true).run Tryd.prog (W.drewN k) = .ok (.tuple #[.int .i64 c, .bool false]) (W.drewN k) := by
  have hb : Maps.has D (keyN n) = false := by
    cases hq : Maps.has D (keyN n)
    · rfl
    · exact absurd ((hM.there n hw).1 hq) hi
  obtain ⟨v, ps, hrun, hv⟩ := h.look_ok nodeLaw Tryd.underlying126 (zeroI W) (plainElem_int Tryd.underlying3 (by decide)) (key_nd hw)
  obtain ⟨c, rfl, hc, hwc⟩ := plainElem_int_inv Tryd.underlying3 hv
  refine ⟨c, fun k => ?_⟩
  have h2 : (W.drewN k).ownsMap Tryd.prog 86 (plainElem (H := Unit) Tryd.prog 3) bm m D := ownsMap_keep h rfl
  obtain ⟨v2, ps2, hrun2, hv2⟩ := h2.look_ok nodeLaw Tryd.underlying126 (zeroI _) (plainElem_int Tryd.underlying3 (by decide)) (key_nd hw)
  obtain ⟨c2, rfl, hc2, hwc2⟩ := plainElem_int_inv Tryd.underlying3 hv2
  rw [hrun2, hb]
  have e1 := congrArg Prod.fst hc
  have e2 := congrArg Prod.fst hc2
  have : c2 = c := by
    have e3 := e2.symm.trans e1
    injection e3 with h3
    injection h3
  rw [this]
set_option maxRecDepth 100000 in
set_option maxHeartbeats 4000000 in
set_option maxRecDepth 100000 in
theorem pAdd_old (x : Nd) (base bw bp bm c n : Nat) (A : Option Addr) (s : Wk) (w : World) (hS : PW w base bw bp bm A c n s) (hin : x ∈ s.out) :
    Calls Tryd.prog 135 #[.pointer (some ⟨bw, 0, none⟩), nv x] w fun e w' => e = .returned (.int .i64 (s.out.idxOf x : Int)) ∧ Below w.heap.size w w' := by
  obtain ⟨D, hown, hM⟩ := hS.map
  have hm := hS.mp
  have lw : bw < w.heap.size := Nat.lt_of_lt_of_le hS.lw hS.lb
  have HB : Hid (∀ o, Below w.heap.size w (w.alloc o)) := Lib.hid (fun o => (Below.refl _ w).alloc (Nat.le_refl _) o)
  have hL : ∀ W : World, W.heap[bm]? = w.heap[bm]? → (Instr.lookup 126 (.map (some bm)) (nv x) true).run Tryd.prog W = .ok (.tuple #[.int .i64 (s.out.idxOf x : Int), .bool true]) W := fun W h => look_old (ownsMap_keep hown h) hM hin
  have lm : bm < w.heap.size := Nat.lt_of_lt_of_le hS.lm hS.lb
  have hL1 : ∀ (o : Obj) (k : Nat), (Instr.lookup 126 (.map (some bm)) (nv x) true).run Tryd.prog ((w.alloc o).drewN k) = .ok (.tuple #[.int .i64 (s.out.idxOf x : Int), .bool true]) ((w.alloc o).drewN k) := fun o k => hL _ (by show (w.alloc o).heap[bm]? = _; exact Below.heap_alloc w o bm lm)
  unfold nv at hL1 ⊢
  generalize s.out.idxOf x = z at *
  clear hS hin hL hM hown
  go_enter Tryd.func135, Tryd.ntmps135
  go_wp2
  go_quiet (fail)
  go_wp2
  go_ret
  exact ⟨rfl, below_drewN (HB.out _) _⟩
set_option maxRecDepth 100000 in
theorem turned_cell {w w' : World} {b : Nat} (h : w.mapTurned w' b) {g : Nat} (hg : g < w.heap.size) (hne : g ≠ b) : w'.heap[g]? = w.heap[g]? := h.grown.block g hg (fun e => hne (by injection e))
set_option maxRecDepth 100000 in
theorem PW.put_end {w w3 w4 : World} {base bw bp bm c n g3 c3 : Nat} {A : Option Addr} {s : Wk} {x : Nd} {D : DataW Unit} {row : Option Nat} (h : PW w base bw bp bm A c n s) (hb3 : Below 0 w w3) (hk : ∀ g, g < w.heap.size → g ≠ bm → w3.heap[g]? = w.heap[g]?)
    (hM : MapOf s.out D) (hx : x ∉ s.out) (hw : NdW x) (ho3 : w3.ownsMap Tryd.prog 86 (plainElem (H := Unit) Tryd.prog 3) bm (s.out.length + 1) (D.put (keyN x) (.lit (.int .i64 (s.out.length : Int)))))
    (hrow : rowP w bw = row) (ho : w4.ownsRow base 86 6 (.slice (some ⟨g3, 0, none⟩) (s.out.length + 1) c3) (s.out ++ [x]).length (nds (s.out ++ [x]))) (hg : w3.grownBy w4 row)
    (hr : (Value.slice (some ⟨g3, 0, none⟩) (s.out.length + 1) c3).ownBlock = row ∨ ∃ g, (Value.slice (some ⟨g3, 0, none⟩) (s.out.length + 1) c3).ownBlock = some g ∧ w.heap.size ≤ g) :
    PW (w4.setCell ⟨bw, 2, none⟩ (.slice (some ⟨g3, 0, none⟩) (s.out.length + 1) c3)) base bw bp bm A c n ⟨s.out ++ [x], s.done⟩ ∧ Fp bw bp bm w (w4.setCell ⟨bw, 2, none⟩ (.slice (some ⟨g3, 0, none⟩) (s.out.length + 1) c3)) := by
  have lw := h.lw
  have lp := h.lp
  have lm := h.lm
  have lb := h.lb
  have n1 := h.n1
  have n2 := h.n2
  have n3 := h.n3
  have hs3 := hb3.size
  have hrl : ∀ g, row = some g → base ≤ g := fun g e => (h.row g (hrow.trans e)).1
  have hb4 : ∀ g, g < base → g ≠ bm → w4.heap[g]? = w.heap[g]? := fun g h1 h2 => (hg.block g (by omega) (fun e => by have := hrl g e.symm; omega)).trans (hk g (by omega) h2)
  have hbw := hb4 bw lw n2
  have hbp : (w4.setCell ⟨bw, 2, none⟩ (.slice (some ⟨g3, 0, none⟩) (s.out.length + 1) c3)).heap[bp]? = w.heap[bp]? := (Below.heap_setCell _ _ _ _ (by show bp ≠ bw; omega)).trans (hb4 bp lp n3)
  have hbm : (w4.setCell ⟨bw, 2, none⟩ (.slice (some ⟨g3, 0, none⟩) (s.out.length + 1) c3)).heap[bm]? = w3.heap[bm]? := (Below.heap_setCell _ _ _ _ (by show bm ≠ bw; omega)).trans (hg.block bm (by omega) (fun e => by have := hrl bm e.symm; omega))
  obtain ⟨A2, c2, h2, _⟩ := h.out
  have hc2 := (World.cell?_of_block (a := ⟨bw, 2, none⟩) hbw).trans h2
  have hk2 := World.cell?_setCell_same w4 ⟨bw, 2, none⟩ (.slice (some ⟨g3, 0, none⟩) (s.out.length + 1) c3) hc2
  have hj : ∀ j v, j ≠ 2 → w.cell? ⟨bw, j, none⟩ = some v → (w4.setCell ⟨bw, 2, none⟩ (.slice (some ⟨g3, 0, none⟩) (s.out.length + 1) c3)).cell? ⟨bw, j, none⟩ = some v := fun j v hj hv => by
    rw [World.cell?_setCell_other w4 ⟨bw, 2, none⟩ ⟨bw, j, none⟩ _ (fun e2 => by have h9 := congrArg Addr.off e2; dsimp only at h9; omega)]
    exact (World.cell?_of_block (a := ⟨bw, j, none⟩) hbw).trans hv
  have hsz : w.heap.size ≤ (w4.setCell ⟨bw, 2, none⟩ (.slice (some ⟨g3, 0, none⟩) (s.out.length + 1) c3)).heap.size := by have := hg.size; simp; omega
  have hlen : (s.out ++ [x]).length = s.out.length + 1 := by simp
  refine ⟨⟨lw, lp, lm, n1, n2, n3, by omega, hj 0 _ (by decide) h.frm, hj 1 _ (by decide) h.pl, ⟨_, c3, by rw [hlen]; exact hk2, ?_⟩, ?_, hj 3 _ (by decide) h.mp, ⟨_, ?_, hM.put hw hx⟩, h.len, fun j hj => ?_, fun j hj => ?_⟩, ?_⟩
  · rw [hlen]
    have := ownsRow_setCell_below ho (a := ⟨bw, 2, none⟩) lw (.slice (some ⟨g3, 0, none⟩) (s.out.length + 1) c3)
    rw [hlen] at this
    exact this
  · rw [World.frozen?_setCell]
    exact (World.frozen?_of_block (a := ⟨bw, 2, none⟩) hbw).trans h.fout
  · rw [hlen]
    exact ownsMap_keep ho3 hbm
  · exact (World.cell?_of_block (a := ⟨bp, j, none⟩) hbp).trans (h.cells j hj)
  · exact (World.frozen?_of_block (a := ⟨bp, j, none⟩) hbp).trans (h.free j hj)
  · refine ⟨hg.os.trans hb3.os, hg.tape.trans hb3.tape, hg.output.trans hb3.output, hsz, fun g hg1 h5 h6 h7 h8 => ?_, ?_⟩
    · rw [hrow] at h8
      exact (Below.heap_setCell w4 _ _ g h5).trans ((hg.block g (by omega) h8).trans (hk g hg1 h7))
    · rw [hrow, rowP_of hk2]
      exact hr
set_option maxRecDepth 100000 in
set_option maxHeartbeats 4000000 in
set_option maxRecDepth 100000 in
theorem pAdd_new (x : Nd) (base bw bp bm c n : Nat) (A : Option Addr) (s : Wk) (w : World) (hS : PW w base bw bp bm A c n s) (hin : x ∉ s.out) (hw : NdW x) (hm : s.out.length ≤ 1000) :
    Calls Tryd.prog 135 #[.pointer (some ⟨bw, 0, none⟩), nv x] w fun e w' => e = .returned (.int .i64 (s.out.length : Int)) ∧ PW w' base bw bp bm A c n ⟨s.out ++ [x], s.done⟩ ∧ Fp bw bp bm w w' := by
  obtain ⟨D, hown, hM⟩ := hS.map
  obtain ⟨A2, c2, h2, hrow⟩ := hS.out
  have hm3 := hS.mp
  have lb := hS.lb
  have lw : bw < w.heap.size := Nat.lt_of_lt_of_le hS.lw hS.lb
  have lm : bm < w.heap.size := Nat.lt_of_lt_of_le hS.lm hS.lb
  have lp : bp < w.heap.size := Nat.lt_of_lt_of_le hS.lp hS.lb
  have hfo := hS.fout
  have HS := Lib.hid hS
  have hL0 := fun (o : Obj) => look_new (ownsMap_keep hown (Below.heap_alloc w o bm lm)) hM hw hin
  obtain ⟨z, hL1⟩ := hL0 (.cells #[.int .i64 x.op, .int .i64 x.i, .int .i64 x.e, .int .i64 x.g, .int .i64 x.x, .int .i64 x.y] 86)
  have HB : Hid (Below w.heap.size w (w.alloc (.cells #[.int .i64 x.op, .int .i64 x.i, .int .i64 x.e, .int .i64 x.g, .int .i64 x.x, .int .i64 x.y] 86))) := Lib.hid ((Below.refl _ w).alloc (Nat.le_refl _) _)
  have HBX := Lib.hid (Box.made w x 86)
  have HOWN := Lib.hid hown
  have HM := Lib.hid hM
  have HW := Lib.hid hw
  have HR := Lib.hid hrow
  have HI := Lib.hid hin
  unfold nv at hL1 ⊢
  clear hS hin hL0 hM hown hw hrow
  go_enter Tryd.func135, Tryd.ntmps135
  go_wp2
  go_quiet (fail)
  go_wp2
  have HB0 : Hid (Below w.heap.size w ((w.alloc (.cells #[.int .i64 x.op, .int .i64 x.i, .int .i64 x.e, .int .i64 x.g, .int .i64 x.x, .int .i64 x.y] 86)).drewN nq)) := Lib.hid (below_drewN HB.out _)
  have HBX0 : Hid (Box ((w.alloc (.cells #[.int .i64 x.op, .int .i64 x.i, .int .i64 x.e, .int .i64 x.g, .int .i64 x.x, .int .i64 x.y] 86)).drewN nq) w.heap.size x) := Lib.hid HBX.out
  have hsz0 : w.heap.size < ((w.alloc (.cells #[.int .i64 x.op, .int .i64 x.i, .int .i64 x.e, .int .i64 x.g, .int .i64 x.x, .int .i64 x.y] 86)).drewN nq).heap.size := by show w.heap.size < (w.alloc _).heap.size; simp
  clear hL1 HB HBX
  generalize (w.alloc (.cells #[.int .i64 x.op, .int .i64 x.i, .int .i64 x.e, .int .i64 x.g, .int .i64 x.x, .int .i64 x.y] 86)).drewN nq = w0 at *
  obtain ⟨w3, hrun, hown3, hturn⟩ := World.ownsMap.store (w := w0.drew) (ownsMap_keep HOWN.out (show w0.drew.heap[bm]? = w.heap[bm]? from HB0.out.block bm lm)) nodeLaw Tryd.underlying126 (by unfold maxLen; omega) (key_nd HW.out) (plainElem_int (H := Unit) Tryd.underlying3 (show (Lit.int .i64 (s.out.length : Int)).wf = true from WalkArith.wf_i64 (by omega)))
  have hc3 := (HB0.out.cell (p := ⟨bw, 3, none⟩) lw).trans hm3
  obtain ⟨b0, b1, b2, b3, b4, b5, bf⟩ := HBX0.out
  clear bf
  unfold nv at hrun
  have HBK : Hid (∀ g, g < w.heap.size → g ≠ bm → w3.heap[g]? = w.heap[g]?) := Lib.hid (fun g h1 h2 => (turned_cell hturn (show g < w0.heap.size by omega) h2).trans (HB0.out.block g h1))
  have HG := Lib.hid hturn.grown
  have HO3 := Lib.hid hown3
  clear hown3 hturn
  go_region
  clear hrun b0 b1 b2 b3 b4 b5 hc3
  have hsz3 : w.heap.size < w3.heap.size := Nat.lt_of_lt_of_le hsz0 HG.out.size
  obtain ⟨b0, b1, b2, b3, b4, b5, bf⟩ := HBX0.out.keep (W' := w3) (HG.out.block w.heap.size hsz0 (fun e => by injection e; omega))
  clear bf
  have hc2 : w3.cell? ⟨bw, 2, none⟩ = some (.slice A2 s.out.length c2) := (World.cell?_of_block (a := ⟨bw, 2, none⟩) (HBK.out bw lw HS.out.n2)).trans h2
  have hf2 : w3.frozen? ⟨bw, 2, none⟩ = false := (World.frozen?_of_block (a := ⟨bw, 2, none⟩) (HBK.out bw lw HS.out.n2)).trans hfo
  have hrowlt : Hid (∀ g, (Value.slice A2 s.out.length c2).ownBlock = some g → base ≤ g ∧ g < w.heap.size) := Lib.hid (fun g hg => HR.out.lt g hg)
  have hbmr : Hid (∀ g, (Value.slice A2 s.out.length c2).ownBlock = some g → g ≠ bm) := Lib.hid (fun g hg e => by have := (hrowlt.out g hg).1; have := HS.out.lm; omega)
  have hO0 : Hid (w3.ownsRow base 86 6 (.slice A2 s.out.length c2) s.out.length (nds s.out)) := Lib.hid (own_keep1K HR.out (fun g hg => HBK.out g (hrowlt.out g hg).2 (hbmr.out g hg)))
  have hO1 : Hid (∀ o, (w3.drew.alloc o).ownsRow base 86 6 (.slice A2 s.out.length c2) s.out.length (nds s.out)) := Lib.hid (fun o => own_keep1K hO0.out (fun g hg => Below.heap_alloc w3.drew o g (by show g < w3.heap.size; have := (hrowlt.out g hg).2; omega)))
  have hO2 : Hid (∀ o, base ≤ (w3.drew.alloc o).heap.size) := Lib.hid (fun o => by have : (w3.drew.alloc o).heap.size = w3.heap.size + 1 := by simp
                                                                                   omega)
  have hO3 : Hid (∀ j u, (ndC x)[j]? = some u → (w3.drew.alloc (.cells #[.int .i64 x.op, .int .i64 x.i, .int .i64 x.e, .int .i64 x.g, .int .i64 x.x, .int .i64 x.y] 86)).cell? ⟨w3.heap.size, j, none⟩ = some u) := Lib.hid (fun j u hj => by
    have hh := heap_alloc_new w3.drew (.cells #[.int .i64 x.op, .int .i64 x.i, .int .i64 x.e, .int .i64 x.g, .int .i64 x.x, .int .i64 x.y] 86)
    have := Lib.cell_of_heap hh j
    rw [show (⟨w3.heap.size, j, none⟩ : Addr) = ⟨w3.drew.heap.size, j, none⟩ from rfl, this, ← hj]
    simp [ndC])
  have HNE : Hid (some bw ≠ (Value.slice A2 s.out.length c2).ownBlock) := Lib.hid (fun e => by have := (hrowlt.out bw e.symm).1; have := HS.out.lw; omega)
  have HWW : Hid (∀ o w4, (w3.drew.alloc o).grownBy w4 (Value.slice A2 s.out.length c2).ownBlock → w3.grownBy w4 (Value.slice A2 s.out.length c2).ownBlock ∧ w4.cell? ⟨bw, 2, none⟩ = some (.slice A2 s.out.length c2) ∧ w4.frozen? ⟨bw, 2, none⟩ = false) := Lib.hid (fun o w4 hg => by
    have hb : Below w3.heap.size w3 (w3.drew.alloc o) := ((Below.refl _ w3).drew).alloc (Nat.le_refl _) o
    have h4 : w3.grownBy w4 (Value.slice A2 s.out.length c2).ownBlock := ⟨hg.os.trans hb.os, hg.tape.trans hb.tape, hg.output.trans hb.output, Nat.le_trans hb.size hg.size, fun g hg1 hg2 => (hg.block g (Nat.lt_of_lt_of_le hg1 hb.size) hg2).trans (hb.block g hg1)⟩
    exact ⟨h4, (h4.cell_far ⟨bw, 2, none⟩ (by show bw < w3.heap.size; omega) HNE.out).trans hc2, (h4.frozen_far ⟨bw, 2, none⟩ (by show bw < w3.heap.size; omega) HNE.out).trans hf2⟩)
  have e0 := World.new_ne w3 _ hc2
  have ebw : bw < w3.heap.size := by omega
  have ebn : bw ≠ w3.heap.size := by omega
  go_wp2
  go_region_law
    ((refine step_appN x _ (by rfl) _ _ (by rfl) base _ _ (by rfl) (hO1.out _) (by rfl) hO3.out hm (hO2.out _) ?_; intro g3 c3 w4 ho3 hg3 hr3; obtain ⟨hg4, k0, k1⟩ := HWW.out _ _ hg3; have HH := Lib.hid (And.intro ho3 (And.intro hg4 (row_new (n := s.out.length + 1) (c := c3) hr3 (show w.heap.size ≤ (w3.drew.alloc _).heap.size by simp; omega)))); clear ho3 hg3 hg4 hr3))
  all_goals clear b0 b1 b2 b3 b4 b5 hc2 hf2 e0 ebw ebn
  all_goals go_wp2
  all_goals go_ret
  all_goals exact ⟨ret_i64 (by first | rfl | (simp; done) | omega), HS.out.put_end ⟨HG.out.os.trans HB0.out.os, HG.out.tape.trans HB0.out.tape, HG.out.output.trans HB0.out.output, Nat.le_of_lt hsz3, fun k hk => absurd hk (by omega)⟩ HBK.out HM.out HI.out HW.out HO3.out (rowP_of h2) HH.out.1 HH.out.2.1 HH.out.2.2⟩
set_option maxRecDepth 100000 in
theorem pAdd_any (x : Nd) (base bw bp bm c n : Nat) (A : Option Addr) (s : Wk) (w : World) (hS : PW w base bw bp bm A c n s) (hw : NdW x) (hm : s.out.length ≤ 1000) :
    Calls Tryd.prog 135 #[.pointer (some ⟨bw, 0, none⟩), nv x] w fun e w' => e = .returned (.int .i64 ((putNd s.out x).1 : Nat)) ∧ PW w' base bw bp bm A c n ⟨(putNd s.out x).2, s.done⟩ ∧ Fp bw bp bm w w' := by
  by_cases hin : x ∈ s.out
  · refine (pAdd_old x base bw bp bm c n A s w hS hin).mono ?_
    rintro e w' ⟨rfl, hb⟩
    have e1 : putNd s.out x = (s.out.idxOf x, s.out) := by unfold putNd; rw [if_pos hin]
    rw [e1]
    exact ⟨rfl, hS.below hb, Fp.of_below hb (Nat.lt_of_lt_of_le hS.lw hS.lb)⟩
  · refine (pAdd_new x base bw bp bm c n A s w hS hin hw hm).mono ?_
    rintro e w' ⟨rfl, h1, h2⟩
    have e1 : putNd s.out x = (s.out.length, s.out ++ [x]) := by unfold putNd; rw [if_neg hin]
    rw [e1]
    exact ⟨rfl, h1, h2⟩
end Go.Proofs.YtkhalapppkhopaaDoor
/- Layer 5: the program's renumber with the walk's own finish. -/
namespace Go.Proofs.YtkhalapppkhopaaDoor
open Go.RowKit Go.Proofs.Ws Go.Maps
set_option maxRecDepth 100000 in
set_option maxHeartbeats 4000000 in
theorem pFin_old (base bw bp bm c n i k : Nat) (A : Option Addr) (s : Wk) (w : World) (hi : i < n) (hkb : k ≤ 1000) (hS : PW w base bw bp bm A c n s) (hd : s.done.getD i none = some k) :
    Calls Tryd.prog 131 #[.pointer (some ⟨bw, 0, none⟩), .int .i64 i] w fun e w' => e = .returned (.int .i64 (k : Int)) ∧ w = w' := by
  have h3 := hS.pl
  have hc := hS.cells i hi
  rw [hd] at hc
  replace hc : w.cell? ⟨bp, i, none⟩ = some (.int .i64 ((k + 1 : Nat) : Int)) := hc
  have hk : (((k + 1 : Nat) : Int) == 0) = false := by simp; omega
  have hk2 : wrap64 ((k : Int) + 1 - 1) = (k : Int) := by rw [Int.add_sub_cancel]; unfold wrap64; omega
  clear hS hd
  go_enter Tryd.func131, Tryd.ntmps131
  go_wp2
  go_ret
  exact ⟨rfl, rfl⟩
theorem nodeInfo : (Tryd.prog.info? 86).map (fun i => i.size) = some 6 := by kernel_rfl
set_option maxRecDepth 100000 in
set_option maxHeartbeats 4000000 in
theorem pRen_0 (B base bw bp bm c n : Nat) (A : Option Addr) (f : List Nd) (s : Wk) (x : Nd) (w : World) (hS : PW w base bw bp bm A c n s) (hR : Reads w B 6 A n (nds f))
    (hB3 : B ≤ base) (ho : shO x.op = 0) :
    Calls Tryd.prog 129 #[nv x, .func (Fn.func 131) #[.pointer (some ⟨bw, 0, none⟩)] #[]] w fun e w' =>
      e = .returned (nv x) ∧ PW w' base bw bp bm A c n s ∧ Fp bw bp bm w w' := by
  have HS := Lib.hid hS
  have HR := Lib.hid hR
  have hB5 : B ≤ w.heap.size := Nat.le_trans hB3 hS.lb
  have HSH := Lib.hid (fun W => pShape_any x.op W)
  unfold shV shC at HSH
  rw [ho] at HSH
  unfold nv
  clear hS hR
  generalize shN x.op = q1 at *
  generalize shE x.op = q2 at *
  generalize shG x.op = q3 at *
  generalize known x.op = q4 at *
  clear ho
  go_enter Tryd.func129, Tryd.ntmps129
  go_wp2_with fail
  refine (HSH.out _).mono ?_
  rintro e w1 ⟨rfl, hb1⟩
  have HQ0 := Lib.hid (PQ.start HS.out HR.out hB5 x q1 q2 q3 0 hb1)
  clear hb1
  have hq3 := HQ0.out.cells
  obtain ⟨b0, b1, b2, b3, b4, b5, bf⟩ := HQ0.out.bx
  clear bf
  obtain ⟨z0, z1, z2, z3, z4, z5, zf⟩ := HQ0.out.zero
  have zf0 := zf 0
  have zf1 := zf 1
  have zf2 := zf 2
  have zf3 := zf 3
  have zf4 := zf 4
  have zf5 := zf 5
  clear zf
  go_wp2_with fail
  have HD := Lib.hid (HQ0.out.done (Nat.le_succ _) x)
  have HK := Lib.hid (putBox_block HQ0.out.rs x)
  refine bodyPost_ret (results_cell_row rfl _ _ (w.heap.size + 1) _ _ (0, 0) _ rfl HK.out Tryd.underlying86 rfl nodeInfo) rfl ?_
  exact ⟨rfl, HD.out⟩
set_option maxRecDepth 100000 in
set_option maxHeartbeats 4000000 in
theorem pRen_1 (B base bw bp bm c n : Nat) (A : Option Addr) (f : List Nd) (s s1 : Wk) (k1 : Nat) (x : Nd) (w : World) (hS : PW w base bw bp bm A c n s) (hR : Reads w B 6 A n (nds f))
    (hB1 : B ≤ bw) (hB2 : B ≤ bp) (hB4 : B ≤ bm) (hB3 : B ≤ base) (ho : shO x.op = 1)
    (HX : ∀ W, PW W base bw bp bm A c n s → Reads W B 6 A n (nds f) → Calls Tryd.prog 131 #[.pointer (some ⟨bw, 0, none⟩), .int .i64 x.x] W fun e W' => e = .returned (.int .i64 (k1 : Int)) ∧ PW W' base bw bp bm A c n s1 ∧ Fp bw bp bm W W') :
    Calls Tryd.prog 129 #[nv x, .func (Fn.func 131) #[.pointer (some ⟨bw, 0, none⟩)] #[]] w fun e w' =>
      e = .returned (nv { x with x := (k1 : Int) }) ∧ PW w' base bw bp bm A c n s1 ∧ Fp bw bp bm w w' := by
  have HS := Lib.hid hS
  have HR := Lib.hid hR
  have hB5 : B ≤ w.heap.size := Nat.le_trans hB3 hS.lb
  have HSH := Lib.hid (fun W => pShape_any x.op W)
  unfold shV shC at HSH
  rw [ho] at HSH
  replace HX := Lib.hid HX
  unfold nv
  clear hS hR
  generalize shN x.op = q1 at *
  generalize shE x.op = q2 at *
  generalize shG x.op = q3 at *
  generalize known x.op = q4 at *
  clear ho
  go_enter Tryd.func129, Tryd.ntmps129
  go_wp2_with fail
  refine (HSH.out _).mono ?_
  rintro e w1 ⟨rfl, hb1⟩
  have HQ0 := Lib.hid (PQ.start HS.out HR.out hB5 x q1 q2 q3 1 hb1)
  clear hb1
  have hq3 := HQ0.out.cells
  obtain ⟨b0, b1, b2, b3, b4, b5, bf⟩ := HQ0.out.bx
  clear bf
  go_wp2_with fail
  clear hq3 b0 b1 b2 b3 b4 b5
  generalize w1.alloc (.cells #[.int .i64 q1, .int .i64 q2, .int .i64 q3, .int .i64 1] 110) = w2 at *
  generalize w1.heap.size = g2 at *
  refine (HX.out _ HQ0.out.st HQ0.out.rd).mono ?_
  rintro e w3 ⟨rfl, hS1, hF1⟩
  have HQ1 := Lib.hid (HQ0.out.step hS1 hF1 hB1 hB2 hB4 hB3)
  clear hS1 hF1
  have HQ2 := Lib.hid (HQ1.out.set (HQ1.out.bx.setX (k1 : Int)) hB5)
  obtain ⟨b0, b1, b2, b3, b4, b5, bf⟩ := HQ1.out.bx
  have bf4 := bf 4
  have hq3 := HQ1.out.cells
  have hn02 := HQ1.out.n02
  clear bf
  obtain ⟨z0, z1, z2, z3, z4, z5, zf⟩ := HQ1.out.zero
  have zf0 := zf 0
  have zf1 := zf 1
  have zf2 := zf 2
  have zf3 := zf 3
  have zf4 := zf 4
  have zf5 := zf 5
  clear zf
  go_wp2_with fail
  have HD := Lib.hid (HQ2.out.done (Nat.le_succ _) { x with x := (k1 : Int) })
  have HK := Lib.hid (putBox_block HQ2.out.rs { x with x := (k1 : Int) })
  refine bodyPost_ret (results_cell_row rfl _ _ (w.heap.size + 1) _ _ (0, 0) _ rfl HK.out Tryd.underlying86 rfl nodeInfo) rfl ?_
  exact ⟨rfl, HD.out⟩
set_option maxRecDepth 100000 in
set_option maxHeartbeats 4000000 in
theorem pRen_2 (B base bw bp bm c n : Nat) (A : Option Addr) (f : List Nd) (s s1 s2 : Wk) (k1 k2 : Nat) (x : Nd) (w : World) (hS : PW w base bw bp bm A c n s) (hR : Reads w B 6 A n (nds f))
    (hB1 : B ≤ bw) (hB2 : B ≤ bp) (hB4 : B ≤ bm) (hB3 : B ≤ base) (ho : shO x.op = 2)
    (HX : ∀ W, PW W base bw bp bm A c n s → Reads W B 6 A n (nds f) → Calls Tryd.prog 131 #[.pointer (some ⟨bw, 0, none⟩), .int .i64 x.x] W fun e W' => e = .returned (.int .i64 (k1 : Int)) ∧ PW W' base bw bp bm A c n s1 ∧ Fp bw bp bm W W')
    (HY : ∀ W, PW W base bw bp bm A c n s1 → Reads W B 6 A n (nds f) → Calls Tryd.prog 131 #[.pointer (some ⟨bw, 0, none⟩), .int .i64 x.y] W fun e W' => e = .returned (.int .i64 (k2 : Int)) ∧ PW W' base bw bp bm A c n s2 ∧ Fp bw bp bm W W') :
    Calls Tryd.prog 129 #[nv x, .func (Fn.func 131) #[.pointer (some ⟨bw, 0, none⟩)] #[]] w fun e w' =>
      e = .returned (nv { x with x := (k1 : Int), y := (k2 : Int) }) ∧ PW w' base bw bp bm A c n s2 ∧ Fp bw bp bm w w' := by
  have HS := Lib.hid hS
  have HR := Lib.hid hR
  have hB5 : B ≤ w.heap.size := Nat.le_trans hB3 hS.lb
  have HSH := Lib.hid (fun W => pShape_any x.op W)
  unfold shV shC at HSH
  rw [ho] at HSH
  replace HX := Lib.hid HX
  replace HY := Lib.hid HY
  unfold nv
  clear hS hR
  generalize shN x.op = q1 at *
  generalize shE x.op = q2 at *
  generalize shG x.op = q3 at *
  generalize known x.op = q4 at *
  clear ho
  go_enter Tryd.func129, Tryd.ntmps129
  go_wp2_with fail
  refine (HSH.out _).mono ?_
  rintro e w1 ⟨rfl, hb1⟩
  have HQ0 := Lib.hid (PQ.start HS.out HR.out hB5 x q1 q2 q3 2 hb1)
  clear hb1
  have hq3 := HQ0.out.cells
  obtain ⟨b0, b1, b2, b3, b4, b5, bf⟩ := HQ0.out.bx
  clear bf
  go_wp2_with fail
  clear hq3 b0 b1 b2 b3 b4 b5
  generalize w1.alloc (.cells #[.int .i64 q1, .int .i64 q2, .int .i64 q3, .int .i64 2] 110) = w2 at *
  generalize w1.heap.size = g2 at *
  refine (HX.out _ HQ0.out.st HQ0.out.rd).mono ?_
  rintro e w3 ⟨rfl, hS1, hF1⟩
  have HQ1 := Lib.hid (HQ0.out.step hS1 hF1 hB1 hB2 hB4 hB3)
  clear hS1 hF1
  have HQ2 := Lib.hid (HQ1.out.set (HQ1.out.bx.setX (k1 : Int)) hB5)
  obtain ⟨b0, b1, b2, b3, b4, b5, bf⟩ := HQ1.out.bx
  have bf4 := bf 4
  have hq3 := HQ1.out.cells
  have hn02 := HQ1.out.n02
  clear bf
  go_wp2_with fail
  clear hq3 bf4 b0 b1 b2 b3 b4 b5
  generalize w3.setCell ⟨w.heap.size, 4, none⟩ (.int .i64 (k1 : Int)) = w4 at *
  refine (HY.out _ HQ2.out.st HQ2.out.rd).mono ?_
  rintro e w5 ⟨rfl, hS1, hF1⟩
  have HQ3 := Lib.hid (HQ2.out.step hS1 hF1 hB1 hB2 hB4 hB3)
  clear hS1 hF1
  have HQ4 := Lib.hid (HQ3.out.set (HQ3.out.bx.setY (k2 : Int)) hB5)
  obtain ⟨b0, b1, b2, b3, b4, b5, bf⟩ := HQ3.out.bx
  have bf5 := bf 5
  clear bf
  obtain ⟨z0, z1, z2, z3, z4, z5, zf⟩ := HQ3.out.zero
  have zf0 := zf 0
  have zf1 := zf 1
  have zf2 := zf 2
  have zf3 := zf 3
  have zf4 := zf 4
  have zf5 := zf 5
  clear zf
  go_wp2_with fail
  have HD := Lib.hid (HQ4.out.done (Nat.le_succ _) { x with x := (k1 : Int), y := (k2 : Int) })
  have HK := Lib.hid (putBox_block HQ4.out.rs { x with x := (k1 : Int), y := (k2 : Int) })
  refine bodyPost_ret (results_cell_row rfl _ _ (w.heap.size + 1) _ _ (0, 0) _ rfl HK.out Tryd.underlying86 rfl nodeInfo) rfl ?_
  exact ⟨rfl, HD.out⟩
end Go.Proofs.YtkhalapppkhopaaDoor
/- Layer 5: the reference's finish. -/
namespace Go.Proofs.YtkhalapppkhopaaDoor
open Go.RowKit Go.Proofs.Ws
end Go.Proofs.YtkhalapppkhopaaDoor
