/- Layer 17: the set of a node by the reference. -/
import Derived.Test.YtjpmhbnikoggaaaGreatDoorCe
import Derived.Test.YtjpmhbnikoggaaaGreatDoorDy
import Derived.Test.YtjpmhbnikoggaaaGreatDoorNIi
import Derived.Test.YtjpmhbnikoggaaaGreatDoorNKa
namespace Go.Proofs.YtjpmhbnikoggaaaGreatDoor
open Go.RowKit Go.Proofs.Ws
set_option maxRecDepth 100000
theorem allV_natC {N : Nat} (h : N ≤ 64) : allV (N : Int) = 2 ^ N - 1 := by
  unfold allV
  rw [if_pos ⟨by omega, by omega⟩]
  rfl
theorem grp_sh {m : Mo} {N : Nat} {g : Int} (hz : chkM m = 0) (ok : OkM N m) (hg : 1 ≤ g ∧ g < 2 ^ m.rel.length) : Sh N (groupL m g) ∧ Sh N (meetL m g) := by
  have hG : isG m g = true := by
    unfold isG
    rw [decide_eq_true hz, decide_eq_true hg.1, decide_eq_true hg.2]
    rfl
  have hNn : m.n.toNat = N := by rw [ok.num]; rfl
  unfold groupL meetL
  rw [if_pos hG, if_pos hG, hNn]
  have hgn : g.toNat < 2 ^ m.rel.length := by
    have h2 := hg.2
    have e : ((2 : Int) ^ m.rel.length) = ((2 ^ m.rel.length : Nat) : Int) := by simp
    rw [e] at h2
    omega
  have hbit : ∃ j, j < m.rel.length ∧ g.toNat.testBit j = true := by
    apply Classical.byContradiction
    intro hno
    have h0 : g.toNat = 0 := Nat.eq_of_testBit_eq fun j => by
      rw [Nat.zero_testBit]
      cases hb : g.toNat.testBit j with
      | false => rfl
      | true =>
        exfalso
        refine hno ⟨j, ?_, hb⟩
        apply Classical.byContradiction
        intro hj
        rw [Nat.testBit_lt_two_pow (Nat.lt_of_lt_of_le hgn (Nat.pow_le_pow_right (by decide) (by omega)))] at hb
        cases hb
    have := hg.1
    omega
  refine ⟨⟨by simp, fun x hx => ?_⟩, ⟨by simp, fun x hx => ?_⟩⟩
  · obtain ⟨w, _, rfl⟩ := List.mem_map.1 hx
    exact gorK_lt ok.rel _
  · obtain ⟨w, _, rfl⟩ := List.mem_map.1 hx
    exact gandK_lt ok.rel _ hbit
theorem sh_rel {R : List Nat} {N : Nat} (hn : N ≤ 64) (h : Sh N R) : relErr R.length R = 0 := by rw [h.1]; exact sh_errQ hn h
theorem wh_sh {R : List Nat} {N : Nat} (hn : N ≤ 64) (h : Sh N R) (p : Nat → Bool) : whV p R = whU p R N := by
  unfold whV
  rw [if_pos (sh_rel hn h), h.1]
theorem sh_and {R : List Nat} {N : Nat} (h : Sh N R) (x : Nat) : Sh N (R.map (· &&& x)) := ⟨by rw [List.length_map]; exact h.1, fun y hy => by
  obtain ⟨r, hr, rfl⟩ := List.mem_map.1 hy
  exact Nat.lt_of_le_of_lt Nat.and_le_left (h.2 r hr)⟩
theorem dia_dual {R : List Nat} {N x : Nat} (hn : N ≤ 64) (h : Sh N R) (hx : x < 18446744073709551616) : whV (pDia x) R = anN (allV N) (whV (pBox (anN (allV N) x)) R) := by
  have h0 : relErr N R = 0 := sh_errQ hn h
  have hl : R.length = N := h.1
  have hall : allV N < 18446744073709551616 := allV_lt _
  have ha : anN (allV N) x < 18446744073709551616 := anN_lt _ _ hall
  have hb : whV (pBox (anN (allV N) x)) R < 18446744073709551616 := by rw [wh_sh hn h]; exact whU_lt _ _ _ hn
  apply Nat.eq_of_testBit_eq
  intro w
  rw [Bool.eq_iff_iff, anN_bit _ _ _ hall hb, allV_bit N w hn, decide_eq_true_eq]
  rw [show (whV (pDia x) R).testBit w = (dia R x).testBit w from rfl, dia_iff h0 hl]
  rw [← Bool.not_eq_true, show (whV (pBox (anN (allV N) x)) R).testBit w = (box R (anN (allV N) x)).testBit w from rfl, box_bit h0 hl _ _ ha]
  constructor
  · rintro ⟨v, h1, h2⟩
    have hin := bit_in h h1
    refine ⟨hin.1, fun hc => ?_⟩
    have h3 := (anN_bit _ _ _ hall hx).1 (hc.2 v h1)
    rw [h2] at h3
    cases h3.2
  · rintro ⟨h1, h2⟩
    apply Classical.byContradiction
    intro hno
    refine h2 ⟨h1, fun v hv => (anN_bit _ _ _ hall hx).2 ⟨?_, ?_⟩⟩
    · rw [allV_bit N v hn]; exact decide_eq_true (bit_in h hv).2
    · cases e : x.testBit v with
      | false => rfl
      | true => exact absurd ⟨v, hv, e⟩ hno
/-- common knowledge by steps back is common knowledge by paths -/
theorem com_paths {m : Mo} {N : Nat} {g : Int} (hz : chkM m = 0) (ok : OkM N m) (hg : 1 ≤ g ∧ g < 2 ^ m.rel.length) (x y : Nat) (hy : y < 18446744073709551616) :
    comV m g x y = whU (pBox y) ((List.range N).map (fun k => pthN ((groupL m g).map (· &&& x)) N (((groupL m g).map (· &&& x)).getD k 0) N)) N := by
  have hs := sh_and (grp_sh hz ok hg).1 x
  unfold comV
  have hn : allV m.n = allV N := by rw [ok.num]
  rw [hn]
  exact com_bits (sh_errQ ok.le hs) hs.1 y hy
/-- what is known of the relations of a group -/
def vGrp (G : List Nat) (_i : Nat) (v : Value) (W : World) : Prop := ∃ A c, v = .slice A G.length c ∧ Reads W W.heap.size 1 A G.length (us G)
theorem vGrp_up {G : List Nat} : ∀ i v W W', vGrp G i v W → Below W.heap.size W W' → vGrp G i v W' := fun _ _ _ _ ⟨A, c, e, h⟩ hb => ⟨A, c, e, (h.below hb).more hb.size⟩
section
variable (m : Mo) (v : Value) (w : World) (hM : MoR w w.heap.size v m) (hz : chkM m = 0) (i e g nx ny : Int) (x y : Nat) (hx : x < 18446744073709551616) (hy : y < 18446744073709551616)
include hM hz hx hy
set_option maxHeartbeats 8000000 in
theorem rOne1_any : Calls Tryz.prog 75 #[v, .agg #[.int .i64 1, .int .i64 i, .int .i64 e, .int .i64 g, .int .i64 nx, .int .i64 ny], .int .u64 (x : Int), .int .u64 (y : Int)] w fun e' w' => e' = .returned (.int .u64 ((setN m ⟨1, i, e, g, nx, ny⟩ x y : Nat) : Int)) ∧ Below w.heap.size w w' := by
  obtain ⟨A1, c1, A2, c2, rfl, hv, hr⟩ := hM.ex
  have ok0 := chkM_ok hz
  obtain ⟨N, hN⟩ : ∃ N : Nat, m.n = (N : Int) := ⟨m.n.toNat, ok0.num⟩
  have ok : OkM N m := by have h := ok0; rw [hN] at h; simpa using h
  clear ok0
  have hle := ok.le
  have hall : allV m.n = 2 ^ N - 1 := by rw [hN]; exact allV_natC hle
  have HA := Lib.hid (fun W => rAll_any N W hle)
  have HB0 : Hid (Below w.heap.size w ((w.alloc (.cells #[.int .i64 (N : Int), .slice A1 m.val.length c1, .slice A2 m.rel.length c2] 25)).alloc (.cells #[.int .i64 1, .int .i64 i, .int .i64 e, .int .i64 g, .int .i64 nx, .int .i64 ny] 79))) := Lib.hid (((Below.refl _ w).alloc (Nat.le_refl _) _).alloc (by simp) _)
  have HU : Hid (∀ W, Below (w.heap.size + 2) ((w.alloc (.cells #[.int .i64 (N : Int), .slice A1 m.val.length c1, .slice A2 m.rel.length c2] 25)).alloc (.cells #[.int .i64 1, .int .i64 i, .int .i64 e, .int .i64 g, .int .i64 nx, .int .i64 ny] 79)) W → Below w.heap.size w W ∧ (W.cell? ⟨w.heap.size, 0, none⟩ = some (.int .i64 (N : Int)) ∧ W.cell? ⟨w.heap.size, 1, none⟩ = some (.slice A1 m.val.length c1) ∧ W.cell? ⟨w.heap.size, 2, none⟩ = some (.slice A2 m.rel.length c2)) ∧ W.cell? ⟨w.heap.size + 1, 0, none⟩ = some (.int .i64 1) ∧ W.cell? ⟨w.heap.size + 1, 1, none⟩ = some (.int .i64 i) ∧ W.cell? ⟨w.heap.size + 1, 3, none⟩ = some (.int .i64 g)) := Lib.hid (fun W hb => by
    have kb := (hb.block w.heap.size (by omega)).trans ((Below.heap_alloc (w.alloc (.cells #[.int .i64 (N : Int), .slice A1 m.val.length c1, .slice A2 m.rel.length c2] 25)) (.cells #[.int .i64 1, .int .i64 i, .int .i64 e, .int .i64 g, .int .i64 nx, .int .i64 ny] 79) w.heap.size (by simp)).trans (heap_alloc_new w (.cells #[.int .i64 (N : Int), .slice A1 m.val.length c1, .slice A2 m.rel.length c2] 25)))
    have kd0 := heap_alloc_new (w.alloc (.cells #[.int .i64 (N : Int), .slice A1 m.val.length c1, .slice A2 m.rel.length c2] 25)) (.cells #[.int .i64 1, .int .i64 i, .int .i64 e, .int .i64 g, .int .i64 nx, .int .i64 ny] 79)
    rw [show (w.alloc (.cells #[.int .i64 (N : Int), .slice A1 m.val.length c1, .slice A2 m.rel.length c2] 25)).heap.size = w.heap.size + 1 by simp] at kd0
    have kd := (hb.block (w.heap.size + 1) (by omega)).trans kd0
    exact ⟨HB0.out.trans (hb.mono (by omega)), ⟨(Lib.cell_of_heap kb 0).trans rfl, (Lib.cell_of_heap kb 1).trans rfl, (Lib.cell_of_heap kb 2).trans rfl⟩, (Lib.cell_of_heap kd 0).trans rfl, (Lib.cell_of_heap kd 1).trans rfl, (Lib.cell_of_heap kd 3).trans rfl⟩)
  have HZ0 : Hid (Below (w.heap.size + 2) ((w.alloc (.cells #[.int .i64 (N : Int), .slice A1 m.val.length c1, .slice A2 m.rel.length c2] 25)).alloc (.cells #[.int .i64 1, .int .i64 i, .int .i64 e, .int .i64 g, .int .i64 nx, .int .i64 ny] 79)) ((w.alloc (.cells #[.int .i64 (N : Int), .slice A1 m.val.length c1, .slice A2 m.rel.length c2] 25)).alloc (.cells #[.int .i64 1, .int .i64 i, .int .i64 e, .int .i64 g, .int .i64 nx, .int .i64 ny] 79))) := Lib.hid (Below.refl _ _)
  have HSZ : Hid (((w.alloc (.cells #[.int .i64 (N : Int), .slice A1 m.val.length c1, .slice A2 m.rel.length c2] 25)).alloc (.cells #[.int .i64 1, .int .i64 i, .int .i64 e, .int .i64 g, .int .i64 nx, .int .i64 ny] 79)).heap.size = w.heap.size + 2) := Lib.hid (by simp)
  obtain ⟨w2, hW2⟩ : ∃ W, (w.alloc (.cells #[.int .i64 (N : Int), .slice A1 m.val.length c1, .slice A2 m.rel.length c2] 25)).alloc (.cells #[.int .i64 1, .int .i64 i, .int .i64 e, .int .i64 g, .int .i64 nx, .int .i64 ny] 79) = W := ⟨_, rfl⟩
  rw [hW2] at HB0 HU HZ0 HSZ
  have HW2 := Lib.hid hW2
  clear hW2
  have HV : Hid (setN m ⟨1, i, e, g, nx, ny⟩ x y = booN 1 x y (2 ^ N - 1)) := Lib.hid (by unfold setN booN; rw [hall]; rfl)
  rw [HV.out]
  have HBo := Lib.hid (fun W => rBoolean_any 1 x y (2 ^ N - 1) W (by decide) hx hy (pow64 hle (by have := Nat.two_pow_pos N; omega)))
  generalize (2 ^ N - 1 : Nat) = al at *
  clear hM hv hr hx hy ok hall hz hle
  rw [hN]
  go_enter Tryz.func75, Tryz.ntmps75
  go_wp2_with fail
  refine (HA.out _).mono ?_
  rintro e' w' ⟨rfl, rfl⟩
  rw [HW2.out]
  clear HW2
  obtain ⟨hB2, ⟨b0, b1, b2⟩, d0, d1, d3⟩ := HU.out _ HZ0.out
  have HB2 := Lib.hid hB2
  clear hB2
  go_wp2_with fail
  refine (HBo.out _).mono ?_
  rintro e' w' ⟨rfl, rfl⟩
  go_wp2
  go_ret
  exact ⟨rfl, HB2.out⟩
set_option maxHeartbeats 8000000 in
theorem rOne2_any : Calls Tryz.prog 75 #[v, .agg #[.int .i64 2, .int .i64 i, .int .i64 e, .int .i64 g, .int .i64 nx, .int .i64 ny], .int .u64 (x : Int), .int .u64 (y : Int)] w fun e' w' => e' = .returned (.int .u64 ((setN m ⟨2, i, e, g, nx, ny⟩ x y : Nat) : Int)) ∧ Below w.heap.size w w' := by
  obtain ⟨A1, c1, A2, c2, rfl, hv, hr⟩ := hM.ex
  have ok0 := chkM_ok hz
  obtain ⟨N, hN⟩ : ∃ N : Nat, m.n = (N : Int) := ⟨m.n.toNat, ok0.num⟩
  have ok : OkM N m := by have h := ok0; rw [hN] at h; simpa using h
  clear ok0
  have hle := ok.le
  have hall : allV m.n = 2 ^ N - 1 := by rw [hN]; exact allV_natC hle
  have HA := Lib.hid (fun W => rAll_any N W hle)
  have HB0 : Hid (Below w.heap.size w ((w.alloc (.cells #[.int .i64 (N : Int), .slice A1 m.val.length c1, .slice A2 m.rel.length c2] 25)).alloc (.cells #[.int .i64 2, .int .i64 i, .int .i64 e, .int .i64 g, .int .i64 nx, .int .i64 ny] 79))) := Lib.hid (((Below.refl _ w).alloc (Nat.le_refl _) _).alloc (by simp) _)
  have HU : Hid (∀ W, Below (w.heap.size + 2) ((w.alloc (.cells #[.int .i64 (N : Int), .slice A1 m.val.length c1, .slice A2 m.rel.length c2] 25)).alloc (.cells #[.int .i64 2, .int .i64 i, .int .i64 e, .int .i64 g, .int .i64 nx, .int .i64 ny] 79)) W → Below w.heap.size w W ∧ (W.cell? ⟨w.heap.size, 0, none⟩ = some (.int .i64 (N : Int)) ∧ W.cell? ⟨w.heap.size, 1, none⟩ = some (.slice A1 m.val.length c1) ∧ W.cell? ⟨w.heap.size, 2, none⟩ = some (.slice A2 m.rel.length c2)) ∧ W.cell? ⟨w.heap.size + 1, 0, none⟩ = some (.int .i64 2) ∧ W.cell? ⟨w.heap.size + 1, 1, none⟩ = some (.int .i64 i) ∧ W.cell? ⟨w.heap.size + 1, 3, none⟩ = some (.int .i64 g)) := Lib.hid (fun W hb => by
    have kb := (hb.block w.heap.size (by omega)).trans ((Below.heap_alloc (w.alloc (.cells #[.int .i64 (N : Int), .slice A1 m.val.length c1, .slice A2 m.rel.length c2] 25)) (.cells #[.int .i64 2, .int .i64 i, .int .i64 e, .int .i64 g, .int .i64 nx, .int .i64 ny] 79) w.heap.size (by simp)).trans (heap_alloc_new w (.cells #[.int .i64 (N : Int), .slice A1 m.val.length c1, .slice A2 m.rel.length c2] 25)))
    have kd0 := heap_alloc_new (w.alloc (.cells #[.int .i64 (N : Int), .slice A1 m.val.length c1, .slice A2 m.rel.length c2] 25)) (.cells #[.int .i64 2, .int .i64 i, .int .i64 e, .int .i64 g, .int .i64 nx, .int .i64 ny] 79)
    rw [show (w.alloc (.cells #[.int .i64 (N : Int), .slice A1 m.val.length c1, .slice A2 m.rel.length c2] 25)).heap.size = w.heap.size + 1 by simp] at kd0
    have kd := (hb.block (w.heap.size + 1) (by omega)).trans kd0
    exact ⟨HB0.out.trans (hb.mono (by omega)), ⟨(Lib.cell_of_heap kb 0).trans rfl, (Lib.cell_of_heap kb 1).trans rfl, (Lib.cell_of_heap kb 2).trans rfl⟩, (Lib.cell_of_heap kd 0).trans rfl, (Lib.cell_of_heap kd 1).trans rfl, (Lib.cell_of_heap kd 3).trans rfl⟩)
  have HZ0 : Hid (Below (w.heap.size + 2) ((w.alloc (.cells #[.int .i64 (N : Int), .slice A1 m.val.length c1, .slice A2 m.rel.length c2] 25)).alloc (.cells #[.int .i64 2, .int .i64 i, .int .i64 e, .int .i64 g, .int .i64 nx, .int .i64 ny] 79)) ((w.alloc (.cells #[.int .i64 (N : Int), .slice A1 m.val.length c1, .slice A2 m.rel.length c2] 25)).alloc (.cells #[.int .i64 2, .int .i64 i, .int .i64 e, .int .i64 g, .int .i64 nx, .int .i64 ny] 79))) := Lib.hid (Below.refl _ _)
  have HSZ : Hid (((w.alloc (.cells #[.int .i64 (N : Int), .slice A1 m.val.length c1, .slice A2 m.rel.length c2] 25)).alloc (.cells #[.int .i64 2, .int .i64 i, .int .i64 e, .int .i64 g, .int .i64 nx, .int .i64 ny] 79)).heap.size = w.heap.size + 2) := Lib.hid (by simp)
  obtain ⟨w2, hW2⟩ : ∃ W, (w.alloc (.cells #[.int .i64 (N : Int), .slice A1 m.val.length c1, .slice A2 m.rel.length c2] 25)).alloc (.cells #[.int .i64 2, .int .i64 i, .int .i64 e, .int .i64 g, .int .i64 nx, .int .i64 ny] 79) = W := ⟨_, rfl⟩
  rw [hW2] at HB0 HU HZ0 HSZ
  have HW2 := Lib.hid hW2
  clear hW2
  have HV : Hid (setN m ⟨2, i, e, g, nx, ny⟩ x y = booN 2 x y (2 ^ N - 1)) := Lib.hid (by unfold setN booN; rw [hall]; rfl)
  rw [HV.out]
  have HBo := Lib.hid (fun W => rBoolean_any 2 x y (2 ^ N - 1) W (by decide) hx hy (pow64 hle (by have := Nat.two_pow_pos N; omega)))
  generalize (2 ^ N - 1 : Nat) = al at *
  clear hM hv hr hx hy ok hall hz hle
  rw [hN]
  go_enter Tryz.func75, Tryz.ntmps75
  go_wp2_with fail
  refine (HA.out _).mono ?_
  rintro e' w' ⟨rfl, rfl⟩
  rw [HW2.out]
  clear HW2
  obtain ⟨hB2, ⟨b0, b1, b2⟩, d0, d1, d3⟩ := HU.out _ HZ0.out
  have HB2 := Lib.hid hB2
  clear hB2
  go_wp2_with fail
  refine (HBo.out _).mono ?_
  rintro e' w' ⟨rfl, rfl⟩
  go_wp2
  go_ret
  exact ⟨rfl, HB2.out⟩
set_option maxHeartbeats 8000000 in
theorem rOne4_any : Calls Tryz.prog 75 #[v, .agg #[.int .i64 4, .int .i64 i, .int .i64 e, .int .i64 g, .int .i64 nx, .int .i64 ny], .int .u64 (x : Int), .int .u64 (y : Int)] w fun e' w' => e' = .returned (.int .u64 ((setN m ⟨4, i, e, g, nx, ny⟩ x y : Nat) : Int)) ∧ Below w.heap.size w w' := by
  obtain ⟨A1, c1, A2, c2, rfl, hv, hr⟩ := hM.ex
  have ok0 := chkM_ok hz
  obtain ⟨N, hN⟩ : ∃ N : Nat, m.n = (N : Int) := ⟨m.n.toNat, ok0.num⟩
  have ok : OkM N m := by have h := ok0; rw [hN] at h; simpa using h
  clear ok0
  have hle := ok.le
  have hall : allV m.n = 2 ^ N - 1 := by rw [hN]; exact allV_natC hle
  have HA := Lib.hid (fun W => rAll_any N W hle)
  have HB0 : Hid (Below w.heap.size w ((w.alloc (.cells #[.int .i64 (N : Int), .slice A1 m.val.length c1, .slice A2 m.rel.length c2] 25)).alloc (.cells #[.int .i64 4, .int .i64 i, .int .i64 e, .int .i64 g, .int .i64 nx, .int .i64 ny] 79))) := Lib.hid (((Below.refl _ w).alloc (Nat.le_refl _) _).alloc (by simp) _)
  have HU : Hid (∀ W, Below (w.heap.size + 2) ((w.alloc (.cells #[.int .i64 (N : Int), .slice A1 m.val.length c1, .slice A2 m.rel.length c2] 25)).alloc (.cells #[.int .i64 4, .int .i64 i, .int .i64 e, .int .i64 g, .int .i64 nx, .int .i64 ny] 79)) W → Below w.heap.size w W ∧ (W.cell? ⟨w.heap.size, 0, none⟩ = some (.int .i64 (N : Int)) ∧ W.cell? ⟨w.heap.size, 1, none⟩ = some (.slice A1 m.val.length c1) ∧ W.cell? ⟨w.heap.size, 2, none⟩ = some (.slice A2 m.rel.length c2)) ∧ W.cell? ⟨w.heap.size + 1, 0, none⟩ = some (.int .i64 4) ∧ W.cell? ⟨w.heap.size + 1, 1, none⟩ = some (.int .i64 i) ∧ W.cell? ⟨w.heap.size + 1, 3, none⟩ = some (.int .i64 g)) := Lib.hid (fun W hb => by
    have kb := (hb.block w.heap.size (by omega)).trans ((Below.heap_alloc (w.alloc (.cells #[.int .i64 (N : Int), .slice A1 m.val.length c1, .slice A2 m.rel.length c2] 25)) (.cells #[.int .i64 4, .int .i64 i, .int .i64 e, .int .i64 g, .int .i64 nx, .int .i64 ny] 79) w.heap.size (by simp)).trans (heap_alloc_new w (.cells #[.int .i64 (N : Int), .slice A1 m.val.length c1, .slice A2 m.rel.length c2] 25)))
    have kd0 := heap_alloc_new (w.alloc (.cells #[.int .i64 (N : Int), .slice A1 m.val.length c1, .slice A2 m.rel.length c2] 25)) (.cells #[.int .i64 4, .int .i64 i, .int .i64 e, .int .i64 g, .int .i64 nx, .int .i64 ny] 79)
    rw [show (w.alloc (.cells #[.int .i64 (N : Int), .slice A1 m.val.length c1, .slice A2 m.rel.length c2] 25)).heap.size = w.heap.size + 1 by simp] at kd0
    have kd := (hb.block (w.heap.size + 1) (by omega)).trans kd0
    exact ⟨HB0.out.trans (hb.mono (by omega)), ⟨(Lib.cell_of_heap kb 0).trans rfl, (Lib.cell_of_heap kb 1).trans rfl, (Lib.cell_of_heap kb 2).trans rfl⟩, (Lib.cell_of_heap kd 0).trans rfl, (Lib.cell_of_heap kd 1).trans rfl, (Lib.cell_of_heap kd 3).trans rfl⟩)
  have HZ0 : Hid (Below (w.heap.size + 2) ((w.alloc (.cells #[.int .i64 (N : Int), .slice A1 m.val.length c1, .slice A2 m.rel.length c2] 25)).alloc (.cells #[.int .i64 4, .int .i64 i, .int .i64 e, .int .i64 g, .int .i64 nx, .int .i64 ny] 79)) ((w.alloc (.cells #[.int .i64 (N : Int), .slice A1 m.val.length c1, .slice A2 m.rel.length c2] 25)).alloc (.cells #[.int .i64 4, .int .i64 i, .int .i64 e, .int .i64 g, .int .i64 nx, .int .i64 ny] 79))) := Lib.hid (Below.refl _ _)
  have HSZ : Hid (((w.alloc (.cells #[.int .i64 (N : Int), .slice A1 m.val.length c1, .slice A2 m.rel.length c2] 25)).alloc (.cells #[.int .i64 4, .int .i64 i, .int .i64 e, .int .i64 g, .int .i64 nx, .int .i64 ny] 79)).heap.size = w.heap.size + 2) := Lib.hid (by simp)
  obtain ⟨w2, hW2⟩ : ∃ W, (w.alloc (.cells #[.int .i64 (N : Int), .slice A1 m.val.length c1, .slice A2 m.rel.length c2] 25)).alloc (.cells #[.int .i64 4, .int .i64 i, .int .i64 e, .int .i64 g, .int .i64 nx, .int .i64 ny] 79) = W := ⟨_, rfl⟩
  rw [hW2] at HB0 HU HZ0 HSZ
  have HW2 := Lib.hid hW2
  clear hW2
  have HV : Hid (setN m ⟨4, i, e, g, nx, ny⟩ x y = booN 4 x y (2 ^ N - 1)) := Lib.hid (by unfold setN booN; rw [hall]; rfl)
  rw [HV.out]
  have HBo := Lib.hid (fun W => rBoolean_any 4 x y (2 ^ N - 1) W (by decide) hx hy (pow64 hle (by have := Nat.two_pow_pos N; omega)))
  generalize (2 ^ N - 1 : Nat) = al at *
  clear hM hv hr hx hy ok hall hz hle
  rw [hN]
  go_enter Tryz.func75, Tryz.ntmps75
  go_wp2_with fail
  refine (HA.out _).mono ?_
  rintro e' w' ⟨rfl, rfl⟩
  rw [HW2.out]
  clear HW2
  obtain ⟨hB2, ⟨b0, b1, b2⟩, d0, d1, d3⟩ := HU.out _ HZ0.out
  have HB2 := Lib.hid hB2
  clear hB2
  go_wp2_with fail
  refine (HBo.out _).mono ?_
  rintro e' w' ⟨rfl, rfl⟩
  go_wp2
  go_ret
  exact ⟨rfl, HB2.out⟩
set_option maxHeartbeats 8000000 in
theorem rOne5_any : Calls Tryz.prog 75 #[v, .agg #[.int .i64 5, .int .i64 i, .int .i64 e, .int .i64 g, .int .i64 nx, .int .i64 ny], .int .u64 (x : Int), .int .u64 (y : Int)] w fun e' w' => e' = .returned (.int .u64 ((setN m ⟨5, i, e, g, nx, ny⟩ x y : Nat) : Int)) ∧ Below w.heap.size w w' := by
  obtain ⟨A1, c1, A2, c2, rfl, hv, hr⟩ := hM.ex
  have ok0 := chkM_ok hz
  obtain ⟨N, hN⟩ : ∃ N : Nat, m.n = (N : Int) := ⟨m.n.toNat, ok0.num⟩
  have ok : OkM N m := by have h := ok0; rw [hN] at h; simpa using h
  clear ok0
  have hle := ok.le
  have hall : allV m.n = 2 ^ N - 1 := by rw [hN]; exact allV_natC hle
  have HA := Lib.hid (fun W => rAll_any N W hle)
  have HB0 : Hid (Below w.heap.size w ((w.alloc (.cells #[.int .i64 (N : Int), .slice A1 m.val.length c1, .slice A2 m.rel.length c2] 25)).alloc (.cells #[.int .i64 5, .int .i64 i, .int .i64 e, .int .i64 g, .int .i64 nx, .int .i64 ny] 79))) := Lib.hid (((Below.refl _ w).alloc (Nat.le_refl _) _).alloc (by simp) _)
  have HU : Hid (∀ W, Below (w.heap.size + 2) ((w.alloc (.cells #[.int .i64 (N : Int), .slice A1 m.val.length c1, .slice A2 m.rel.length c2] 25)).alloc (.cells #[.int .i64 5, .int .i64 i, .int .i64 e, .int .i64 g, .int .i64 nx, .int .i64 ny] 79)) W → Below w.heap.size w W ∧ (W.cell? ⟨w.heap.size, 0, none⟩ = some (.int .i64 (N : Int)) ∧ W.cell? ⟨w.heap.size, 1, none⟩ = some (.slice A1 m.val.length c1) ∧ W.cell? ⟨w.heap.size, 2, none⟩ = some (.slice A2 m.rel.length c2)) ∧ W.cell? ⟨w.heap.size + 1, 0, none⟩ = some (.int .i64 5) ∧ W.cell? ⟨w.heap.size + 1, 1, none⟩ = some (.int .i64 i) ∧ W.cell? ⟨w.heap.size + 1, 3, none⟩ = some (.int .i64 g)) := Lib.hid (fun W hb => by
    have kb := (hb.block w.heap.size (by omega)).trans ((Below.heap_alloc (w.alloc (.cells #[.int .i64 (N : Int), .slice A1 m.val.length c1, .slice A2 m.rel.length c2] 25)) (.cells #[.int .i64 5, .int .i64 i, .int .i64 e, .int .i64 g, .int .i64 nx, .int .i64 ny] 79) w.heap.size (by simp)).trans (heap_alloc_new w (.cells #[.int .i64 (N : Int), .slice A1 m.val.length c1, .slice A2 m.rel.length c2] 25)))
    have kd0 := heap_alloc_new (w.alloc (.cells #[.int .i64 (N : Int), .slice A1 m.val.length c1, .slice A2 m.rel.length c2] 25)) (.cells #[.int .i64 5, .int .i64 i, .int .i64 e, .int .i64 g, .int .i64 nx, .int .i64 ny] 79)
    rw [show (w.alloc (.cells #[.int .i64 (N : Int), .slice A1 m.val.length c1, .slice A2 m.rel.length c2] 25)).heap.size = w.heap.size + 1 by simp] at kd0
    have kd := (hb.block (w.heap.size + 1) (by omega)).trans kd0
    exact ⟨HB0.out.trans (hb.mono (by omega)), ⟨(Lib.cell_of_heap kb 0).trans rfl, (Lib.cell_of_heap kb 1).trans rfl, (Lib.cell_of_heap kb 2).trans rfl⟩, (Lib.cell_of_heap kd 0).trans rfl, (Lib.cell_of_heap kd 1).trans rfl, (Lib.cell_of_heap kd 3).trans rfl⟩)
  have HZ0 : Hid (Below (w.heap.size + 2) ((w.alloc (.cells #[.int .i64 (N : Int), .slice A1 m.val.length c1, .slice A2 m.rel.length c2] 25)).alloc (.cells #[.int .i64 5, .int .i64 i, .int .i64 e, .int .i64 g, .int .i64 nx, .int .i64 ny] 79)) ((w.alloc (.cells #[.int .i64 (N : Int), .slice A1 m.val.length c1, .slice A2 m.rel.length c2] 25)).alloc (.cells #[.int .i64 5, .int .i64 i, .int .i64 e, .int .i64 g, .int .i64 nx, .int .i64 ny] 79))) := Lib.hid (Below.refl _ _)
  have HSZ : Hid (((w.alloc (.cells #[.int .i64 (N : Int), .slice A1 m.val.length c1, .slice A2 m.rel.length c2] 25)).alloc (.cells #[.int .i64 5, .int .i64 i, .int .i64 e, .int .i64 g, .int .i64 nx, .int .i64 ny] 79)).heap.size = w.heap.size + 2) := Lib.hid (by simp)
  obtain ⟨w2, hW2⟩ : ∃ W, (w.alloc (.cells #[.int .i64 (N : Int), .slice A1 m.val.length c1, .slice A2 m.rel.length c2] 25)).alloc (.cells #[.int .i64 5, .int .i64 i, .int .i64 e, .int .i64 g, .int .i64 nx, .int .i64 ny] 79) = W := ⟨_, rfl⟩
  rw [hW2] at HB0 HU HZ0 HSZ
  have HW2 := Lib.hid hW2
  clear hW2
  have HV : Hid (setN m ⟨5, i, e, g, nx, ny⟩ x y = booN 5 x y (2 ^ N - 1)) := Lib.hid (by unfold setN booN; rw [hall]; rfl)
  rw [HV.out]
  have HBo := Lib.hid (fun W => rBoolean_any 5 x y (2 ^ N - 1) W (by decide) hx hy (pow64 hle (by have := Nat.two_pow_pos N; omega)))
  generalize (2 ^ N - 1 : Nat) = al at *
  clear hM hv hr hx hy ok hall hz hle
  rw [hN]
  go_enter Tryz.func75, Tryz.ntmps75
  go_wp2_with fail
  refine (HA.out _).mono ?_
  rintro e' w' ⟨rfl, rfl⟩
  rw [HW2.out]
  clear HW2
  obtain ⟨hB2, ⟨b0, b1, b2⟩, d0, d1, d3⟩ := HU.out _ HZ0.out
  have HB2 := Lib.hid hB2
  clear hB2
  go_wp2_with fail
  refine (HBo.out _).mono ?_
  rintro e' w' ⟨rfl, rfl⟩
  go_wp2
  go_ret
  exact ⟨rfl, HB2.out⟩
set_option maxHeartbeats 8000000 in
theorem rOne6_any : Calls Tryz.prog 75 #[v, .agg #[.int .i64 6, .int .i64 i, .int .i64 e, .int .i64 g, .int .i64 nx, .int .i64 ny], .int .u64 (x : Int), .int .u64 (y : Int)] w fun e' w' => e' = .returned (.int .u64 ((setN m ⟨6, i, e, g, nx, ny⟩ x y : Nat) : Int)) ∧ Below w.heap.size w w' := by
  obtain ⟨A1, c1, A2, c2, rfl, hv, hr⟩ := hM.ex
  have ok0 := chkM_ok hz
  obtain ⟨N, hN⟩ : ∃ N : Nat, m.n = (N : Int) := ⟨m.n.toNat, ok0.num⟩
  have ok : OkM N m := by have h := ok0; rw [hN] at h; simpa using h
  clear ok0
  have hle := ok.le
  have hall : allV m.n = 2 ^ N - 1 := by rw [hN]; exact allV_natC hle
  have HA := Lib.hid (fun W => rAll_any N W hle)
  have HB0 : Hid (Below w.heap.size w ((w.alloc (.cells #[.int .i64 (N : Int), .slice A1 m.val.length c1, .slice A2 m.rel.length c2] 25)).alloc (.cells #[.int .i64 6, .int .i64 i, .int .i64 e, .int .i64 g, .int .i64 nx, .int .i64 ny] 79))) := Lib.hid (((Below.refl _ w).alloc (Nat.le_refl _) _).alloc (by simp) _)
  have HU : Hid (∀ W, Below (w.heap.size + 2) ((w.alloc (.cells #[.int .i64 (N : Int), .slice A1 m.val.length c1, .slice A2 m.rel.length c2] 25)).alloc (.cells #[.int .i64 6, .int .i64 i, .int .i64 e, .int .i64 g, .int .i64 nx, .int .i64 ny] 79)) W → Below w.heap.size w W ∧ (W.cell? ⟨w.heap.size, 0, none⟩ = some (.int .i64 (N : Int)) ∧ W.cell? ⟨w.heap.size, 1, none⟩ = some (.slice A1 m.val.length c1) ∧ W.cell? ⟨w.heap.size, 2, none⟩ = some (.slice A2 m.rel.length c2)) ∧ W.cell? ⟨w.heap.size + 1, 0, none⟩ = some (.int .i64 6) ∧ W.cell? ⟨w.heap.size + 1, 1, none⟩ = some (.int .i64 i) ∧ W.cell? ⟨w.heap.size + 1, 3, none⟩ = some (.int .i64 g)) := Lib.hid (fun W hb => by
    have kb := (hb.block w.heap.size (by omega)).trans ((Below.heap_alloc (w.alloc (.cells #[.int .i64 (N : Int), .slice A1 m.val.length c1, .slice A2 m.rel.length c2] 25)) (.cells #[.int .i64 6, .int .i64 i, .int .i64 e, .int .i64 g, .int .i64 nx, .int .i64 ny] 79) w.heap.size (by simp)).trans (heap_alloc_new w (.cells #[.int .i64 (N : Int), .slice A1 m.val.length c1, .slice A2 m.rel.length c2] 25)))
    have kd0 := heap_alloc_new (w.alloc (.cells #[.int .i64 (N : Int), .slice A1 m.val.length c1, .slice A2 m.rel.length c2] 25)) (.cells #[.int .i64 6, .int .i64 i, .int .i64 e, .int .i64 g, .int .i64 nx, .int .i64 ny] 79)
    rw [show (w.alloc (.cells #[.int .i64 (N : Int), .slice A1 m.val.length c1, .slice A2 m.rel.length c2] 25)).heap.size = w.heap.size + 1 by simp] at kd0
    have kd := (hb.block (w.heap.size + 1) (by omega)).trans kd0
    exact ⟨HB0.out.trans (hb.mono (by omega)), ⟨(Lib.cell_of_heap kb 0).trans rfl, (Lib.cell_of_heap kb 1).trans rfl, (Lib.cell_of_heap kb 2).trans rfl⟩, (Lib.cell_of_heap kd 0).trans rfl, (Lib.cell_of_heap kd 1).trans rfl, (Lib.cell_of_heap kd 3).trans rfl⟩)
  have HZ0 : Hid (Below (w.heap.size + 2) ((w.alloc (.cells #[.int .i64 (N : Int), .slice A1 m.val.length c1, .slice A2 m.rel.length c2] 25)).alloc (.cells #[.int .i64 6, .int .i64 i, .int .i64 e, .int .i64 g, .int .i64 nx, .int .i64 ny] 79)) ((w.alloc (.cells #[.int .i64 (N : Int), .slice A1 m.val.length c1, .slice A2 m.rel.length c2] 25)).alloc (.cells #[.int .i64 6, .int .i64 i, .int .i64 e, .int .i64 g, .int .i64 nx, .int .i64 ny] 79))) := Lib.hid (Below.refl _ _)
  have HSZ : Hid (((w.alloc (.cells #[.int .i64 (N : Int), .slice A1 m.val.length c1, .slice A2 m.rel.length c2] 25)).alloc (.cells #[.int .i64 6, .int .i64 i, .int .i64 e, .int .i64 g, .int .i64 nx, .int .i64 ny] 79)).heap.size = w.heap.size + 2) := Lib.hid (by simp)
  obtain ⟨w2, hW2⟩ : ∃ W, (w.alloc (.cells #[.int .i64 (N : Int), .slice A1 m.val.length c1, .slice A2 m.rel.length c2] 25)).alloc (.cells #[.int .i64 6, .int .i64 i, .int .i64 e, .int .i64 g, .int .i64 nx, .int .i64 ny] 79) = W := ⟨_, rfl⟩
  rw [hW2] at HB0 HU HZ0 HSZ
  have HW2 := Lib.hid hW2
  clear hW2
  have HV : Hid (setN m ⟨6, i, e, g, nx, ny⟩ x y = booN 6 x y (2 ^ N - 1)) := Lib.hid (by unfold setN booN; rw [hall]; rfl)
  rw [HV.out]
  have HBo := Lib.hid (fun W => rBoolean_any 6 x y (2 ^ N - 1) W (by decide) hx hy (pow64 hle (by have := Nat.two_pow_pos N; omega)))
  generalize (2 ^ N - 1 : Nat) = al at *
  clear hM hv hr hx hy ok hall hz hle
  rw [hN]
  go_enter Tryz.func75, Tryz.ntmps75
  go_wp2_with fail
  refine (HA.out _).mono ?_
  rintro e' w' ⟨rfl, rfl⟩
  rw [HW2.out]
  clear HW2
  obtain ⟨hB2, ⟨b0, b1, b2⟩, d0, d1, d3⟩ := HU.out _ HZ0.out
  have HB2 := Lib.hid hB2
  clear hB2
  go_wp2_with fail
  refine (HBo.out _).mono ?_
  rintro e' w' ⟨rfl, rfl⟩
  go_wp2
  go_ret
  exact ⟨rfl, HB2.out⟩
set_option maxHeartbeats 8000000 in
theorem rOne7_any : Calls Tryz.prog 75 #[v, .agg #[.int .i64 7, .int .i64 i, .int .i64 e, .int .i64 g, .int .i64 nx, .int .i64 ny], .int .u64 (x : Int), .int .u64 (y : Int)] w fun e' w' => e' = .returned (.int .u64 ((setN m ⟨7, i, e, g, nx, ny⟩ x y : Nat) : Int)) ∧ Below w.heap.size w w' := by
  obtain ⟨A1, c1, A2, c2, rfl, hv, hr⟩ := hM.ex
  have ok0 := chkM_ok hz
  obtain ⟨N, hN⟩ : ∃ N : Nat, m.n = (N : Int) := ⟨m.n.toNat, ok0.num⟩
  have ok : OkM N m := by have h := ok0; rw [hN] at h; simpa using h
  clear ok0
  have hle := ok.le
  have hall : allV m.n = 2 ^ N - 1 := by rw [hN]; exact allV_natC hle
  have HA := Lib.hid (fun W => rAll_any N W hle)
  have HB0 : Hid (Below w.heap.size w ((w.alloc (.cells #[.int .i64 (N : Int), .slice A1 m.val.length c1, .slice A2 m.rel.length c2] 25)).alloc (.cells #[.int .i64 7, .int .i64 i, .int .i64 e, .int .i64 g, .int .i64 nx, .int .i64 ny] 79))) := Lib.hid (((Below.refl _ w).alloc (Nat.le_refl _) _).alloc (by simp) _)
  have HU : Hid (∀ W, Below (w.heap.size + 2) ((w.alloc (.cells #[.int .i64 (N : Int), .slice A1 m.val.length c1, .slice A2 m.rel.length c2] 25)).alloc (.cells #[.int .i64 7, .int .i64 i, .int .i64 e, .int .i64 g, .int .i64 nx, .int .i64 ny] 79)) W → Below w.heap.size w W ∧ (W.cell? ⟨w.heap.size, 0, none⟩ = some (.int .i64 (N : Int)) ∧ W.cell? ⟨w.heap.size, 1, none⟩ = some (.slice A1 m.val.length c1) ∧ W.cell? ⟨w.heap.size, 2, none⟩ = some (.slice A2 m.rel.length c2)) ∧ W.cell? ⟨w.heap.size + 1, 0, none⟩ = some (.int .i64 7) ∧ W.cell? ⟨w.heap.size + 1, 1, none⟩ = some (.int .i64 i) ∧ W.cell? ⟨w.heap.size + 1, 3, none⟩ = some (.int .i64 g)) := Lib.hid (fun W hb => by
    have kb := (hb.block w.heap.size (by omega)).trans ((Below.heap_alloc (w.alloc (.cells #[.int .i64 (N : Int), .slice A1 m.val.length c1, .slice A2 m.rel.length c2] 25)) (.cells #[.int .i64 7, .int .i64 i, .int .i64 e, .int .i64 g, .int .i64 nx, .int .i64 ny] 79) w.heap.size (by simp)).trans (heap_alloc_new w (.cells #[.int .i64 (N : Int), .slice A1 m.val.length c1, .slice A2 m.rel.length c2] 25)))
    have kd0 := heap_alloc_new (w.alloc (.cells #[.int .i64 (N : Int), .slice A1 m.val.length c1, .slice A2 m.rel.length c2] 25)) (.cells #[.int .i64 7, .int .i64 i, .int .i64 e, .int .i64 g, .int .i64 nx, .int .i64 ny] 79)
    rw [show (w.alloc (.cells #[.int .i64 (N : Int), .slice A1 m.val.length c1, .slice A2 m.rel.length c2] 25)).heap.size = w.heap.size + 1 by simp] at kd0
    have kd := (hb.block (w.heap.size + 1) (by omega)).trans kd0
    exact ⟨HB0.out.trans (hb.mono (by omega)), ⟨(Lib.cell_of_heap kb 0).trans rfl, (Lib.cell_of_heap kb 1).trans rfl, (Lib.cell_of_heap kb 2).trans rfl⟩, (Lib.cell_of_heap kd 0).trans rfl, (Lib.cell_of_heap kd 1).trans rfl, (Lib.cell_of_heap kd 3).trans rfl⟩)
  have HZ0 : Hid (Below (w.heap.size + 2) ((w.alloc (.cells #[.int .i64 (N : Int), .slice A1 m.val.length c1, .slice A2 m.rel.length c2] 25)).alloc (.cells #[.int .i64 7, .int .i64 i, .int .i64 e, .int .i64 g, .int .i64 nx, .int .i64 ny] 79)) ((w.alloc (.cells #[.int .i64 (N : Int), .slice A1 m.val.length c1, .slice A2 m.rel.length c2] 25)).alloc (.cells #[.int .i64 7, .int .i64 i, .int .i64 e, .int .i64 g, .int .i64 nx, .int .i64 ny] 79))) := Lib.hid (Below.refl _ _)
  have HSZ : Hid (((w.alloc (.cells #[.int .i64 (N : Int), .slice A1 m.val.length c1, .slice A2 m.rel.length c2] 25)).alloc (.cells #[.int .i64 7, .int .i64 i, .int .i64 e, .int .i64 g, .int .i64 nx, .int .i64 ny] 79)).heap.size = w.heap.size + 2) := Lib.hid (by simp)
  obtain ⟨w2, hW2⟩ : ∃ W, (w.alloc (.cells #[.int .i64 (N : Int), .slice A1 m.val.length c1, .slice A2 m.rel.length c2] 25)).alloc (.cells #[.int .i64 7, .int .i64 i, .int .i64 e, .int .i64 g, .int .i64 nx, .int .i64 ny] 79) = W := ⟨_, rfl⟩
  rw [hW2] at HB0 HU HZ0 HSZ
  have HW2 := Lib.hid hW2
  clear hW2
  have HV : Hid (setN m ⟨7, i, e, g, nx, ny⟩ x y = booN 7 x y (2 ^ N - 1)) := Lib.hid (by unfold setN booN; rw [hall]; rfl)
  rw [HV.out]
  have HBo := Lib.hid (fun W => rBoolean_any 7 x y (2 ^ N - 1) W (by decide) hx hy (pow64 hle (by have := Nat.two_pow_pos N; omega)))
  generalize (2 ^ N - 1 : Nat) = al at *
  clear hM hv hr hx hy ok hall hz hle
  rw [hN]
  go_enter Tryz.func75, Tryz.ntmps75
  go_wp2_with fail
  refine (HA.out _).mono ?_
  rintro e' w' ⟨rfl, rfl⟩
  rw [HW2.out]
  clear HW2
  obtain ⟨hB2, ⟨b0, b1, b2⟩, d0, d1, d3⟩ := HU.out _ HZ0.out
  have HB2 := Lib.hid hB2
  clear hB2
  go_wp2_with fail
  refine (HBo.out _).mono ?_
  rintro e' w' ⟨rfl, rfl⟩
  go_wp2
  go_ret
  exact ⟨rfl, HB2.out⟩
set_option maxHeartbeats 8000000 in
theorem rOne8_any : Calls Tryz.prog 75 #[v, .agg #[.int .i64 8, .int .i64 i, .int .i64 e, .int .i64 g, .int .i64 nx, .int .i64 ny], .int .u64 (x : Int), .int .u64 (y : Int)] w fun e' w' => e' = .returned (.int .u64 ((setN m ⟨8, i, e, g, nx, ny⟩ x y : Nat) : Int)) ∧ Below w.heap.size w w' := by
  obtain ⟨A1, c1, A2, c2, rfl, hv, hr⟩ := hM.ex
  have ok0 := chkM_ok hz
  obtain ⟨N, hN⟩ : ∃ N : Nat, m.n = (N : Int) := ⟨m.n.toNat, ok0.num⟩
  have ok : OkM N m := by have h := ok0; rw [hN] at h; simpa using h
  clear ok0
  have hle := ok.le
  have hall : allV m.n = 2 ^ N - 1 := by rw [hN]; exact allV_natC hle
  have HA := Lib.hid (fun W => rAll_any N W hle)
  have HB0 : Hid (Below w.heap.size w ((w.alloc (.cells #[.int .i64 (N : Int), .slice A1 m.val.length c1, .slice A2 m.rel.length c2] 25)).alloc (.cells #[.int .i64 8, .int .i64 i, .int .i64 e, .int .i64 g, .int .i64 nx, .int .i64 ny] 79))) := Lib.hid (((Below.refl _ w).alloc (Nat.le_refl _) _).alloc (by simp) _)
  have HU : Hid (∀ W, Below (w.heap.size + 2) ((w.alloc (.cells #[.int .i64 (N : Int), .slice A1 m.val.length c1, .slice A2 m.rel.length c2] 25)).alloc (.cells #[.int .i64 8, .int .i64 i, .int .i64 e, .int .i64 g, .int .i64 nx, .int .i64 ny] 79)) W → Below w.heap.size w W ∧ (W.cell? ⟨w.heap.size, 0, none⟩ = some (.int .i64 (N : Int)) ∧ W.cell? ⟨w.heap.size, 1, none⟩ = some (.slice A1 m.val.length c1) ∧ W.cell? ⟨w.heap.size, 2, none⟩ = some (.slice A2 m.rel.length c2)) ∧ W.cell? ⟨w.heap.size + 1, 0, none⟩ = some (.int .i64 8) ∧ W.cell? ⟨w.heap.size + 1, 1, none⟩ = some (.int .i64 i) ∧ W.cell? ⟨w.heap.size + 1, 3, none⟩ = some (.int .i64 g)) := Lib.hid (fun W hb => by
    have kb := (hb.block w.heap.size (by omega)).trans ((Below.heap_alloc (w.alloc (.cells #[.int .i64 (N : Int), .slice A1 m.val.length c1, .slice A2 m.rel.length c2] 25)) (.cells #[.int .i64 8, .int .i64 i, .int .i64 e, .int .i64 g, .int .i64 nx, .int .i64 ny] 79) w.heap.size (by simp)).trans (heap_alloc_new w (.cells #[.int .i64 (N : Int), .slice A1 m.val.length c1, .slice A2 m.rel.length c2] 25)))
    have kd0 := heap_alloc_new (w.alloc (.cells #[.int .i64 (N : Int), .slice A1 m.val.length c1, .slice A2 m.rel.length c2] 25)) (.cells #[.int .i64 8, .int .i64 i, .int .i64 e, .int .i64 g, .int .i64 nx, .int .i64 ny] 79)
    rw [show (w.alloc (.cells #[.int .i64 (N : Int), .slice A1 m.val.length c1, .slice A2 m.rel.length c2] 25)).heap.size = w.heap.size + 1 by simp] at kd0
    have kd := (hb.block (w.heap.size + 1) (by omega)).trans kd0
    exact ⟨HB0.out.trans (hb.mono (by omega)), ⟨(Lib.cell_of_heap kb 0).trans rfl, (Lib.cell_of_heap kb 1).trans rfl, (Lib.cell_of_heap kb 2).trans rfl⟩, (Lib.cell_of_heap kd 0).trans rfl, (Lib.cell_of_heap kd 1).trans rfl, (Lib.cell_of_heap kd 3).trans rfl⟩)
  have HZ0 : Hid (Below (w.heap.size + 2) ((w.alloc (.cells #[.int .i64 (N : Int), .slice A1 m.val.length c1, .slice A2 m.rel.length c2] 25)).alloc (.cells #[.int .i64 8, .int .i64 i, .int .i64 e, .int .i64 g, .int .i64 nx, .int .i64 ny] 79)) ((w.alloc (.cells #[.int .i64 (N : Int), .slice A1 m.val.length c1, .slice A2 m.rel.length c2] 25)).alloc (.cells #[.int .i64 8, .int .i64 i, .int .i64 e, .int .i64 g, .int .i64 nx, .int .i64 ny] 79))) := Lib.hid (Below.refl _ _)
  have HSZ : Hid (((w.alloc (.cells #[.int .i64 (N : Int), .slice A1 m.val.length c1, .slice A2 m.rel.length c2] 25)).alloc (.cells #[.int .i64 8, .int .i64 i, .int .i64 e, .int .i64 g, .int .i64 nx, .int .i64 ny] 79)).heap.size = w.heap.size + 2) := Lib.hid (by simp)
  obtain ⟨w2, hW2⟩ : ∃ W, (w.alloc (.cells #[.int .i64 (N : Int), .slice A1 m.val.length c1, .slice A2 m.rel.length c2] 25)).alloc (.cells #[.int .i64 8, .int .i64 i, .int .i64 e, .int .i64 g, .int .i64 nx, .int .i64 ny] 79) = W := ⟨_, rfl⟩
  rw [hW2] at HB0 HU HZ0 HSZ
  have HW2 := Lib.hid hW2
  clear hW2
  have HV : Hid (setN m ⟨8, i, e, g, nx, ny⟩ x y = booN 8 x y (2 ^ N - 1)) := Lib.hid (by unfold setN booN; rw [hall]; rfl)
  rw [HV.out]
  have HBo := Lib.hid (fun W => rBoolean_any 8 x y (2 ^ N - 1) W (by decide) hx hy (pow64 hle (by have := Nat.two_pow_pos N; omega)))
  generalize (2 ^ N - 1 : Nat) = al at *
  clear hM hv hr hx hy ok hall hz hle
  rw [hN]
  go_enter Tryz.func75, Tryz.ntmps75
  go_wp2_with fail
  refine (HA.out _).mono ?_
  rintro e' w' ⟨rfl, rfl⟩
  rw [HW2.out]
  clear HW2
  obtain ⟨hB2, ⟨b0, b1, b2⟩, d0, d1, d3⟩ := HU.out _ HZ0.out
  have HB2 := Lib.hid hB2
  clear hB2
  go_wp2_with fail
  refine (HBo.out _).mono ?_
  rintro e' w' ⟨rfl, rfl⟩
  go_wp2
  go_ret
  exact ⟨rfl, HB2.out⟩
omit hx hy in
set_option maxHeartbeats 8000000 in
theorem rOne3_any (hi : 0 ≤ i ∧ i < (m.val.length : Int)) : Calls Tryz.prog 75 #[v, .agg #[.int .i64 3, .int .i64 i, .int .i64 e, .int .i64 g, .int .i64 nx, .int .i64 ny], .int .u64 (x : Int), .int .u64 (y : Int)] w fun e' w' => e' = .returned (.int .u64 ((setN m ⟨3, i, e, g, nx, ny⟩ x y : Nat) : Int)) ∧ Below w.heap.size w w' := by
  obtain ⟨A1, c1, A2, c2, rfl, hv, hr⟩ := hM.ex
  have ok0 := chkM_ok hz
  obtain ⟨N, hN⟩ : ∃ N : Nat, m.n = (N : Int) := ⟨m.n.toNat, ok0.num⟩
  have ok : OkM N m := by have h := ok0; rw [hN] at h; simpa using h
  clear ok0
  have hle := ok.le
  have hall : allV m.n = 2 ^ N - 1 := by rw [hN]; exact allV_natC hle
  have HA := Lib.hid (fun W => rAll_any N W hle)
  have HB0 : Hid (Below w.heap.size w ((w.alloc (.cells #[.int .i64 (N : Int), .slice A1 m.val.length c1, .slice A2 m.rel.length c2] 25)).alloc (.cells #[.int .i64 3, .int .i64 i, .int .i64 e, .int .i64 g, .int .i64 nx, .int .i64 ny] 79))) := Lib.hid (((Below.refl _ w).alloc (Nat.le_refl _) _).alloc (by simp) _)
  have HU : Hid (∀ W, Below (w.heap.size + 2) ((w.alloc (.cells #[.int .i64 (N : Int), .slice A1 m.val.length c1, .slice A2 m.rel.length c2] 25)).alloc (.cells #[.int .i64 3, .int .i64 i, .int .i64 e, .int .i64 g, .int .i64 nx, .int .i64 ny] 79)) W → Below w.heap.size w W ∧ (W.cell? ⟨w.heap.size, 0, none⟩ = some (.int .i64 (N : Int)) ∧ W.cell? ⟨w.heap.size, 1, none⟩ = some (.slice A1 m.val.length c1) ∧ W.cell? ⟨w.heap.size, 2, none⟩ = some (.slice A2 m.rel.length c2)) ∧ W.cell? ⟨w.heap.size + 1, 0, none⟩ = some (.int .i64 3) ∧ W.cell? ⟨w.heap.size + 1, 1, none⟩ = some (.int .i64 i) ∧ W.cell? ⟨w.heap.size + 1, 3, none⟩ = some (.int .i64 g)) := Lib.hid (fun W hb => by
    have kb := (hb.block w.heap.size (by omega)).trans ((Below.heap_alloc (w.alloc (.cells #[.int .i64 (N : Int), .slice A1 m.val.length c1, .slice A2 m.rel.length c2] 25)) (.cells #[.int .i64 3, .int .i64 i, .int .i64 e, .int .i64 g, .int .i64 nx, .int .i64 ny] 79) w.heap.size (by simp)).trans (heap_alloc_new w (.cells #[.int .i64 (N : Int), .slice A1 m.val.length c1, .slice A2 m.rel.length c2] 25)))
    have kd0 := heap_alloc_new (w.alloc (.cells #[.int .i64 (N : Int), .slice A1 m.val.length c1, .slice A2 m.rel.length c2] 25)) (.cells #[.int .i64 3, .int .i64 i, .int .i64 e, .int .i64 g, .int .i64 nx, .int .i64 ny] 79)
    rw [show (w.alloc (.cells #[.int .i64 (N : Int), .slice A1 m.val.length c1, .slice A2 m.rel.length c2] 25)).heap.size = w.heap.size + 1 by simp] at kd0
    have kd := (hb.block (w.heap.size + 1) (by omega)).trans kd0
    exact ⟨HB0.out.trans (hb.mono (by omega)), ⟨(Lib.cell_of_heap kb 0).trans rfl, (Lib.cell_of_heap kb 1).trans rfl, (Lib.cell_of_heap kb 2).trans rfl⟩, (Lib.cell_of_heap kd 0).trans rfl, (Lib.cell_of_heap kd 1).trans rfl, (Lib.cell_of_heap kd 3).trans rfl⟩)
  have HZ0 : Hid (Below (w.heap.size + 2) ((w.alloc (.cells #[.int .i64 (N : Int), .slice A1 m.val.length c1, .slice A2 m.rel.length c2] 25)).alloc (.cells #[.int .i64 3, .int .i64 i, .int .i64 e, .int .i64 g, .int .i64 nx, .int .i64 ny] 79)) ((w.alloc (.cells #[.int .i64 (N : Int), .slice A1 m.val.length c1, .slice A2 m.rel.length c2] 25)).alloc (.cells #[.int .i64 3, .int .i64 i, .int .i64 e, .int .i64 g, .int .i64 nx, .int .i64 ny] 79))) := Lib.hid (Below.refl _ _)
  have HSZ : Hid (((w.alloc (.cells #[.int .i64 (N : Int), .slice A1 m.val.length c1, .slice A2 m.rel.length c2] 25)).alloc (.cells #[.int .i64 3, .int .i64 i, .int .i64 e, .int .i64 g, .int .i64 nx, .int .i64 ny] 79)).heap.size = w.heap.size + 2) := Lib.hid (by simp)
  obtain ⟨w2, hW2⟩ : ∃ W, (w.alloc (.cells #[.int .i64 (N : Int), .slice A1 m.val.length c1, .slice A2 m.rel.length c2] 25)).alloc (.cells #[.int .i64 3, .int .i64 i, .int .i64 e, .int .i64 g, .int .i64 nx, .int .i64 ny] 79) = W := ⟨_, rfl⟩
  rw [hW2] at HB0 HU HZ0 HSZ
  have HW2 := Lib.hid hW2
  clear hW2
  have HV : Hid (setN m ⟨3, i, e, g, nx, ny⟩ x y = m.val.getD i.toNat 0) := Lib.hid rfl
  rw [HV.out]
  obtain ⟨k, rfl⟩ : ∃ k : Nat, i = (k : Int) := ⟨i.toNat, by omega⟩
  have hk : k < m.val.length := by omega
  rw [show ((k : Int)).toNat = k from rfl]
  obtain ⟨ad, hA1, hbl, hc⟩ := hv.word_k hk
  have HC := Lib.hid (fun W (hb : Below w.heap.size w W) => (hb.cell (p := ad.add k) (by rw [block_of_add]; exact hbl)).trans hc)
  subst hA1
  have hvl : m.val.length ≤ 8 := ok.facts
  generalize m.val.getD k 0 = z at *
  generalize m.val.length = vl at *
  generalize m.rel.length = rl at *
  clear hM hv hr ok hall hz hle hc hbl hi
  rw [hN]
  go_enter Tryz.func75, Tryz.ntmps75
  go_wp2_with fail
  refine (HA.out _).mono ?_
  rintro e' w' ⟨rfl, rfl⟩
  rw [HW2.out]
  clear HW2
  obtain ⟨hB2, ⟨b0, b1, b2⟩, d0, d1, d3⟩ := HU.out _ HZ0.out
  have HB2 := Lib.hid hB2
  clear hB2
  have hc := HC.out _ HB2.out
  go_wp2
  go_ret
  exact ⟨rfl, HB2.out⟩
omit hy in
set_option maxHeartbeats 8000000 in
theorem rOne9_any (hi : 0 ≤ i ∧ i < (m.rel.length : Int)) : Calls Tryz.prog 75 #[v, .agg #[.int .i64 9, .int .i64 i, .int .i64 e, .int .i64 g, .int .i64 nx, .int .i64 ny], .int .u64 (x : Int), .int .u64 (y : Int)] w fun e' w' => e' = .returned (.int .u64 ((setN m ⟨9, i, e, g, nx, ny⟩ x y : Nat) : Int)) ∧ Below w.heap.size w w' := by
  obtain ⟨A1, c1, A2, c2, rfl, hv, hr⟩ := hM.ex
  have ok0 := chkM_ok hz
  obtain ⟨N, hN⟩ : ∃ N : Nat, m.n = (N : Int) := ⟨m.n.toNat, ok0.num⟩
  have ok : OkM N m := by have h := ok0; rw [hN] at h; simpa using h
  clear ok0
  have hle := ok.le
  have hall : allV m.n = 2 ^ N - 1 := by rw [hN]; exact allV_natC hle
  have HA := Lib.hid (fun W => rAll_any N W hle)
  have HB0 : Hid (Below w.heap.size w ((w.alloc (.cells #[.int .i64 (N : Int), .slice A1 m.val.length c1, .slice A2 m.rel.length c2] 25)).alloc (.cells #[.int .i64 9, .int .i64 i, .int .i64 e, .int .i64 g, .int .i64 nx, .int .i64 ny] 79))) := Lib.hid (((Below.refl _ w).alloc (Nat.le_refl _) _).alloc (by simp) _)
  have HU : Hid (∀ W, Below (w.heap.size + 2) ((w.alloc (.cells #[.int .i64 (N : Int), .slice A1 m.val.length c1, .slice A2 m.rel.length c2] 25)).alloc (.cells #[.int .i64 9, .int .i64 i, .int .i64 e, .int .i64 g, .int .i64 nx, .int .i64 ny] 79)) W → Below w.heap.size w W ∧ (W.cell? ⟨w.heap.size, 0, none⟩ = some (.int .i64 (N : Int)) ∧ W.cell? ⟨w.heap.size, 1, none⟩ = some (.slice A1 m.val.length c1) ∧ W.cell? ⟨w.heap.size, 2, none⟩ = some (.slice A2 m.rel.length c2)) ∧ W.cell? ⟨w.heap.size + 1, 0, none⟩ = some (.int .i64 9) ∧ W.cell? ⟨w.heap.size + 1, 1, none⟩ = some (.int .i64 i) ∧ W.cell? ⟨w.heap.size + 1, 3, none⟩ = some (.int .i64 g)) := Lib.hid (fun W hb => by
    have kb := (hb.block w.heap.size (by omega)).trans ((Below.heap_alloc (w.alloc (.cells #[.int .i64 (N : Int), .slice A1 m.val.length c1, .slice A2 m.rel.length c2] 25)) (.cells #[.int .i64 9, .int .i64 i, .int .i64 e, .int .i64 g, .int .i64 nx, .int .i64 ny] 79) w.heap.size (by simp)).trans (heap_alloc_new w (.cells #[.int .i64 (N : Int), .slice A1 m.val.length c1, .slice A2 m.rel.length c2] 25)))
    have kd0 := heap_alloc_new (w.alloc (.cells #[.int .i64 (N : Int), .slice A1 m.val.length c1, .slice A2 m.rel.length c2] 25)) (.cells #[.int .i64 9, .int .i64 i, .int .i64 e, .int .i64 g, .int .i64 nx, .int .i64 ny] 79)
    rw [show (w.alloc (.cells #[.int .i64 (N : Int), .slice A1 m.val.length c1, .slice A2 m.rel.length c2] 25)).heap.size = w.heap.size + 1 by simp] at kd0
    have kd := (hb.block (w.heap.size + 1) (by omega)).trans kd0
    exact ⟨HB0.out.trans (hb.mono (by omega)), ⟨(Lib.cell_of_heap kb 0).trans rfl, (Lib.cell_of_heap kb 1).trans rfl, (Lib.cell_of_heap kb 2).trans rfl⟩, (Lib.cell_of_heap kd 0).trans rfl, (Lib.cell_of_heap kd 1).trans rfl, (Lib.cell_of_heap kd 3).trans rfl⟩)
  have HZ0 : Hid (Below (w.heap.size + 2) ((w.alloc (.cells #[.int .i64 (N : Int), .slice A1 m.val.length c1, .slice A2 m.rel.length c2] 25)).alloc (.cells #[.int .i64 9, .int .i64 i, .int .i64 e, .int .i64 g, .int .i64 nx, .int .i64 ny] 79)) ((w.alloc (.cells #[.int .i64 (N : Int), .slice A1 m.val.length c1, .slice A2 m.rel.length c2] 25)).alloc (.cells #[.int .i64 9, .int .i64 i, .int .i64 e, .int .i64 g, .int .i64 nx, .int .i64 ny] 79))) := Lib.hid (Below.refl _ _)
  have HSZ : Hid (((w.alloc (.cells #[.int .i64 (N : Int), .slice A1 m.val.length c1, .slice A2 m.rel.length c2] 25)).alloc (.cells #[.int .i64 9, .int .i64 i, .int .i64 e, .int .i64 g, .int .i64 nx, .int .i64 ny] 79)).heap.size = w.heap.size + 2) := Lib.hid (by simp)
  obtain ⟨w2, hW2⟩ : ∃ W, (w.alloc (.cells #[.int .i64 (N : Int), .slice A1 m.val.length c1, .slice A2 m.rel.length c2] 25)).alloc (.cells #[.int .i64 9, .int .i64 i, .int .i64 e, .int .i64 g, .int .i64 nx, .int .i64 ny] 79) = W := ⟨_, rfl⟩
  rw [hW2] at HB0 HU HZ0 HSZ
  have HW2 := Lib.hid hW2
  clear hW2
  obtain ⟨k, rfl⟩ : ∃ k : Nat, i = (k : Int) := ⟨i.toNat, by omega⟩
  have hk : k < m.rel.length := by omega
  obtain ⟨R, hRd⟩ : ∃ R, m.rel.getD k [] = R := ⟨_, rfl⟩
  have hmem : R ∈ m.rel := hRd ▸ getD_mem' hk
  have hRl : R.length = N := ok.len _ hmem
  have hsh : Sh N R := ⟨hRl, ok.rel _ hmem⟩
  have hRw : Words R := hM.wrel _ hmem
  have HV : Hid (setN m ⟨9, ((k : Nat) : Int), e, g, nx, ny⟩ x y = whU (pBox x) R N) := Lib.hid (by show whV (pBox x) (m.rel.getD k []) = _; rw [hRd]; exact wh_sh hle hsh _)
  rw [HV.out]
  obtain ⟨ad, Aj, cj, hA2, hbl, hc, hrj, _⟩ := hr.at_ hk
  rw [hRd] at hrj hc
  rw [hRl] at hrj hc
  subst hA2
  have HC := Lib.hid (fun W (hb : Below w.heap.size w W) => (hb.cell (p := ad.add k) (by rw [block_of_add]; exact hbl)).trans hc)
  have HBX := Lib.hid (fun W (hb : Below w.heap.size w W) => rBoxC_any R x Aj N cj W ((hrj.below hb).more hb.size) hRw hle hx)
  have hrl : m.rel.length ≤ 4 := ok.agents
  generalize whU (pBox x) R N = z at *
  generalize m.val.length = vl at *
  generalize m.rel.length = rl at *
  clear hM hv hr hx ok hall hz hc hbl hi hsh hRw hRl hmem hRd hrj hle
  rw [hN]
  go_enter Tryz.func75, Tryz.ntmps75
  go_wp2_with fail
  refine (HA.out _).mono ?_
  rintro e' w' ⟨rfl, rfl⟩
  rw [HW2.out]
  clear HW2
  obtain ⟨hB2, ⟨b0, b1, b2⟩, d0, d1, d3⟩ := HU.out _ HZ0.out
  have HB2 := Lib.hid hB2
  clear hB2
  have hc := HC.out _ HB2.out
  have HQ := Lib.hid (fun p => HBX.out _ (below_drewN HB2.out p))
  go_wp2
  go_quiet (first | (go_at_call 121; exact quiet_same (HQ.out _)))
  go_wp2
  go_ret
  exact ⟨rfl, below_drewN HB2.out _⟩
omit hy in
set_option maxHeartbeats 8000000 in
theorem rOne10_any (hi : 0 ≤ i ∧ i < (m.rel.length : Int)) : Calls Tryz.prog 75 #[v, .agg #[.int .i64 10, .int .i64 i, .int .i64 e, .int .i64 g, .int .i64 nx, .int .i64 ny], .int .u64 (x : Int), .int .u64 (y : Int)] w fun e' w' => e' = .returned (.int .u64 ((setN m ⟨10, i, e, g, nx, ny⟩ x y : Nat) : Int)) ∧ Below w.heap.size w w' := by
  obtain ⟨A1, c1, A2, c2, rfl, hv, hr⟩ := hM.ex
  have ok0 := chkM_ok hz
  obtain ⟨N, hN⟩ : ∃ N : Nat, m.n = (N : Int) := ⟨m.n.toNat, ok0.num⟩
  have ok : OkM N m := by have h := ok0; rw [hN] at h; simpa using h
  clear ok0
  have hle := ok.le
  have hall : allV m.n = 2 ^ N - 1 := by rw [hN]; exact allV_natC hle
  have HA := Lib.hid (fun W => rAll_any N W hle)
  have HB0 : Hid (Below w.heap.size w ((w.alloc (.cells #[.int .i64 (N : Int), .slice A1 m.val.length c1, .slice A2 m.rel.length c2] 25)).alloc (.cells #[.int .i64 10, .int .i64 i, .int .i64 e, .int .i64 g, .int .i64 nx, .int .i64 ny] 79))) := Lib.hid (((Below.refl _ w).alloc (Nat.le_refl _) _).alloc (by simp) _)
  have HU : Hid (∀ W, Below (w.heap.size + 2) ((w.alloc (.cells #[.int .i64 (N : Int), .slice A1 m.val.length c1, .slice A2 m.rel.length c2] 25)).alloc (.cells #[.int .i64 10, .int .i64 i, .int .i64 e, .int .i64 g, .int .i64 nx, .int .i64 ny] 79)) W → Below w.heap.size w W ∧ (W.cell? ⟨w.heap.size, 0, none⟩ = some (.int .i64 (N : Int)) ∧ W.cell? ⟨w.heap.size, 1, none⟩ = some (.slice A1 m.val.length c1) ∧ W.cell? ⟨w.heap.size, 2, none⟩ = some (.slice A2 m.rel.length c2)) ∧ W.cell? ⟨w.heap.size + 1, 0, none⟩ = some (.int .i64 10) ∧ W.cell? ⟨w.heap.size + 1, 1, none⟩ = some (.int .i64 i) ∧ W.cell? ⟨w.heap.size + 1, 3, none⟩ = some (.int .i64 g)) := Lib.hid (fun W hb => by
    have kb := (hb.block w.heap.size (by omega)).trans ((Below.heap_alloc (w.alloc (.cells #[.int .i64 (N : Int), .slice A1 m.val.length c1, .slice A2 m.rel.length c2] 25)) (.cells #[.int .i64 10, .int .i64 i, .int .i64 e, .int .i64 g, .int .i64 nx, .int .i64 ny] 79) w.heap.size (by simp)).trans (heap_alloc_new w (.cells #[.int .i64 (N : Int), .slice A1 m.val.length c1, .slice A2 m.rel.length c2] 25)))
    have kd0 := heap_alloc_new (w.alloc (.cells #[.int .i64 (N : Int), .slice A1 m.val.length c1, .slice A2 m.rel.length c2] 25)) (.cells #[.int .i64 10, .int .i64 i, .int .i64 e, .int .i64 g, .int .i64 nx, .int .i64 ny] 79)
    rw [show (w.alloc (.cells #[.int .i64 (N : Int), .slice A1 m.val.length c1, .slice A2 m.rel.length c2] 25)).heap.size = w.heap.size + 1 by simp] at kd0
    have kd := (hb.block (w.heap.size + 1) (by omega)).trans kd0
    exact ⟨HB0.out.trans (hb.mono (by omega)), ⟨(Lib.cell_of_heap kb 0).trans rfl, (Lib.cell_of_heap kb 1).trans rfl, (Lib.cell_of_heap kb 2).trans rfl⟩, (Lib.cell_of_heap kd 0).trans rfl, (Lib.cell_of_heap kd 1).trans rfl, (Lib.cell_of_heap kd 3).trans rfl⟩)
  have HZ0 : Hid (Below (w.heap.size + 2) ((w.alloc (.cells #[.int .i64 (N : Int), .slice A1 m.val.length c1, .slice A2 m.rel.length c2] 25)).alloc (.cells #[.int .i64 10, .int .i64 i, .int .i64 e, .int .i64 g, .int .i64 nx, .int .i64 ny] 79)) ((w.alloc (.cells #[.int .i64 (N : Int), .slice A1 m.val.length c1, .slice A2 m.rel.length c2] 25)).alloc (.cells #[.int .i64 10, .int .i64 i, .int .i64 e, .int .i64 g, .int .i64 nx, .int .i64 ny] 79))) := Lib.hid (Below.refl _ _)
  have HSZ : Hid (((w.alloc (.cells #[.int .i64 (N : Int), .slice A1 m.val.length c1, .slice A2 m.rel.length c2] 25)).alloc (.cells #[.int .i64 10, .int .i64 i, .int .i64 e, .int .i64 g, .int .i64 nx, .int .i64 ny] 79)).heap.size = w.heap.size + 2) := Lib.hid (by simp)
  obtain ⟨w2, hW2⟩ : ∃ W, (w.alloc (.cells #[.int .i64 (N : Int), .slice A1 m.val.length c1, .slice A2 m.rel.length c2] 25)).alloc (.cells #[.int .i64 10, .int .i64 i, .int .i64 e, .int .i64 g, .int .i64 nx, .int .i64 ny] 79) = W := ⟨_, rfl⟩
  rw [hW2] at HB0 HU HZ0 HSZ
  have HW2 := Lib.hid hW2
  clear hW2
  obtain ⟨k, rfl⟩ : ∃ k : Nat, i = (k : Int) := ⟨i.toNat, by omega⟩
  have hk : k < m.rel.length := by omega
  obtain ⟨R, hRd⟩ : ∃ R, m.rel.getD k [] = R := ⟨_, rfl⟩
  have hmem : R ∈ m.rel := hRd ▸ getD_mem' hk
  have hRl : R.length = N := ok.len _ hmem
  have hsh : Sh N R := ⟨hRl, ok.rel _ hmem⟩
  have hRw : Words R := hM.wrel _ hmem
  have hAl : 2 ^ N - 1 < 18446744073709551616 := pow64 hle (by have := Nat.two_pow_pos N; omega)
  have HV : Hid (setN m ⟨10, ((k : Nat) : Int), e, g, nx, ny⟩ x y = anN (2 ^ N - 1) (whU (pBox (anN (2 ^ N - 1) x)) R N)) := Lib.hid (by
    show whV (pDia x) (m.rel.getD k []) = _
    rw [hRd, ← wh_sh hle hsh, ← allV_natC hle]
    exact dia_dual hle hsh hx)
  obtain ⟨X, hX⟩ : ∃ X, anN (2 ^ N - 1) x = X := ⟨_, rfl⟩
  have hXw : X < 18446744073709551616 := by rw [← hX]; exact anN_lt _ _ hAl
  have han : bits .andNot .u64 ((2 ^ N - 1 : Nat) : Int) (x : Int) = (X : Int) := by rw [← hX]; exact u64_andNot_nat _ _ hAl hx
  rw [hX] at HV
  have han2 : bits .andNot .u64 ((2 ^ N - 1 : Nat) : Int) ((whU (pBox X) R N : Nat) : Int) = ((anN (2 ^ N - 1) (whU (pBox X) R N) : Nat) : Int) := u64_andNot_nat _ _ hAl (whU_lt _ _ _ hle)
  rw [HV.out]
  obtain ⟨ad, Aj, cj, hA2, hbl, hc, hrj, _⟩ := hr.at_ hk
  rw [hRd] at hrj hc
  rw [hRl] at hrj hc
  subst hA2
  have HC := Lib.hid (fun W (hb : Below w.heap.size w W) => (hb.cell (p := ad.add k) (by rw [block_of_add]; exact hbl)).trans hc)
  have HBX := Lib.hid (fun W (hb : Below w.heap.size w W) => rBoxC_any R X Aj N cj W ((hrj.below hb).more hb.size) hRw hle hXw)
  have hrl : m.rel.length ≤ 4 := ok.agents
  clear hX
  generalize whU (pBox X) R N = z at *
  generalize m.val.length = vl at *
  generalize m.rel.length = rl at *
  generalize anN (2 ^ N - 1) z = zz at *
  generalize (2 ^ N - 1 : Nat) = al at *
  clear hM hv hr hx hXw hAl ok hall hz hc hbl hi hsh hRw hRl hmem hRd hrj hle
  rw [hN]
  go_enter Tryz.func75, Tryz.ntmps75
  go_wp2_with fail
  refine (HA.out _).mono ?_
  rintro e' w' ⟨rfl, rfl⟩
  rw [HW2.out]
  clear HW2
  obtain ⟨hB2, ⟨b0, b1, b2⟩, d0, d1, d3⟩ := HU.out _ HZ0.out
  have HB2 := Lib.hid hB2
  clear hB2
  have hc := HC.out _ HB2.out
  have HQ := Lib.hid (fun p => HBX.out _ (below_drewN HB2.out p))
  go_wp2
  go_quiet (first | (go_at_call 121; exact quiet_same (HQ.out _)))
  go_wp2
  go_ret
  exact ⟨rfl, below_drewN HB2.out _⟩
omit hy in
set_option maxHeartbeats 8000000 in
theorem rOne11_any (hg : 1 ≤ g ∧ g < 2 ^ m.rel.length) : Calls Tryz.prog 75 #[v, .agg #[.int .i64 11, .int .i64 i, .int .i64 e, .int .i64 g, .int .i64 nx, .int .i64 ny], .int .u64 (x : Int), .int .u64 (y : Int)] w fun e' w' => e' = .returned (.int .u64 ((setN m ⟨11, i, e, g, nx, ny⟩ x y : Nat) : Int)) ∧ Below w.heap.size w w' := by
  obtain ⟨A1, c1, A2, c2, rfl, hv, hr⟩ := hM.ex
  have ok0 := chkM_ok hz
  obtain ⟨N, hN⟩ : ∃ N : Nat, m.n = (N : Int) := ⟨m.n.toNat, ok0.num⟩
  have ok : OkM N m := by have h := ok0; rw [hN] at h; simpa using h
  clear ok0
  have hle := ok.le
  have hall : allV m.n = 2 ^ N - 1 := by rw [hN]; exact allV_natC hle
  have HA := Lib.hid (fun W => rAll_any N W hle)
  have HB0 : Hid (Below w.heap.size w ((w.alloc (.cells #[.int .i64 (N : Int), .slice A1 m.val.length c1, .slice A2 m.rel.length c2] 25)).alloc (.cells #[.int .i64 11, .int .i64 i, .int .i64 e, .int .i64 g, .int .i64 nx, .int .i64 ny] 79))) := Lib.hid (((Below.refl _ w).alloc (Nat.le_refl _) _).alloc (by simp) _)
  have HU : Hid (∀ W, Below (w.heap.size + 2) ((w.alloc (.cells #[.int .i64 (N : Int), .slice A1 m.val.length c1, .slice A2 m.rel.length c2] 25)).alloc (.cells #[.int .i64 11, .int .i64 i, .int .i64 e, .int .i64 g, .int .i64 nx, .int .i64 ny] 79)) W → Below w.heap.size w W ∧ (W.cell? ⟨w.heap.size, 0, none⟩ = some (.int .i64 (N : Int)) ∧ W.cell? ⟨w.heap.size, 1, none⟩ = some (.slice A1 m.val.length c1) ∧ W.cell? ⟨w.heap.size, 2, none⟩ = some (.slice A2 m.rel.length c2)) ∧ W.cell? ⟨w.heap.size + 1, 0, none⟩ = some (.int .i64 11) ∧ W.cell? ⟨w.heap.size + 1, 1, none⟩ = some (.int .i64 i) ∧ W.cell? ⟨w.heap.size + 1, 3, none⟩ = some (.int .i64 g)) := Lib.hid (fun W hb => by
    have kb := (hb.block w.heap.size (by omega)).trans ((Below.heap_alloc (w.alloc (.cells #[.int .i64 (N : Int), .slice A1 m.val.length c1, .slice A2 m.rel.length c2] 25)) (.cells #[.int .i64 11, .int .i64 i, .int .i64 e, .int .i64 g, .int .i64 nx, .int .i64 ny] 79) w.heap.size (by simp)).trans (heap_alloc_new w (.cells #[.int .i64 (N : Int), .slice A1 m.val.length c1, .slice A2 m.rel.length c2] 25)))
    have kd0 := heap_alloc_new (w.alloc (.cells #[.int .i64 (N : Int), .slice A1 m.val.length c1, .slice A2 m.rel.length c2] 25)) (.cells #[.int .i64 11, .int .i64 i, .int .i64 e, .int .i64 g, .int .i64 nx, .int .i64 ny] 79)
    rw [show (w.alloc (.cells #[.int .i64 (N : Int), .slice A1 m.val.length c1, .slice A2 m.rel.length c2] 25)).heap.size = w.heap.size + 1 by simp] at kd0
    have kd := (hb.block (w.heap.size + 1) (by omega)).trans kd0
    exact ⟨HB0.out.trans (hb.mono (by omega)), ⟨(Lib.cell_of_heap kb 0).trans rfl, (Lib.cell_of_heap kb 1).trans rfl, (Lib.cell_of_heap kb 2).trans rfl⟩, (Lib.cell_of_heap kd 0).trans rfl, (Lib.cell_of_heap kd 1).trans rfl, (Lib.cell_of_heap kd 3).trans rfl⟩)
  have HZ0 : Hid (Below (w.heap.size + 2) ((w.alloc (.cells #[.int .i64 (N : Int), .slice A1 m.val.length c1, .slice A2 m.rel.length c2] 25)).alloc (.cells #[.int .i64 11, .int .i64 i, .int .i64 e, .int .i64 g, .int .i64 nx, .int .i64 ny] 79)) ((w.alloc (.cells #[.int .i64 (N : Int), .slice A1 m.val.length c1, .slice A2 m.rel.length c2] 25)).alloc (.cells #[.int .i64 11, .int .i64 i, .int .i64 e, .int .i64 g, .int .i64 nx, .int .i64 ny] 79))) := Lib.hid (Below.refl _ _)
  have HSZ : Hid (((w.alloc (.cells #[.int .i64 (N : Int), .slice A1 m.val.length c1, .slice A2 m.rel.length c2] 25)).alloc (.cells #[.int .i64 11, .int .i64 i, .int .i64 e, .int .i64 g, .int .i64 nx, .int .i64 ny] 79)).heap.size = w.heap.size + 2) := Lib.hid (by simp)
  obtain ⟨w2, hW2⟩ : ∃ W, (w.alloc (.cells #[.int .i64 (N : Int), .slice A1 m.val.length c1, .slice A2 m.rel.length c2] 25)).alloc (.cells #[.int .i64 11, .int .i64 i, .int .i64 e, .int .i64 g, .int .i64 nx, .int .i64 ny] 79) = W := ⟨_, rfl⟩
  rw [hW2] at HB0 HU HZ0 HSZ
  have HW2 := Lib.hid hW2
  clear hW2
  have hg64 : -9223372036854775808 ≤ g ∧ g < 9223372036854775808 := by
    have h2 : (2 : Int) ^ m.rel.length ≤ 2 ^ 4 := by
      have e : ((2 : Int) ^ m.rel.length) = ((2 ^ m.rel.length : Nat) : Int) := by simp
      rw [e]
      exact_mod_cast Nat.pow_le_pow_right (by decide) ok.agents
    have := hg.1
    have := hg.2
    omega
  have hsh : Sh N (groupL m g) := (grp_sh hz ok hg).1
  have hGw : Words (groupL m g) := sh_words hle hsh
  have HV : Hid (setN m ⟨11, i, e, g, nx, ny⟩ x y = whU (pBox x) (groupL m g) N) := Lib.hid (wh_sh hle hsh (pBox x))
  rw [HV.out]
  have HGR := Lib.hid (fun W (hb : Below w.heap.size w W) => rGroup_any m (.agg #[.int .i64 m.n, .slice A1 m.val.length c1, .slice A2 m.rel.length c2]) g W (hM.below hb hb.size) hg64)
  rw [hN] at HGR
  generalize (groupL m g) = G at *
  have HBX := Lib.hid (fun W A c (h : Reads W W.heap.size 1 A G.length (us G)) => rBoxC_any G x A G.length c W h hGw (by rw [hsh.1]; exact hle) hx)
  rw [hsh.1] at HBX
  have HGL := Lib.hid hsh.1
  generalize whU (pBox x) G N = z at *
  generalize m.val.length = vl at *
  generalize m.rel.length = rl at *
  clear hM hv hr hx ok hall hz hg hg64 hsh hGw hle
  rw [hN]
  go_enter Tryz.func75, Tryz.ntmps75
  go_wp2_with fail
  refine (HA.out _).mono ?_
  rintro e' w' ⟨rfl, rfl⟩
  rw [HW2.out]
  clear HW2
  obtain ⟨hB2, ⟨b0, b1, b2⟩, d0, d1, d3⟩ := HU.out _ HZ0.out
  have HB2 := Lib.hid hB2
  clear hB2
  have HU2 : Hid (∀ W, Below w2.heap.size w2 W → Below w.heap.size w W ∧ W.cell? ⟨w.heap.size, 0, none⟩ = some (.int .i64 (N : Int)) ∧ W.cell? ⟨w.heap.size, 1, none⟩ = some (.slice A1 vl c1) ∧ W.cell? ⟨w.heap.size, 2, none⟩ = some (.slice A2 rl c2) ∧ W.cell? ⟨w.heap.size + 1, 3, none⟩ = some (.int .i64 g)) := Lib.hid (fun W hb => by
    have h := HU.out W (HZ0.out.trans (hb.mono (Nat.le_of_eq HSZ.out.symm)))
    exact ⟨h.1, h.2.1.1, h.2.1.2.1, h.2.1.2.2, h.2.2.2.2⟩)
  go_wp2
  clear b0 b1 b2 d0 d1 d3
  refine wp_region_wild [.agg #[.int .i64 (N : Int), .slice A1 vl c1, .slice A2 rl c2], .pointer (some ⟨w.heap.size + 1, 3, none⟩), .int .i64 g, undef, .pointer (some ⟨w.heap.size, 0, none⟩), .int .i64 (N : Int), .int .u64 (x : Int), .int .u64 (z : Int), .int .u64 (z : Int)] [64, 65, 66, 67, 68, 69, 70, 71, 8] [0, 1, 2, 3, 4, 5, 7] [3] (vGrp G) (fun W => Below w2.heap.size w2 W) (fun W W' => Below W.heap.size W W') 9 92 rfl rfl rfl (by decide) (by decide) (by kernel_rfl) (by kernel_rfl) (by kernel_rfl) (by kernel_rfl) (fun W => Below.refl _ W) (fun W1 W2 W3 h1 h2 => h1.trans (h2.mono h1.size)) (fun W W' h h2 => h.trans (h2.mono h.size)) vGrp_up (Below.refl w2.heap.size w2).drew (by kernel_rfl) [] rfl ?hop ?fin
  case hop =>
    refine (And.intro ?s0 (And.intro ?s1 (And.intro ?s2 (And.intro ?s3 (And.intro ?s4 (And.intro ?s5 (And.intro ?s7 trivial)))))))
    case s0 =>
      refine And.intro (by rfl) (fun tm W hS hsz hfr hdep K hK => ?_)
      change tm.size = 92 at hsz
      have t4 : tm.getD 4 undef = .pointer (some ⟨w.heap.size, 0, none⟩) := hfr 4 (by rfl)
      obtain ⟨_, b0, b1, b2, d3⟩ := HU2.out W hS
      clear hdep hfr
      go_simp
      exact hK _ W (Below.refl _ W) (wildV_of (by rfl))
    case s1 =>
      refine And.intro (by rfl) (fun tm W hS hsz hfr hdep K hK => ?_)
      change tm.size = 92 at hsz
      have t5 : tm.getD 5 undef = .pointer (some ⟨w.heap.size + 1, 0, none⟩) := hfr 5 (by rfl)
      clear hdep hfr
      go_simp
      exact hK _ W (Below.refl _ W) (wildV_of (by rfl))
    case s2 =>
      refine And.intro (by rfl) (fun tm W hS hsz hfr hdep K hK => ?_)
      change tm.size = 92 at hsz
      have t65 : tm.getD 65 undef = .pointer (some ⟨w.heap.size + 1, 3, none⟩) := wildV_known (by rfl) (hdep 1 (by rfl) (by decide))
      obtain ⟨_, b0, b1, b2, d3⟩ := HU2.out W hS
      clear hdep hfr
      go_simp
      exact hK _ W (Below.refl _ W) (wildV_of (by rfl))
    case s3 =>
      refine And.intro (by rfl) (fun tm W hS hsz hfr hdep K hK => ?_)
      change tm.size = 92 at hsz
      have t64 : tm.getD 64 undef = .agg #[.int .i64 (N : Int), .slice A1 vl c1, .slice A2 rl c2] := wildV_known (by rfl) (hdep 0 (by rfl) (by decide))
      have t66 : tm.getD 66 undef = .int .i64 g := wildV_known (by rfl) (hdep 2 (by rfl) (by decide))
      clear hdep hfr
      refine wp_call _ _ _ _ _ rfl rfl (by simp [Act.eval, t64, t66]) (by kernel_rfl) (HGR.out W (HU2.out W hS).1) (fun e W9 h9 => ?_)
      obtain ⟨A9, c9, rfl, hr9, hb9⟩ := h9
      exact ⟨_, rfl, hK _ W9 hb9 (show vGrp G 3 (.slice A9 G.length c9) W9 from ⟨A9, c9, rfl, hr9⟩)⟩
    case s4 =>
      refine And.intro (by rfl) (fun tm W hS hsz hfr hdep K hK => ?_)
      change tm.size = 92 at hsz
      have t4 : tm.getD 4 undef = .pointer (some ⟨w.heap.size, 0, none⟩) := hfr 4 (by rfl)
      clear hdep hfr
      go_simp
      exact hK _ W (Below.refl _ W) (wildV_of (by rfl))
    case s5 =>
      refine And.intro (by rfl) (fun tm W hS hsz hfr hdep K hK => ?_)
      change tm.size = 92 at hsz
      have t68 : tm.getD 68 undef = .pointer (some ⟨w.heap.size, 0, none⟩) := wildV_known (by rfl) (hdep 4 (by rfl) (by decide))
      obtain ⟨_, b0, b1, b2, d3⟩ := HU2.out W hS
      clear hdep hfr
      go_simp
      exact hK _ W (Below.refl _ W) (wildV_of (by rfl))
    case s7 =>
      refine And.intro (by rfl) (fun tm W hS hsz hfr hdep K hK => ?_)
      change tm.size = 92 at hsz
      have h3 : (vGrp G) 3 (tm.getD 67 undef) W := wildV_wild (by rfl) (hdep 3 (by rfl) (by decide))
      have t69 : tm.getD 69 undef = .int .i64 (N : Int) := wildV_known (by rfl) (hdep 5 (by rfl) (by decide))
      have t70 : tm.getD 70 undef = .int .u64 (x : Int) := wildV_known (by rfl) (hdep 6 (by rfl) (by decide))
      clear hdep hfr
      obtain ⟨A3, c3, t67, hR3⟩ := h3
      rw [HGL.out] at t67 hR3
      refine wp_call _ _ _ _ _ rfl rfl (by simp [Act.eval, t67, t69, t70]) (by kernel_rfl) ((HBX.out W A3 c3 hR3).mono (fun e9 W9 h => (⟨h.1, h.2 ▸ Below.refl _ _⟩ : e9 = .returned (.int .u64 (z : Int)) ∧ Below W.heap.size W W9))) (fun e W9 h9 => ?_)
      obtain ⟨rfl, hb9⟩ := h9
      exact ⟨_, rfl, hK _ W9 hb9 (wildV_of (by rfl))⟩
  case fin =>
    intro f W hS hV
    have y3 : (vGrp G) 3 (f 3) W := hV 3 (by decide) (by rfl)
    clear hV
    have hvl : ((List.range 9).map (fun i => if [3].contains i then f i else ([.agg #[.int .i64 (N : Int), .slice A1 vl c1, .slice A2 rl c2], .pointer (some ⟨w.heap.size + 1, 3, none⟩), .int .i64 g, undef, .pointer (some ⟨w.heap.size, 0, none⟩), .int .i64 (N : Int), .int .u64 (x : Int), .int .u64 (z : Int), .int .u64 (z : Int)] : List Value).getD i undef)) = [.agg #[.int .i64 (N : Int), .slice A1 vl c1, .slice A2 rl c2], .pointer (some ⟨w.heap.size + 1, 3, none⟩), .int .i64 g, f 3, .pointer (some ⟨w.heap.size, 0, none⟩), .int .i64 (N : Int), .int .u64 (x : Int), .int .u64 (z : Int), .int .u64 (z : Int)] := by rfl
    rw [hvl]
    clear hvl
    have HS := Lib.hid hS
    clear hS y3
    generalize f 3 = fv at *
    simp only [fillD]
    go_simp
    go_wp2
    go_ret
    exact ⟨rfl, (HU2.out _ HS.out).1⟩
omit hy in
set_option maxHeartbeats 8000000 in
theorem rOne12_any (hg : 1 ≤ g ∧ g < 2 ^ m.rel.length) : Calls Tryz.prog 75 #[v, .agg #[.int .i64 12, .int .i64 i, .int .i64 e, .int .i64 g, .int .i64 nx, .int .i64 ny], .int .u64 (x : Int), .int .u64 (y : Int)] w fun e' w' => e' = .returned (.int .u64 ((setN m ⟨12, i, e, g, nx, ny⟩ x y : Nat) : Int)) ∧ Below w.heap.size w w' := by
  obtain ⟨A1, c1, A2, c2, rfl, hv, hr⟩ := hM.ex
  have ok0 := chkM_ok hz
  obtain ⟨N, hN⟩ : ∃ N : Nat, m.n = (N : Int) := ⟨m.n.toNat, ok0.num⟩
  have ok : OkM N m := by have h := ok0; rw [hN] at h; simpa using h
  clear ok0
  have hle := ok.le
  have hall : allV m.n = 2 ^ N - 1 := by rw [hN]; exact allV_natC hle
  have HA := Lib.hid (fun W => rAll_any N W hle)
  have HB0 : Hid (Below w.heap.size w ((w.alloc (.cells #[.int .i64 (N : Int), .slice A1 m.val.length c1, .slice A2 m.rel.length c2] 25)).alloc (.cells #[.int .i64 12, .int .i64 i, .int .i64 e, .int .i64 g, .int .i64 nx, .int .i64 ny] 79))) := Lib.hid (((Below.refl _ w).alloc (Nat.le_refl _) _).alloc (by simp) _)
  have HU : Hid (∀ W, Below (w.heap.size + 2) ((w.alloc (.cells #[.int .i64 (N : Int), .slice A1 m.val.length c1, .slice A2 m.rel.length c2] 25)).alloc (.cells #[.int .i64 12, .int .i64 i, .int .i64 e, .int .i64 g, .int .i64 nx, .int .i64 ny] 79)) W → Below w.heap.size w W ∧ (W.cell? ⟨w.heap.size, 0, none⟩ = some (.int .i64 (N : Int)) ∧ W.cell? ⟨w.heap.size, 1, none⟩ = some (.slice A1 m.val.length c1) ∧ W.cell? ⟨w.heap.size, 2, none⟩ = some (.slice A2 m.rel.length c2)) ∧ W.cell? ⟨w.heap.size + 1, 0, none⟩ = some (.int .i64 12) ∧ W.cell? ⟨w.heap.size + 1, 1, none⟩ = some (.int .i64 i) ∧ W.cell? ⟨w.heap.size + 1, 3, none⟩ = some (.int .i64 g)) := Lib.hid (fun W hb => by
    have kb := (hb.block w.heap.size (by omega)).trans ((Below.heap_alloc (w.alloc (.cells #[.int .i64 (N : Int), .slice A1 m.val.length c1, .slice A2 m.rel.length c2] 25)) (.cells #[.int .i64 12, .int .i64 i, .int .i64 e, .int .i64 g, .int .i64 nx, .int .i64 ny] 79) w.heap.size (by simp)).trans (heap_alloc_new w (.cells #[.int .i64 (N : Int), .slice A1 m.val.length c1, .slice A2 m.rel.length c2] 25)))
    have kd0 := heap_alloc_new (w.alloc (.cells #[.int .i64 (N : Int), .slice A1 m.val.length c1, .slice A2 m.rel.length c2] 25)) (.cells #[.int .i64 12, .int .i64 i, .int .i64 e, .int .i64 g, .int .i64 nx, .int .i64 ny] 79)
    rw [show (w.alloc (.cells #[.int .i64 (N : Int), .slice A1 m.val.length c1, .slice A2 m.rel.length c2] 25)).heap.size = w.heap.size + 1 by simp] at kd0
    have kd := (hb.block (w.heap.size + 1) (by omega)).trans kd0
    exact ⟨HB0.out.trans (hb.mono (by omega)), ⟨(Lib.cell_of_heap kb 0).trans rfl, (Lib.cell_of_heap kb 1).trans rfl, (Lib.cell_of_heap kb 2).trans rfl⟩, (Lib.cell_of_heap kd 0).trans rfl, (Lib.cell_of_heap kd 1).trans rfl, (Lib.cell_of_heap kd 3).trans rfl⟩)
  have HZ0 : Hid (Below (w.heap.size + 2) ((w.alloc (.cells #[.int .i64 (N : Int), .slice A1 m.val.length c1, .slice A2 m.rel.length c2] 25)).alloc (.cells #[.int .i64 12, .int .i64 i, .int .i64 e, .int .i64 g, .int .i64 nx, .int .i64 ny] 79)) ((w.alloc (.cells #[.int .i64 (N : Int), .slice A1 m.val.length c1, .slice A2 m.rel.length c2] 25)).alloc (.cells #[.int .i64 12, .int .i64 i, .int .i64 e, .int .i64 g, .int .i64 nx, .int .i64 ny] 79))) := Lib.hid (Below.refl _ _)
  have HSZ : Hid (((w.alloc (.cells #[.int .i64 (N : Int), .slice A1 m.val.length c1, .slice A2 m.rel.length c2] 25)).alloc (.cells #[.int .i64 12, .int .i64 i, .int .i64 e, .int .i64 g, .int .i64 nx, .int .i64 ny] 79)).heap.size = w.heap.size + 2) := Lib.hid (by simp)
  obtain ⟨w2, hW2⟩ : ∃ W, (w.alloc (.cells #[.int .i64 (N : Int), .slice A1 m.val.length c1, .slice A2 m.rel.length c2] 25)).alloc (.cells #[.int .i64 12, .int .i64 i, .int .i64 e, .int .i64 g, .int .i64 nx, .int .i64 ny] 79) = W := ⟨_, rfl⟩
  rw [hW2] at HB0 HU HZ0 HSZ
  have HW2 := Lib.hid hW2
  clear hW2
  have hg64 : -9223372036854775808 ≤ g ∧ g < 9223372036854775808 := by
    have h2 : (2 : Int) ^ m.rel.length ≤ 2 ^ 4 := by
      have e : ((2 : Int) ^ m.rel.length) = ((2 ^ m.rel.length : Nat) : Int) := by simp
      rw [e]
      exact_mod_cast Nat.pow_le_pow_right (by decide) ok.agents
    have := hg.1
    have := hg.2
    omega
  have hsh : Sh N (meetL m g) := (grp_sh hz ok hg).2
  have hGw : Words (meetL m g) := sh_words hle hsh
  have HV : Hid (setN m ⟨12, i, e, g, nx, ny⟩ x y = whU (pBox x) (meetL m g) N) := Lib.hid (wh_sh hle hsh (pBox x))
  rw [HV.out]
  have HGR := Lib.hid (fun W (hb : Below w.heap.size w W) => rMeet_any m (.agg #[.int .i64 m.n, .slice A1 m.val.length c1, .slice A2 m.rel.length c2]) g W (hM.below hb hb.size) hg64)
  rw [hN] at HGR
  generalize (meetL m g) = G at *
  have HBX := Lib.hid (fun W A c (h : Reads W W.heap.size 1 A G.length (us G)) => rBoxC_any G x A G.length c W h hGw (by rw [hsh.1]; exact hle) hx)
  rw [hsh.1] at HBX
  have HGL := Lib.hid hsh.1
  generalize whU (pBox x) G N = z at *
  generalize m.val.length = vl at *
  generalize m.rel.length = rl at *
  clear hM hv hr hx ok hall hz hg hg64 hsh hGw hle
  rw [hN]
  go_enter Tryz.func75, Tryz.ntmps75
  go_wp2_with fail
  refine (HA.out _).mono ?_
  rintro e' w' ⟨rfl, rfl⟩
  rw [HW2.out]
  clear HW2
  obtain ⟨hB2, ⟨b0, b1, b2⟩, d0, d1, d3⟩ := HU.out _ HZ0.out
  have HB2 := Lib.hid hB2
  clear hB2
  have HU2 : Hid (∀ W, Below w2.heap.size w2 W → Below w.heap.size w W ∧ W.cell? ⟨w.heap.size, 0, none⟩ = some (.int .i64 (N : Int)) ∧ W.cell? ⟨w.heap.size, 1, none⟩ = some (.slice A1 vl c1) ∧ W.cell? ⟨w.heap.size, 2, none⟩ = some (.slice A2 rl c2) ∧ W.cell? ⟨w.heap.size + 1, 3, none⟩ = some (.int .i64 g)) := Lib.hid (fun W hb => by
    have h := HU.out W (HZ0.out.trans (hb.mono (Nat.le_of_eq HSZ.out.symm)))
    exact ⟨h.1, h.2.1.1, h.2.1.2.1, h.2.1.2.2, h.2.2.2.2⟩)
  go_wp2
  clear b0 b1 b2 d0 d1 d3
  refine wp_region_wild [.agg #[.int .i64 (N : Int), .slice A1 vl c1, .slice A2 rl c2], .pointer (some ⟨w.heap.size + 1, 3, none⟩), .int .i64 g, undef, .pointer (some ⟨w.heap.size, 0, none⟩), .int .i64 (N : Int), .int .u64 (x : Int), .int .u64 (z : Int), .int .u64 (z : Int)] [75, 76, 77, 78, 79, 80, 81, 82, 8] [0, 1, 2, 3, 4, 5, 7] [3] (vGrp G) (fun W => Below w2.heap.size w2 W) (fun W W' => Below W.heap.size W W') 9 92 rfl rfl rfl (by decide) (by decide) (by kernel_rfl) (by kernel_rfl) (by kernel_rfl) (by kernel_rfl) (fun W => Below.refl _ W) (fun W1 W2 W3 h1 h2 => h1.trans (h2.mono h1.size)) (fun W W' h h2 => h.trans (h2.mono h.size)) vGrp_up (Below.refl w2.heap.size w2).drew (by kernel_rfl) [] rfl ?hop ?fin
  case hop =>
    refine (And.intro ?s0 (And.intro ?s1 (And.intro ?s2 (And.intro ?s3 (And.intro ?s4 (And.intro ?s5 (And.intro ?s7 trivial)))))))
    case s0 =>
      refine And.intro (by rfl) (fun tm W hS hsz hfr hdep K hK => ?_)
      change tm.size = 92 at hsz
      have t4 : tm.getD 4 undef = .pointer (some ⟨w.heap.size, 0, none⟩) := hfr 4 (by rfl)
      obtain ⟨_, b0, b1, b2, d3⟩ := HU2.out W hS
      clear hdep hfr
      go_simp
      exact hK _ W (Below.refl _ W) (wildV_of (by rfl))
    case s1 =>
      refine And.intro (by rfl) (fun tm W hS hsz hfr hdep K hK => ?_)
      change tm.size = 92 at hsz
      have t5 : tm.getD 5 undef = .pointer (some ⟨w.heap.size + 1, 0, none⟩) := hfr 5 (by rfl)
      clear hdep hfr
      go_simp
      exact hK _ W (Below.refl _ W) (wildV_of (by rfl))
    case s2 =>
      refine And.intro (by rfl) (fun tm W hS hsz hfr hdep K hK => ?_)
      change tm.size = 92 at hsz
      have t76 : tm.getD 76 undef = .pointer (some ⟨w.heap.size + 1, 3, none⟩) := wildV_known (by rfl) (hdep 1 (by rfl) (by decide))
      obtain ⟨_, b0, b1, b2, d3⟩ := HU2.out W hS
      clear hdep hfr
      go_simp
      exact hK _ W (Below.refl _ W) (wildV_of (by rfl))
    case s3 =>
      refine And.intro (by rfl) (fun tm W hS hsz hfr hdep K hK => ?_)
      change tm.size = 92 at hsz
      have t75 : tm.getD 75 undef = .agg #[.int .i64 (N : Int), .slice A1 vl c1, .slice A2 rl c2] := wildV_known (by rfl) (hdep 0 (by rfl) (by decide))
      have t77 : tm.getD 77 undef = .int .i64 g := wildV_known (by rfl) (hdep 2 (by rfl) (by decide))
      clear hdep hfr
      refine wp_call _ _ _ _ _ rfl rfl (by simp [Act.eval, t75, t77]) (by kernel_rfl) (HGR.out W (HU2.out W hS).1) (fun e W9 h9 => ?_)
      obtain ⟨A9, c9, rfl, hr9, hb9⟩ := h9
      exact ⟨_, rfl, hK _ W9 hb9 (show vGrp G 3 (.slice A9 G.length c9) W9 from ⟨A9, c9, rfl, hr9⟩)⟩
    case s4 =>
      refine And.intro (by rfl) (fun tm W hS hsz hfr hdep K hK => ?_)
      change tm.size = 92 at hsz
      have t4 : tm.getD 4 undef = .pointer (some ⟨w.heap.size, 0, none⟩) := hfr 4 (by rfl)
      clear hdep hfr
      go_simp
      exact hK _ W (Below.refl _ W) (wildV_of (by rfl))
    case s5 =>
      refine And.intro (by rfl) (fun tm W hS hsz hfr hdep K hK => ?_)
      change tm.size = 92 at hsz
      have t79 : tm.getD 79 undef = .pointer (some ⟨w.heap.size, 0, none⟩) := wildV_known (by rfl) (hdep 4 (by rfl) (by decide))
      obtain ⟨_, b0, b1, b2, d3⟩ := HU2.out W hS
      clear hdep hfr
      go_simp
      exact hK _ W (Below.refl _ W) (wildV_of (by rfl))
    case s7 =>
      refine And.intro (by rfl) (fun tm W hS hsz hfr hdep K hK => ?_)
      change tm.size = 92 at hsz
      have h3 : (vGrp G) 3 (tm.getD 78 undef) W := wildV_wild (by rfl) (hdep 3 (by rfl) (by decide))
      have t80 : tm.getD 80 undef = .int .i64 (N : Int) := wildV_known (by rfl) (hdep 5 (by rfl) (by decide))
      have t81 : tm.getD 81 undef = .int .u64 (x : Int) := wildV_known (by rfl) (hdep 6 (by rfl) (by decide))
      clear hdep hfr
      obtain ⟨A3, c3, t78, hR3⟩ := h3
      rw [HGL.out] at t78 hR3
      refine wp_call _ _ _ _ _ rfl rfl (by simp [Act.eval, t78, t80, t81]) (by kernel_rfl) ((HBX.out W A3 c3 hR3).mono (fun e9 W9 h => (⟨h.1, h.2 ▸ Below.refl _ _⟩ : e9 = .returned (.int .u64 (z : Int)) ∧ Below W.heap.size W W9))) (fun e W9 h9 => ?_)
      obtain ⟨rfl, hb9⟩ := h9
      exact ⟨_, rfl, hK _ W9 hb9 (wildV_of (by rfl))⟩
  case fin =>
    intro f W hS hV
    have y3 : (vGrp G) 3 (f 3) W := hV 3 (by decide) (by rfl)
    clear hV
    have hvl : ((List.range 9).map (fun i => if [3].contains i then f i else ([.agg #[.int .i64 (N : Int), .slice A1 vl c1, .slice A2 rl c2], .pointer (some ⟨w.heap.size + 1, 3, none⟩), .int .i64 g, undef, .pointer (some ⟨w.heap.size, 0, none⟩), .int .i64 (N : Int), .int .u64 (x : Int), .int .u64 (z : Int), .int .u64 (z : Int)] : List Value).getD i undef)) = [.agg #[.int .i64 (N : Int), .slice A1 vl c1, .slice A2 rl c2], .pointer (some ⟨w.heap.size + 1, 3, none⟩), .int .i64 g, f 3, .pointer (some ⟨w.heap.size, 0, none⟩), .int .i64 (N : Int), .int .u64 (x : Int), .int .u64 (z : Int), .int .u64 (z : Int)] := by rfl
    rw [hvl]
    clear hvl
    have HS := Lib.hid hS
    clear hS y3
    generalize f 3 = fv at *
    simp only [fillD]
    go_simp
    go_wp2
    go_ret
    exact ⟨rfl, (HU2.out _ HS.out).1⟩
set_option maxHeartbeats 8000000 in
theorem rOne13_any (hg : 1 ≤ g ∧ g < 2 ^ m.rel.length) : Calls Tryz.prog 75 #[v, .agg #[.int .i64 13, .int .i64 i, .int .i64 e, .int .i64 g, .int .i64 nx, .int .i64 ny], .int .u64 (x : Int), .int .u64 (y : Int)] w fun e' w' => e' = .returned (.int .u64 ((setN m ⟨13, i, e, g, nx, ny⟩ x y : Nat) : Int)) ∧ Below w.heap.size w w' := by
  obtain ⟨A1, c1, A2, c2, rfl, hv, hr⟩ := hM.ex
  have ok0 := chkM_ok hz
  obtain ⟨N, hN⟩ : ∃ N : Nat, m.n = (N : Int) := ⟨m.n.toNat, ok0.num⟩
  have ok : OkM N m := by have h := ok0; rw [hN] at h; simpa using h
  clear ok0
  have hle := ok.le
  have hall : allV m.n = 2 ^ N - 1 := by rw [hN]; exact allV_natC hle
  have HA := Lib.hid (fun W => rAll_any N W hle)
  have HB0 : Hid (Below w.heap.size w ((w.alloc (.cells #[.int .i64 (N : Int), .slice A1 m.val.length c1, .slice A2 m.rel.length c2] 25)).alloc (.cells #[.int .i64 13, .int .i64 i, .int .i64 e, .int .i64 g, .int .i64 nx, .int .i64 ny] 79))) := Lib.hid (((Below.refl _ w).alloc (Nat.le_refl _) _).alloc (by simp) _)
  have HU : Hid (∀ W, Below (w.heap.size + 2) ((w.alloc (.cells #[.int .i64 (N : Int), .slice A1 m.val.length c1, .slice A2 m.rel.length c2] 25)).alloc (.cells #[.int .i64 13, .int .i64 i, .int .i64 e, .int .i64 g, .int .i64 nx, .int .i64 ny] 79)) W → Below w.heap.size w W ∧ (W.cell? ⟨w.heap.size, 0, none⟩ = some (.int .i64 (N : Int)) ∧ W.cell? ⟨w.heap.size, 1, none⟩ = some (.slice A1 m.val.length c1) ∧ W.cell? ⟨w.heap.size, 2, none⟩ = some (.slice A2 m.rel.length c2)) ∧ W.cell? ⟨w.heap.size + 1, 0, none⟩ = some (.int .i64 13) ∧ W.cell? ⟨w.heap.size + 1, 1, none⟩ = some (.int .i64 i) ∧ W.cell? ⟨w.heap.size + 1, 3, none⟩ = some (.int .i64 g)) := Lib.hid (fun W hb => by
    have kb := (hb.block w.heap.size (by omega)).trans ((Below.heap_alloc (w.alloc (.cells #[.int .i64 (N : Int), .slice A1 m.val.length c1, .slice A2 m.rel.length c2] 25)) (.cells #[.int .i64 13, .int .i64 i, .int .i64 e, .int .i64 g, .int .i64 nx, .int .i64 ny] 79) w.heap.size (by simp)).trans (heap_alloc_new w (.cells #[.int .i64 (N : Int), .slice A1 m.val.length c1, .slice A2 m.rel.length c2] 25)))
    have kd0 := heap_alloc_new (w.alloc (.cells #[.int .i64 (N : Int), .slice A1 m.val.length c1, .slice A2 m.rel.length c2] 25)) (.cells #[.int .i64 13, .int .i64 i, .int .i64 e, .int .i64 g, .int .i64 nx, .int .i64 ny] 79)
    rw [show (w.alloc (.cells #[.int .i64 (N : Int), .slice A1 m.val.length c1, .slice A2 m.rel.length c2] 25)).heap.size = w.heap.size + 1 by simp] at kd0
    have kd := (hb.block (w.heap.size + 1) (by omega)).trans kd0
    exact ⟨HB0.out.trans (hb.mono (by omega)), ⟨(Lib.cell_of_heap kb 0).trans rfl, (Lib.cell_of_heap kb 1).trans rfl, (Lib.cell_of_heap kb 2).trans rfl⟩, (Lib.cell_of_heap kd 0).trans rfl, (Lib.cell_of_heap kd 1).trans rfl, (Lib.cell_of_heap kd 3).trans rfl⟩)
  have HZ0 : Hid (Below (w.heap.size + 2) ((w.alloc (.cells #[.int .i64 (N : Int), .slice A1 m.val.length c1, .slice A2 m.rel.length c2] 25)).alloc (.cells #[.int .i64 13, .int .i64 i, .int .i64 e, .int .i64 g, .int .i64 nx, .int .i64 ny] 79)) ((w.alloc (.cells #[.int .i64 (N : Int), .slice A1 m.val.length c1, .slice A2 m.rel.length c2] 25)).alloc (.cells #[.int .i64 13, .int .i64 i, .int .i64 e, .int .i64 g, .int .i64 nx, .int .i64 ny] 79))) := Lib.hid (Below.refl _ _)
  have HSZ : Hid (((w.alloc (.cells #[.int .i64 (N : Int), .slice A1 m.val.length c1, .slice A2 m.rel.length c2] 25)).alloc (.cells #[.int .i64 13, .int .i64 i, .int .i64 e, .int .i64 g, .int .i64 nx, .int .i64 ny] 79)).heap.size = w.heap.size + 2) := Lib.hid (by simp)
  obtain ⟨w2, hW2⟩ : ∃ W, (w.alloc (.cells #[.int .i64 (N : Int), .slice A1 m.val.length c1, .slice A2 m.rel.length c2] 25)).alloc (.cells #[.int .i64 13, .int .i64 i, .int .i64 e, .int .i64 g, .int .i64 nx, .int .i64 ny] 79) = W := ⟨_, rfl⟩
  rw [hW2] at HB0 HU HZ0 HSZ
  have HW2 := Lib.hid hW2
  clear hW2
  have hg64 : -9223372036854775808 ≤ g ∧ g < 9223372036854775808 := by
    have h2 : (2 : Int) ^ m.rel.length ≤ 2 ^ 4 := by
      have e : ((2 : Int) ^ m.rel.length) = ((2 ^ m.rel.length : Nat) : Int) := by simp
      rw [e]
      exact_mod_cast Nat.pow_le_pow_right (by decide) ok.agents
    have := hg.1
    have := hg.2
    omega
  have hsh : Sh N (groupL m g) := (grp_sh hz ok hg).1
  have hGw : Words (groupL m g) := sh_words hle hsh
  have HV : Hid (setN m ⟨13, i, e, g, nx, ny⟩ x y = whU (pBox y) ((List.range N).map (fun k => pthN ((groupL m g).map (· &&& x)) N (((groupL m g).map (· &&& x)).getD k 0) N)) N) := Lib.hid (com_paths hz ok hg x y hy)
  rw [HV.out]
  have HGR := Lib.hid (fun W (hb : Below w.heap.size w W) => rGroup_any m (.agg #[.int .i64 m.n, .slice A1 m.val.length c1, .slice A2 m.rel.length c2]) g W (hM.below hb hb.size) hg64)
  rw [hN] at HGR
  generalize (groupL m g) = G at *
  have HBX := Lib.hid (fun W A c (h : Reads W W.heap.size 1 A N (us G)) => rCommonC_any G x y A N c W h hGw hle hx hy)
  have HGL := Lib.hid hsh.1
  generalize whU (pBox y) ((List.range N).map (fun k => pthN (G.map (· &&& x)) N ((G.map (· &&& x)).getD k 0) N)) N = z at *
  generalize m.val.length = vl at *
  generalize m.rel.length = rl at *
  clear hM hv hr hx hy ok hall hz hg hg64 hsh hGw hle
  rw [hN]
  go_enter Tryz.func75, Tryz.ntmps75
  go_wp2_with fail
  refine (HA.out _).mono ?_
  rintro e' w' ⟨rfl, rfl⟩
  rw [HW2.out]
  clear HW2
  obtain ⟨hB2, ⟨b0, b1, b2⟩, d0, d1, d3⟩ := HU.out _ HZ0.out
  have HB2 := Lib.hid hB2
  clear hB2
  have HU2 : Hid (∀ W, Below w2.heap.size w2 W → Below w.heap.size w W ∧ W.cell? ⟨w.heap.size, 0, none⟩ = some (.int .i64 (N : Int)) ∧ W.cell? ⟨w.heap.size, 1, none⟩ = some (.slice A1 vl c1) ∧ W.cell? ⟨w.heap.size, 2, none⟩ = some (.slice A2 rl c2) ∧ W.cell? ⟨w.heap.size + 1, 3, none⟩ = some (.int .i64 g)) := Lib.hid (fun W hb => by
    have h := HU.out W (HZ0.out.trans (hb.mono (Nat.le_of_eq HSZ.out.symm)))
    exact ⟨h.1, h.2.1.1, h.2.1.2.1, h.2.1.2.2, h.2.2.2.2⟩)
  go_wp2
  clear b0 b1 b2 d0 d1 d3
  refine wp_region_wild [.agg #[.int .i64 (N : Int), .slice A1 vl c1, .slice A2 rl c2], .pointer (some ⟨w.heap.size + 1, 3, none⟩), .int .i64 g, undef, .pointer (some ⟨w.heap.size, 0, none⟩), .int .i64 (N : Int), .int .u64 (x : Int), .int .u64 (y : Int), .int .u64 (z : Int), .int .u64 (z : Int)] [83, 84, 85, 86, 87, 88, 89, 90, 91, 8] [0, 1, 2, 3, 4, 5, 8] [3] (vGrp G) (fun W => Below w2.heap.size w2 W) (fun W W' => Below W.heap.size W W') 10 92 rfl rfl rfl (by decide) (by decide) (by kernel_rfl) (by kernel_rfl) (by kernel_rfl) (by kernel_rfl) (fun W => Below.refl _ W) (fun W1 W2 W3 h1 h2 => h1.trans (h2.mono h1.size)) (fun W W' h h2 => h.trans (h2.mono h.size)) vGrp_up (Below.refl w2.heap.size w2).drew (by kernel_rfl) [] rfl ?hop ?fin
  case hop =>
    refine (And.intro ?s0 (And.intro ?s1 (And.intro ?s2 (And.intro ?s3 (And.intro ?s4 (And.intro ?s5 (And.intro ?s8 trivial)))))))
    case s0 =>
      refine And.intro (by rfl) (fun tm W hS hsz hfr hdep K hK => ?_)
      change tm.size = 92 at hsz
      have t4 : tm.getD 4 undef = .pointer (some ⟨w.heap.size, 0, none⟩) := hfr 4 (by rfl)
      obtain ⟨_, b0, b1, b2, d3⟩ := HU2.out W hS
      clear hdep hfr
      go_simp
      exact hK _ W (Below.refl _ W) (wildV_of (by rfl))
    case s1 =>
      refine And.intro (by rfl) (fun tm W hS hsz hfr hdep K hK => ?_)
      change tm.size = 92 at hsz
      have t5 : tm.getD 5 undef = .pointer (some ⟨w.heap.size + 1, 0, none⟩) := hfr 5 (by rfl)
      clear hdep hfr
      go_simp
      exact hK _ W (Below.refl _ W) (wildV_of (by rfl))
    case s2 =>
      refine And.intro (by rfl) (fun tm W hS hsz hfr hdep K hK => ?_)
      change tm.size = 92 at hsz
      have t84 : tm.getD 84 undef = .pointer (some ⟨w.heap.size + 1, 3, none⟩) := wildV_known (by rfl) (hdep 1 (by rfl) (by decide))
      obtain ⟨_, b0, b1, b2, d3⟩ := HU2.out W hS
      clear hdep hfr
      go_simp
      exact hK _ W (Below.refl _ W) (wildV_of (by rfl))
    case s3 =>
      refine And.intro (by rfl) (fun tm W hS hsz hfr hdep K hK => ?_)
      change tm.size = 92 at hsz
      have t83 : tm.getD 83 undef = .agg #[.int .i64 (N : Int), .slice A1 vl c1, .slice A2 rl c2] := wildV_known (by rfl) (hdep 0 (by rfl) (by decide))
      have t85 : tm.getD 85 undef = .int .i64 g := wildV_known (by rfl) (hdep 2 (by rfl) (by decide))
      clear hdep hfr
      refine wp_call _ _ _ _ _ rfl rfl (by simp [Act.eval, t83, t85]) (by kernel_rfl) (HGR.out W (HU2.out W hS).1) (fun e W9 h9 => ?_)
      obtain ⟨A9, c9, rfl, hr9, hb9⟩ := h9
      exact ⟨_, rfl, hK _ W9 hb9 (show vGrp G 3 (.slice A9 G.length c9) W9 from ⟨A9, c9, rfl, hr9⟩)⟩
    case s4 =>
      refine And.intro (by rfl) (fun tm W hS hsz hfr hdep K hK => ?_)
      change tm.size = 92 at hsz
      have t4 : tm.getD 4 undef = .pointer (some ⟨w.heap.size, 0, none⟩) := hfr 4 (by rfl)
      clear hdep hfr
      go_simp
      exact hK _ W (Below.refl _ W) (wildV_of (by rfl))
    case s5 =>
      refine And.intro (by rfl) (fun tm W hS hsz hfr hdep K hK => ?_)
      change tm.size = 92 at hsz
      have t87 : tm.getD 87 undef = .pointer (some ⟨w.heap.size, 0, none⟩) := wildV_known (by rfl) (hdep 4 (by rfl) (by decide))
      obtain ⟨_, b0, b1, b2, d3⟩ := HU2.out W hS
      clear hdep hfr
      go_simp
      exact hK _ W (Below.refl _ W) (wildV_of (by rfl))
    case s8 =>
      refine And.intro (by rfl) (fun tm W hS hsz hfr hdep K hK => ?_)
      change tm.size = 92 at hsz
      have h3 : (vGrp G) 3 (tm.getD 86 undef) W := wildV_wild (by rfl) (hdep 3 (by rfl) (by decide))
      have t88 : tm.getD 88 undef = .int .i64 (N : Int) := wildV_known (by rfl) (hdep 5 (by rfl) (by decide))
      have t89 : tm.getD 89 undef = .int .u64 (x : Int) := wildV_known (by rfl) (hdep 6 (by rfl) (by decide))
      have t90 : tm.getD 90 undef = .int .u64 (y : Int) := wildV_known (by rfl) (hdep 7 (by rfl) (by decide))
      clear hdep hfr
      obtain ⟨A3, c3, t86, hR3⟩ := h3
      rw [HGL.out] at t86 hR3
      refine wp_call _ _ _ _ _ rfl rfl (by simp [Act.eval, t86, t88, t89, t90]) (by kernel_rfl) ((HBX.out W A3 c3 hR3).mono (fun e9 W9 h => (⟨h.1, h.2 ▸ Below.refl _ _⟩ : e9 = .returned (.int .u64 (z : Int)) ∧ Below W.heap.size W W9))) (fun e W9 h9 => ?_)
      obtain ⟨rfl, hb9⟩ := h9
      exact ⟨_, rfl, hK _ W9 hb9 (wildV_of (by rfl))⟩
  case fin =>
    intro f W hS hV
    have y3 : (vGrp G) 3 (f 3) W := hV 3 (by decide) (by rfl)
    clear hV
    have hvl : ((List.range 10).map (fun i => if [3].contains i then f i else ([.agg #[.int .i64 (N : Int), .slice A1 vl c1, .slice A2 rl c2], .pointer (some ⟨w.heap.size + 1, 3, none⟩), .int .i64 g, undef, .pointer (some ⟨w.heap.size, 0, none⟩), .int .i64 (N : Int), .int .u64 (x : Int), .int .u64 (y : Int), .int .u64 (z : Int), .int .u64 (z : Int)] : List Value).getD i undef)) = [.agg #[.int .i64 (N : Int), .slice A1 vl c1, .slice A2 rl c2], .pointer (some ⟨w.heap.size + 1, 3, none⟩), .int .i64 g, f 3, .pointer (some ⟨w.heap.size, 0, none⟩), .int .i64 (N : Int), .int .u64 (x : Int), .int .u64 (y : Int), .int .u64 (z : Int), .int .u64 (z : Int)] := by rfl
    rw [hvl]
    clear hvl
    have HS := Lib.hid hS
    clear hS y3
    generalize f 3 = fv at *
    simp only [fillD]
    go_simp
    go_wp2
    go_ret
    exact ⟨rfl, (HU2.out _ HS.out).1⟩
end
theorem rOneN_any (m : Mo) (v : Value) (w : World) (hM : MoR w w.heap.size v m) (hz : chkM m = 0) (n : Nd) (hf : fldOk n) (hok : okC m.rel.length m.val.length n) (x y : Nat) (hx : x < 18446744073709551616) (hy : y < 18446744073709551616) :
    Calls Tryz.prog 75 #[v, .agg #[.int .i64 n.op, .int .i64 n.i, .int .i64 n.e, .int .i64 n.g, .int .i64 n.x, .int .i64 n.y], .int .u64 (x : Int), .int .u64 (y : Int)] w fun e' w' => e' = .returned (.int .u64 ((setN m n x y : Nat) : Int)) ∧ Below w.heap.size w w' := by
  obtain ⟨op, i, e, g, nx, ny⟩ := n
  obtain ⟨hk, _, hr⟩ := hf
  unfold okC hasN at hok
  unfold rangeOk at hr
  simp only [Bool.and_eq_true, Bool.or_eq_true, decide_eq_true_eq, beq_iff_eq] at hr
  obtain ⟨⟨r1, r2⟩, r3⟩ := hr
  dsimp only at hk r1 r2 r3 hok
  unfold known at hk
  simp only [Bool.and_eq_true, decide_eq_true_eq] at hk
  have hops : op = 1 ∨ op = 2 ∨ op = 3 ∨ op = 4 ∨ op = 5 ∨ op = 6 ∨ op = 7 ∨ op = 8 ∨ op = 9 ∨ op = 10 ∨ op = 11 ∨ op = 12 ∨ op = 13 ∨ (14 ≤ op ∧ op ≤ 21) := by omega
  rcases hops with rfl | rfl | rfl | rfl | rfl | rfl | rfl | rfl | rfl | rfl | rfl | rfl | rfl | h
  · exact rOne1_any m v w hM hz i e g nx ny x y hx hy
  · exact rOne2_any m v w hM hz i e g nx ny x y hx hy
  · simp [shN] at r1 hok
    exact rOne3_any m v w hM hz i e g nx ny x y ⟨r1.1, hok⟩
  · exact rOne4_any m v w hM hz i e g nx ny x y hx hy
  · exact rOne5_any m v w hM hz i e g nx ny x y hx hy
  · exact rOne6_any m v w hM hz i e g nx ny x y hx hy
  · exact rOne7_any m v w hM hz i e g nx ny x y hx hy
  · exact rOne8_any m v w hM hz i e g nx ny x y hx hy
  · simp [shN, hasAgent] at r1 hok
    exact rOne9_any m v w hM hz i e g nx ny x y hx ⟨r1.1, hok⟩
  · simp [shN, hasAgent] at r1 hok
    exact rOne10_any m v w hM hz i e g nx ny x y hx ⟨r1.1, hok⟩
  · simp [shG, hasGroup] at r3 hok
    exact rOne11_any m v w hM hz i e g nx ny x y hx ⟨r3.1, hok⟩
  · simp [shG, hasGroup] at r3 hok
    exact rOne12_any m v w hM hz i e g nx ny x y hx ⟨r3.1, hok⟩
  · simp [shG, hasGroup] at r3 hok
    exact rOne13_any m v w hM hz i e g nx ny x y hx hy ⟨r3.1, hok⟩
  · exfalso
    repeat' (split at hok)
    all_goals first | omega | cases hok
end Go.Proofs.YtjpmhbnikoggaaaGreatDoor
