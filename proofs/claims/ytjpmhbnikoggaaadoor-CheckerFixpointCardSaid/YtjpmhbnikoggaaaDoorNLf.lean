/- Layer 17: the set of a node by the reference. -/
import Derived.Test.YtjpmhbnikoggaaaDoorNIi
import Derived.Test.YtjpmhbnikoggaaaDoorNKa
import Derived.Test.YtjpmhbnikoggaaaDoorNLe
import Derived.Test.YtjpmhbnikoggaaaDoorNLy
namespace Go.Proofs.YtjpmhbnikoggaaaDoor
open Go.RowKit Go.Proofs.Ws
set_option maxRecDepth 100000
theorem allV_natC {N : Nat} (h : N ≤ 64) : allV (N : Int) = 2 ^ N - 1 := by
  unfold allV
  rw [if_pos ⟨by omega, by omega⟩]
  rfl
theorem grp_sh {m : Mo} {N : Nat} {g : Int} (hz : chkM m = 0) (ok : OkM N m) (hg : 1 ≤ g ∧ g < 2 ^ m.rel.length) : Sh N (groupL m g) ∧ Sh N (meetL m g) := by
  have hG : isG m g = true := by
    unfold isG
    rw [decide_eq_true hz, decide_eq_true hg.1, decide_eq_true hg.2]
    rfl
  have hNn : m.n.toNat = N := by rw [ok.num]; rfl
  unfold groupL meetL
  rw [if_pos hG, if_pos hG, hNn]
  have hgn : g.toNat < 2 ^ m.rel.length := by
    have h2 := hg.2
    have e : ((2 : Int) ^ m.rel.length) = ((2 ^ m.rel.length : Nat) : Int) := by simp
    rw [e] at h2
    omega
  have hbit : ∃ j, j < m.rel.length ∧ g.toNat.testBit j = true := by
    apply Classical.byContradiction
    intro hno
    have h0 : g.toNat = 0 := Nat.eq_of_testBit_eq fun j => by
      rw [Nat.zero_testBit]
      cases hb : g.toNat.testBit j with
      | false => rfl
      | true =>
        exfalso
        refine hno ⟨j, ?_, hb⟩
        apply Classical.byContradiction
        intro hj
        rw [Nat.testBit_lt_two_pow (Nat.lt_of_lt_of_le hgn (Nat.pow_le_pow_right (by decide) (by omega)))] at hb
        cases hb
    have := hg.1
    omega
  refine ⟨⟨by simp, fun x hx => ?_⟩, ⟨by simp, fun x hx => ?_⟩⟩
  · obtain ⟨w, _, rfl⟩ := List.mem_map.1 hx
    exact gorK_lt ok.rel _
  · obtain ⟨w, _, rfl⟩ := List.mem_map.1 hx
    exact gandK_lt ok.rel _ hbit
theorem sh_rel {R : List Nat} {N : Nat} (hn : N ≤ 64) (h : Sh N R) : relErr R.length R = 0 := by rw [h.1]; exact sh_errQ hn h
theorem wh_sh {R : List Nat} {N : Nat} (hn : N ≤ 64) (h : Sh N R) (p : Nat → Bool) : whV p R = whU p R N := by
  unfold whV
  rw [if_pos (sh_rel hn h), h.1]
theorem sh_and {R : List Nat} {N : Nat} (h : Sh N R) (x : Nat) : Sh N (R.map (· &&& x)) := ⟨by rw [List.length_map]; exact h.1, fun y hy => by
  obtain ⟨r, hr, rfl⟩ := List.mem_map.1 hy
  exact Nat.lt_of_le_of_lt Nat.and_le_left (h.2 r hr)⟩
theorem dia_dual {R : List Nat} {N x : Nat} (hn : N ≤ 64) (h : Sh N R) (hx : x < 18446744073709551616) : whV (pDia x) R = anN (allV N) (whV (pBox (anN (allV N) x)) R) := by
  have h0 : relErr N R = 0 := sh_errQ hn h
  have hl : R.length = N := h.1
  have hall : allV N < 18446744073709551616 := allV_lt _
  have ha : anN (allV N) x < 18446744073709551616 := anN_lt _ _ hall
  have hb : whV (pBox (anN (allV N) x)) R < 18446744073709551616 := by rw [wh_sh hn h]; exact whU_lt _ _ _ hn
  apply Nat.eq_of_testBit_eq
  intro w
  rw [Bool.eq_iff_iff, anN_bit _ _ _ hall hb, allV_bit N w hn, decide_eq_true_eq]
  rw [show (whV (pDia x) R).testBit w = (dia R x).testBit w from rfl, dia_iff h0 hl]
  rw [← Bool.not_eq_true, show (whV (pBox (anN (allV N) x)) R).testBit w = (box R (anN (allV N) x)).testBit w from rfl, box_bit h0 hl _ _ ha]
  constructor
  · rintro ⟨v, h1, h2⟩
    have hin := bit_in h h1
    refine ⟨hin.1, fun hc => ?_⟩
    have h3 := (anN_bit _ _ _ hall hx).1 (hc.2 v h1)
    rw [h2] at h3
    cases h3.2
  · rintro ⟨h1, h2⟩
    apply Classical.byContradiction
    intro hno
    refine h2 ⟨h1, fun v hv => (anN_bit _ _ _ hall hx).2 ⟨?_, ?_⟩⟩
    · rw [allV_bit N v hn]; exact decide_eq_true (bit_in h hv).2
    · cases e : x.testBit v with
      | false => rfl
      | true => exact absurd ⟨v, hv, e⟩ hno
/-- common knowledge by steps back is common knowledge by paths -/
theorem com_paths {m : Mo} {N : Nat} {g : Int} (hz : chkM m = 0) (ok : OkM N m) (hg : 1 ≤ g ∧ g < 2 ^ m.rel.length) (x y : Nat) (hy : y < 18446744073709551616) :
    comV m g x y = whU (pBox y) ((List.range N).map (fun k => pthN ((groupL m g).map (· &&& x)) N (((groupL m g).map (· &&& x)).getD k 0) N)) N := by
  have hs := sh_and (grp_sh hz ok hg).1 x
  unfold comV
  have hn : allV m.n = allV N := by rw [ok.num]
  rw [hn]
  exact com_bits (sh_errQ ok.le hs) hs.1 y hy
/-- what is known of the relations of a group -/
def vGrp (G : List Nat) (_i : Nat) (v : Value) (W : World) : Prop := ∃ A c, v = .slice A G.length c ∧ Reads W W.heap.size 1 A G.length (us G)
theorem vGrp_up {G : List Nat} : ∀ i v W W', vGrp G i v W → Below W.heap.size W W' → vGrp G i v W' := fun _ _ _ _ ⟨A, c, e, h⟩ hb => ⟨A, c, e, (h.below hb).more hb.size⟩
section
variable (m : Mo) (v : Value) (w : World) (hM : MoR w w.heap.size v m) (hz : chkM m = 0) (i e g nx ny : Int) (x y : Nat) (hx : x < 18446744073709551616) (hy : y < 18446744073709551616)
include hM hz hx hy
end
end Go.Proofs.YtjpmhbnikoggaaaDoor
