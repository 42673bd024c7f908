/- Layer 13: what the law about restrictions of restrictions needs. -/
import Derived.Test.YtofclgapgjcflaaDoorEg
import Derived.Test.YtofclgapgjcflaaDoorEm
namespace Go.Proofs.YtofclgapgjcflaaDoor
open Go.RowKit Go.Proofs.Ws
theorem restE_split {m : Mo} {s : Nat} (h : restE m s = 0) : csE m s = 0 ∧ s ≠ 0 := by
  unfold restE at h
  split at h
  · rename_i h1
    split at h
    · exact absurd h (by decide)
    · rename_i h2; exact ⟨h1, h2⟩
  · rename_i h1; exact absurd h h1
theorem restE_in {m : Mo} {s : Nat} (h : chkM m = 0) (h2 : s < 2 ^ m.n.toNat) (h0 : s ≠ 0) : restE m s = 0 ∧ restM m s = pickM m (mem s) ∧ restL m s = mem s := by
  have hc := csE_in h h2
  have he : restE m s = 0 := by unfold restE; rw [if_pos hc, if_neg h0]
  refine ⟨he, ?_, ?_⟩
  · unfold restM; rw [if_pos he]
  · unfold restL; rw [if_pos he]
structure TwiceA (m am : Mo) (L : List Nat) (n p : Nat) : Prop where
  ok : OkM n m
  aok : OkM p am
  pick : am = pickM m L
  len : L.length = p
  below : ∀ x ∈ L, x < n
  asc : L.Pairwise (· < ·)
theorem twice_a {m : Mo} {s : Nat} (he : restE m s = 0) (hs : s < 18446744073709551616) : TwiceA m (restM m s) (mem s) m.n.toNat (mem s).length ∧ restL m s = mem s := by
  obtain ⟨hc, h0⟩ := restE_split he
  obtain ⟨ok, hlt⟩ := csE_ok hc
  obtain ⟨_, h1, h2⟩ := restE_in ok.chk hlt h0
  exact ⟨⟨ok, by rw [h1]; exact pick_ok ok (mem_pos h0 hs) (mem_length_le s), h1, rfl, mem_below hlt, mem_asc s⟩, h2⟩
theorem TwiceA.nums {m am : Mo} {L : List Nat} {n p : Nat} (h : TwiceA m am L n p) : am.n = (p : Int) ∧ am.val.length = m.val.length ∧ am.rel.length = m.rel.length := by
  refine ⟨h.aok.num, ?_, ?_⟩
  · rw [h.pick]; unfold pickM; simp
  · rw [h.pick]; unfold pickM; simp
theorem TwiceA.name {m am : Mo} {L : List Nat} {n p : Nat} (h : TwiceA m am L n p) {j : Nat} (hj : j < p) : L.getD j 0 < 64 := by
  have hl : j < L.length := by rw [h.len]; exact hj
  have e : L.getD j 0 = L[j] := by simp [hl]
  have := h.below _ (List.getElem_mem hl)
  have := h.ok.le
  omega
structure TwiceB (m bm : Mo) (L K : List Nat) (p q : Nat) : Prop where
  pos : 1 ≤ q
  le : q ≤ 64
  num : bm.n = (q : Int)
  vals : bm.val.length = m.val.length
  rels : bm.rel.length = m.rel.length
  below : ∀ i, i < q → K.getD i 0 < p
  fact : ∀ i : Nat, i < q → factV bm (i : Int) = factV m ((L.getD (K.getD i 0) 0 : Nat) : Int)
  small : ∀ i, i ≤ q → setK L K i < 18446744073709551616
  lastE : restE m (setK L K q) = 0
  lastM : restM m (setK L K q) = bm
theorem twice_b {m am : Mo} {L : List Nat} {n p r : Nat} (h : TwiceA m am L n p) (hr : r < 2 ^ p) (h0 : r ≠ 0) : restE am r = 0 ∧ restL am r = mem r ∧ TwiceB m (restM am r) L (mem r) p (mem r).length := by
  have hap : am.n.toNat = p := by rw [h.aok.num]; rfl
  have hmn : m.n.toNat = n := by rw [h.ok.num]; rfl
  obtain ⟨e1, e2, e3⟩ := restE_in h.aok.chk (by rw [hap]; exact hr) h0
  have hp64 := h.aok.le
  have hr64 : r < 18446744073709551616 := Nat.lt_of_lt_of_le hr (Nat.pow_le_pow_right (show 0 < 2 by decide) hp64)
  have hq1 := mem_pos h0 hr64
  have hq2 := mem_length_le r
  have hKp : ∀ x ∈ mem r, x < L.length := by rw [h.len]; exact mem_below hr
  have hKL : ∀ x ∈ (mem r).map (fun x => L.getD x 0), x < n := fun x hx => by
    obtain ⟨y, hy, rfl⟩ := List.mem_map.1 hx
    have h1 := hKp y hy
    have e : L.getD y 0 = L[y] := by simp [h1]
    rw [e]; exact h.below _ (List.getElem_mem h1)
  have hb : restM am r = pickM m ((mem r).map (fun x => L.getD x 0)) := by rw [e2, h.pick, pick_pick hKp]
  have hlen : ((mem r).map (fun x => L.getD x 0)).length = (mem r).length := by simp
  have hset : mem (setK L (mem r) (mem r).length) = (mem r).map (fun x => L.getD x 0) := mem_set h.asc (fun x hx => by have := h.below x hx; have := h.ok.le; omega) (mem_asc r) hKp
  have hsn : ∀ k, k ≤ (mem r).length → setK L (mem r) k < 2 ^ n := fun k hk => setK_lt h.below hKp hk
  obtain ⟨f1, f2, f3⟩ := restE_in h.ok.chk (s := setK L (mem r) (mem r).length) (by rw [hmn]; exact hsn _ (Nat.le_refl _)) (setK_ne hq1)
  refine ⟨e1, e3, hq1, hq2, by rw [hb]; show (((mem r).map (fun x => L.getD x 0)).length : Int) = _; rw [hlen], by rw [hb]; unfold pickM; simp, by rw [hb]; unfold pickM; simp, fun i hi => ?_, fun i hi => ?_, fun i hi => ?_, f1, ?_⟩
  · have e : (mem r).getD i 0 = (mem r)[i] := by simp [hi]
    rw [e, ← h.len]; exact hKp _ (List.getElem_mem hi)
  · have e : ((mem r).map (fun x => L.getD x 0)).getD i 0 = L.getD ((mem r).getD i 0) 0 := by simp [hi]
    rw [hb, pick_fact h.ok (by rw [hlen]; exact hq1) (by rw [hlen]; exact hq2) hKL (by rw [hlen]; exact hi), e]
  · exact Nat.lt_of_lt_of_le (hsn i hi) (Nat.pow_le_pow_right (show 0 < 2 by decide) h.ok.le)
  · rw [f2, hset, hb]
theorem twice_none {m am : Mo} {L : List Nat} {n p : Nat} (h : TwiceA m am L n p) : restE am 0 = 6 ∧ restM am 0 = mo0 ∧ restL am 0 = [] := by
  have hc := csE_in (s := 0) h.aok.chk (Nat.two_pow_pos _)
  have he : restE am 0 = 6 := by unfold restE; rw [if_pos hc, if_pos rfl]
  refine ⟨he, ?_, ?_⟩
  · unfold restM; rw [he, if_neg (by decide)]
  · unfold restL; rw [he, if_neg (by decide)]
theorem min2_run13 {P : Program} (ts : Array TypeId) (t : TypeId) (x y m : Int) (w : World) (h : min x y = m) :
    (Builtin.min_ ts t #[.int .i64 x, .int .i64 y]).run P w = .ok (.int .i64 m) w := by
  have e : (Builtin.min_ ts t #[.int .i64 x, .int .i64 y]).run P w = .ok (.int .i64 (if y < x then y else x)) w := by
    simp [Builtin.min_, Builtin.min2]
  rw [e]
  congr 2
  rw [← h]
  simp only [Int.min_def]
  omega
theorem max2_run13 {P : Program} (ts : Array TypeId) (t : TypeId) (x y m : Int) (w : World) (h : max x y = m) :
    (Builtin.max_ ts t #[.int .i64 x, .int .i64 y]).run P w = .ok (.int .i64 m) w := by
  have e : (Builtin.max_ ts t #[.int .i64 x, .int .i64 y]).run P w = .ok (.int .i64 (if x < y then y else x)) w := by
    simp [Builtin.max_, Builtin.max2]
  rw [e]
  congr 2
  rw [← h]
  simp only [Int.max_def]
  omega
theorem set_or {L K : List Nat} {k y : Nat} (hy : L.getD (K.getD k 0) 0 = y) (hy64 : y < 64) (hs : setK L K k < 18446744073709551616) :
    bits .or .u64 ((setK L K k : Nat) : Int) (IntKind.u64.wrap (2 ^ y)) = ((setK L K (k + 1) : Nat) : Int) := by
  have h2 : 2 ^ y < 2 ^ 64 := Nat.pow_lt_pow_right (by decide) hy64
  rw [wrap_pow y hy64, u64_or_nat _ _ hs (show p2 y < _ from h2)]
  show ((setK L K k ||| 2 ^ y : Nat) : Int) = ((setK L K k ||| 2 ^ (L.getD (K.getD k 0) 0) : Nat) : Int)
  rw [hy]
end Go.Proofs.YtofclgapgjcflaaDoor
