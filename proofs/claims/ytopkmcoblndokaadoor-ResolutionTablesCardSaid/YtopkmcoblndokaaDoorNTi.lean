/- Layer 6: texts joined: UOn UOo. -/
import Derived.Test.YtopkmcoblndokaaDoorNTe
import Derived.Test.YtopkmcoblndokaaDoorNTh
import Derived.Shelf.Spec.SlicesGrow
import Derived.Laws.AppendOwnNone
/- Layer 10: Index, Contains, Concat at ints, and Resolve, by the program. -/
namespace Go.Proofs
open Go.Shelf
shelf_lay_g Lays8.n4 Nm8 4 at Tryd 89 as Tryd.growZ
end Go.Proofs
namespace Go.Proofs.YtopkmcoblndokaaDoor.rsl
open Go.RowKit Go.Proofs.Ws.rsl
set_option maxRecDepth 100000
theorem xGrow_any (S : Nat) (w : World) (hS : S ≤ 100000) :
    Calls Tryd.prog 89 #[.slice none 0 0, .int .i64 S] w fun e w' => ∃ v, e = .returned v ∧ w'.ownsRow w.heap.size 3 1 v 0 [] ∧ Below w.heap.size w w' := by
  by_cases h0 : S = 0
  · subst h0
    refine (Any8.slices_Grow_room Tryd.growZ none 0 0 0 w (by omega) (by omega) (by omega) (by omega)).mono ?_
    rintro e w' ⟨rfl, rfl⟩
    exact ⟨_, rfl, World.ownsRow_nil _ _ _ _, Below.refl _ _⟩
  · obtain ⟨i0, hi, hz0, hz1, hz2⟩ := info_parts Tryd.infoI
    refine (Any8.slices_Grow_grow Tryd.growZ i0 (.int .i64 0) hi hz0 (by omega) none 0 0 S [] w (by omega) (by omega) (by rw [hz2]; omega) (by omega) (by simp) (fun _ => rfl) (fun a ha => by cases ha)).mono ?_
    rintro e w' ⟨rfl, rfl⟩
    refine ⟨_, rfl, ⟨rfl, .inr ⟨w.heap.size, _, _, rfl, Nat.le_refl _, heap_alloc_new w.drew _, Nat.zero_le _, grownCap_le_maxLen w _ _ _ (by unfold maxLen; omega), ?_, by simp⟩⟩, ((Below.refl _ w).drew).alloc (Nat.le_refl _) _⟩
    have := grownCap_ge w (0 + S) 0 (Tryd.growZ_ren.t 25)
    rw [Array.size_append, Array.size_append, size_zeroCells, size_zeroCells]
    simp [Value.cells]
    simp at this
    omega
def catZ (L : Nat → List Int) : Nat → List Int
  | 0 => []
  | k + 1 => catZ L k ++ L k
def SrcZ (w : World) (B g m : Nat) (a : Nat → Option Addr) (n c : Nat → Nat) (L : Nat → List Int) : Prop :=
  ∀ k, k < m → w.cell? ⟨g, k, none⟩ = some (.slice (a k) (n k) (c k)) ∧ Reads w B 1 (a k) (n k) (ints (L k)) ∧ (a k = none → n k = 0 ∧ c k = 0) ∧ n k ≤ 1000
theorem ints_oneCell (l : List Int) : ∀ u ∈ ints l, u.oneCell' = true := by
  intro u hu
  unfold ints at hu
  obtain ⟨x, _, rfl⟩ := List.mem_map.1 hu
  rfl
theorem ints_append (l m : List Int) : ints (l ++ m) = ints l ++ ints m := by unfold ints; simp
theorem catZ_len {L : Nat → List Int} {m : Nat} (h : ∀ k, k < m → (L k).length ≤ 1000) : ∀ k, k ≤ m → (catZ L k).length ≤ 1000 * k
  | 0, _ => by simp [catZ]
  | k + 1, hk => by
    have := catZ_len h k (by omega)
    have := h k (by omega)
    simp only [catZ, List.length_append]
    omega
set_option maxRecDepth 100000 in
set_option maxHeartbeats 2000000 in
theorem xConcat_any (g m : Nat) (a : Nat → Option Addr) (n c : Nat → Nat) (L : Nat → List Int) (w : World) (hg : g < w.heap.size) (hm : m ≤ 4) (hS : SrcZ w w.heap.size g m a n c L) :
    Calls Tryd.prog 74 #[.slice (some ⟨g, 0, none⟩) m m] w fun e w' => ∃ v', e = .returned v' ∧ w'.ownsRow w.heap.size 3 1 v' (catZ L m).length (ints (catZ L m)) ∧ Below w.heap.size w w' := by
  have HS := Lib.hid hS
  have HLN : Hid (∀ k, k < m → (L k).length = n k) := Lib.hid (fun k hk => (hS k hk).2.1.int_len)
  have HCL : Hid (∀ k, k ≤ m → (catZ L k).length ≤ 4000) := Lib.hid (fun k hk => by
    have := catZ_len (m := m) (fun j hj => by rw [HLN.out j hj]; exact (hS j hj).2.2.2) k hk
    omega)
  obtain ⟨i0, hi, hz0, hz1, hz2⟩ := info_parts Tryd.infoI
  clear hS
  go_enter Tryd.func74, Tryd.ntmps74
  go_wp2
  go_loopw [3, 11] (fun sv iv wr => ∃ k : Nat, k ≤ m ∧ iv = .int .i64 k ∧ sv = .int .i64 (((catZ L k).length : Nat) : Int) ∧ w = wr) (fun _ iv _ => m - (intOf iv).toNat)
  case atStart => exact ⟨0, Nat.zero_le _, rfl, rfl, rfl⟩
  case round =>
    obtain ⟨k, hk, rfl, rfl, rfl⟩ := hrel
    by_cases hlt : k < m
    · obtain ⟨hc, _, _, hn⟩ := HS.out k hlt
      have HQ : Hid ((catZ L (k + 1)).length = (catZ L k).length + n k) := Lib.hid (by simp only [catZ, List.length_append]; rw [HLN.out k hlt])
      have h1 := HCL.out k hk
      generalize (catZ L k).length = s at *
      generalize n k = t at *
      generalize a k = A at *
      generalize c k = C at *
      have hd : decide (((s : Int) + (t : Int)) < 0) = false := by simp; omega
      go_wp2
      go_roundw
      case rel => exact ⟨k + 1, by omega, by go_num, by rw [HQ.out]; go_num, by first | rfl | trivial⟩
      case measure => simp [intOf]; omega
    · have hkm : m = k := by omega
      subst hkm
      have h1 := HCL.out m hk
      have HG := Lib.hid (xGrow_any (catZ L m).length w (by omega))
      have HQ : Hid (∃ s, s = (catZ L m).length) := Lib.hid ⟨_, rfl⟩
      clear h1
      go_wp2_with fail
      refine (HG.out).mono ?_
      rintro e w1 ⟨v, rfl, hown, hb⟩
      have hsz := hb.size
      go_wp2
      go_loopw [6, 27] (fun v iv wr => ∃ k : Nat, k ≤ m ∧ iv = .int .i64 k ∧ wr.ownsRow w.heap.size 3 1 v (catZ L k).length (ints (catZ L k)) ∧ Below w.heap.size w wr) (fun _ iv _ => m - (intOf iv).toNat)
      case atStart => exact ⟨0, Nat.zero_le _, rfl, hown, hb⟩
      case round =>
        clear hown hb hsz
        obtain ⟨k, hk, rfl, hown, hb⟩ := hrel
        have hsz := hb.size
        by_cases hlt : k < m
        · obtain ⟨hc0, hRk, hnn, hn⟩ := HS.out k hlt
          have hc := (hb.cell (p := ⟨g, k, none⟩) hg).trans hc0
          have HQ : Hid ((catZ L (k + 1)).length = (catZ L k).length + n k) := Lib.hid (by simp only [catZ, List.length_append]; rw [HLN.out k hlt])
          have HX : Hid (ints (catZ L (k + 1)) = ints (catZ L k) ++ ints (L k)) := Lib.hid (by simp only [catZ]; exact ints_append _ _)
          have h1 := HCL.out k hk
          have hRk' := hRk.below hb
          have hll := HLN.out k hlt
          clear hc0
          cases hA : a k with
          | none =>
            obtain ⟨h0, h0'⟩ := hnn hA
            rw [hA, h0, h0'] at hc
            have HN : Hid (ints (catZ L (k + 1)) = ints (catZ L k) ∧ (catZ L (k + 1)).length = (catZ L k).length) := Lib.hid (by
              have hnil : L k = [] := List.eq_nil_of_length_eq_zero (by omega)
              refine ⟨by rw [HX.out, hnil]; simp [ints], by rw [HQ.out, h0]; rfl⟩)
            clear hRk hRk' hnn hn hA
            go_wp2_with (at_builtin; refine wpList_append_own_none rfl _ _ 31 rfl w.heap.size 3 i0 1 Tryd.underlying31 hi _ _ _ rfl hown rfl ?_)
            go_roundw
            case rel => exact ⟨k + 1, by omega, by go_num, by rw [HN.out.1, HN.out.2]; exact hown, hb⟩
            case measure => simp [intOf]; omega
          | some ad =>
            rw [hA] at hc hRk'
            have HCE : Hid (∀ j u, (ints (L k))[j]? = some u → wr.cell? (ad.add j) = some u) := Lib.hid (fun j u hu => by
              have hj : j < (ints (L k)).length := (List.getElem?_eq_some_iff.1 hu).1
              rw [ints_length, hll] at hj
              obtain ⟨ad', e, _, hc'⟩ := hRk'.2 (by omega)
              injection e with e
              subst e
              exact hc' j u hu)
            clear hRk hRk' hnn hA
            go_wp2_with (at_builtin; refine wpList_append_own _ rfl _ _ 31 rfl w.heap.size 3 i0 (.int .i64 0) 1 8 Tryd.underlying31 hi hz0 hz1 hz2 rfl (by decide) _ _ _ rfl hown ad (n k) (c k) (ints (L k)) rfl ?c0 ?c1 ?c2 ?c3 ?c4 ?c5 ?_)
            case c0 => rw [ints_length, hll]; omega
            case c1 => exact HCE.out
            case c2 => exact ints_oneCell _
            case c3 => unfold maxLen; omega
            case c4 => omega
            case c5 => exact hsz
            intro v' w3 hown' hgrow _
            have hb3 : Below w.heap.size w w3 := hb.grown hgrow hsz (fun j hj => (hown.lt j hj).1)
            have HO : Hid (w3.ownsRow w.heap.size 3 1 v' (catZ L (k + 1)).length (ints (catZ L (k + 1)))) := Lib.hid (by rw [HQ.out, HX.out]; exact hown')
            clear hgrow hown hown' hb HCE
            go_wp2
            go_roundw
            case rel => exact ⟨k + 1, by omega, by go_num, HO.out, hb3⟩
            case measure => simp [intOf]; omega
        · have hkm : m = k := by omega
          subst hkm
          have HRD := Lib.hid hown
          have HB := Lib.hid hb
          clear hown hb
          go_wp2
          go_ret
          exact ⟨_, rfl, HRD.out, HB.out⟩

def eqB (x : Int) (y : Int) : Bool := x == y
set_option maxHeartbeats 1000000 in
theorem xIndex_any (l : List Int) (x : Int) (A : Option Addr) (k cap B : Nat) (w : World) (hR : Reads w B 1 A k (ints l)) (hk : k ≤ maxLen) :
    Calls Tryd.prog 73 #[.slice A k cap, .int .i64 x] w fun e w' => e = .returned (.int .i64 (idxP (eqB x) l)) ∧ w = w' := by
  unfold maxLen at hk
  have HL := Lib.hid hR.int_len
  have HR := Lib.hid hR
  have HHIT := Lib.hid (fun j h1 h2 h3 => (idxP_hit (p := eqB x) (l := l) (d := 0) (j := j) h1 h2 h3).2)
  have HMISS := Lib.hid (fun h1 => (idxP_miss (p := eqB x) (l := l) (d := 0) h1).2)
  generalize idxP (eqB x) l = R at *
  clear hR
  go_enter Tryd.func73, Tryd.ntmps73
  go_wp2
  go_loopw [5, 8] (fun _ i wr => ∃ j : Nat, j ≤ k ∧ i = .int .i64 j ∧ Hid (∀ i, i < j → eqB x (l.getD i 0) = false) ∧ w = wr) (fun _ i _ => k - (intOf i).toNat)
  case atStart => exact ⟨0, Nat.zero_le _, rfl, Lib.hid (fun i hi => absurd hi (Nat.not_lt_zero _)), by first | rfl | trivial⟩
  case round =>
    obtain ⟨j, hj, rfl, HI, rfl⟩ := hrel
    by_cases hlt : j < k
    · obtain ⟨ad, rfl, _, hcj⟩ := HR.out.int_at hlt
      have HN : Hid (∀ b, eqB x (l.getD j 0) = b → b = false → ∀ i, i < j + 1 → eqB x (l.getD i 0) = false) := Lib.hid (fun b h1 h2 i hi => by
        by_cases e : i = j
        · rw [e, h1, h2]
        · exact HI.out i (by omega))
      have HH : Hid (eqB x (l.getD j 0) = true → R = j) := Lib.hid (fun h => HHIT.out j (by have := HL.out; omega) HI.out h)
      clear HI
      generalize l.getD j 0 = y at *
      cases hq : eqB x y with
      | true =>
        have HE := Lib.hid (HH.out hq)
        have q1 : (x == y) = true := hq
        clear hq HN HH
        go_wp2
        go_ret
        exact ⟨ret_i64 HE.out.symm, rfl⟩
      | false =>
        have HI2 := Lib.hid (HN.out false hq rfl)
        have q1 : (x == y) = false := hq
        clear hq HN HH
        go_wp2
        go_roundw
        case rel => exact ⟨j + 1, by omega, by go_num, HI2, by first | rfl | trivial⟩
        case measure => first | (simp [intOf]; done) | (simp [intOf]; omega)
    · have HE := Lib.hid (HMISS.out (fun i hi => HI.out i (by have := HL.out; omega)))
      go_wp2
      go_ret
      exact ⟨ret_i64 HE.out.symm, rfl⟩
theorem idx_mem {l : List Int} {x : Int} : decide (0 ≤ idxP (eqB x) l) = decide (x ∈ l) := by
  rcases idx_cases (eqB x) l with ⟨h1, h2⟩ | ⟨i, h1, _, hi, h3⟩
  · rw [h1]
    refine (decide_eq_false (by omega)).trans (decide_eq_false (fun h => ?_)).symm
    have := List.findIdx?_eq_none_iff.1 h2 x h
    unfold eqB at this
    simp at this
  · rw [h1]
    refine (decide_eq_true (by omega)).trans (decide_eq_true ?_).symm
    unfold eqB at h3
    have : x = l[i] := by simpa using h3
    rw [this]; exact List.getElem_mem hi
theorem xContains_any (l : List Int) (x : Int) (A : Option Addr) (k cap B : Nat) (w : World) (hR : Reads w B 1 A k (ints l)) (hk : k ≤ maxLen) :
    Calls Tryd.prog 56 #[.slice A k cap, .int .i64 x] w fun e w' => e = .returned (.bool (decide (x ∈ l))) ∧ w = w' := by
  have H := Lib.hid (xIndex_any l x A k cap B w hR hk)
  have HQ := Lib.hid (idx_mem (l := l) (x := x))
  clear hR hk
  generalize idxP (eqB x) l = r at *
  go_enter Tryd.func56, Tryd.ntmps56
  go_wp2_with fail
  refine (H.out).mono ?_
  rintro e w2 ⟨rfl, rfl⟩
  go_wp2
  go_ret
  exact ⟨ret_bool HQ.out, rfl⟩
end Go.Proofs.YtopkmcoblndokaaDoor.rsl
/- Layer 10: Resolve, by the program. -/
namespace Go.Proofs.Ws.rsl
open Go
def restL (a b : List Int) (v : Int) : List Int := a.filter (fun x => !(x == v + 1)) ++ b.filter (fun x => !(x == -(v + 1)))
def resE (a b : List Int) (v : Int) : Int := if clE 12 a ≠ 0 ∨ clE 12 b ≠ 0 then 1 else if v < 0 ∨ 12 ≤ v then 6 else if v + 1 ∉ a ∨ -(v + 1) ∉ b then 6 else if alwB (restL a b v) = true then 10 else 0
def resL (a b : List Int) (v : Int) : List Int := if resE a b v = 0 then nrm (restL a b v) else []
theorem take_drop_mem {a : List Int} {n i : Nat} (h : ClOk n a) (hi : i < a.length) (x : Int) : x ∈ a.take i ++ a.drop (i + 1) ↔ x ∈ a ∧ x ≠ a[i] := by
  have hp := List.pairwise_iff_getElem.1 h.sorted
  have hne : ∀ j k, (hj : j < a.length) → (hk : k < a.length) → j ≠ k → a[j] ≠ a[k] := fun j k hj hk hjk e => by
    rcases Nat.lt_or_gt_of_ne hjk with h1 | h1
    · have := hp j k hj hk h1; rw [e] at this; omega
    · have := hp k j hk hj h1; rw [e] at this; omega
  rw [List.mem_append, List.mem_take_iff_getElem, List.mem_drop_iff_getElem]
  constructor
  · rintro (⟨j, hj, rfl⟩ | ⟨j, hj, rfl⟩)
    · exact ⟨List.getElem_mem _, hne j i (by omega) hi (by omega)⟩
    · exact ⟨List.getElem_mem _, hne _ i (by omega) hi (by omega)⟩
  · rintro ⟨hx, hxi⟩
    obtain ⟨j, hj, rfl⟩ := List.getElem_of_mem hx
    have hji : j ≠ i := fun e => hxi (by subst e; rfl)
    rcases Nat.lt_or_gt_of_ne hji with h1 | h1
    · exact .inl ⟨j, by omega, rfl⟩
    · refine .inr ⟨j - (i + 1), by omega, ?_⟩
      congr 1; omega
theorem rest_mem {a b : List Int} {n i j : Nat} {v : Int} (ha : ClOk n a) (hb : ClOk n b) (hi : i < a.length) (hj : j < b.length) (hai : a[i] = v + 1) (hbj : b[j] = -(v + 1)) (x : Int) :
    x ∈ (a.take i ++ a.drop (i + 1)) ++ (b.take j ++ b.drop (j + 1)) ↔ x ∈ restL a b v := by
  have h1 := take_drop_mem ha hi x
  have h2 := take_drop_mem hb hj x
  rw [hai] at h1
  rw [hbj] at h2
  refine (List.mem_append.trans (or_congr h1 h2)).trans ?_
  unfold restL
  rw [List.mem_append, List.mem_filter, List.mem_filter]
  simp
theorem rest_lits {a b : List Int} {n : Nat} {v : Int} (hn : n ≤ 12) (ha : ClOk n a) (hb : ClOk n b) : Lits (restL a b v) := fun x hx => by
  unfold restL at hx
  rcases List.mem_append.1 hx with h | h
  · have := ha.lits x (List.mem_filter.1 h).1; omega
  · have := hb.lits x (List.mem_filter.1 h).1; omega
end Go.Proofs.Ws.rsl
namespace Go.Proofs.YtopkmcoblndokaaDoor.rsl
open Go.RowKit Go.Proofs.Ws.rsl
set_option maxRecDepth 100000
def GivesL (L : List Int) (E : Int) (w : World) (e : Ending) (w' : World) : Prop := ∃ A c, e = .returned (.tuple #[.slice A L.length c, .int .i64 E]) ∧ OwJ w' w.heap.size A L ∧ L.length ≤ c ∧ Below w.heap.size w w'
theorem res_bad {a b : List Int} {v e : Int} (h : resE a b v = e) (h0 : e ≠ 0) : resL a b v = [] := by unfold resL; rw [h, if_neg h0]
theorem eqB_at {l : List Int} {x : Int} (h : x ∈ l) : ∃ i : Nat, idxP (eqB x) l = (i : Int) ∧ ∃ hi : i < l.length, l[i] = x := by
  rcases idx_cases (eqB x) l with ⟨h1, h2⟩ | ⟨i, h1, _, hi, h3⟩
  · have := List.findIdx?_eq_none_iff.1 h2 x h
    unfold eqB at this
    simp at this
  · unfold eqB at h3
    exact ⟨i, h1, hi, by simpa using (by simpa using h3 : x = l[i]).symm⟩
theorem eqB_out {l : List Int} {x : Int} (h : x ∉ l) : idxP (eqB x) l < 0 := by
  have := idx_mem (l := l) (x := x)
  rw [decide_eq_false h] at this
  have := of_decide_eq_false this
  omega
theorem Reads.pre {w : World} {B n k : Nat} {A : Option Addr} {l : List Int} (h : Reads w B 1 A n (ints l)) (hk : k ≤ n) : Reads w B 1 A k (ints (l.take k)) := by
  have hl := h.int_len
  refine ⟨by rw [ints_length, List.length_take]; omega, fun h0 => ?_⟩
  obtain ⟨ad, e, hb, hc⟩ := h.2 (by omega)
  refine ⟨ad, e, hb, fun j u hu => hc j u ?_⟩
  unfold ints at hu ⊢
  rw [List.getElem?_map, List.getElem?_take] at hu
  split at hu
  · rw [List.getElem?_map]; exact hu
  · cases hu
theorem ints_drop (l : List Int) (k : Nat) : ints (l.drop k) = (ints l).drop k := by unfold ints; rw [List.map_drop]
/-- the four parts of two clauses without one literal each -/
def srcA (ad ad2 : Addr) (i j c c2 : Nat) (k : Nat) : Option Addr := match k with
  | 0 => some ad
  | 1 => if c = i + 1 then some ad else some (ad.add (i + 1))
  | 2 => some ad2
  | _ => if c2 = j + 1 then some ad2 else some (ad2.add (j + 1))
def srcN (i j n m : Nat) (k : Nat) : Nat := match k with
  | 0 => i
  | 1 => n - (i + 1)
  | 2 => j
  | _ => m - (j + 1)
def srcC (i j c c2 : Nat) (k : Nat) : Nat := match k with
  | 0 => c
  | 1 => c - (i + 1)
  | 2 => c2
  | _ => c2 - (j + 1)
def src4 (ad ad2 : Addr) (i j cap cap2 k k2 : Nat) : Array Value := #[.slice (srcA ad ad2 i j cap cap2 0) (srcN i j k k2 0) (srcC i j cap cap2 0), .slice (srcA ad ad2 i j cap cap2 1) (srcN i j k k2 1) (srcC i j cap cap2 1), .slice (srcA ad ad2 i j cap cap2 2) (srcN i j k k2 2) (srcC i j cap cap2 2), .slice (srcA ad ad2 i j cap cap2 3) (srcN i j k k2 3) (srcC i j cap cap2 3)]
def srcL (a b : List Int) (i j : Nat) (k : Nat) : List Int := match k with
  | 0 => a.take i
  | 1 => a.drop (i + 1)
  | 2 => b.take j
  | _ => b.drop (j + 1)
theorem cat_src (a b : List Int) (i j : Nat) : catZ (srcL a b i j) 4 = (a.take i ++ a.drop (i + 1)) ++ (b.take j ++ b.drop (j + 1)) := by
  simp [catZ, srcL]
theorem wrap_one {n : Nat} (h : n ≤ 1000000) : IntKind.i64.wrap ((n : Int) + 1) = (n : Int) + 1 := by
  simp [IntKind.wrap, IntKind.bits, IntKind.signed]; omega
/-- what is known of the values of the region that puts two clauses together -/
def vRs (base : Nat) (cs : Array Value) (C : List Int) : Nat → Value → World → Prop
  | 14, v, W => ∃ g, v = .slice (some ⟨g, 0, none⟩) 4 4 ∧ W.heap[g]? = some (.cells cs 31 (0, 0))
  | 15, v, W => W.ownsRow base 3 1 v C.length (ints C)
  | 16, v, W => W.ownsRow base 3 1 v C.length (ints C)
  | _, _, _ => True
theorem own_keep1 {W W' : World} {base : Nat} {e : TypeId} {size n : Nat} {v : Value} {xs : List Value} (h : W.ownsRow base e size v n xs) (hk : ∀ g, v.ownBlock = some g → W'.heap[g]? = W.heap[g]?) : W'.ownsRow base e size v n xs := by
  refine ⟨h.1, ?_⟩
  rcases h.2 with h2 | ⟨g, cap, cur, hv, h3, h4, h5⟩
  · exact .inl h2
  · exact .inr ⟨g, cap, cur, hv, h3, (hk g (by rw [hv]; rfl)).trans h4, h5⟩
theorem own_up {W : World} {base b2 : Nat} {e : TypeId} {size n : Nat} {v : Value} {xs : List Value} (h : W.ownsRow b2 e size v n xs) (hb : base ≤ b2) : W.ownsRow base e size v n xs := by
  refine ⟨h.1, ?_⟩
  rcases h.2 with h2 | ⟨g, cap, cur, hv, h3, h4⟩
  · exact .inl h2
  · exact .inr ⟨g, cap, cur, hv, by omega, h4⟩
theorem vRs_up {base : Nat} {cs : Array Value} {C : List Int} : ∀ i v W W', vRs base cs C i v W → Below W.heap.size W W' → vRs base cs C i v W' := fun i v W W' h hb => by
  match i, h with
  | 14, ⟨g, e, h⟩ => exact ⟨g, e, (hb.block g (Array.getElem?_eq_some_iff.1 h).1).trans h⟩
  | 15, h => exact own_keep1 h (fun g hg => hb.block g (h.lt g hg).2)
  | 16, h => exact own_keep1 h (fun g hg => hb.block g (h.lt g hg).2)
  | 0, _ => trivial
  | 1, _ => trivial
  | 2, _ => trivial
  | 3, _ => trivial
  | 4, _ => trivial
  | 5, _ => trivial
  | 6, _ => trivial
  | 7, _ => trivial
  | 8, _ => trivial
  | 9, _ => trivial
  | 10, _ => trivial
  | 11, _ => trivial
  | 12, _ => trivial
  | 13, _ => trivial
  | _ + 17, _ => trivial
theorem own_readsO {w : World} {base : Nat} {e : TypeId} {v : Value} {n : Nat} {xs : List Value} (h : w.ownsRow base e 1 v n xs) : ∃ A c, v = .slice A n c ∧ Reads w w.heap.size 1 A n xs := by
  rcases h.2 with ⟨rfl, rfl⟩ | ⟨g, cap, cur, rfl, _⟩
  · exact ⟨none, 0, rfl, Reads.of_own h⟩
  · exact ⟨_, cap, rfl, Reads.of_own h⟩
set_option maxHeartbeats 16000000 in
theorem xResolve_any (a b : List Int) (v : Int) (A : Option Addr) (k cap : Nat) (A2 : Option Addr) (k2 cap2 : Nat) (w : World) (hR : Reads w w.heap.size 1 A k (ints a)) (hk : k ≤ maxLen) (hc : k ≤ cap) (hR2 : Reads w w.heap.size 1 A2 k2 (ints b)) (hk2 : k2 ≤ maxLen) (hc2 : k2 ≤ cap2) :
    Calls Tryd.prog 57 #[.slice A k cap, .slice A2 k2 cap2, .int .i64 v] w (GivesL (resL a b v) (resE a b v) w) := by
  have HC := Lib.hid (xClause_any 12 a A k cap w.heap.size w (by decide) (by decide) hR hk)
  have HC2 := Lib.hid (xClause_any 12 b A2 k2 cap2 w.heap.size w (by decide) (by decide) hR2 hk2)
  by_cases ha : clE 12 a = 0
  · by_cases hb : clE 12 b = 0
    · have hao := clE_ok (n := 12).1 ha
      have hbo := clE_ok (n := 12).1 hb
      have HDE : Hid (resE a b v = if v < 0 ∨ 12 ≤ v then 6 else if v + 1 ∉ a ∨ -(v + 1) ∉ b then 6 else if alwB (restL a b v) = true then 10 else 0) := Lib.hid (by unfold resE; rw [if_neg (fun h => by rcases h with h | h <;> contradiction)])
      rw [ha] at HC
      rw [hb] at HC2
      by_cases hv : v < 0 ∨ 12 ≤ v
      · have HE : Hid (resE a b v = 6) := Lib.hid (by rw [HDE.out, if_pos hv])
        have HL := Lib.hid (res_bad HE.out (by decide))
        clear ha hb hao hbo hR hR2 hk hk2
        by_cases hv0 : v < 0
        · have q0 : decide (v < 0) = true := decide_eq_true hv0
          clear hv hv0
          go_enter Tryd.func57, Tryd.ntmps57
          go_wp2_with fail
          refine (HC.out).mono ?_
          rintro e w2 ⟨rfl, rfl⟩
          go_wp2_with fail
          refine (HC2.out).mono ?_
          rintro e w2 ⟨rfl, rfl⟩
          go_wp2
          go_ret2
          exact ⟨none, 0, by rw [HL.out, HE.out]; rfl, by rw [HL.out]; exact OwJ.nil _ _ _, by rw [HL.out]; exact Nat.le_refl _, Below.refl _ _⟩
        · have q0 : decide (v < 0) = false := decide_eq_false hv0
          have q1 : decide (12 ≤ v) = true := decide_eq_true (by omega)
          clear hv hv0
          go_enter Tryd.func57, Tryd.ntmps57
          go_wp2_with fail
          refine (HC.out).mono ?_
          rintro e w2 ⟨rfl, rfl⟩
          go_wp2_with fail
          refine (HC2.out).mono ?_
          rintro e w2 ⟨rfl, rfl⟩
          go_wp2
          go_ret2
          exact ⟨none, 0, by rw [HL.out, HE.out]; rfl, by rw [HL.out]; exact OwJ.nil _ _ _, by rw [HL.out]; exact Nat.le_refl _, Below.refl _ _⟩
      · have q0 : decide (v < 0) = false := decide_eq_false (by omega)
        have q1 : decide (12 ≤ v) = false := decide_eq_false (by omega)
        have hv1 : 0 ≤ v := by omega
        have hv2 : v < 12 := by omega
        have HIA := Lib.hid (xIndex_any a (v + 1) A k cap w.heap.size w hR hk)
        have HIB := Lib.hid (xIndex_any b (-(v + 1)) A2 k2 cap2 w.heap.size w hR2 hk2)
        by_cases hm : v + 1 ∉ a ∨ -(v + 1) ∉ b
        · have HE : Hid (resE a b v = 6) := Lib.hid (by rw [HDE.out, if_neg hv, if_pos hm])
          have HL := Lib.hid (res_bad HE.out (by decide))
          by_cases hma : v + 1 ∈ a
          · have hmb := hm.resolve_left (fun h => h hma)
            obtain ⟨i, hi, hil, hie⟩ := eqB_at hma
            have hjn := eqB_out hmb
            rw [hi] at HIA
            have q2 : decide (idxP (eqB (-(v + 1))) b < 0) = true := decide_eq_true hjn
            have q3 : decide ((i : Int) < 0) = false := decide_eq_false (by omega)
            clear ha hb hao hbo hR hR2 hk hk2 hv hm hma hmb hi hie hil hjn
            generalize idxP (eqB (-(v + 1))) b = j at *
            go_enter Tryd.func57, Tryd.ntmps57
            go_wp2_with fail
            refine (HC.out).mono ?_
            rintro e w2 ⟨rfl, rfl⟩
            go_wp2_with fail
            refine (HC2.out).mono ?_
            rintro e w2 ⟨rfl, rfl⟩
            go_wp2_with fail
            refine (HIA.out).mono ?_
            rintro e w2 ⟨rfl, rfl⟩
            go_wp2_with fail
            refine (HIB.out).mono ?_
            rintro e w2 ⟨rfl, rfl⟩
            go_wp2
            go_ret2
            exact ⟨none, 0, by rw [HL.out, HE.out]; rfl, by rw [HL.out]; exact OwJ.nil _ _ _, by rw [HL.out]; exact Nat.le_refl _, Below.refl _ _⟩
          · have hin := eqB_out hma
            have q2 : decide (idxP (eqB (v + 1)) a < 0) = true := decide_eq_true hin
            clear ha hb hao hbo hR hR2 hk hk2 hv hm hma hin
            generalize idxP (eqB (-(v + 1))) b = j at *
            generalize idxP (eqB (v + 1)) a = i at *
            go_enter Tryd.func57, Tryd.ntmps57
            go_wp2_with fail
            refine (HC.out).mono ?_
            rintro e w2 ⟨rfl, rfl⟩
            go_wp2_with fail
            refine (HC2.out).mono ?_
            rintro e w2 ⟨rfl, rfl⟩
            go_wp2_with fail
            refine (HIA.out).mono ?_
            rintro e w2 ⟨rfl, rfl⟩
            go_wp2_with fail
            refine (HIB.out).mono ?_
            rintro e w2 ⟨rfl, rfl⟩
            go_wp2
            go_ret2
            exact ⟨none, 0, by rw [HL.out, HE.out]; rfl, by rw [HL.out]; exact OwJ.nil _ _ _, by rw [HL.out]; exact Nat.le_refl _, Below.refl _ _⟩
        · have hma : v + 1 ∈ a := Classical.byContradiction (fun h => hm (.inl h))
          have hmb : -(v + 1) ∈ b := Classical.byContradiction (fun h => hm (.inr h))
          obtain ⟨i, hi, hil, hie⟩ := eqB_at hma
          obtain ⟨j, hj, hjl, hje⟩ := eqB_at hmb
          have HE : Hid (resE a b v = if alwB (restL a b v) = true then 10 else 0) := Lib.hid (by rw [HDE.out, if_neg hv, if_neg hm])
          have hRL := rest_lits (v := v) (Nat.le_refl _) hao hbo
          have hRM := rest_mem hao hbo hil hjl hie hje
          rw [hi] at HIA
          rw [hj] at HIB
          have hka := hR.int_len
          have hkb := hR2.int_len
          have h12a := hao.len
          have h12b := hbo.len
          obtain ⟨ad, rfl, hadb, _⟩ := hR.2 (by omega)
          obtain ⟨ad2, rfl, hadb2, _⟩ := hR2.2 (by omega)
          have hi' : i < k := by omega
          have hj' : j < k2 := by omega
          have q2 : decide ((i : Int) < 0) = false := decide_eq_false (by omega)
          have q3 : decide ((j : Int) < 0) = false := decide_eq_false (by omega)
          have hi12 : i ≤ 12 := by omega
          have hj12 : j ≤ 12 := by omega
          have HSR : Hid (∀ W g, Below w.heap.size w W → W.heap[g]? = some (.cells (src4 ad ad2 i j cap cap2 k k2) 31 (0, 0)) →
              SrcZ W W.heap.size g 4 (srcA ad ad2 i j cap cap2) (srcN i j k k2) (srcC i j cap cap2) (srcL a b i j)) := Lib.hid (fun W g hW hh q hq => by
            have r1 := (hR.below hW).more hW.size
            have r2 := (hR2.below hW).more hW.size
            have c1 := r1.cut (k := i + 1) (cap := cap) (by omega) hc
            have c2 := r2.cut (k := j + 1) (cap := cap2) (by omega) hc2
            rw [Nat.mul_one, ← ints_drop] at c1 c2
            match q, hq with
            | 0, _ => exact ⟨by rw [Lib.cell_of_heap hh]; rfl, r1.pre (show i ≤ k from by omega), (fun h => by cases h), by show i ≤ 1000; omega⟩
            | 1, _ => exact ⟨by rw [Lib.cell_of_heap hh]; rfl, by simpa [srcA, srcN, srcL] using c1, (fun h => by simp only [srcA] at h; split at h <;> cases h), by show k - (i + 1) ≤ 1000; omega⟩
            | 2, _ => exact ⟨by rw [Lib.cell_of_heap hh]; rfl, r2.pre (show j ≤ k2 from by omega), (fun h => by cases h), by show j ≤ 1000; omega⟩
            | 3, _ => exact ⟨by rw [Lib.cell_of_heap hh]; rfl, by simpa [srcA, srcN, srcL] using c2, (fun h => by simp only [srcA] at h; split at h <;> cases h), by show k2 - (j + 1) ≤ 1000; omega⟩)
          have HCO := Lib.hid (fun W g (hW : Below w.heap.size w W) (hh : W.heap[g]? = some (.cells (src4 ad ad2 i j cap cap2 k k2) 31 (0, 0))) => xConcat_any g 4 (srcA ad ad2 i j cap cap2) (srcN i j k k2) (srcC i j cap cap2) (srcL a b i j) W (Array.getElem?_eq_some_iff.1 hh).1 (Nat.le_refl _) (HSR.out W g hW hh))
          have HCLN : Hid ((catZ (srcL a b i j) 4).length ≤ 64) := Lib.hid (by rw [cat_src]; simp only [List.length_append, List.length_take, List.length_drop]; omega)
          clear ha hb hao hbo hR hR2 hk hk2 hv hm hma hmb hi hj hie hje hil hjl hka hkb hadb hadb2 h12a h12b HSR
          go_enter Tryd.func57, Tryd.ntmps57
          go_wp2_with fail
          refine (HC.out).mono ?_
          rintro e w2 ⟨rfl, rfl⟩
          go_wp2_with fail
          refine (HC2.out).mono ?_
          rintro e w2 ⟨rfl, rfl⟩
          go_wp2_with fail
          refine (HIA.out).mono ?_
          rintro e w2 ⟨rfl, rfl⟩
          go_wp2_with fail
          refine (HIB.out).mono ?_
          rintro e w2 ⟨rfl, rfl⟩
          go_wp2
          refine wp_region_wild [.slice (some ad) k cap, .int .i64 (i : Int), .slice (srcA ad ad2 i j cap cap2 0) (srcN i j k k2 0) (srcC i j cap cap2 0), .slice (some ad) k cap, .int .i64 (i : Int), .int .i64 ((i : Int) + 1), .slice (srcA ad ad2 i j cap cap2 1) (srcN i j k k2 1) (srcC i j cap cap2 1), .slice (some ad2) k2 cap2, .int .i64 (j : Int), .slice (srcA ad ad2 i j cap cap2 2) (srcN i j k k2 2) (srcC i j cap cap2 2), .slice (some ad2) k2 cap2, .int .i64 (j : Int), .int .i64 ((j : Int) + 1), .slice (srcA ad ad2 i j cap cap2 3) (srcN i j k k2 3) (srcC i j cap cap2 3), undef, undef, undef] [43, 44, 45, 46, 47, 48, 49, 50, 51, 52, 53, 54, 55, 56, 57, 58, 10] [2, 5, 6, 9, 12, 13, 14, 15, 16] [14, 15, 16] (vRs w.heap.size (src4 ad ad2 i j cap cap2 k k2) (catZ (srcL a b i j) 4)) (fun W => Below w.heap.size w W) (fun W W' => Below W.heap.size W W') 17 67 rfl rfl rfl (by decide) (by decide) (by kernel_rfl) (by kernel_rfl) (by kernel_rfl) (by kernel_rfl) (fun W => Below.refl _ W) (fun W1 W2 W3 h1 h2 => h1.trans (h2.mono h1.size)) (fun W W' h h2 => h.trans (h2.mono h.size)) vRs_up (Below.refl _ w).drew (by kernel_rfl) [] rfl ?hop ?fin
          case hop =>
            refine (And.intro ?s2 (And.intro ?s5 (And.intro ?s6 (And.intro ?s9 (And.intro ?s12 (And.intro ?s13 (And.intro ?s14 (And.intro ?s15 (And.intro ?s16 trivial)))))))))
            case s2 =>
              refine And.intro (by rfl) (fun tm W hS hsz hfr hdep K hK => ?_)
              change tm.size = 67 at hsz
              have t43 : tm.getD 43 undef = .slice (some ad) k cap := wildV_known (by rfl) (hdep 0 (by rfl) (by decide))
              have t44 : tm.getD 44 undef = .int .i64 (i : Int) := wildV_known (by rfl) (hdep 1 (by rfl) (by decide))
              have u43 := getq t43 (by omega)
              have u44 := getq t44 (by omega)
              clear hdep hfr
              have hk9 := hK (.slice (srcA ad ad2 i j cap cap2 0) (srcN i j k k2 0) (srcC i j cap cap2 0)) W (Below.refl _ W) (wildV_of (by rfl))
              change K (Act.put _ _ (.slice (some ad) i cap)) W at hk9
              have hle : i ≤ cap := by omega
              go_simp
              exact hk9
            case s5 =>
              refine And.intro (by rfl) (fun tm W hS hsz hfr hdep K hK => ?_)
              change tm.size = 67 at hsz
              have t47 : tm.getD 47 undef = .int .i64 (i : Int) := wildV_known (by rfl) (hdep 4 (by rfl) (by decide))
              clear hdep hfr
              have hk9 := hK (.int .i64 ((i : Int) + 1)) W (Below.refl _ W) (wildV_of (by rfl))
              have hwr : IntKind.i64.wrap ((i : Int) + 1) = (i : Int) + 1 := wrap_one (by omega)
              go_simp
              first | exact hk9 | (rw [hwr]; exact hk9)
            case s6 =>
              refine And.intro (by rfl) (fun tm W hS hsz hfr hdep K hK => ?_)
              change tm.size = 67 at hsz
              have t46 : tm.getD 46 undef = .slice (some ad) k cap := wildV_known (by rfl) (hdep 3 (by rfl) (by decide))
              have t48 : tm.getD 48 undef = .int .i64 ((i : Int) + 1) := wildV_known (by rfl) (hdep 5 (by rfl) (by decide))
              have u46 := getq t46 (by omega)
              have u48 := getq t48 (by omega)
              clear hdep hfr
              have hk9 := hK (.slice (srcA ad ad2 i j cap cap2 1) (srcN i j k k2 1) (srcC i j cap cap2 1)) W (Below.refl _ W) (wildV_of (by rfl))
              change K (Act.put _ _ (.slice (if cap = i + 1 then some ad else some (ad.add (i + 1))) (k - (i + 1)) (cap - (i + 1)))) W at hk9
              have hl1 : (0 : Int) ≤ (i : Int) + 1 := by omega
              have hl2 : (i : Int) + 1 ≤ (k : Int) := by omega
              have e2 : ad.add (i + 1) = ⟨ad.block, ad.off + (i + 1), none⟩ := by simp [Addr.add]
              rw [e2] at hk9
              clear e2
              by_cases hcp : cap = i + 1
              · rw [if_pos hcp, show cap - (i + 1) = 0 by omega] at hk9
                go_simp
                exact hk9
              · rw [if_neg hcp] at hk9
                go_simp
                exact hk9
            case s9 =>
              refine And.intro (by rfl) (fun tm W hS hsz hfr hdep K hK => ?_)
              change tm.size = 67 at hsz
              have t50 : tm.getD 50 undef = .slice (some ad2) k2 cap2 := wildV_known (by rfl) (hdep 7 (by rfl) (by decide))
              have t51 : tm.getD 51 undef = .int .i64 (j : Int) := wildV_known (by rfl) (hdep 8 (by rfl) (by decide))
              have u50 := getq t50 (by omega)
              have u51 := getq t51 (by omega)
              clear hdep hfr
              have hk9 := hK (.slice (srcA ad ad2 i j cap cap2 2) (srcN i j k k2 2) (srcC i j cap cap2 2)) W (Below.refl _ W) (wildV_of (by rfl))
              change K (Act.put _ _ (.slice (some ad2) j cap2)) W at hk9
              have hle : j ≤ cap2 := by omega
              go_simp
              exact hk9
            case s12 =>
              refine And.intro (by rfl) (fun tm W hS hsz hfr hdep K hK => ?_)
              change tm.size = 67 at hsz
              have t54 : tm.getD 54 undef = .int .i64 (j : Int) := wildV_known (by rfl) (hdep 11 (by rfl) (by decide))
              clear hdep hfr
              have hk9 := hK (.int .i64 ((j : Int) + 1)) W (Below.refl _ W) (wildV_of (by rfl))
              have hwr : IntKind.i64.wrap ((j : Int) + 1) = (j : Int) + 1 := wrap_one (by omega)
              go_simp
              first | exact hk9 | (rw [hwr]; exact hk9)
            case s13 =>
              refine And.intro (by rfl) (fun tm W hS hsz hfr hdep K hK => ?_)
              change tm.size = 67 at hsz
              have t53 : tm.getD 53 undef = .slice (some ad2) k2 cap2 := wildV_known (by rfl) (hdep 10 (by rfl) (by decide))
              have t55 : tm.getD 55 undef = .int .i64 ((j : Int) + 1) := wildV_known (by rfl) (hdep 12 (by rfl) (by decide))
              have u53 := getq t53 (by omega)
              have u55 := getq t55 (by omega)
              clear hdep hfr
              have hk9 := hK (.slice (srcA ad ad2 i j cap cap2 3) (srcN i j k k2 3) (srcC i j cap cap2 3)) W (Below.refl _ W) (wildV_of (by rfl))
              change K (Act.put _ _ (.slice (if cap2 = j + 1 then some ad2 else some (ad2.add (j + 1))) (k2 - (j + 1)) (cap2 - (j + 1)))) W at hk9
              have hl1 : (0 : Int) ≤ (j : Int) + 1 := by omega
              have hl2 : (j : Int) + 1 ≤ (k2 : Int) := by omega
              have e2 : ad2.add (j + 1) = ⟨ad2.block, ad2.off + (j + 1), none⟩ := by simp [Addr.add]
              rw [e2] at hk9
              clear e2
              by_cases hcp : cap2 = j + 1
              · rw [if_pos hcp, show cap2 - (j + 1) = 0 by omega] at hk9
                go_simp
                exact hk9
              · rw [if_neg hcp] at hk9
                go_simp
                exact hk9
            case s14 =>
              refine And.intro (by rfl) (fun tm W hS hsz hfr hdep K hK => ?_)
              change tm.size = 67 at hsz
              have t45 : tm.getD 45 undef = .slice (srcA ad ad2 i j cap cap2 0) (srcN i j k k2 0) (srcC i j cap cap2 0) := wildV_known (by rfl) (hdep 2 (by rfl) (by decide))
              have t49 : tm.getD 49 undef = .slice (srcA ad ad2 i j cap cap2 1) (srcN i j k k2 1) (srcC i j cap cap2 1) := wildV_known (by rfl) (hdep 6 (by rfl) (by decide))
              have t52 : tm.getD 52 undef = .slice (srcA ad ad2 i j cap cap2 2) (srcN i j k k2 2) (srcC i j cap cap2 2) := wildV_known (by rfl) (hdep 9 (by rfl) (by decide))
              have t56 : tm.getD 56 undef = .slice (srcA ad ad2 i j cap cap2 3) (srcN i j k k2 3) (srcC i j cap cap2 3) := wildV_known (by rfl) (hdep 13 (by rfl) (by decide))
              have u45 := getq t45 (by omega)
              have u49 := getq t49 (by omega)
              have u52 := getq t52 (by omega)
              have u56 := getq t56 (by omega)
              clear hdep hfr
              go_simp
              exact hK _ _ ((Below.refl _ W).alloc (Nat.le_refl _) _) (show vRs w.heap.size (src4 ad ad2 i j cap cap2 k k2) (catZ (srcL a b i j) 4) 14 (.slice (some ⟨W.heap.size, 0, none⟩) 4 4) _ from ⟨W.heap.size, rfl, heap_alloc_new W _⟩)
            case s15 =>
              refine And.intro (by rfl) (fun tm W hS hsz hfr hdep K hK => ?_)
              change tm.size = 67 at hsz
              have h14 : (vRs w.heap.size (src4 ad ad2 i j cap cap2 k k2) (catZ (srcL a b i j) 4)) 14 (tm.getD 57 undef) W := wildV_wild (by rfl) (hdep 14 (by rfl) (by decide))
              clear hdep hfr
              obtain ⟨g4, t57, hh4⟩ := (show ∃ g, tm.getD 57 undef = .slice (some ⟨g, 0, none⟩) 4 4 ∧ W.heap[g]? = some (.cells (src4 ad ad2 i j cap cap2 k k2) 31 (0, 0)) from h14)
              refine wp_call _ _ _ _ _ rfl rfl (by simp [Act.eval, t57]) (by kernel_rfl) (HCO.out W g4 hS hh4) (fun e W9 h9 => ?_)
              obtain ⟨v9, rfl, hr9, hb9⟩ := h9
              exact ⟨_, rfl, hK _ W9 hb9 (show vRs w.heap.size (src4 ad ad2 i j cap cap2 k k2) (catZ (srcL a b i j) 4) 15 v9 W9 from own_up hr9 hS.size)⟩
            case s16 =>
              refine And.intro (by rfl) (fun tm W hS hsz hfr hdep K hK => ?_)
              change tm.size = 67 at hsz
              have h15 : (vRs w.heap.size (src4 ad ad2 i j cap cap2 k k2) (catZ (srcL a b i j) 4)) 15 (tm.getD 58 undef) W := wildV_wild (by rfl) (hdep 15 (by rfl) (by decide))
              clear hdep hfr
              go_simp
              have e58 : tm[58]'(by omega) = tm.getD 58 undef := getq rfl (by omega)
              exact hK _ W (Below.refl _ W) (by show vRs w.heap.size (src4 ad ad2 i j cap cap2 k k2) (catZ (srcL a b i j) 4) 16 _ W; first | exact h15 | (rw [e58]; exact h15))
          case fin =>
            intro f W hS hV
            have y14 : (vRs w.heap.size (src4 ad ad2 i j cap cap2 k k2) (catZ (srcL a b i j) 4)) 14 (f 14) W := hV 14 (by decide) (by rfl)
            have y15 : (vRs w.heap.size (src4 ad ad2 i j cap cap2 k k2) (catZ (srcL a b i j) 4)) 15 (f 15) W := hV 15 (by decide) (by rfl)
            have y16 : (vRs w.heap.size (src4 ad ad2 i j cap cap2 k k2) (catZ (srcL a b i j) 4)) 16 (f 16) W := hV 16 (by decide) (by rfl)
            clear hV
            have hvl : ((List.range 17).map (fun qq => if [14, 15, 16].contains qq then f qq else ([.slice (some ad) k cap, .int .i64 (i : Int), .slice (srcA ad ad2 i j cap cap2 0) (srcN i j k k2 0) (srcC i j cap cap2 0), .slice (some ad) k cap, .int .i64 (i : Int), .int .i64 ((i : Int) + 1), .slice (srcA ad ad2 i j cap cap2 1) (srcN i j k k2 1) (srcC i j cap cap2 1), .slice (some ad2) k2 cap2, .int .i64 (j : Int), .slice (srcA ad ad2 i j cap cap2 2) (srcN i j k k2 2) (srcC i j cap cap2 2), .slice (some ad2) k2 cap2, .int .i64 (j : Int), .int .i64 ((j : Int) + 1), .slice (srcA ad ad2 i j cap cap2 3) (srcN i j k k2 3) (srcC i j cap cap2 3), undef, undef, undef] : List Value).getD qq undef)) = [.slice (some ad) k cap, .int .i64 (i : Int), .slice (srcA ad ad2 i j cap cap2 0) (srcN i j k k2 0) (srcC i j cap cap2 0), .slice (some ad) k cap, .int .i64 (i : Int), .int .i64 ((i : Int) + 1), .slice (srcA ad ad2 i j cap cap2 1) (srcN i j k k2 1) (srcC i j cap cap2 1), .slice (some ad2) k2 cap2, .int .i64 (j : Int), .slice (srcA ad ad2 i j cap cap2 2) (srcN i j k k2 2) (srcC i j cap cap2 2), .slice (some ad2) k2 cap2, .int .i64 (j : Int), .int .i64 ((j : Int) + 1), .slice (srcA ad ad2 i j cap cap2 3) (srcN i j k k2 3) (srcC i j cap cap2 3), f 14, f 15, f 16] := by rfl
            rw [hvl]
            clear hvl
            have HBW := Lib.hid hS
            have HOW := Lib.hid (show W.ownsRow w.heap.size 3 1 (f 16) (catZ (srcL a b i j) 4).length (ints (catZ (srcL a b i j) 4)) from y16)
            clear y14 y15 y16 hS
            generalize f 14 = f14
            generalize f 15 = f15
            generalize f 16 = f16 at *
            simp only [fillD]
            go_simp
            have hcs := cat_src a b i j
            have hmm : ∀ x, x ∈ catZ (srcL a b i j) 4 ↔ x ∈ restL a b v := fun x => by rw [hcs]; exact hRM x
            obtain ⟨A9, c9, rfl, hrd⟩ := own_readsO HOW.out
            have HNR := Lib.hid (xNormal_any (catZ (srcL a b i j) 4) A9 _ c9 W hrd (by have := HCLN.out; unfold maxLen; omega))
            have HNE : Hid (nE (catZ (srcL a b i j) 4) = 0) := Lib.hid (nE_lits HCLN.out (fun x hx => hRL x ((hmm x).1 hx)))
            have HAW : Hid (alwB (catZ (srcL a b i j) 4) = alwB (restL a b v)) := Lib.hid (alw_congr hmm)
            have HNM : Hid (nrm (catZ (srcL a b i j) 4) = nrm (restL a b v)) := Lib.hid (nrm_congr hmm)
            have HNA : Hid (nA (catZ (srcL a b i j) 4) = alwB (restL a b v)) := Lib.hid (by unfold nA; rw [HNE.out, HAW.out]; rfl)
            have HNL : Hid (alwB (restL a b v) = false → nL (catZ (srcL a b i j) 4) = nrm (restL a b v)) := Lib.hid (fun h => by unfold nL; rw [HNE.out, HAW.out, HNM.out, if_pos ⟨rfl, h⟩])
            rw [HNE.out, HNA.out] at HNR
            clear hcs hmm hrd HNE HAW HNM HNA
            generalize nL (catZ (srcL a b i j) 4) = NL at *
            generalize (catZ (srcL a b i j) 4).length = nc at *
            cases hq : alwB (restL a b v) with
            | true =>
              have HE2 : Hid (resE a b v = 10) := Lib.hid (by rw [HE.out, if_pos hq])
              have HL2 := Lib.hid (res_bad HE2.out (by decide))
              rw [hq] at HNR
              clear hq
              go_wp2_with fail
              refine (HNR.out).mono ?_
              rintro e w5 ⟨A5, c5, rfl, _, _, hb5⟩
              have HB5 := Lib.hid (HBW.out.trans (hb5.mono HBW.out.size))
              clear hb5
              go_wp2
              go_ret2
              exact ⟨none, 0, by rw [HL2.out, HE2.out]; rfl, by rw [HL2.out]; exact OwJ.nil _ _ _, by rw [HL2.out]; exact Nat.le_refl _, HB5.out⟩
            | false =>
              have HE2 : Hid (resE a b v = 0) := Lib.hid (by rw [HE.out, hq]; rfl)
              have HL2 : Hid (resL a b v = NL) := Lib.hid (by unfold resL; rw [if_pos HE2.out, HNL.out hq])
              rw [hq] at HNR
              clear hq
              go_wp2_with fail
              refine (HNR.out).mono ?_
              rintro e w5 ⟨A5, c5, rfl, hj5, hl5, hb5⟩
              have HJ5 := Lib.hid (hj5.mono HBW.out.size)
              have HB5 := Lib.hid (HBW.out.trans (hb5.mono HBW.out.size))
              clear hb5 hj5
              go_wp2
              go_ret2
              exact ⟨A5, c5, by rw [HL2.out, HE2.out]; rfl, by rw [HL2.out]; exact HJ5.out, by rw [HL2.out]; exact hl5, HB5.out⟩
    · have HE : Hid (resE a b v = 1) := Lib.hid (by unfold resE; rw [if_pos (.inr hb)])
      have HL := Lib.hid (res_bad HE.out (by decide))
      have q1 : (clE 12 b != 0) = true := by rw [bne_iff_ne]; exact hb
      rw [ha] at HC
      clear ha hb hR hR2 hk hk2
      generalize clE 12 b = e2 at *
      go_enter Tryd.func57, Tryd.ntmps57
      go_wp2_with fail
      refine (HC.out).mono ?_
      rintro e w2 ⟨rfl, rfl⟩
      go_wp2_with fail
      refine (HC2.out).mono ?_
      rintro e w2 ⟨rfl, rfl⟩
      go_wp2
      go_ret2
      exact ⟨none, 0, by rw [HL.out, HE.out]; rfl, by rw [HL.out]; exact OwJ.nil _ _ _, by rw [HL.out]; exact Nat.le_refl _, Below.refl _ _⟩
  · have HE : Hid (resE a b v = 1) := Lib.hid (by unfold resE; rw [if_pos (.inl ha)])
    have HL := Lib.hid (res_bad HE.out (by decide))
    have q1 : (clE 12 a != 0) = true := by rw [bne_iff_ne]; exact ha
    clear ha hR hR2 hk hk2
    generalize clE 12 a = e1 at *
    generalize clE 12 b = e2 at *
    go_enter Tryd.func57, Tryd.ntmps57
    go_wp2_with fail
    refine (HC.out).mono ?_
    rintro e w2 ⟨rfl, rfl⟩
    go_wp2
    go_ret2
    exact ⟨none, 0, by rw [HL.out, HE.out]; rfl, by rw [HL.out]; exact OwJ.nil _ _ _, by rw [HL.out]; exact Nat.le_refl _, Below.refl _ _⟩
end Go.Proofs.YtopkmcoblndokaaDoor.rsl
