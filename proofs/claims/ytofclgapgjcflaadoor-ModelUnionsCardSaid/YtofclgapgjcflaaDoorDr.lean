/- Layer 13: Grow of an empty list of words, and Concat of lists of words. -/
import Derived.Test.YtofclgapgjcflaaDoorDq
import Derived.Shelf.Spec.SlicesGrow
import Derived.Laws.AppendOwnNone
namespace Go.Proofs
open Go.Shelf
shelf_lay_g Lays8.n4 Nm8 4 at Tryd 57 as Tryd.growU
end Go.Proofs
namespace Go.Proofs.YtofclgapgjcflaaDoor
open Go.RowKit Go.Proofs.Ws
theorem ret_own {v : Value} {w w' : World} {B : Nat} {e : TypeId} {n : Nat} {xs : List Value} (h : w'.ownsRow B e 1 v n xs) (hb : Below w.heap.size w w') : ∃ v', Ending.returned v = .returned v' ∧ w'.ownsRow B e 1 v' n xs ∧ Below w.heap.size w w' := ⟨v, rfl, h, hb⟩
theorem pGrow_any (S : Nat) (w : World) (hS : S ≤ 100000) :
    Calls Tryd.prog 57 #[.slice none 0 0, .int .i64 S] w fun e w' => ∃ v, e = .returned v ∧ w'.ownsRow w.heap.size 31 1 v 0 [] ∧ Below w.heap.size w w' := by
  by_cases h0 : S = 0
  · subst h0
    refine (Any8.slices_Grow_room Tryd.growU none 0 0 0 w (by omega) (by omega) (by omega) (by omega)).mono ?_
    rintro e w' ⟨rfl, rfl⟩
    exact ⟨_, rfl, World.ownsRow_nil _ _ _ _, Below.refl _ _⟩
  · obtain ⟨i0, hi, hz0, hz1, hz2⟩ := info_parts Tryd.infoU
    refine (Any8.slices_Grow_grow Tryd.growU i0 (.int .u64 0) hi hz0 (by omega) none 0 0 S [] w (by omega) (by omega) (by rw [hz2]; omega) (by omega) (by simp) (fun _ => rfl) (fun a ha => by cases ha)).mono ?_
    rintro e w' ⟨rfl, rfl⟩
    refine ⟨_, rfl, ⟨rfl, .inr ⟨w.heap.size, _, _, rfl, Nat.le_refl _, heap_alloc_new w.drew _, Nat.zero_le _, grownCap_le_maxLen w _ _ _ (by unfold maxLen; omega), ?_, by simp⟩⟩, ((Below.refl _ w).drew).alloc (Nat.le_refl _) _⟩
    have := grownCap_ge w (0 + S) 0 (Tryd.growU_ren.t 25)
    rw [Array.size_append, Array.size_append, size_zeroCells, size_zeroCells]
    simp [Value.cells]
    simp at this
    omega
theorem own_reads2 {w : World} {base : Nat} {e : TypeId} {v : Value} {n : Nat} {xs : List Value} (h : w.ownsRow base e 1 v n xs) :
    ∃ A c, v = .slice A n c ∧ n ≤ c ∧ c ≤ 9223372036854775807 ∧ (A = none → n = 0 ∧ c = 0) ∧ Reads w w.heap.size 1 A n xs := by
  have h2 := h.2
  rcases h2 with ⟨rfl, rfl⟩ | ⟨g, cap, cur, rfl, _, _, h4, h5, _⟩
  · exact ⟨none, 0, rfl, Nat.le_refl _, by omega, fun _ => ⟨rfl, rfl⟩, Reads.of_own h⟩
  · exact ⟨_, cap, rfl, h4, by unfold maxLen at h5; omega, (fun h => by cases h), Reads.of_own h⟩
def catW (L : Nat → List Nat) : Nat → List Nat
  | 0 => []
  | k + 1 => catW L k ++ L k
def Srcs (w : World) (B g m : Nat) (a : Nat → Option Addr) (n c : Nat → Nat) (L : Nat → List Nat) : Prop :=
  ∀ k, k < m → w.cell? ⟨g, k, none⟩ = some (.slice (a k) (n k) (c k)) ∧ Reads w B 1 (a k) (n k) (us (L k)) ∧ (a k = none → n k = 0 ∧ c k = 0) ∧ n k ≤ 1000
theorem us_oneCell (l : List Nat) : ∀ u ∈ us l, u.oneCell' = true := by
  intro u hu
  unfold us at hu
  obtain ⟨x, _, rfl⟩ := List.mem_map.1 hu
  rfl
theorem us_append (l m : List Nat) : us (l ++ m) = us l ++ us m := by unfold us; simp
theorem catW_len {L : Nat → List Nat} {m : Nat} (h : ∀ k, k < m → (L k).length ≤ 1000) : ∀ k, k ≤ m → (catW L k).length ≤ 1000 * k
  | 0, _ => by simp [catW]
  | k + 1, hk => by
    have := catW_len h k (by omega)
    have := h k (by omega)
    simp only [catW, List.length_append]
    omega
set_option maxRecDepth 100000 in
set_option maxHeartbeats 2000000 in
theorem pConcat_any (g m : Nat) (a : Nat → Option Addr) (n c : Nat → Nat) (L : Nat → List Nat) (w : World) (hg : g < w.heap.size) (hm : m ≤ 3) (hS : Srcs w w.heap.size g m a n c L) :
    Calls Tryd.prog 45 #[.slice (some ⟨g, 0, none⟩) m m] w fun e w' => ∃ v', e = .returned v' ∧ w'.ownsRow w.heap.size 31 1 v' (catW L m).length (us (catW L m)) ∧ Below w.heap.size w w' := by
  have HS := Lib.hid hS
  have HLN : Hid (∀ k, k < m → (L k).length = n k) := Lib.hid (fun k hk => (hS k hk).2.1.word_len)
  have HCL : Hid (∀ k, k ≤ m → (catW L k).length ≤ 3000) := Lib.hid (fun k hk => by
    have := catW_len (m := m) (fun j hj => by rw [HLN.out j hj]; exact (hS j hj).2.2.2) k hk
    omega)
  obtain ⟨i0, hi, hz0, hz1, hz2⟩ := info_parts Tryd.infoU
  clear hS
  go_enter Tryd.func45, Tryd.ntmps45
  go_wp2
  go_loopw [3, 11] (fun sv iv wr => ∃ k : Nat, k ≤ m ∧ iv = .int .i64 k ∧ sv = .int .i64 (((catW L k).length : Nat) : Int) ∧ w = wr) (fun _ iv _ => m - (intOf iv).toNat)
  case atStart => exact ⟨0, Nat.zero_le _, rfl, rfl, rfl⟩
  case round =>
    obtain ⟨k, hk, rfl, rfl, rfl⟩ := hrel
    by_cases hlt : k < m
    · obtain ⟨hc, _, _, hn⟩ := HS.out k hlt
      have HQ : Hid ((catW L (k + 1)).length = (catW L k).length + n k) := Lib.hid (by simp only [catW, List.length_append]; rw [HLN.out k hlt])
      have h1 := HCL.out k hk
      generalize (catW L k).length = s at *
      generalize n k = t at *
      generalize a k = A at *
      generalize c k = C at *
      have hd : decide (((s : Int) + (t : Int)) < 0) = false := by simp; omega
      go_wp2
      go_roundw
      case rel => exact ⟨k + 1, by omega, by go_num, by rw [HQ.out]; go_num, by first | rfl | trivial⟩
      case measure => simp [intOf]; omega
    · have hkm : m = k := by omega
      subst hkm
      have h1 := HCL.out m hk
      have HG := Lib.hid (pGrow_any (catW L m).length w (by omega))
      have HQ : Hid (∃ s, s = (catW L m).length) := Lib.hid ⟨_, rfl⟩
      clear h1
      go_wp2_with fail
      refine (HG.out).mono ?_
      rintro e w1 ⟨v, rfl, hown, hb⟩
      have hsz := hb.size
      go_wp2
      go_loopw [6, 27] (fun v iv wr => ∃ k : Nat, k ≤ m ∧ iv = .int .i64 k ∧ wr.ownsRow w.heap.size 31 1 v (catW L k).length (us (catW L k)) ∧ Below w.heap.size w wr) (fun _ iv _ => m - (intOf iv).toNat)
      case atStart => exact ⟨0, Nat.zero_le _, rfl, hown, hb⟩
      case round =>
        clear hown hb hsz
        obtain ⟨k, hk, rfl, hown, hb⟩ := hrel
        have hsz := hb.size
        by_cases hlt : k < m
        · obtain ⟨hc0, hRk, hnn, hn⟩ := HS.out k hlt
          have hc := (hb.cell (p := ⟨g, k, none⟩) hg).trans hc0
          have HQ : Hid ((catW L (k + 1)).length = (catW L k).length + n k) := Lib.hid (by simp only [catW, List.length_append]; rw [HLN.out k hlt])
          have HX : Hid (us (catW L (k + 1)) = us (catW L k) ++ us (L k)) := Lib.hid (by simp only [catW]; exact us_append _ _)
          have h1 := HCL.out k hk
          have hRk' := hRk.below hb
          have hll := HLN.out k hlt
          clear hc0
          cases hA : a k with
          | none =>
            obtain ⟨h0, h0'⟩ := hnn hA
            rw [hA, h0, h0'] at hc
            have HN : Hid (us (catW L (k + 1)) = us (catW L k) ∧ (catW L (k + 1)).length = (catW L k).length) := Lib.hid (by
              have hnil : L k = [] := List.eq_nil_of_length_eq_zero (by omega)
              refine ⟨by rw [HX.out, hnil]; simp [us], by rw [HQ.out, h0]; rfl⟩)
            clear hRk hRk' hnn hn hA
            go_wp2_with (at_builtin; refine wpList_append_own_none rfl _ _ 22 rfl w.heap.size 31 i0 1 Tryd.underlying22 hi _ _ _ rfl hown rfl ?_)
            go_roundw
            case rel => exact ⟨k + 1, by omega, by go_num, by rw [HN.out.1, HN.out.2]; exact hown, hb⟩
            case measure => simp [intOf]; omega
          | some ad =>
            rw [hA] at hc hRk'
            have HCE : Hid (∀ j u, (us (L k))[j]? = some u → wr.cell? (ad.add j) = some u) := Lib.hid (fun j u hu => by
              have hj : j < (us (L k)).length := (List.getElem?_eq_some_iff.1 hu).1
              rw [us_length, hll] at hj
              obtain ⟨ad', e, _, hc'⟩ := hRk'.2 (by omega)
              injection e with e
              subst e
              exact hc' j u hu)
            clear hRk hRk' hnn hA
            go_wp2_with (at_builtin; refine wpList_append_own _ rfl _ _ 22 rfl w.heap.size 31 i0 (.int .u64 0) 1 8 Tryd.underlying22 hi hz0 hz1 hz2 rfl (by decide) _ _ _ rfl hown ad (n k) (c k) (us (L k)) rfl ?c0 ?c1 ?c2 ?c3 ?c4 ?c5 ?_)
            case c0 => rw [us_length, hll]; omega
            case c1 => exact HCE.out
            case c2 => exact us_oneCell _
            case c3 => unfold maxLen; omega
            case c4 => omega
            case c5 => exact hsz
            intro v' w3 hown' hgrow _
            have hb3 : Below w.heap.size w w3 := hb.grown hgrow hsz (fun j hj => (hown.lt j hj).1)
            have HO : Hid (w3.ownsRow w.heap.size 31 1 v' (catW L (k + 1)).length (us (catW L (k + 1)))) := Lib.hid (by rw [HQ.out, HX.out]; exact hown')
            clear hgrow hown hown' hb HCE
            go_wp2
            go_roundw
            case rel => exact ⟨k + 1, by omega, by go_num, HO.out, hb3⟩
            case measure => simp [intOf]; omega
        · have hkm : m = k := by omega
          subst hkm
          have HRD := Lib.hid hown
          have HB := Lib.hid hb
          clear hown hb
          go_wp2
          go_ret
          exact ⟨_, rfl, HRD.out, HB.out⟩
end Go.Proofs.YtofclgapgjcflaaDoor
