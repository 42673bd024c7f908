/- Layer 5: lists of lists compared; the law FormulaCompacts. -/
import Derived.Test.YtppkmapmpejhiaaMn
namespace Go.Proofs.Ytppkmapmpejhiaa
open Go.RowKit Go.Proofs.Ws Go.Maps
theorem LL.item {W : World} {base : Nat} {v : Value} {ls : List (List Nd)} (h : LL W base v ls) : ∃ A c, v = .slice A ls.length c ∧ ∀ k, k < ls.length → ∃ ad Aj cj, A = some ad ∧ W.cell? (ad.add k) = some (.slice Aj (ls.getD k []).length cj) ∧ Reads W W.heap.size 6 Aj (ls.getD k []).length (nds (ls.getD k [])) := by
  obtain ⟨vs, h1, h2⟩ := h.row
  obtain ⟨A, c, rfl⟩ := own_sl h1
  refine ⟨A, c, rfl, fun k hk => ?_⟩
  obtain ⟨ad, hA, _, hc⟩ := (Reads.of_own h1).2 (by omega)
  obtain ⟨Aj, cj, hv, ho⟩ := h2 k hk
  exact ⟨ad, Aj, cj, hA, hc k _ hv, Reads.of_own ho⟩
/-- the same lists at two slices: they are found equal -/
theorem sameLists_any (ls : List (List Nd)) (v v2 : Value) (b b2 : Nat) (w : World) (h : LL w b v ls) (h2 : LL w b2 v2 ls) (hm : ls.length ≤ 1000) (hmi : ∀ k, k < ls.length → (ls.getD k []).length ≤ maxLen) :
    Calls Try.prog 31 #[v, v2] w fun e w' => e = .returned (.bool true) ∧ Below w.heap.size w w' := by
  obtain ⟨A, c, rfl, hi⟩ := h.item
  obtain ⟨A2, c2, rfl, hi2⟩ := h2.item
  have HI := Lib.hid hi
  have HI2 := Lib.hid hi2
  have HM := Lib.hid hmi
  have hne : ((ls.length : Int) != (ls.length : Int)) = false := by simp
  clear h h2 hi hi2 hmi
  go_enter Try.func31, Try.ntmps31
  go_wp2
  go_loopw [5] (fun i wr => ∃ k : Nat, k ≤ ls.length ∧ i = .int .i64 k ∧ Hid (Below w.heap.size w wr)) (fun i _ => ls.length - (intOf i).toNat)
  case atStart => exact ⟨0, Nat.zero_le _, rfl, Lib.hid (Below.refl _ _)⟩
  case round =>
    obtain ⟨k, hk, rfl, HB⟩ := hrel
    by_cases hlt : k < ls.length
    · obtain ⟨ad, Aj, cj, rfl, hcj, hrj⟩ := HI.out k hlt
      obtain ⟨ad2, Aj2, cj2, rfl, hcj2, hrj2⟩ := HI2.out k hlt
      have hm2 := HM.out k hlt
      have hc1 := (HB.out.cell (p := ad.add k) (World.block_lt_of_cell? w _ hcj)).trans hcj
      have hc2 := (HB.out.cell (p := ad2.add k) (World.block_lt_of_cell? w _ hcj2)).trans hcj2
      have HE : Hid (∀ W, Below w.heap.size w W → Calls Try.prog 24 #[.slice Aj (ls.getD k []).length cj, .slice Aj2 (ls.getD k []).length cj2] W fun e w' => e = .returned (.bool true) ∧ Below W.heap.size W w') := Lib.hid (fun W hW => by
        have := rEqual_any (ls.getD k []) (ls.getD k []) Aj Aj2 _ _ cj cj2 W ((hrj.below hW).more hW.size) ((hrj2.below hW).more hW.size) hm2 hm2
        rw [decide_eq_true rfl] at this
        exact this)
      clear hcj hcj2 hrj hrj2 hm2
      generalize (ls.getD k []).length = mk at *
      have HBd : Hid (Below w.heap.size w wr.drew) := Lib.hid HB.out.drew
      go_wp2_with fail
      go_region_with (go_at_call 24; refine (HE.out _ HBd.out).mono ?_; rintro e w4 ⟨rfl, hb4⟩; have HB4 := Lib.hid (HBd.out.trans (hb4.mono HBd.out.size)); clear hb4)
      all_goals
        clear hc1 hc2
        go_wp2
        go_roundw
        case rel => exact ⟨k + 1, by omega, by go_num, HB4⟩
        case measure => simp [intOf]; omega
    · have hkn : k = ls.length := by omega
      subst hkn
      go_wp2
      go_ret
      exact ⟨rfl, HB.out⟩
end Go.Proofs.Ytppkmapmpejhiaa
