/- Layer 13: the check of a model on both sides. -/
import Derived.Test.YtofclgapgjcflaaDoorDc
namespace Go.Proofs.Ws
theorem chkM_rng {m : Mo} (h : m.n < 1 ∨ 64 < m.n) : chkM m = 2 := by unfold chkM; rw [if_pos h]
theorem chkM_lim {m : Mo} (h : ¬ (m.n < 1 ∨ 64 < m.n)) (h2 : 4 < m.rel.length ∨ 8 < m.val.length) : chkM m = 8 := by unfold chkM; rw [if_neg h, if_pos h2]
theorem chkM_form {m : Mo} (h : ¬ (m.n < 1 ∨ 64 < m.n)) (h2 : ¬ (4 < m.rel.length ∨ 8 < m.val.length)) (h3 : ∃ r ∈ m.rel, (r.length : Int) ≠ m.n) : chkM m = 3 := by
  unfold chkM; rw [if_neg h, if_neg h2, if_neg]
  obtain ⟨r, hr, hne⟩ := h3
  intro h
  rw [List.all_eq_true] at h
  exact hne (of_decide_eq_true (h r hr))
theorem chkM_last {m : Mo} (h : ¬ (m.n < 1 ∨ 64 < m.n)) (h2 : ¬ (4 < m.rel.length ∨ 8 < m.val.length)) (h3 : ∀ r ∈ m.rel, (r.length : Int) = m.n) : chkM m = if inW m.n.toNat m.val && m.rel.all (inW m.n.toNat) then 0 else 2 := by
  unfold chkM; rw [if_neg h, if_neg h2, if_pos]
  rw [List.all_eq_true]
  exact fun r hr => decide_eq_true (h3 r hr)
theorem take_one {α : Type} {l : List α} {j : Nat} {d : α} (h : j < l.length) {P : α → Prop} (h1 : ∀ x ∈ l.take j, P x) (h2 : P (l.getD j d)) : ∀ x ∈ l.take (j + 1), P x := by
  rw [List.take_succ_eq_append_getElem h]
  intro y hy
  rcases List.mem_append.1 hy with hy | hy
  · exact h1 y hy
  · rw [List.mem_singleton.1 hy]
    rw [List.getD_eq_getElem?_getD, List.getElem?_eq_getElem h] at h2
    exact h2
theorem getD_mem' {α : Type} {l : List α} {j : Nat} {d : α} (h : j < l.length) : l.getD j d ∈ l := by
  rw [List.getD_eq_getElem?_getD, List.getElem?_eq_getElem h]; exact List.getElem_mem h
end Go.Proofs.Ws
namespace Go.Proofs.YtofclgapgjcflaaDoor
open Go.RowKit Go.Proofs.Ws
set_option maxRecDepth 100000
/-- a box of a model -/
def MBox (W : World) (g : Nat) (n : Int) (v1 v2 : Value) : Prop := W.heap[g]? = some (.cells #[.int .i64 n, v1, v2] 25 (0, 0))
section
variable {W W' : World} {g : Nat} {n : Int} {v1 v2 : Value}
theorem MBox.c0 (h : MBox W g n v1 v2) : W.cell? ⟨g, 0, none⟩ = some (.int .i64 n) := by rw [Lib.cell_of_heap h]; rfl
theorem MBox.c1 (h : MBox W g n v1 v2) : W.cell? ⟨g, 1, none⟩ = some v1 := by rw [Lib.cell_of_heap h]; rfl
theorem MBox.c2 (h : MBox W g n v1 v2) : W.cell? ⟨g, 2, none⟩ = some v2 := by rw [Lib.cell_of_heap h]; rfl
theorem MBox.free (h : MBox W g n v1 v2) (k : Nat) : W.frozen? ⟨g, k, none⟩ = false := Lib.frozen_of_heap h k
theorem MBox.lt (h : MBox W g n v1 v2) : g < W.heap.size := (Array.getElem?_eq_some_iff.1 h).1
theorem MBox.below {B : Nat} (h : MBox W g n v1 v2) (hb : Below B W W') (hg : g < B) : MBox W' g n v1 v2 := (hb.block g hg).trans h
theorem MBox.made (W : World) (n : Int) (v1 v2 : Value) : MBox (W.alloc (.cells #[.int .i64 n, v1, v2] 25)) W.heap.size n v1 v2 := heap_alloc_new W _
end
set_option maxHeartbeats 4000000 in
theorem pCheck_any (m : Mo) (v : Value) (w : World) (hM : MoR w w.heap.size v m) :
    Calls Tryd.prog 13 #[v] w fun e w' => e = .returned (.int .i64 (chkM m)) ∧ Below w.heap.size w w' := by
  obtain ⟨A1, c1, A2, c2, rfl, hv, hr⟩ := hM.ex
  have hlm := hM.lim
  have hwv := hM.wval
  have hwr := hM.wrel
  obtain ⟨n, val, rel⟩ := m
  dsimp only at hv hr hlm hwv hwr ⊢
  unfold maxLen at hlm
  by_cases h0 : n < 1 ∨ 64 < n
  · have HV := Lib.hid (chkM_rng (m := ⟨n, val, rel⟩) h0)
    clear hM hv hr hwv hwr
    by_cases h1 : n < 1
    · have d0 : decide (n < 1) = true := decide_eq_true h1
      go_enter Tryd.func13, Tryd.ntmps13
      go_wp2
      go_ret
      exact ⟨ret_i64 HV.out.symm, (Below.refl _ w).alloc (Nat.le_refl _) _⟩
    · have d0 : decide (n < 1) = false := decide_eq_false h1
      have d1 : decide (64 < n) = true := decide_eq_true (by omega)
      go_enter Tryd.func13, Tryd.ntmps13
      go_wp2
      go_ret
      exact ⟨ret_i64 HV.out.symm, (Below.refl _ w).alloc (Nat.le_refl _) _⟩
  · have d0 : decide (n < 1) = false := decide_eq_false (by omega)
    have d1 : decide (64 < n) = false := decide_eq_false (by omega)
    by_cases h2 : 4 < rel.length ∨ 8 < val.length
    · have HV := Lib.hid (chkM_lim (m := ⟨n, val, rel⟩) h0 h2)
      clear hM hv hr hwv hwr
      by_cases h3 : 4 < rel.length
      · have d2 : decide ((4 : Int) < (rel.length : Int)) = true := decide_eq_true (by omega)
        go_enter Tryd.func13, Tryd.ntmps13
        go_wp2
        go_ret
        exact ⟨ret_i64 HV.out.symm, (Below.refl _ w).alloc (Nat.le_refl _) _⟩
      · have d2 : decide ((4 : Int) < (rel.length : Int)) = false := decide_eq_false (by omega)
        have d3 : decide ((8 : Int) < (val.length : Int)) = true := decide_eq_true (by omega)
        go_enter Tryd.func13, Tryd.ntmps13
        go_wp2
        go_ret
        exact ⟨ret_i64 HV.out.symm, (Below.refl _ w).alloc (Nat.le_refl _) _⟩
    · have d2 : decide ((4 : Int) < (rel.length : Int)) = false := decide_eq_false (by omega)
      have d3 : decide ((8 : Int) < (val.length : Int)) = false := decide_eq_false (by omega)
      have HF := Lib.hid (fun h => chkM_form (m := ⟨n, val, rel⟩) h0 h2 h)
      have HL := Lib.hid (fun h => chkM_last (m := ⟨n, val, rel⟩) h0 h2 h)
      obtain ⟨k, rfl⟩ : ∃ k : Nat, n = (k : Int) := ⟨n.toNat, by omega⟩
      have hk : k ≤ 64 := by omega
      have HB := Lib.hid (MBox.made w (k : Int) (.slice A1 val.length c1) (.slice A2 rel.length c2))
      have HBe : Hid (Below w.heap.size w (w.alloc (.cells #[.int .i64 (k : Int), .slice A1 val.length c1, .slice A2 rel.length c2] 25))) := Lib.hid ((Below.refl _ w).alloc (Nat.le_refl _) _)
      have HRV := Lib.hid hv
      have HRR := Lib.hid hr
      have HWV := Lib.hid hwv
      have HWR := Lib.hid hwr
      have hl1 : val.length ≤ 8 := by omega
      have hl2 : rel.length ≤ 4 := by omega
      clear hM hv hr hwv hwr h0 h2 hlm
      go_enter Tryd.func13, Tryd.ntmps13
      go_wp2
      generalize w.alloc (.cells #[.int .i64 (k : Int), .slice A1 val.length c1, .slice A2 rel.length c2] 25) = w1 at *
      have b0 := HB.out.c0
      have b1 := HB.out.c1
      have b2 := HB.out.c2
      generalize hq : rel.length = q at *
      have HQ := Lib.hid hq
      clear hq d2 d0 d1
      go_loopw [4, 28] (fun _ i wr => ∃ j : Nat, j ≤ q ∧ i = .int .i64 j ∧ Hid (∀ r ∈ rel.take j, (r.length : Int) = k) ∧ w1 = wr) (fun _ i _ => q - (intOf i).toNat)
      case atStart => exact ⟨0, Nat.zero_le _, rfl, Lib.hid (by simp), by first | rfl | trivial⟩
      case round =>
        obtain ⟨j, hj, rfl, HT, rfl⟩ := hrel
        by_cases hlt : j < q
        · obtain ⟨ad, Aj, cj, rfl, had, hcell, hrj, hlj⟩ := (HRR.out.below HBe.out (Nat.le_refl _)).at_ hlt
          clear hrj
          unfold maxLen at hlj
          generalize hrd : rel.getD j [] = rj at *
          have HRJ := Lib.hid hrd
          clear hrd
          by_cases he : rj.length = k
          · have HT2 : Hid (∀ r ∈ rel.take (j + 1), (r.length : Int) = k) := Lib.hid (take_one (d := []) (by have := HQ.out; omega) HT.out (by rw [HRJ.out, he]))
            have hn : ((rj.length : Int) != (k : Int)) = false := by rw [he]; simp
            clear HT he
            go_wp2
            go_roundw
            case rel => exact ⟨j + 1, by omega, by go_num, HT2, by first | rfl | trivial⟩
            case measure => first | (simp [intOf]; done) | (simp [intOf]; omega)
          · have hn : ((rj.length : Int) != (k : Int)) = true := by rw [bne_iff_ne]; omega
            have HV := Lib.hid (HF.out ⟨rj, by rw [← HRJ.out]; exact getD_mem' (by have := HQ.out; omega), by omega⟩)
            clear HT he
            go_wp2
            go_ret
            exact ⟨ret_i64 HV.out.symm, HBe.out⟩
        · have hjq : j = q := by omega
          subst hjq
          have HV := Lib.hid (HL.out (fun r hr => HT.out r (by rw [List.take_of_length_le (by have := HQ.out; omega)]; exact hr)))
          have hsz := HBe.out.size
          have HW := Lib.hid (within_any k val A1 val.length c1 w1.heap.size w1 hk ((HRV.out.below HBe.out).more hsz) HWV.out (by unfold maxLen; omega))
          rw [show (((k : Nat) : Int)).toNat = k from rfl] at HV
          clear HT
          by_cases hiv : inW k val = true
          · rw [hiv] at HW HV
            clear hiv
            go_wp2_with fail
            refine (HW.out).mono ?_
            rintro e w2 ⟨rfl, rfl⟩
            go_wp2
            go_loopw [6, 47] (fun _ i wr => ∃ i' : Nat, i' ≤ j ∧ i = .int .i64 i' ∧ Hid (∀ r ∈ rel.take i', inW k r = true) ∧ w1 = wr) (fun _ i _ => j - (intOf i).toNat)
            case atStart => exact ⟨0, Nat.zero_le _, rfl, Lib.hid (by simp), by first | rfl | trivial⟩
            case round =>
              obtain ⟨i, hi, rfl, HT, rfl⟩ := hrel
              by_cases hlt2 : i < j
              · obtain ⟨ad, Ai, ci, rfl, had, hcell, hri, hli⟩ := (HRR.out.below HBe.out hsz).at_ hlt2
                have HW2 := Lib.hid (within_any k (rel.getD i []) Ai _ ci w1.heap.size w1 hk hri (HWR.out _ (getD_mem' (by have := HQ.out; omega))) hli)
                clear hri hli
                generalize hrd : rel.getD i [] = ri at *
                have HRI := Lib.hid hrd
                clear hrd
                by_cases he : inW k ri = true
                · rw [he] at HW2
                  have HT2 : Hid (∀ r ∈ rel.take (i + 1), inW k r = true) := Lib.hid (take_one (d := []) (by have := HQ.out; omega) HT.out (by rw [HRI.out, he]))
                  clear HT he
                  go_wp2_with fail
                  refine (HW2.out).mono ?_
                  rintro e w3 ⟨rfl, rfl⟩
                  go_wp2
                  go_roundw
                  case rel => exact ⟨i + 1, by omega, by go_num, HT2, by first | rfl | trivial⟩
                  case measure => first | (simp [intOf]; done) | (simp [intOf]; omega)
                · have he2 : inW k ri = false := by simpa using he
                  rw [he2] at HW2
                  have HV2 : Hid (chkM ⟨(k : Int), val, rel⟩ = 2) := Lib.hid (by
                    rw [HV.out]
                    rw [if_neg]
                    rw [Bool.true_and, List.all_eq_true]
                    intro h
                    exact he (h ri (by rw [← HRI.out]; exact getD_mem' (by have := HQ.out; omega))))
                  clear HT he he2
                  go_wp2_with fail
                  refine (HW2.out).mono ?_
                  rintro e w3 ⟨rfl, rfl⟩
                  go_wp2
                  go_ret
                  exact ⟨ret_i64 HV2.out.symm, HBe.out⟩
              · have hij : i = j := by omega
                subst hij
                have HV2 : Hid (chkM ⟨(k : Int), val, rel⟩ = 0) := Lib.hid (by
                  rw [HV.out, if_pos]
                  rw [Bool.true_and, List.all_eq_true]
                  intro r hr
                  exact HT.out r (by rw [List.take_of_length_le (by have := HQ.out; omega)]; exact hr))
                clear HT
                go_wp2
                go_ret
                exact ⟨ret_i64 HV2.out.symm, HBe.out⟩
          · have hiv2 : inW k val = false := by simpa using hiv
            rw [hiv2] at HW HV
            have HV2 : Hid (chkM ⟨(k : Int), val, rel⟩ = 2) := Lib.hid (by rw [HV.out]; rfl)
            clear hiv hiv2
            go_wp2_with fail
            refine (HW.out).mono ?_
            rintro e w2 ⟨rfl, rfl⟩
            go_wp2
            go_ret
            exact ⟨ret_i64 HV2.out.symm, HBe.out⟩
end Go.Proofs.YtofclgapgjcflaaDoor
