/- Contracts of layer 2: the converse by the reference. -/
import Derived.Test.YtogjbghieoifjaaDoorRg
namespace Go.Proofs.YtogjbghieoifjaaDoor
open Go.RowKit Go.Proofs.Ws
/-- the points below n that lead to v -/
def colU (R : List Nat) (v n : Nat) : Nat := (List.range n).foldl (fun a k => if (R.getD k 0).testBit v then a ||| p2 k else a) 0
theorem colU_succ (R : List Nat) (v n : Nat) : colU R v (n + 1) = if (R.getD n 0).testBit v then colU R v n ||| p2 n else colU R v n := by
  unfold colU; rw [List.range_succ, List.foldl_append]; rfl
theorem colU_lt (R : List Nat) (v : Nat) : ∀ n, n ≤ 64 → colU R v n < 18446744073709551616
  | 0, _ => by show 0 < 18446744073709551616; decide
  | n + 1, h => by
    rw [colU_succ]
    split
    · exact (or_pow _ n (colU_lt R v n (by omega)) (by omega)).2
    · exact colU_lt R v n (by omega)
def convV (R : List Nat) : List Nat := (List.range R.length).map (fun v => colU R v R.length)
set_option maxRecDepth 100000 in
set_option maxHeartbeats 4000000 in
theorem refConverse_any (R : List Nat) (A : Option Addr) (m c : Nat) (w : World) (hR : Reads w w.heap.size 1 A m (us R)) (hw : Words R) (hm : m ≤ maxLen) :
    Calls Tryd.prog 25 #[.slice A m c] w fun e w' => (relErr R.length R = 0 ∧ GivesR (convV R) w e w') ∨ (relErr R.length R ≠ 0 ∧ GivesE (relErr R.length R) w e w') := by
  have e1 := hR.word_len
  have H := Lib.hid (ref2Check_any m R A m c _ w hR hw hm)
  have HR := Lib.hid hR
  rw [e1]
  by_cases h0 : relErr m R = 0
  · have hm64 := relErr_zero h0
    rw [h0] at H
    have HV : Hid (convV R = (List.range m).map (fun v => colU R v m)) := Lib.hid (by unfold convV; rw [e1])
    have HW := Lib.hid hw
    have H0 := Lib.hid h0
    have hmk := fun W => makeU W m (by omega)
    clear h0 hR hw e1
    go_enter Tryd.func25, Tryd.ntmps25
    go_wp2_with fail
    refine (H.out).mono ?_
    rintro e w1 ⟨rfl, ⟨q, rfl⟩⟩
    have HB0 : Hid (Below w.heap.size w (w.drewN q)) := Lib.hid (below_drewN (Below.refl _ _) _)
    have hsz : (w.drewN q).heap.size = w.heap.size := rfl
    generalize hw1 : w.drewN q = w1 at *
    clear hw1
    have HH := Lib.hid (HoldsU.made w1 (List.replicate m 0))
    rw [hsz] at HH
    have HB := Lib.hid (HB0.out.alloc (Nat.le_of_eq hsz.symm) (.cells (us (List.replicate m 0)).toArray 34))
    go_wp2
    try simp only [hsz]
    generalize hWx : w1.alloc (.cells (us (List.replicate m 0)).toArray 34) = wx at *
    clear hWx hmk HB0 hsz
    go_loopw [6] (fun i wr => ∃ k : Nat, k ≤ m ∧ i = .int .i64 k ∧ Hid (HoldsU wr w.heap.size (mixL (fun _ => false) (fun v => colU R v (k + 1)) (fun v => colU R v k) m)) ∧ Hid (Below w.heap.size w wr)) (fun i _ => m - (intOf i).toNat)
    case atStart => exact ⟨0, by omega, rfl, by rw [mixL_start (fun _ => false) (fun v => colU R v (0 + 1)) (fun v => colU R v 0) m (fun _ => rfl) (fun _ _ => rfl)]; exact HH, HB⟩
    case round =>
      clear HH HB
      obtain ⟨k, hk, rfl, HH, HB⟩ := hrel
      by_cases hlt : k < m
      · obtain ⟨x, hx⟩ : ∃ x, R.getD k 0 = x := ⟨_, rfl⟩
        have hxw : x < 18446744073709551616 := by rw [← hx]; exact words_getD HW.out k
        have HX := Lib.hid hx
        clear hx
        go_wp2
        go_loopw [7] (fun i wr => ∃ u : Nat, u ≤ m ∧ i = .int .i64 u ∧ Hid (HoldsU wr w.heap.size (mixL (fun j => decide (j < u)) (fun v => colU R v (k + 1)) (fun v => colU R v k) m)) ∧ Hid (Below w.heap.size w wr)) (fun i _ => m - (intOf i).toNat)
        case atStart => exact ⟨0, by omega, rfl, by rw [mixL_congr (p' := fun _ => false) (f' := fun v => colU R v (k + 1)) (g' := fun v => colU R v k) (fun v _ => by simp)]; exact HH, HB⟩
        case round =>
          clear HH HB
          obtain ⟨u, hu, rfl, HH, HB⟩ := hrel
          by_cases hul : u < m
          · obtain ⟨ad, rfl, hb, hc⟩ := (HR.out.below HB.out).word_k hlt
            rw [HX.out] at hc
            have HIN := Lib.hid (in_any x u wr hxw (by omega))
            have hcz := HH.out.cell u (by rw [mixL_length]; exact hul)
            rw [mixL_getD _ _ _ _ _ hul, show decide (u < u) = false from by simp, if_neg (by simp)] at hcz
            have hf := HH.out.free u
            have hor := (or_pow _ k (colU_lt R u k (by omega)) (by omega)).1
            have hwp := wrap_pow k (by omega)
            by_cases hbit : x.testBit u = true
            · have HP : Hid (HoldsU (wr.setCell ⟨w.heap.size, u, none⟩ (.int .u64 ((colU R u k ||| p2 k : Nat) : Int))) w.heap.size (mixL (fun j => decide (j < u + 1)) (fun v => colU R v (k + 1)) (fun v => colU R v k) m)) := Lib.hid (by
                have := HH.out.put u (colU R u k ||| p2 k)
                rw [mixL_set (fun j => decide (j < u)) (fun j => decide (j < u + 1)) _ _ m u _ (by rw [show decide (u < u + 1) = true from by simp, if_pos rfl, colU_succ, HX.out, if_pos hbit]) (fun j hj => decide_eq_decide.2 (by omega))] at this
                exact this)
              have HBx := Lib.hid (HB.out.setCell (p := ⟨w.heap.size, u, none⟩) (Nat.le_refl _) (.int .u64 ((colU R u k ||| p2 k : Nat) : Int)))
              rw [hbit] at HIN
              clear hbit
              generalize colU R u k = t1 at *
              go_wp2_with (go_at_call 58; refine (HIN.out).mono ?_; rintro e w' ⟨rfl, rfl⟩)
              go_roundw
              case rel => exact ⟨u + 1, by omega, by go_num, Lib.hid HP.out, Lib.hid HBx.out⟩
              case measure => simp [intOf]; omega
            · have hbit' : x.testBit u = false := by simpa using hbit
              have HP : Hid (HoldsU wr w.heap.size (mixL (fun j => decide (j < u + 1)) (fun v => colU R v (k + 1)) (fun v => colU R v k) m)) := Lib.hid (by
                rw [mixL_congr (p := fun j => decide (j < u + 1)) (p' := fun j => decide (j < u)) (f' := fun v => colU R v (k + 1)) (g' := fun v => colU R v k) (fun v _ => by
                  by_cases hvu : v = u
                  · rw [hvu, show decide (u < u + 1) = true from by simp, show decide (u < u) = false from by simp, if_pos rfl, if_neg (by simp), colU_succ, HX.out, if_neg (by simp [hbit'])]
                  · have : decide (v < u + 1) = decide (v < u) := decide_eq_decide.2 (by omega)
                    simp only [this])]
                exact HH.out)
              rw [hbit'] at HIN
              clear hbit hbit'
              go_wp2_with (go_at_call 58; refine (HIN.out).mono ?_; rintro e w' ⟨rfl, rfl⟩)
              go_roundw
              case rel => exact ⟨u + 1, by omega, by go_num, HP, HB⟩
              case measure => simp [intOf]; omega
          · have HP : Hid (HoldsU wr w.heap.size (mixL (fun _ => false) (fun v => colU R v (k + 1 + 1)) (fun v => colU R v (k + 1)) m)) := Lib.hid (by
              rw [mixL_congr (p' := fun j => decide (j < u)) (f' := fun v => colU R v (k + 1)) (g' := fun v => colU R v k) (fun v hv => by
                have : v < u := by omega
                simp [this])]
              exact HH.out)
            go_wp2
            go_roundw
            case rel => exact ⟨k + 1, by omega, by go_num, HP, HB⟩
            case measure => simp [intOf]; omega
      · have hkm : k = m := by omega
        subst hkm
        have HE : Hid (mixL (fun _ => false) (fun v => colU R v (k + 1)) (fun v => colU R v k) k = convV R) := Lib.hid (by rw [HV.out]; unfold mixL; simp)
        go_wp2
        go_ret2
        refine Or.inl ⟨H0.out, some ⟨w.heap.size, 0, none⟩, k, ?_, ?_, HB.out⟩
        · rw [HV.out, List.length_map, List.length_range]; rfl
        · rw [← HE.out]; exact HH.out.reads
  · have HN := Lib.hid h0
    have hne : (relErr m R != 0) = true := by simp [h0]
    clear hR hw e1
    generalize relErr m R = x at *
    clear h0
    go_enter Tryd.func25, Tryd.ntmps25
    go_wp2_with fail
    refine (H.out).mono ?_
    rintro e w1 ⟨rfl, ⟨q, rfl⟩⟩
    go_wp2
    go_ret2
    exact Or.inr ⟨HN.out, rfl, below_drewN (Below.refl _ _) _⟩
end Go.Proofs.YtogjbghieoifjaaDoor
