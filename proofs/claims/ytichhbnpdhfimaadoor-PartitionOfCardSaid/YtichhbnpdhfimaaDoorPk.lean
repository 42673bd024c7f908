/- Layer 3: Join, Meet and refinement of partitions, by the program. -/
import Derived.Test.YtichhbnpdhfimaaDoorPj
namespace Go.Proofs.YtichhbnpdhfimaaDoor
open Go.RowKit Go.Proofs.Ws
theorem JInv.root_lt {a b : List Int} {n k : Nat} {l : List Int} (h : JInv a b n k l) {i : Nat} (hi : i < n) : root (fo l) i < n := Nat.lt_of_le_of_lt (root_le h.forest.le i) hi
set_option maxRecDepth 100000 in
theorem lowest_any (l : List Int) (B g n c i : Nat) (w : World) (hP : w.cell? ⟨B, 0, none⟩ = some (.slice (some ⟨g, 0, none⟩) n c)) (hH : HoldsJ w g l) (hl : l.length = n) (hf : Forest l) (hi : i < n) (_hm : n ≤ 64) :
    Calls Tryd.prog 76 #[.int .i64 (i : Int), .pointer (some ⟨B, 0, none⟩)] w fun e w' => e = .returned (.int .i64 (root (fo l) i : Int)) ∧ w = w' := by
  have HH := Lib.hid hH
  have HF := Lib.hid hf
  have HL := Lib.hid hl
  clear hH hf hl
  go_enter Tryd.func76, Tryd.ntmps76
  go_wp2
  go_loopw [0] (fun v wr => ∃ j : Nat, j < n ∧ v = .int .i64 (j : Int) ∧ Hid (root (fo l) j = root (fo l) i) ∧ wr = w) (fun v _ => (intOf v).toNat)
  case atStart => exact ⟨i, hi, rfl, Lib.hid rfl, rfl⟩
  case round =>
    obtain ⟨j, hj, rfl, HI, rfl⟩ := hrel
    have hc := HH.out.cell j (by have := HL.out; omega)
    rw [HF.out.at_ (show j < l.length by have := HL.out; omega)] at hc
    have hle := HF.out.le j
    by_cases hd : fo l j < j
    · have HN : Hid (root (fo l) (fo l j) = root (fo l) i) := Lib.hid (by rw [← root_down hd]; exact HI.out)
      have hne : ((fo l j : Int) != (j : Int)) = true := by rw [bne_iff_ne]; omega
      generalize fo l j = y at *
      go_wp2
      go_roundw
      case rel => exact ⟨y, by omega, rfl, HN, by first | rfl | trivial⟩
      case measure => simp [intOf]; omega
    · have he : fo l j = j := by omega
      have HE : Hid (root (fo l) i = j) := Lib.hid (by rw [← HI.out]; exact root_of_fix HF.out.le he)
      rw [he] at hc
      have hne : ((j : Int) != (j : Int)) = false := by simp
      clear hd he hle HI
      go_wp2
      go_ret
      exact ⟨ret_i64 (by rw [HE.out]), rfl⟩
theorem checkBoth_ok (a b : List Int) (A A2 : Option Addr) (n c c2 : Nat) (w : World) (hR : Reads w w.heap.size 1 A n (ints a)) (hR2 : Reads w w.heap.size 1 A2 n (ints b)) (hm : n ≤ 64) (ha : partErr a = 0) (hb : partErr b = 0) :
    Calls Tryd.prog 74 #[.slice A n c, .slice A2 n c2] w fun e w' => e = .returned (.int .i64 0) ∧ w = w' := by
  have H1 := Lib.hid (pCheck_any a A n c _ w hR (by unfold maxLen; omega))
  have H2 := Lib.hid (pCheck_any b A2 n c2 _ w hR2 (by unfold maxLen; omega))
  rw [ha] at H1
  rw [hb] at H2
  have hne : ((n : Int) != (n : Int)) = false := by simp
  clear hR hR2 ha hb
  go_enter Tryd.func74, Tryd.ntmps74
  go_wp2_with fail
  refine (H1.out).mono ?_
  rintro e w' ⟨rfl, rfl⟩
  go_wp2_with fail
  refine (H2.out).mono ?_
  rintro e w' ⟨rfl, rfl⟩
  go_wp2
  go_ret
  exact ⟨rfl, rfl⟩
/-- a list of numbers over n points, and no error -/
def GivesP (L : List Int) (n : Nat) (w : World) (e : Ending) (w' : World) : Prop :=
  ∃ A c, e = .returned (.tuple #[.slice A n c, .int .i64 0]) ∧ Reads w' w'.heap.size 1 A n (ints L) ∧ Below w.heap.size w w'
theorem meet_any (a b : List Int) (A A2 : Option Addr) (n c c2 : Nat) (w : World) (hR : Reads w w.heap.size 1 A n (ints a)) (hR2 : Reads w w.heap.size 1 A2 n (ints b)) (hm : n ≤ 64) (wa : WFs a) (wb : WFs b) (ha : partErr a = 0) (hb : partErr b = 0) :
    Calls Tryd.prog 50 #[.slice A n c, .slice A2 n c2] w (GivesP (canonL a b) n w) := by
  have H1 := Lib.hid (checkBoth_ok a b A A2 n c c2 w hR hR2 hm ha hb)
  have H2 := Lib.hid (split_core a b A A2 n c c2 w hR hR2 (by unfold maxLen; omega) wa wb ha)
  clear hR hR2 ha hb wa wb
  go_enter Tryd.func50, Tryd.ntmps50
  go_wp2_with fail
  refine (H1.out).mono ?_
  rintro e w' ⟨rfl, rfl⟩
  go_wp2_with fail
  refine (H2.out).mono ?_
  rintro e w1 ⟨A1, c1, rfl, hR1, hb1⟩
  have HH := Lib.hid (And.intro hR1 hb1)
  clear hR1 hb1
  go_wp2
  go_ret2
  exact ⟨A1, c1, rfl, HH.out.1, HH.out.2⟩
set_option maxRecDepth 100000 in
set_option maxHeartbeats 4000000 in
theorem join_any (a b : List Int) (A A2 : Option Addr) (n c c2 : Nat) (w : World) (hR : Reads w w.heap.size 1 A n (ints a)) (hR2 : Reads w w.heap.size 1 A2 n (ints b)) (hm : n ≤ 64) (ha : partErr a = 0) (hb : partErr b = 0) (hpos : 0 < n) :
    Calls Tryd.prog 51 #[.slice A n c, .slice A2 n c2] w fun e w' => ∃ l, JInv a b n n l ∧ GivesP (rootL l n) n w e w' := by
  have hla := hR.int_len
  have hlb := hR2.int_len
  have hmf : ∀ (fn : Fn) (first cap : Array Value) (w : World), (Instr.makeFunc fn first cap).run Tryd.prog w = .ok (.func fn first cap) w := fun _ _ _ _ => rfl
  have H1 := Lib.hid (checkBoth_ok a b A A2 n c c2 w hR hR2 hm ha hb)
  have H2 := Lib.hid (cloneI_any a A n c w hR hm)
  have HR2 := Lib.hid hR2
  have HJ := Lib.hid (JInv.start b hla ha)
  have HFB := Lib.hid (part_forest hb)
  have HLB := Lib.hid hlb
  clear hR hR2 ha hb hla hlb
  go_enter Tryd.func51, Tryd.ntmps51
  go_wp2_with fail
  refine (H1.out).mono ?_
  rintro e w' ⟨rfl, rfl⟩
  go_wp2_with fail
  refine (H2.out).mono ?_
  rintro e w1 ⟨A1, c1, rfl, hg, hb1⟩
  obtain ⟨g, rfl, hg1, hH1⟩ := hg hpos
  have HG1 := Lib.hid hg1
  have hglt := hH1.lt
  have HH1 := Lib.hid hH1
  have HB1 := Lib.hid hb1
  have hsz1 := hb1.size
  clear hg hg1 hH1 hb1
  have HI0 : Hid (JInv a b n 0 a ∧ HoldsJ (w1.alloc (.cells #[.slice (some ⟨g, 0, none⟩) n c1] 24)) g a ∧ (w1.alloc (.cells #[.slice (some ⟨g, 0, none⟩) n c1] 24)).cell? ⟨w1.heap.size, 0, none⟩ = some (.slice (some ⟨g, 0, none⟩) n c1) ∧ BelowBut w1.heap.size g w1 (w1.alloc (.cells #[.slice (some ⟨g, 0, none⟩) n c1] 24))) :=
    Lib.hid ⟨HJ.out, HH1.out.below ((Below.refl w1.heap.size w1).alloc (Nat.le_refl _) _) hglt, (by rw [Lib.cell_of_heap (heap_alloc_new w1 _)]; rfl), BelowBut.of ((Below.refl w1.heap.size w1).alloc (Nat.le_refl _) _) g⟩
  go_wp2
  generalize w1.alloc (.cells #[.slice (some ⟨g, 0, none⟩) n c1] 24) = w2 at *
  clear hmf HH1
  go_loopw [25] (fun i wr => ∃ (k : Nat) (l : List Int), k ≤ n ∧ i = .int .i64 k ∧ Hid (JInv a b n k l ∧ HoldsJ wr g l ∧ wr.cell? ⟨w1.heap.size, 0, none⟩ = some (.slice (some ⟨g, 0, none⟩) n c1) ∧ BelowBut w1.heap.size g w1 wr)) (fun i _ => n - (intOf i).toNat)
  case atStart => exact ⟨0, a, Nat.zero_le _, rfl, HI0⟩
  case round =>
    clear HI0
    obtain ⟨k, l, hk, rfl, HI⟩ := hrel
    by_cases hlt : k < n
    · have hbw : Below w.heap.size w wr := HB1.out.trans ((HI.out.2.2.2.mono hsz1).below HG1.out)
      obtain ⟨ad2, rfl, _, hc2⟩ := (HR2.out.below hbw).int_at hlt
      rw [HFB.out.at_ (show k < b.length by have := HLB.out; omega)] at hc2
      have hfb : fo b k < n := fo_lt HFB.out hlt
      have hcP := HI.out.2.2.1
      have HL1 := Lib.hid (lowest_any l w1.heap.size g n c1 k wr hcP HI.out.2.1 HI.out.1.len HI.out.1.forest hlt hm)
      have HL2 := Lib.hid (lowest_any l w1.heap.size g n c1 (fo b k) wr hcP HI.out.2.1 HI.out.1.len HI.out.1.forest hfb hm)
      have hu := HI.out.1.root_lt hlt
      have hv := HI.out.1.root_lt hfb
      have HCELL := Lib.hid (fun i (hi : i < n) => HI.out.2.1.cell i (by rw [HI.out.1.len]; exact hi))
      have HFREE := Lib.hid (fun i => HI.out.2.1.free i)
      have HJN := Lib.hid (HI.out.1.join HFB.out hlt)
      generalize root (fo l) k = u at *
      generalize hfk : fo b k = y at *
      generalize root (fo l) y = v at *
      go_wp2_with fail
      refine (HL1.out).mono ?_
      rintro e w' ⟨rfl, rfl⟩
      go_wp2_with fail
      refine (HL2.out).mono ?_
      rintro e w' ⟨rfl, rfl⟩
      by_cases huv : u ≤ v
      · have hmax : max (u : Int) (v : Int) = (v : Int) := by omega
        have hmin : min (u : Int) (v : Int) = (u : Int) := by omega
        have hcz := HCELL.out v (by omega)
        have hfz := HFREE.out v
        generalize l.getD v 0 = old at hcz
        have HN : Hid (JInv a b n (k + 1) (l.set v (u : Int)) ∧ HoldsJ (wr.setCell ⟨g, v, none⟩ (.int .i64 (u : Int))) g (l.set v (u : Int)) ∧ (wr.setCell ⟨g, v, none⟩ (.int .i64 (u : Int))).cell? ⟨w1.heap.size, 0, none⟩ = some (.slice (some ⟨g, 0, none⟩) n c1) ∧ BelowBut w1.heap.size g w1 (wr.setCell ⟨g, v, none⟩ (.int .i64 (u : Int)))) :=
          Lib.hid ⟨HJN.out u v (.inl ⟨rfl, rfl, by omega⟩), HI.out.2.1.put v _, (World.cell?_setCell_other wr ⟨g, v, none⟩ ⟨w1.heap.size, 0, none⟩ _ (by intro e; injection e with e1 e2; omega)).trans hcP, HI.out.2.2.2.setCell v _⟩
        clear HI
        go_wp2
        go_roundw
        case rel => exact ⟨k + 1, _, by omega, by go_num, HN⟩
        case measure => simp [intOf]; omega
      · have hmax : max (u : Int) (v : Int) = (u : Int) := by omega
        have hmin : min (u : Int) (v : Int) = (v : Int) := by omega
        have hcz := HCELL.out u (by omega)
        have hfz := HFREE.out u
        generalize l.getD u 0 = old at hcz
        have HN : Hid (JInv a b n (k + 1) (l.set u (v : Int)) ∧ HoldsJ (wr.setCell ⟨g, u, none⟩ (.int .i64 (v : Int))) g (l.set u (v : Int)) ∧ (wr.setCell ⟨g, u, none⟩ (.int .i64 (v : Int))).cell? ⟨w1.heap.size, 0, none⟩ = some (.slice (some ⟨g, 0, none⟩) n c1) ∧ BelowBut w1.heap.size g w1 (wr.setCell ⟨g, u, none⟩ (.int .i64 (v : Int)))) :=
          Lib.hid ⟨HJN.out v u (.inr ⟨rfl, rfl, by omega⟩), HI.out.2.1.put u _, (World.cell?_setCell_other wr ⟨g, u, none⟩ ⟨w1.heap.size, 0, none⟩ _ (by intro e; injection e with e1 e2; omega)).trans hcP, HI.out.2.2.2.setCell u _⟩
        clear HI
        go_wp2
        go_roundw
        case rel => exact ⟨k + 1, _, by omega, by go_num, HN⟩
        case measure => simp [intOf]; omega
    · have hkn : n = k := by omega
      subst hkn
      have hcP := HI.out.2.2.1
      have HJF := Lib.hid HI.out.1
      have HI2 : Hid (HoldsJ wr g (halfL l n 0) ∧ wr.cell? ⟨w1.heap.size, 0, none⟩ = some (.slice (some ⟨g, 0, none⟩) n c1) ∧ BelowBut w1.heap.size g w1 wr) := Lib.hid ⟨by rw [halfL_zero HI.out.1.len]; exact HI.out.2.1, hcP, HI.out.2.2.2⟩
      clear HI
      go_wp2
      go_loopw [47] (fun i wr' => ∃ k : Nat, k ≤ n ∧ i = .int .i64 k ∧ Hid (HoldsJ wr' g (halfL l n k) ∧ wr'.cell? ⟨w1.heap.size, 0, none⟩ = some (.slice (some ⟨g, 0, none⟩) n c1) ∧ BelowBut w1.heap.size g w1 wr')) (fun i _ => n - (intOf i).toNat)
      case atStart => exact ⟨0, Nat.zero_le _, rfl, HI2⟩
      case round =>
        clear HI2 hcP
        obtain ⟨k, hk, rfl, HI⟩ := hrel
        have hcP := HI.out.2.1
        by_cases hlt : k < n
        · have er := halfL_root HJF.out.forest HJF.out.len k (by omega) k
          have HL0 := Lib.hid (lowest_any (halfL l n k) w1.heap.size g n c1 k wr hcP HI.out.1 (halfL_len l n k) (halfL_forest HJF.out.forest HJF.out.len k) hlt hm)
          have HL1 := Lib.hid (lowest_any (halfL l n k) w1.heap.size g n c1 k wr.drew hcP HI.out.1 (halfL_len l n k) (halfL_forest HJF.out.forest HJF.out.len k) hlt hm)
          rw [er] at HL0 HL1
          have hcz := HI.out.1.cell k (by rw [halfL_len]; exact hlt)
          have hfz := HI.out.1.free k
          have HN : Hid (HoldsJ (wr.setCell ⟨g, k, none⟩ (.int .i64 (root (fo l) k : Int))) g (halfL l n (k + 1)) ∧ (wr.setCell ⟨g, k, none⟩ (.int .i64 (root (fo l) k : Int))).cell? ⟨w1.heap.size, 0, none⟩ = some (.slice (some ⟨g, 0, none⟩) n c1) ∧ BelowBut w1.heap.size g w1 (wr.setCell ⟨g, k, none⟩ (.int .i64 (root (fo l) k : Int)))) :=
            Lib.hid ⟨by rw [← halfL_set]; exact HI.out.1.put k _, (World.cell?_setCell_other wr ⟨g, k, none⟩ ⟨w1.heap.size, 0, none⟩ _ (by intro e; injection e with e1 e2; omega)).trans hcP, HI.out.2.2.setCell k _⟩
          generalize (halfL l n k).getD k 0 = old at hcz
          generalize root (fo l) k = u at *
          clear HI er
          go_wp2
          go_region_with (go_at_call 76; first | (refine (HL0.out).mono ?_; rintro e w' ⟨rfl, rfl⟩) | (refine (HL1.out).mono ?_; rintro e w' ⟨rfl, rfl⟩))
          all_goals go_wp2
          all_goals go_roundw
          all_goals first
            | exact ⟨k + 1, by omega, by go_num, Lib.hid ⟨HN.out.1, HN.out.2.1, HN.out.2.2.drew⟩⟩
            | (simp [intOf]; omega)
        · have hkn : n = k := by omega
          subst hkn
          go_wp2
          go_ret2
          have hr := HI.out.1.reads
          rw [halfL_len, halfL_full] at hr
          exact ⟨l, HJF.out, _, c1, rfl, hr, HB1.out.trans ((HI.out.2.2.mono hsz1).below HG1.out)⟩
end Go.Proofs.YtichhbnpdhfimaaDoor
