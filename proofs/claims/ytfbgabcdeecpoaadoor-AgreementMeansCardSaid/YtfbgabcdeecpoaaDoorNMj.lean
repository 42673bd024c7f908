/- Layer 6: texts joined: Yk Yl Ym Yn. -/
import Derived.Test.YtfbgabcdeecpoaaDoorNMi
/- Layer 24: equal fractions; the first equal one. -/
namespace Go.Proofs.YtfbgabcdeecpoaaDoor
open Go.RowKit Go.Proofs.Ws
set_option maxRecDepth 100000
def eqQ (a b : Nat × Nat) : Bool := decide (a = b)
theorem eqQ_fields (a b : Nat × Nat) : (((a.1 : Int) == (b.1 : Int)) && ((a.2 : Int) == (b.2 : Int))) = eqQ a b := by
  obtain ⟨a1, a2⟩ := a
  obtain ⟨b1, b2⟩ := b
  unfold eqQ
  rw [Bool.eq_iff_iff]
  simp
  omega
theorem eqFr (a b : Nat × Nat) (w : World) : (Op.equalIn 10000 41 (.agg #[.int .i64 (a.1 : Int), .int .i64 (a.2 : Int)]) (.agg #[.int .i64 (b.1 : Int), .int .i64 (b.2 : Int)])).run Tryd.prog w = .ok (eqQ a b) w := by
  have u3 := Tryd.underlying3
  have a3 := Tryd.isAgg3
  have z3 := Tryd.sizeOf3
  have hS : Tryd.prog.underlying 41 = some (.struct (Tryd.prog.fieldsOf 41)) := by kernel_rfl
  have hp : Tryd.prog.stoodInHeld 41 = false := by kernel_rfl
  rw [show (10000 : Nat) = 9999 + 1 from rfl, run_equalIn_agg w 9999 _ _ _ hS hp]
  simp only [Program.fieldsOf, Tryd.underlying41]
  rw [← eqQ_fields]
  go_simp
  generalize (a.1 : Int) = p1
  generalize (b.1 : Int) = p2
  generalize (a.2 : Int) = p3
  generalize (b.2 : Int) = p4
  by_cases h1 : p1 = p2
  · by_cases h2 : p3 = p4
    · simp [h1, h2]
    · simp [h1, h2]
  · simp [h1]
@[go_sem] theorem Tryd.eqFrGuard : Tryd.prog.eqGuardType Tryd.prog.depth 41 = false := by kernel_rfl
theorem neqFr (a b : Nat × Nat) (w : World) : (binOp .neq 41 (.agg #[.int .i64 (a.1 : Int), .int .i64 (a.2 : Int)]) (.agg #[.int .i64 (b.1 : Int), .int .i64 (b.2 : Int)])).run Tryd.prog w = .ok (.bool (!eqQ a b)) w := by
  rw [run_neq_struct, eqFr]
  rfl
theorem fr_eq_at {a b : List (Nat × Nat)} (hl : a.length = b.length) (h : ∀ j, j < a.length → a.getD j (0, 0) = b.getD j (0, 0)) : a = b := by
  apply List.ext_getElem hl
  intro j h1 h2
  have := h j h1
  simp [h1, h2] at this
  exact this
set_option maxHeartbeats 4000000 in
theorem sameFr_any (a b : List (Nat × Nat)) (A A2 : Option Addr) (n m c c2 : Nat) (w : World) (hR : Reads w w.heap.size 2 A n (frs a)) (hR2 : Reads w w.heap.size 2 A2 m (frs b)) (hm : n ≤ 1000000) (hm2 : m ≤ 1000000) :
    Calls Tryd.prog 28 #[.slice A n c, .slice A2 m c2] w fun e w' => e = .returned (.bool (decide (a = b))) ∧ Below w.heap.size w w' := by
  have hl := hR.fr_len
  have hl2 := hR2.fr_len
  have HL := Lib.hid hl
  have HL2 := Lib.hid hl2
  have HR := Lib.hid hR
  have HR2 := Lib.hid hR2
  by_cases hnm : n = m
  · subst hnm
    have hne : ((n : Int) != (n : Int)) = false := by simp
    clear hR hR2 hl hl2
    go_enter Tryd.func28, Tryd.ntmps28
    go_wp2
    go_loopw [5] (fun i wr => ∃ k : Nat, k ≤ n ∧ i = .int .i64 k ∧ Hid (∀ j, j < k → a.getD j (0, 0) = b.getD j (0, 0)) ∧ Hid (Below w.heap.size w wr)) (fun i _ => n - (intOf i).toNat)
    case atStart => exact ⟨0, Nat.zero_le _, rfl, Lib.hid (fun j hj => absurd hj (by omega)), Lib.hid (Below.refl _ _)⟩
    case round =>
      obtain ⟨k, hk, rfl, HF, HB⟩ := hrel
      by_cases hlt : k < n
      · obtain ⟨b1, o1, rfl, hb, m0, m1⟩ := (HR.out.below HB.out).fr_at hlt
        obtain ⟨b2, o2, rfl, hb2, q0, q1⟩ := (HR2.out.below HB.out).fr_at hlt
        obtain ⟨x, hx⟩ : ∃ x, a.getD k (0, 0) = x := ⟨_, rfl⟩
        obtain ⟨y, hy⟩ : ∃ y, b.getD k (0, 0) = y := ⟨_, rfl⟩
        rw [hx] at m0 m1
        rw [hy] at q0 q1
        have HX := Lib.hid hx
        have HY := Lib.hid hy
        clear hx hy
        by_cases he : x = y
        · have HF2 := Lib.hid (fun j (hj : j < k + 1) => show a.getD j (0, 0) = b.getD j (0, 0) from by
            by_cases e : j = k
            · subst e; rw [HX.out, HY.out]; exact he
            · exact HF.out j (by omega))
          have hq : eqQ x y = true := by unfold eqQ; exact decide_eq_true he
          have hE := neqFr x y
          rw [hq] at hE
          clear he HF
          go_wp2
          go_quiet (fail)
          go_wp2
          go_roundw
          case rel => exact ⟨k + 1, by omega, by go_num, HF2, Lib.hid (below_drewN HB.out _)⟩
          case measure => simp [intOf]; omega
        · have HD : Hid (decide (a = b) = false) := Lib.hid (decide_eq_false (fun e => he (by rw [← HX.out, ← HY.out, e])))
          have hq : eqQ x y = false := by unfold eqQ; exact decide_eq_false he
          have hE := neqFr x y
          rw [hq] at hE
          clear he HF
          go_wp2
          go_quiet (fail)
          go_wp2
          go_ret
          exact ⟨by rw [HD.out]; rfl, below_drewN HB.out _⟩
      · have hkn : k = n := by omega
        subst hkn
        have HD : Hid (decide (a = b) = true) := Lib.hid (decide_eq_true (fr_eq_at (HL.out.trans HL2.out.symm) (fun j hj => HF.out j (by have := HL.out; omega))))
        clear HF
        go_wp2
        go_ret
        exact ⟨by rw [HD.out]; rfl, HB.out⟩
  · have HD : Hid (decide (a = b) = false) := Lib.hid (decide_eq_false (fun e => hnm (by rw [← hl, ← hl2, e])))
    have hne : ((n : Int) != (m : Int)) = true := by rw [bne_iff_ne]; omega
    clear hR hR2 hl hl2 hnm
    go_enter Tryd.func28, Tryd.ntmps28
    go_wp2
    go_ret
    exact ⟨by rw [HD.out]; rfl, Below.refl _ _⟩
theorem eqFrB (a b : Nat × Nat) (w : World) : (binOp .eql 41 (.agg #[.int .i64 (a.1 : Int), .int .i64 (a.2 : Int)]) (.agg #[.int .i64 (b.1 : Int), .int .i64 (b.2 : Int)])).run Tryd.prog w = .ok (.bool (eqQ a b)) w := by
  rw [run_eql_struct, eqFr]
  rfl
set_option maxHeartbeats 4000000 in
theorem aIndex_any (l : List (Nat × Nat)) (x : Nat × Nat) (A : Option Addr) (n c : Nat) (w : World) (hR : Reads w w.heap.size 2 A n (frs l)) (hn : n ≤ 64) (hx : x ∈ l) :
    Calls Tryd.prog 80 #[.slice A n c, frV x] w fun e w' => e = .returned (.int .i64 (ixF l x : Int)) ∧ Below w.heap.size w w' := by
  have hl := hR.fr_len
  have HX := Lib.hid (ixF_at hx)
  have HEQ := Lib.hid (fun k (hk : k < l.length) h1 h2 => ixF_eq (l := l) (x := x) hk h1 h2)
  have HB1 : Hid (Below w.heap.size w (w.alloc (.cells #[.int .i64 (x.1 : Int), .int .i64 (x.2 : Int)] 41))) := Lib.hid ((Below.refl _ w).alloc (Nat.le_refl _) _)
  have HFB := Lib.hid (FBox.made w (.int .i64 (x.1 : Int)) (.int .i64 (x.2 : Int)))
  have HR := Lib.hid hR
  have HL := Lib.hid hl
  unfold frV
  clear hR hl hx
  go_enter Tryd.func80, Tryd.ntmps80
  go_wp2
  generalize w.alloc (.cells #[.int .i64 (x.1 : Int), .int .i64 (x.2 : Int)] 41) = w1 at *
  go_loopw [5, 8] (fun _ i wr => ∃ k : Nat, k ≤ n ∧ i = .int .i64 (k : Int) ∧ Hid (∀ j, j < k → l.getD j (0, 0) ≠ x) ∧ Hid (Below w.heap.size w wr ∧ FBox wr w.heap.size (.int .i64 (x.1 : Int)) (.int .i64 (x.2 : Int)))) (fun _ i _ => n - (intOf i).toNat)
  case atStart => exact ⟨0, Nat.zero_le _, rfl, Lib.hid (fun j hj => absurd hj (by omega)), Lib.hid ⟨HB1.out, HFB.out⟩⟩
  case round =>
    obtain ⟨k, hk, rfl, HF, HI⟩ := hrel
    by_cases hlt : k < n
    · obtain ⟨b1, o1, rfl, hb, m0, m1⟩ := (HR.out.below HI.out.1).fr_at hlt
      have y0 := HI.out.2.c0
      have y1 := HI.out.2.c1
      obtain ⟨y, hy⟩ : ∃ y, l.getD k (0, 0) = y := ⟨_, rfl⟩
      rw [hy] at m0 m1
      have HY := Lib.hid hy
      clear hy
      by_cases he : x = y
      · have HV : Hid (ixF l x = k) := Lib.hid (HEQ.out k (by rw [HL.out]; exact hlt) (by rw [HY.out, he]) (fun j hj => HF.out j hj))
        have hq : eqQ x y = true := by unfold eqQ; exact decide_eq_true he
        have hE := eqFrB x y
        rw [hq] at hE
        clear he HF
        go_wp2
        go_quiet (fail)
        go_wp2
        go_ret
        exact ⟨by rw [HV.out]; rfl, below_drewN HI.out.1 _⟩
      · have HF2 := Lib.hid (fun j (hj : j < k + 1) => show l.getD j (0, 0) ≠ x from by
          by_cases e : j = k
          · subst e; rw [HY.out]; exact fun h => he h.symm
          · exact HF.out j (by omega))
        have hq : eqQ x y = false := by unfold eqQ; exact decide_eq_false he
        have hE := eqFrB x y
        rw [hq] at hE
        clear he HF
        go_wp2
        go_quiet (fail)
        go_wp2
        go_roundw
        case rel => exact ⟨k + 1, by omega, by go_num, HF2, Lib.hid ⟨below_drewN HI.out.1 _, HI.out.2⟩⟩
        case measure => simp [intOf]; omega
    · exfalso
      have h := HX.out
      exact HF.out _ (by have := HL.out; omega) h.2
end Go.Proofs.YtfbgabcdeecpoaaDoor
/- Layer 24: the first equal fraction for each. -/
namespace Go.Proofs.YtfbgabcdeecpoaaDoor
open Go.RowKit Go.Proofs.Ws
set_option maxRecDepth 100000
def fillI (f : Nat → Int) (n k : Nat) : List Int := (List.range n).map (fun i => if i < k then f i else 0)
theorem fillI_len (f : Nat → Int) (n k : Nat) : (fillI f n k).length = n := by simp [fillI]
theorem fillI_zero (f : Nat → Int) (n : Nat) : fillI f n 0 = List.replicate n 0 := by
  apply List.ext_getElem
  · simp [fillI]
  · intro i h1 h2; simp [fillI]
theorem fillI_set (f : Nat → Int) {n k : Nat} {q : Int} (h : q = f k) : (fillI f n k).set k q = fillI f n (k + 1) := by
  subst h
  apply List.ext_getElem
  · simp [fillI]
  · intro i h1 h2
    rw [List.getElem_set]
    simp only [fillI, List.getElem_map, List.getElem_range]
    by_cases e : k = i
    · subst e; simp
    · rw [if_neg e]
      by_cases h3 : i < k
      · rw [if_pos h3, if_pos (by omega)]
      · rw [if_neg h3, if_neg (by omega)]
theorem fillI_keys (l : List (Nat × Nat)) {n : Nat} (h : l.length = n) : fillI (fun i => (ixF l (l.getD i (0, 0)) : Int)) n n = keysF l := by
  apply List.ext_getElem
  · rw [fillI_len, keysF_len, h]
  · intro i h1 h2
    have hi : i < l.length := by rw [keysF_len] at h2; exact h2
    have h3 := keysF_at hi
    rw [List.getD_eq_getElem?_getD, List.getElem?_eq_getElem h2] at h3
    have h4 : (keysF l)[i] = (ixF l (l.getD i (0, 0)) : Int) := h3
    rw [h4]
    simp only [fillI, List.getElem_map, List.getElem_range]
    rw [if_pos (by omega)]
theorem HoldsI.below {w w' : World} {B g : Nat} {l : List Int} (h : HoldsI w g l) (hb : Below B w w') (hg : g < B) : HoldsI w' g l := (hb.block g hg).trans h
set_option maxHeartbeats 4000000 in
theorem aFirst_any (l : List (Nat × Nat)) (A : Option Addr) (n c : Nat) (w : World) (hR : Reads w w.heap.size 2 A n (frs l)) (hn : n ≤ 64) :
    Calls Tryd.prog 58 #[.slice A n c] w fun e w' => ∃ g, e = .returned (.slice (some ⟨g, 0, none⟩) n n) ∧ w.heap.size ≤ g ∧ HoldsI w' g (keysF l) ∧ Below w.heap.size w w' := by
  have hl := hR.fr_len
  have HR := Lib.hid hR
  have HL := Lib.hid hl
  have hmk := fun W => makeI W n (by omega)
  have HIX := Lib.hid (fun (k : Nat) (hk : k < n) (W : World) (hb : Below w.heap.size w W) => aIndex_any l (l.getD k (0, 0)) A n c W ((hR.below hb).more hb.size) hn (getD_memP (by omega)))
  have HKE := Lib.hid (fillI_keys l hl)
  have HF0 : Hid (HoldsI (w.alloc (.cells (ints (List.replicate n 0)).toArray 3)) w.heap.size (fillI (fun i => (ixF l (l.getD i (0, 0)) : Int)) n 0)) := Lib.hid (by rw [fillI_zero]; exact HoldsI.made w _)
  have HB0 : Hid (Below w.heap.size w (w.alloc (.cells (ints (List.replicate n 0)).toArray 3))) := Lib.hid ((Below.refl _ w).alloc (Nat.le_refl _) _)
  clear hR hl
  go_enter Tryd.func58, Tryd.ntmps58
  go_wp2
  generalize w.alloc (.cells (ints (List.replicate n 0)).toArray 3) = w1 at *
  clear hmk
  go_loopw [4, 5, 11] (fun _ _ i wr => ∃ k : Nat, k ≤ n ∧ i = .int .i64 (k : Int) ∧ Hid (Below w.heap.size w wr ∧ HoldsI wr w.heap.size (fillI (fun i => (ixF l (l.getD i (0, 0)) : Int)) n k))) (fun _ _ i _ => n - (intOf i).toNat)
  case atStart => exact ⟨0, Nat.zero_le _, rfl, Lib.hid ⟨HB0.out, HF0.out⟩⟩
  case round =>
    obtain ⟨k, hk, rfl, HI⟩ := hrel
    by_cases hlt : k < n
    · obtain ⟨b1, o1, rfl, hb, m0, m1⟩ := (HR.out.below HI.out.1).fr_at hlt
      have HXK : Hid (∀ W, Below w.heap.size w W → _) := Lib.hid (fun W hb => HIX.out k hlt W hb)
      obtain ⟨q, hq⟩ : ∃ q, l.getD k (0, 0) = q := ⟨_, rfl⟩
      rw [hq] at m0 m1
      have HQ := Lib.hid hq
      rw [hq] at HXK
      unfold frV at HXK
      have HFB : Hid (FBox (wr.alloc (.cells #[.int .i64 (q.1 : Int), .int .i64 (q.2 : Int)] 41)) wr.heap.size (.int .i64 (q.1 : Int)) (.int .i64 (q.2 : Int))) := Lib.hid (FBox.made wr _ _)
      have HB2 : Hid (Below w.heap.size w (wr.alloc (.cells #[.int .i64 (q.1 : Int), .int .i64 (q.2 : Int)] 41))) := Lib.hid (HI.out.1.alloc HI.out.1.size _)
      have HK2 : Hid (HoldsI (wr.alloc (.cells #[.int .i64 (q.1 : Int), .int .i64 (q.2 : Int)] 41)) w.heap.size (fillI (fun i => (ixF l (l.getD i (0, 0)) : Int)) n k)) := Lib.hid (HI.out.2.alloc _)
      clear hq HI
      go_wp2_with fail
      generalize wr.alloc (.cells #[.int .i64 (q.1 : Int), .int .i64 (q.2 : Int)] 41) = w2 at *
      refine (HXK.out _ HB2.out).mono ?_
      rintro e w3 ⟨rfl, hb3⟩
      have HB3 := Lib.hid (belowNext HB2.out hb3)
      have HK3 := Lib.hid (HK2.out.below hb3 HK2.out.lt)
      have y0 := HK3.out.cell k (by rw [fillI_len]; exact hlt)
      have f0 := HK3.out.free k
      generalize hz : (fillI (fun i => (ixF l (l.getD i (0, 0)) : Int)) n k).getD k 0 = old at *
      clear hz hb3 m0 m1
      go_wp2
      have HN : Hid (HoldsI (w3.setCell ⟨w.heap.size, k, none⟩ (.int .i64 (ixF l q : Int))) w.heap.size (fillI (fun i => (ixF l (l.getD i (0, 0)) : Int)) n (k + 1))) := Lib.hid (by
        have h := HK3.out.put k (ixF l q : Int)
        rw [fillI_set (fun i => (ixF l (l.getD i (0, 0)) : Int)) (by rw [HQ.out])] at h
        exact h)
      go_roundw
      case rel => exact ⟨k + 1, by omega, by go_num, Lib.hid ⟨HB3.out.setCell (p := ⟨w.heap.size, k, none⟩) (Nat.le_refl _) _, HN.out⟩⟩
      case measure => first | (simp [intOf]; done) | (simp [intOf]; omega)
    · obtain rfl : k = n := by omega
      have h1 := HI.out.2
      rw [HKE.out] at h1
      have H1 := Lib.hid h1
      clear h1
      go_wp2
      go_ret
      exact ⟨_, rfl, Nat.le_refl _, H1.out, HI.out.1⟩
end Go.Proofs.YtfbgabcdeecpoaaDoor
/- Layer 24: whether all agents agree, by the program. -/
namespace Go.Proofs.YtfbgabcdeecpoaaDoor
open Go.RowKit Go.Proofs.Ws
set_option maxRecDepth 100000
def agB (p : Pri) (x s : Nat) : Bool := (List.range p.cells.length).all (fun a => decide (postN p a x s = postN p 0 x s))
def agE (p : Pri) (x : Int) (s : Nat) : Int := if evE p s = 0 then (if 0 ≤ x ∧ x < p.wt.length then 0 else 2) else evE p s
def agV (p : Pri) (x : Int) (s : Nat) : Bool := if agE p x s = 0 then agB p x.toNat s else false
theorem agB_true {p : Pri} {x s : Nat} (h : ∀ a, a < p.cells.length → postN p a x s = postN p 0 x s) : agB p x s = true := by
  unfold agB
  rw [List.all_eq_true]
  exact fun a ha => decide_eq_true (h a (List.mem_range.1 ha))
theorem agB_false {p : Pri} {x s a : Nat} (ha : a < p.cells.length) (h : postN p a x s ≠ postN p 0 x s) : agB p x s = false := by
  unfold agB
  rw [List.all_eq_false]
  exact ⟨a, List.mem_range.2 ha, by simpa using h⟩
def vAg (L1 L0 : List (Nat × Nat)) (x n : Nat) (k : Nat) (v : Value) (W : World) : Prop :=
  match k with
  | 3 => ∃ A c, v = .slice A n c ∧ Reads W W.heap.size 2 A n (frs L1)
  | 5 => ∃ b o, v = .pointer (some ⟨b, o, none⟩) ∧ b < W.heap.size ∧ W.cell? ⟨b, o, none⟩ = some (.int .i64 ((L1.getD x (0, 0)).1 : Int)) ∧ W.cell? ⟨b, o + 1, none⟩ = some (.int .i64 ((L1.getD x (0, 0)).2 : Int))
  | 9 => ∃ A c, v = .slice A n c ∧ Reads W W.heap.size 2 A n (frs L0)
  | 11 => ∃ b o, v = .pointer (some ⟨b, o, none⟩) ∧ b < W.heap.size ∧ W.cell? ⟨b, o, none⟩ = some (.int .i64 ((L0.getD x (0, 0)).1 : Int)) ∧ W.cell? ⟨b, o + 1, none⟩ = some (.int .i64 ((L0.getD x (0, 0)).2 : Int))
  | _ => False
theorem vAg_up {L1 L0 : List (Nat × Nat)} {x n : Nat} : ∀ k v W W', vAg L1 L0 x n k v W → Below W.heap.size W W' → vAg L1 L0 x n k v W' := fun k v W W' h hb => by
  unfold vAg at *
  split at h
  · obtain ⟨A, c, e, h2⟩ := h
    exact ⟨A, c, e, (h2.below hb).more hb.size⟩
  · obtain ⟨b, o, e, h2, h3, h4⟩ := h
    exact ⟨b, o, e, Nat.lt_of_lt_of_le h2 hb.size, (hb.cell (p := ⟨b, o, none⟩) h2).trans h3, (hb.cell (p := ⟨b, o + 1, none⟩) h2).trans h4⟩
  · obtain ⟨A, c, e, h2⟩ := h
    exact ⟨A, c, e, (h2.below hb).more hb.size⟩
  · obtain ⟨b, o, e, h2, h3, h4⟩ := h
    exact ⟨b, o, e, Nat.lt_of_lt_of_le h2 hb.size, (hb.cell (p := ⟨b, o, none⟩) h2).trans h3, (hb.cell (p := ⟨b, o + 1, none⟩) h2).trans h4⟩
  · exact h
def GivesB (b : Bool) (E : Int) (w : World) (e : Ending) (w' : World) : Prop := e = .returned (.tuple #[.bool b, .int .i64 E]) ∧ Below w.heap.size w w'
set_option maxHeartbeats 4000000 in
theorem aAgree_ok (p : Pri) (v : Value) (x s : Nat) (w : World) (hM : PrR w w.heap.size v p) (h0 : evE p s = 0) (hx : x < p.wt.length) (hs : s < 18446744073709551616) (hT : Tab w) :
    Calls Tryd.prog 26 #[v, .int .i64 (x : Int), .int .u64 (s : Int)] w (GivesB (agB p x s) 0 w) := by
  obtain ⟨A1, c1, A2, c2, rfl, hv, hr⟩ := hM.ex
  have HB1 : Hid (Below w.heap.size w (w.alloc (.cells #[.slice A1 p.wt.length c1, .slice A2 p.cells.length c2] 25))) := Lib.hid ((Below.refl _ w).alloc (Nat.le_refl _) _)
  have HPB := Lib.hid (PBox.made w (.slice A1 p.wt.length c1) (.slice A2 p.cells.length c2))
  have HC := Lib.hid (aEv_any p _ s _ (hM.step HB1.out) hs)
  rw [h0] at HC
  have hok := (evE_ok h0).1
  have hse := (evE_ok h0).2
  have HHW := Lib.hid (fun (W : World) (hb : Below w.heap.size w W) => aHasW_any p _ (x : Int) W (hM.below hb hb.size))
  rw [decide_eq_true (show 0 ≤ (x : Int) ∧ (x : Int) < p.wt.length by omega)] at HHW
  have HP := Lib.hid (fun (a : Nat) (ha : a < p.cells.length) (W : World) (hb : Below w.heap.size w W) => aPosts_any p _ a s W (hM.below hb hb.size) hok ha hse (hT.belowAt hb hT.2))
  have HAT := Lib.hid (fun a => postL_at p a s hx)
  have HT1 := Lib.hid (fun h => agB_true (p := p) (x := x) (s := s) h)
  have HF1 := Lib.hid (fun a (ha : a < p.cells.length) h => agB_false (p := p) (x := x) (s := s) ha h)
  have hag := hok.ag
  clear hM hv hr h0 hok hse hs hT
  obtain ⟨PL, hPL⟩ : ∃ PL : Nat → List (Nat × Nat), PL = fun a => postL p a s := ⟨_, rfl⟩
  have hPLa : ∀ a, postL p a s = PL a := fun a => by rw [hPL]
  simp only [hPLa] at HP HAT
  obtain ⟨PN, hPN⟩ : ∃ PN : Nat → Nat × Nat, PN = fun a => postN p a x s := ⟨_, rfl⟩
  have hPNa : ∀ a, postN p a x s = PN a := fun a => by rw [hPN]
  simp only [hPNa] at HAT HT1 HF1
  clear hPL hPLa hPN hPNa
  generalize agB p x s = AB at *
  generalize p.wt.length = n at *
  generalize p.cells.length = m at *
  go_enter Tryd.func26, Tryd.ntmps26
  go_wp2_with fail
  refine (HC.out).mono ?_
  rintro e w2 ⟨rfl, hb⟩
  have HPB2 := Lib.hid (HPB.out.below hb HPB.out.lt)
  have b0 := HPB2.out.c0
  have b1 := HPB2.out.c1
  have HB2 := Lib.hid (belowNext HB1.out hb)
  clear hb HB1 HPB
  go_wp2_with fail
  refine (HHW.out _ HB2.out).mono ?_
  rintro e w3 ⟨rfl, hb3⟩
  have HPB3 := Lib.hid (HPB2.out.below hb3 HPB2.out.lt)
  have HB3 := Lib.hid (belowNext HB2.out hb3)
  have b0 := HPB3.out.c0
  have b1 := HPB3.out.c1
  clear hb3
  go_wp2
  go_loopw [9, 23] (fun _ i wr => ∃ k : Nat, k ≤ m ∧ i = .int .i64 (k : Int) ∧ Hid (∀ a, a < k → PN a = PN 0) ∧ Hid (Below w.heap.size w wr ∧ PBox wr w.heap.size (.slice A1 n c1) (.slice A2 m c2))) (fun _ i _ => m - (intOf i).toNat)
  case atStart => exact ⟨0, Nat.zero_le _, rfl, Lib.hid (fun a ha => absurd ha (by omega)), Lib.hid ⟨HB3.out, HPB3.out⟩⟩
  case round =>
    clear b0 b1
    obtain ⟨k, hk, rfl, HF, HI⟩ := hrel
    by_cases hlt : k < m
    · have HU2 : Hid (∀ W, Below wr.heap.size wr W → Below w.heap.size w W ∧ W.cell? ⟨w.heap.size, 0, none⟩ = some (.slice A1 n c1) ∧ W.cell? ⟨w.heap.size, 1, none⟩ = some (.slice A2 m c2)) := Lib.hid (fun W hb => by
        have h := HI.out.2.below hb HI.out.2.lt
        exact ⟨belowNext HI.out.1 hb, h.c0, h.c1⟩)
      have HP1 := Lib.hid (fun W hb => HP.out k hlt W hb)
      have HP0 := Lib.hid (fun W hb => HP.out 0 (by omega) W hb)
      have HL1 := Lib.hid (HAT.out k)
      have HL0 := Lib.hid (HAT.out 0)
      generalize hq1 : PN k = q1 at *
      generalize hq0 : PN 0 = q0 at *
      have HQ1 := Lib.hid hq1
      have HQ0 := Lib.hid hq0
      clear hq1 hq0
      generalize PL k = L1 at *
      generalize PL 0 = L0 at *
      go_wp2
      by_cases he : q1 = q0
      · have HEQ : Hid (eqQ q1 q0 = true) := Lib.hid (by unfold eqQ; exact decide_eq_true he)
        have HF2 : Hid (∀ a, a < k + 1 → PN a = q0) := Lib.hid (fun a ha => by
          by_cases e : a = k
          · rw [e, HQ1.out, he]
          · exact HF.out a (by omega))
        clear he HF
        refine wp_region_wild [.agg #[.slice A1 n c1, .slice A2 m c2], .int .i64 (k : Int), .int .u64 (s : Int), undef, .int .i64 (x : Int), undef, .agg #[.int .i64 (q1.1 : Int), .int .i64 (q1.2 : Int)], .agg #[.slice A1 n c1, .slice A2 m c2], .int .u64 (s : Int), undef, .int .i64 (x : Int), undef, .agg #[.int .i64 (q0.1 : Int), .int .i64 (q0.2 : Int)], .bool false] [26, 27, 28, 29, 30, 31, 32, 33, 34, 35, 36, 37, 38, 39] [0, 3, 5, 6, 7, 9, 11, 12, 13] [3, 5, 9, 11] (vAg L1 L0 x n) (fun W => Below wr.heap.size wr W) (fun W W' => Below W.heap.size W W') 14 41 rfl rfl rfl (by decide) (by decide) (by kernel_rfl) (by kernel_rfl) (by kernel_rfl) (by kernel_rfl) (fun W => Below.refl _ W) (fun W1 W2 W3 h1 h2 => h1.trans (h2.mono h1.size)) (fun W W' h h2 => h.trans (h2.mono h.size)) vAg_up (Below.refl wr.heap.size wr).drew (by kernel_rfl) [] rfl ?hop ?fin
        case hop =>
          refine (And.intro ?s0 (And.intro ?s3 (And.intro ?s5 (And.intro ?s6 (And.intro ?s7 (And.intro ?s9 (And.intro ?s11 (And.intro ?s12 (And.intro ?s13 trivial)))))))))
          case s0 =>
            refine And.intro (by rfl) (fun tm W hS hsz hfr hdep K hK => ?_)
            change tm.size = 41 at hsz
            have t3 : tm.getD 3 undef = .pointer (some ⟨w.heap.size, 0, none⟩) := hfr 3 (by rfl)
            obtain ⟨_, b0, b1⟩ := HU2.out W hS
            clear hdep hfr
            go_simp
            exact hK _ W (Below.refl _ W) (wildV_of (by rfl))
          case s3 =>
            refine And.intro (by rfl) (fun tm W hS hsz hfr hdep K hK => ?_)
            change tm.size = 41 at hsz
            have t26 : tm.getD 26 undef = .agg #[.slice A1 n c1, .slice A2 m c2] := wildV_known (by rfl) (hdep 0 (by rfl) (by decide))
            have t27 : tm.getD 27 undef = .int .i64 (k : Int) := wildV_known (by rfl) (hdep 1 (by rfl) (by decide))
            have t28 : tm.getD 28 undef = .int .u64 (s : Int) := wildV_known (by rfl) (hdep 2 (by rfl) (by decide))
            clear hdep hfr
            refine wp_call _ _ _ _ _ rfl rfl (by simp [Act.eval, t26, t27, t28]) (by kernel_rfl) (HP1.out W (HU2.out W hS).1) (fun e W9 h9 => ?_)
            obtain ⟨A9, c9, rfl, hr9, hb9⟩ := h9
            exact ⟨_, rfl, hK _ W9 hb9 (show vAg L1 L0 x n 3 (.slice A9 n c9) W9 from ⟨A9, c9, rfl, hr9⟩)⟩
          case s5 =>
            refine And.intro (by rfl) (fun tm W hS hsz hfr hdep K hK => ?_)
            change tm.size = 41 at hsz
            have h3 : (vAg L1 L0 x n) 3 (tm.getD 29 undef) W := wildV_wild (by rfl) (hdep 3 (by rfl) (by decide))
            have t30 : tm.getD 30 undef = .int .i64 (x : Int) := wildV_known (by rfl) (hdep 4 (by rfl) (by decide))
            clear hdep hfr
            obtain ⟨A9, c9, t29, hr9⟩ := h3
            obtain ⟨b9, o9, rfl, hb9, y0, y1⟩ := hr9.fr_at hx
            go_simp
            exact hK _ W (Below.refl _ W) (show vAg L1 L0 x n 5 (.pointer (some ⟨b9, o9 + x * 2, none⟩)) W from ⟨b9, o9 + x * 2, rfl, hb9, y0, y1⟩)
          case s6 =>
            refine And.intro (by rfl) (fun tm W hS hsz hfr hdep K hK => ?_)
            change tm.size = 41 at hsz
            have h5 : (vAg L1 L0 x n) 5 (tm.getD 31 undef) W := wildV_wild (by rfl) (hdep 5 (by rfl) (by decide))
            clear hdep hfr
            obtain ⟨b9, o9, t31, hb9, y0, y1⟩ := h5
            rw [HL1.out] at y0 y1
            go_simp
            exact hK _ W (Below.refl _ W) (wildV_of (by rfl))
          case s7 =>
            refine And.intro (by rfl) (fun tm W hS hsz hfr hdep K hK => ?_)
            change tm.size = 41 at hsz
            have t3 : tm.getD 3 undef = .pointer (some ⟨w.heap.size, 0, none⟩) := hfr 3 (by rfl)
            obtain ⟨_, b0, b1⟩ := HU2.out W hS
            clear hdep hfr
            go_simp
            exact hK _ W (Below.refl _ W) (wildV_of (by rfl))
          case s9 =>
            refine And.intro (by rfl) (fun tm W hS hsz hfr hdep K hK => ?_)
            change tm.size = 41 at hsz
            have t33 : tm.getD 33 undef = .agg #[.slice A1 n c1, .slice A2 m c2] := wildV_known (by rfl) (hdep 7 (by rfl) (by decide))
            have t34 : tm.getD 34 undef = .int .u64 (s : Int) := wildV_known (by rfl) (hdep 8 (by rfl) (by decide))
            clear hdep hfr
            refine wp_call _ _ _ _ _ rfl rfl (by simp [Act.eval, t33, t34]) (by kernel_rfl) (HP0.out W (HU2.out W hS).1) (fun e W9 h9 => ?_)
            obtain ⟨A9, c9, rfl, hr9, hb9⟩ := h9
            exact ⟨_, rfl, hK _ W9 hb9 (show vAg L1 L0 x n 9 (.slice A9 n c9) W9 from ⟨A9, c9, rfl, hr9⟩)⟩
          case s11 =>
            refine And.intro (by rfl) (fun tm W hS hsz hfr hdep K hK => ?_)
            change tm.size = 41 at hsz
            have h9 : (vAg L1 L0 x n) 9 (tm.getD 35 undef) W := wildV_wild (by rfl) (hdep 9 (by rfl) (by decide))
            have t36 : tm.getD 36 undef = .int .i64 (x : Int) := wildV_known (by rfl) (hdep 10 (by rfl) (by decide))
            clear hdep hfr
            obtain ⟨A9, c9, t35, hr9⟩ := h9
            obtain ⟨b9, o9, rfl, hb9, y0, y1⟩ := hr9.fr_at hx
            go_simp
            exact hK _ W (Below.refl _ W) (show vAg L1 L0 x n 11 (.pointer (some ⟨b9, o9 + x * 2, none⟩)) W from ⟨b9, o9 + x * 2, rfl, hb9, y0, y1⟩)
          case s12 =>
            refine And.intro (by rfl) (fun tm W hS hsz hfr hdep K hK => ?_)
            change tm.size = 41 at hsz
            have h11 : (vAg L1 L0 x n) 11 (tm.getD 37 undef) W := wildV_wild (by rfl) (hdep 11 (by rfl) (by decide))
            clear hdep hfr
            obtain ⟨b9, o9, t37, hb9, y0, y1⟩ := h11
            rw [HL0.out] at y0 y1
            go_simp
            exact hK _ W (Below.refl _ W) (wildV_of (by rfl))
          case s13 =>
            refine And.intro (by rfl) (fun tm W hS hsz hfr hdep K hK => ?_)
            change tm.size = 41 at hsz
            have t32 : tm.getD 32 undef = .agg #[.int .i64 (q1.1 : Int), .int .i64 (q1.2 : Int)] := wildV_known (by rfl) (hdep 6 (by rfl) (by decide))
            have t38 : tm.getD 38 undef = .agg #[.int .i64 (q0.1 : Int), .int .i64 (q0.2 : Int)] := wildV_known (by rfl) (hdep 12 (by rfl) (by decide))
            have hE := neqFr q1 q0
            rw [HEQ.out] at hE
            clear hdep hfr
            go_simp
            exact hK _ W (Below.refl _ W) (wildV_of (by rfl))
        case fin =>
          intro f W hS hV
          have y3 : (vAg L1 L0 x n) 3 (f 3) W := hV 3 (by decide) (by rfl)
          have y5 : (vAg L1 L0 x n) 5 (f 5) W := hV 5 (by decide) (by rfl)
          have y9 : (vAg L1 L0 x n) 9 (f 9) W := hV 9 (by decide) (by rfl)
          have y11 : (vAg L1 L0 x n) 11 (f 11) W := hV 11 (by decide) (by rfl)
          clear hV
          have hvl : ((List.range 14).map (fun i => if [3, 5, 9, 11].contains i then f i else ([.agg #[.slice A1 n c1, .slice A2 m c2], .int .i64 (k : Int), .int .u64 (s : Int), undef, .int .i64 (x : Int), undef, .agg #[.int .i64 (q1.1 : Int), .int .i64 (q1.2 : Int)], .agg #[.slice A1 n c1, .slice A2 m c2], .int .u64 (s : Int), undef, .int .i64 (x : Int), undef, .agg #[.int .i64 (q0.1 : Int), .int .i64 (q0.2 : Int)], .bool false] : List Value).getD i undef)) = [.agg #[.slice A1 n c1, .slice A2 m c2], .int .i64 (k : Int), .int .u64 (s : Int), f 3, .int .i64 (x : Int), f 5, .agg #[.int .i64 (q1.1 : Int), .int .i64 (q1.2 : Int)], .agg #[.slice A1 n c1, .slice A2 m c2], .int .u64 (s : Int), f 9, .int .i64 (x : Int), f 11, .agg #[.int .i64 (q0.1 : Int), .int .i64 (q0.2 : Int)], .bool false] := by rfl
          rw [hvl]
          clear hvl
          have HS := Lib.hid hS
          clear hS y3 y5 y9 y11
          generalize f 3 = f3 at *
          generalize f 5 = f5 at *
          generalize f 9 = f9 at *
          generalize f 11 = f11 at *
          simp only [fillD]
          go_simp
          have HBz := Lib.hid (HU2.out _ HS.out)
          have HPz := Lib.hid (HI.out.2.below HS.out HI.out.2.lt)
          go_wp2
          go_roundw
          case rel => exact ⟨k + 1, by omega, by go_num, HF2, Lib.hid ⟨HBz.out.1, HPz.out⟩⟩
          case measure => first | (simp [intOf]; done) | (simp [intOf]; omega)
      · have HEQ : Hid (eqQ q1 q0 = false) := Lib.hid (by unfold eqQ; exact decide_eq_false he)
        have HV := Lib.hid (HF1.out k hlt (by rw [HQ1.out]; exact he))
        clear he HF
        refine wp_region_wild [.agg #[.slice A1 n c1, .slice A2 m c2], .int .i64 (k : Int), .int .u64 (s : Int), undef, .int .i64 (x : Int), undef, .agg #[.int .i64 (q1.1 : Int), .int .i64 (q1.2 : Int)], .agg #[.slice A1 n c1, .slice A2 m c2], .int .u64 (s : Int), undef, .int .i64 (x : Int), undef, .agg #[.int .i64 (q0.1 : Int), .int .i64 (q0.2 : Int)], .bool true] [26, 27, 28, 29, 30, 31, 32, 33, 34, 35, 36, 37, 38, 39] [0, 3, 5, 6, 7, 9, 11, 12, 13] [3, 5, 9, 11] (vAg L1 L0 x n) (fun W => Below wr.heap.size wr W) (fun W W' => Below W.heap.size W W') 14 41 rfl rfl rfl (by decide) (by decide) (by kernel_rfl) (by kernel_rfl) (by kernel_rfl) (by kernel_rfl) (fun W => Below.refl _ W) (fun W1 W2 W3 h1 h2 => h1.trans (h2.mono h1.size)) (fun W W' h h2 => h.trans (h2.mono h.size)) vAg_up (Below.refl wr.heap.size wr).drew (by kernel_rfl) [] rfl ?hop ?fin
        case hop =>
          refine (And.intro ?s0 (And.intro ?s3 (And.intro ?s5 (And.intro ?s6 (And.intro ?s7 (And.intro ?s9 (And.intro ?s11 (And.intro ?s12 (And.intro ?s13 trivial)))))))))
          case s0 =>
            refine And.intro (by rfl) (fun tm W hS hsz hfr hdep K hK => ?_)
            change tm.size = 41 at hsz
            have t3 : tm.getD 3 undef = .pointer (some ⟨w.heap.size, 0, none⟩) := hfr 3 (by rfl)
            obtain ⟨_, b0, b1⟩ := HU2.out W hS
            clear hdep hfr
            go_simp
            exact hK _ W (Below.refl _ W) (wildV_of (by rfl))
          case s3 =>
            refine And.intro (by rfl) (fun tm W hS hsz hfr hdep K hK => ?_)
            change tm.size = 41 at hsz
            have t26 : tm.getD 26 undef = .agg #[.slice A1 n c1, .slice A2 m c2] := wildV_known (by rfl) (hdep 0 (by rfl) (by decide))
            have t27 : tm.getD 27 undef = .int .i64 (k : Int) := wildV_known (by rfl) (hdep 1 (by rfl) (by decide))
            have t28 : tm.getD 28 undef = .int .u64 (s : Int) := wildV_known (by rfl) (hdep 2 (by rfl) (by decide))
            clear hdep hfr
            refine wp_call _ _ _ _ _ rfl rfl (by simp [Act.eval, t26, t27, t28]) (by kernel_rfl) (HP1.out W (HU2.out W hS).1) (fun e W9 h9 => ?_)
            obtain ⟨A9, c9, rfl, hr9, hb9⟩ := h9
            exact ⟨_, rfl, hK _ W9 hb9 (show vAg L1 L0 x n 3 (.slice A9 n c9) W9 from ⟨A9, c9, rfl, hr9⟩)⟩
          case s5 =>
            refine And.intro (by rfl) (fun tm W hS hsz hfr hdep K hK => ?_)
            change tm.size = 41 at hsz
            have h3 : (vAg L1 L0 x n) 3 (tm.getD 29 undef) W := wildV_wild (by rfl) (hdep 3 (by rfl) (by decide))
            have t30 : tm.getD 30 undef = .int .i64 (x : Int) := wildV_known (by rfl) (hdep 4 (by rfl) (by decide))
            clear hdep hfr
            obtain ⟨A9, c9, t29, hr9⟩ := h3
            obtain ⟨b9, o9, rfl, hb9, y0, y1⟩ := hr9.fr_at hx
            go_simp
            exact hK _ W (Below.refl _ W) (show vAg L1 L0 x n 5 (.pointer (some ⟨b9, o9 + x * 2, none⟩)) W from ⟨b9, o9 + x * 2, rfl, hb9, y0, y1⟩)
          case s6 =>
            refine And.intro (by rfl) (fun tm W hS hsz hfr hdep K hK => ?_)
            change tm.size = 41 at hsz
            have h5 : (vAg L1 L0 x n) 5 (tm.getD 31 undef) W := wildV_wild (by rfl) (hdep 5 (by rfl) (by decide))
            clear hdep hfr
            obtain ⟨b9, o9, t31, hb9, y0, y1⟩ := h5
            rw [HL1.out] at y0 y1
            go_simp
            exact hK _ W (Below.refl _ W) (wildV_of (by rfl))
          case s7 =>
            refine And.intro (by rfl) (fun tm W hS hsz hfr hdep K hK => ?_)
            change tm.size = 41 at hsz
            have t3 : tm.getD 3 undef = .pointer (some ⟨w.heap.size, 0, none⟩) := hfr 3 (by rfl)
            obtain ⟨_, b0, b1⟩ := HU2.out W hS
            clear hdep hfr
            go_simp
            exact hK _ W (Below.refl _ W) (wildV_of (by rfl))
          case s9 =>
            refine And.intro (by rfl) (fun tm W hS hsz hfr hdep K hK => ?_)
            change tm.size = 41 at hsz
            have t33 : tm.getD 33 undef = .agg #[.slice A1 n c1, .slice A2 m c2] := wildV_known (by rfl) (hdep 7 (by rfl) (by decide))
            have t34 : tm.getD 34 undef = .int .u64 (s : Int) := wildV_known (by rfl) (hdep 8 (by rfl) (by decide))
            clear hdep hfr
            refine wp_call _ _ _ _ _ rfl rfl (by simp [Act.eval, t33, t34]) (by kernel_rfl) (HP0.out W (HU2.out W hS).1) (fun e W9 h9 => ?_)
            obtain ⟨A9, c9, rfl, hr9, hb9⟩ := h9
            exact ⟨_, rfl, hK _ W9 hb9 (show vAg L1 L0 x n 9 (.slice A9 n c9) W9 from ⟨A9, c9, rfl, hr9⟩)⟩
          case s11 =>
            refine And.intro (by rfl) (fun tm W hS hsz hfr hdep K hK => ?_)
            change tm.size = 41 at hsz
            have h9 : (vAg L1 L0 x n) 9 (tm.getD 35 undef) W := wildV_wild (by rfl) (hdep 9 (by rfl) (by decide))
            have t36 : tm.getD 36 undef = .int .i64 (x : Int) := wildV_known (by rfl) (hdep 10 (by rfl) (by decide))
            clear hdep hfr
            obtain ⟨A9, c9, t35, hr9⟩ := h9
            obtain ⟨b9, o9, rfl, hb9, y0, y1⟩ := hr9.fr_at hx
            go_simp
            exact hK _ W (Below.refl _ W) (show vAg L1 L0 x n 11 (.pointer (some ⟨b9, o9 + x * 2, none⟩)) W from ⟨b9, o9 + x * 2, rfl, hb9, y0, y1⟩)
          case s12 =>
            refine And.intro (by rfl) (fun tm W hS hsz hfr hdep K hK => ?_)
            change tm.size = 41 at hsz
            have h11 : (vAg L1 L0 x n) 11 (tm.getD 37 undef) W := wildV_wild (by rfl) (hdep 11 (by rfl) (by decide))
            clear hdep hfr
            obtain ⟨b9, o9, t37, hb9, y0, y1⟩ := h11
            rw [HL0.out] at y0 y1
            go_simp
            exact hK _ W (Below.refl _ W) (wildV_of (by rfl))
          case s13 =>
            refine And.intro (by rfl) (fun tm W hS hsz hfr hdep K hK => ?_)
            change tm.size = 41 at hsz
            have t32 : tm.getD 32 undef = .agg #[.int .i64 (q1.1 : Int), .int .i64 (q1.2 : Int)] := wildV_known (by rfl) (hdep 6 (by rfl) (by decide))
            have t38 : tm.getD 38 undef = .agg #[.int .i64 (q0.1 : Int), .int .i64 (q0.2 : Int)] := wildV_known (by rfl) (hdep 12 (by rfl) (by decide))
            have hE := neqFr q1 q0
            rw [HEQ.out] at hE
            clear hdep hfr
            go_simp
            exact hK _ W (Below.refl _ W) (wildV_of (by rfl))
        case fin =>
          intro f W hS hV
          have y3 : (vAg L1 L0 x n) 3 (f 3) W := hV 3 (by decide) (by rfl)
          have y5 : (vAg L1 L0 x n) 5 (f 5) W := hV 5 (by decide) (by rfl)
          have y9 : (vAg L1 L0 x n) 9 (f 9) W := hV 9 (by decide) (by rfl)
          have y11 : (vAg L1 L0 x n) 11 (f 11) W := hV 11 (by decide) (by rfl)
          clear hV
          have hvl : ((List.range 14).map (fun i => if [3, 5, 9, 11].contains i then f i else ([.agg #[.slice A1 n c1, .slice A2 m c2], .int .i64 (k : Int), .int .u64 (s : Int), undef, .int .i64 (x : Int), undef, .agg #[.int .i64 (q1.1 : Int), .int .i64 (q1.2 : Int)], .agg #[.slice A1 n c1, .slice A2 m c2], .int .u64 (s : Int), undef, .int .i64 (x : Int), undef, .agg #[.int .i64 (q0.1 : Int), .int .i64 (q0.2 : Int)], .bool true] : List Value).getD i undef)) = [.agg #[.slice A1 n c1, .slice A2 m c2], .int .i64 (k : Int), .int .u64 (s : Int), f 3, .int .i64 (x : Int), f 5, .agg #[.int .i64 (q1.1 : Int), .int .i64 (q1.2 : Int)], .agg #[.slice A1 n c1, .slice A2 m c2], .int .u64 (s : Int), f 9, .int .i64 (x : Int), f 11, .agg #[.int .i64 (q0.1 : Int), .int .i64 (q0.2 : Int)], .bool true] := by rfl
          rw [hvl]
          clear hvl
          have HS := Lib.hid hS
          clear hS y3 y5 y9 y11
          generalize f 3 = f3 at *
          generalize f 5 = f5 at *
          generalize f 9 = f9 at *
          generalize f 11 = f11 at *
          simp only [fillD]
          go_simp
          have HBz := Lib.hid (HU2.out _ HS.out)
          have HPz := Lib.hid (HI.out.2.below HS.out HI.out.2.lt)
          go_wp2
          go_ret2
          exact ⟨by rw [HV.out]; rfl, HBz.out.1⟩
    · obtain rfl : k = m := by omega
      have HV := Lib.hid (HT1.out (fun a ha => HF.out a ha))
      clear HF
      go_wp2
      go_ret2
      exact ⟨by rw [HV.out]; rfl, HI.out.1⟩

theorem agE_ok {p : Pri} {x : Int} {s : Nat} (h : agE p x s = 0) : evE p s = 0 ∧ 0 ≤ x ∧ x < p.wt.length := by
  unfold agE at h
  split at h
  · rename_i h1
    split at h
    · rename_i h2
      exact ⟨h1, h2.1, h2.2⟩
    · cases h
  · rename_i h1
    exact absurd h h1
set_option maxHeartbeats 2000000 in
theorem aAgree_any (p : Pri) (v : Value) (x : Int) (s : Nat) (w : World) (hM : PrR w w.heap.size v p) (hs : s < 18446744073709551616) (hT : Tab w) :
    Calls Tryd.prog 26 #[v, .int .i64 x, .int .u64 (s : Int)] w (GivesB (agV p x s) (agE p x s) w) := by
  by_cases h : agE p x s = 0
  · obtain ⟨h0, h1, h2⟩ := agE_ok h
    have HV : agV p x s = agB p x.toNat s := by unfold agV; rw [if_pos h]
    obtain ⟨k, rfl⟩ := Int.eq_ofNat_of_zero_le h1
    rw [h, HV]
    exact aAgree_ok p v k s w hM h0 (by omega) hs hT
  · have HV : agV p x s = false := by unfold agV; rw [if_neg h]
    rw [HV]
    obtain ⟨A1, c1, A2, c2, rfl, hv, hr⟩ := hM.ex
    have HB1 : Hid (Below w.heap.size w (w.alloc (.cells #[.slice A1 p.wt.length c1, .slice A2 p.cells.length c2] 25))) := Lib.hid ((Below.refl _ w).alloc (Nat.le_refl _) _)
    have HPB := Lib.hid (PBox.made w (.slice A1 p.wt.length c1) (.slice A2 p.cells.length c2))
    have HC := Lib.hid (aEv_any p _ s _ (hM.step HB1.out) hs)
    by_cases h0 : evE p s = 0
    · rw [h0] at HC
      have hx : ¬ (0 ≤ x ∧ x < p.wt.length) := fun hx => h (by unfold agE; rw [if_pos h0, if_pos hx])
      have HE : agE p x s = 2 := by unfold agE; rw [if_pos h0, if_neg hx]
      rw [HE]
      have HHW := Lib.hid (fun (W : World) (hb : Below w.heap.size w W) => aHasW_any p _ x W (hM.below hb hb.size))
      rw [decide_eq_false hx] at HHW
      clear hM hv hr h0 hx HE h HV hs hT
      generalize p.wt.length = n at *
      generalize p.cells.length = m at *
      go_enter Tryd.func26, Tryd.ntmps26
      go_wp2_with fail
      refine (HC.out).mono ?_
      rintro e w2 ⟨rfl, hb⟩
      have HPB2 := Lib.hid (HPB.out.below hb HPB.out.lt)
      have b0 := HPB2.out.c0
      have b1 := HPB2.out.c1
      have HB2 := Lib.hid (belowNext HB1.out hb)
      clear hb HB1 HPB
      go_wp2_with fail
      refine (HHW.out _ HB2.out).mono ?_
      rintro e w3 ⟨rfl, hb3⟩
      have HB3 := Lib.hid (belowNext HB2.out hb3)
      clear hb3 b0 b1
      go_wp2
      go_ret2
      exact ⟨rfl, HB3.out⟩
    · have HE : agE p x s = evE p s := by unfold agE; rw [if_neg h0]
      rw [HE]
      have hz : (evE p s != 0) = true := by rw [bne_iff_ne]; exact h0
      clear hM hv hr h0 HE h HV hs hT
      generalize evE p s = E at *
      generalize p.wt.length = n at *
      generalize p.cells.length = m at *
      go_enter Tryd.func26, Tryd.ntmps26
      go_wp2_with fail
      refine (HC.out).mono ?_
      rintro e w2 ⟨rfl, hb⟩
      have HB2 := Lib.hid (belowNext HB1.out hb)
      clear hb HB1 HPB
      go_wp2
      go_ret2
      exact ⟨rfl, HB2.out⟩
end Go.Proofs.YtfbgabcdeecpoaaDoor
/- Layer 24: whether all agents agree, and the posterior at a world, by the reference. -/
namespace Go.Proofs.YtfbgabcdeecpoaaDoor
open Go.RowKit Go.Proofs.Ws
set_option maxRecDepth 100000
set_option maxHeartbeats 4000000 in
theorem rAgree_ok (p : Pri) (v : Value) (x s : Nat) (w : World) (hM : PrR w w.heap.size v p) (h0 : evE p s = 0) (hx : x < p.wt.length) (hs : s < 18446744073709551616) :
    Calls Tryd.prog 27 #[v, .int .i64 (x : Int), .int .u64 (s : Int)] w (GivesB (agB p x s) 0 w) := by
  obtain ⟨A1, c1, A2, c2, rfl, hv, hr⟩ := hM.ex
  have HB1 : Hid (Below w.heap.size w (w.alloc (.cells #[.slice A1 p.wt.length c1, .slice A2 p.cells.length c2] 25))) := Lib.hid ((Below.refl _ w).alloc (Nat.le_refl _) _)
  have HPB := Lib.hid (PBox.made w (.slice A1 p.wt.length c1) (.slice A2 p.cells.length c2))
  have HC := Lib.hid (rEv_any p _ s _ (hM.step HB1.out) hs)
  rw [h0] at HC
  have hok := (evE_ok h0).1
  have d0 : decide ((x : Int) < 0) = false := by simp
  have d1 : decide (p.wt.length ≤ x) = false := decide_eq_false (by omega)
  have HP := Lib.hid (fun (a : Nat) (ha : a < p.cells.length) (W : World) (hb : Below w.heap.size w W) => rPost_any p _ a x s W (hM.below hb hb.size) hok ha hx hs)
  have HT1 := Lib.hid (fun h => agB_true (p := p) (x := x) (s := s) h)
  have HF1 := Lib.hid (fun a (ha : a < p.cells.length) h => agB_false (p := p) (x := x) (s := s) ha h)
  have hag := hok.ag
  clear hM hv hr h0 hok hs
  obtain ⟨PN, hPN⟩ : ∃ PN : Nat → Nat × Nat, PN = fun a => postN p a x s := ⟨_, rfl⟩
  have hPNa : ∀ a, postN p a x s = PN a := fun a => by rw [hPN]
  simp only [hPNa] at HP HT1 HF1
  unfold frV at HP
  clear hPN hPNa
  generalize agB p x s = AB at *
  generalize p.wt.length = n at *
  generalize p.cells.length = m at *
  go_enter Tryd.func27, Tryd.ntmps27
  go_wp2_with fail
  refine (HC.out).mono ?_
  rintro e w3 ⟨rfl, hb⟩
  have HPB3 := Lib.hid (HPB.out.below hb HPB.out.lt)
  have b0 := HPB3.out.c0
  have b1 := HPB3.out.c1
  have HB3 := Lib.hid (belowNext HB1.out hb)
  clear hb HB1 HPB
  go_wp2
  go_loopw [9] (fun i wr => ∃ k : Nat, k ≤ m + 1 ∧ 1 ≤ k ∧ i = .int .i64 (k : Int) ∧ Hid (∀ a, a < k → PN a = PN 0) ∧ Hid (Below w.heap.size w wr ∧ PBox wr w.heap.size (.slice A1 n c1) (.slice A2 m c2))) (fun i _ => m + 1 - (intOf i).toNat)
  case atStart => exact ⟨1, by omega, Nat.le_refl _, rfl, Lib.hid (fun a ha => by rw [show a = 0 by omega]), Lib.hid ⟨HB3.out, HPB3.out⟩⟩
  case round =>
    clear b0 b1
    obtain ⟨k, hk, hk1, rfl, HF, HI⟩ := hrel
    have b0 := HI.out.2.c0
    have b1 := HI.out.2.c1
    by_cases hlt : k < m
    · have HU2 : Hid (∀ W, Below wr.heap.size wr W → Below w.heap.size w W ∧ W.cell? ⟨w.heap.size, 0, none⟩ = some (.slice A1 n c1) ∧ W.cell? ⟨w.heap.size, 1, none⟩ = some (.slice A2 m c2)) := Lib.hid (fun W hb => by
        have h := HI.out.2.below hb HI.out.2.lt
        exact ⟨belowNext HI.out.1 hb, h.c0, h.c1⟩)
      have HP1 := Lib.hid (fun W hb => HP.out k hlt W hb)
      have HP0 := Lib.hid (fun W hb => HP.out 0 (by omega) W hb)
      generalize hq1 : PN k = q1 at *
      generalize hq0 : PN 0 = q0 at *
      have HQ1 := Lib.hid hq1
      have HQ0 := Lib.hid hq0
      clear hq1 hq0
      go_wp2
      clear b0 b1
      by_cases he : q1 = q0
      · have HEQ : Hid (eqQ q1 q0 = true) := Lib.hid (by unfold eqQ; exact decide_eq_true he)
        have HF2 : Hid (∀ a, a < k + 1 → PN a = q0) := Lib.hid (fun a ha => by
          by_cases e : a = k
          · rw [e, HQ1.out, he]
          · exact HF.out a (by omega))
        clear he HF
        refine wp_region_mix [.agg #[.slice A1 n c1, .slice A2 m c2], .int .i64 (k : Int), .int .i64 (x : Int), .int .u64 (s : Int), .agg #[.int .i64 (q1.1 : Int), .int .i64 (q1.2 : Int)], .agg #[.slice A1 n c1, .slice A2 m c2], .int .i64 (x : Int), .int .u64 (s : Int), .agg #[.int .i64 (q0.1 : Int), .int .i64 (q0.2 : Int)], .bool false] [32, 33, 34, 35, 36, 37, 38, 39, 40, 41] [0, 4, 5, 8, 9] (fun W => Below wr.heap.size wr W) (fun W W' => Below W.heap.size W W') 10 42 rfl rfl rfl rfl (by decide) (by decide) (by kernel_rfl) (by kernel_rfl) (by kernel_rfl) (fun W => Below.refl _ W) (fun W1 W2 W3 h1 h2 => h1.trans (h2.mono h1.size)) (fun W W' h h2 => h.trans (h2.mono h.size)) (Below.refl wr.heap.size wr).drew (by kernel_rfl) [] rfl ?hop ?fin
        case hop =>
          refine (And.intro ?s0 (And.intro ?s4 (And.intro ?s5 (And.intro ?s8 (And.intro ?s9 trivial)))))
          case s0 =>
            refine And.intro (by rfl) (fun tm W hS hsz hfr hdep K hK => ?_)
            change tm.size = 42 at hsz
            have t3 : tm.getD 3 undef = .pointer (some ⟨w.heap.size, 0, none⟩) := hfr 3 (by rfl)
            obtain ⟨_, b0, b1⟩ := HU2.out W hS
            clear hdep hfr
            go_simp
            exact hK W (Below.refl _ W)
          case s4 =>
            refine And.intro (by rfl) (fun tm W hS hsz hfr hdep K hK => ?_)
            change tm.size = 42 at hsz
            have t32 : tm.getD 32 undef = .agg #[.slice A1 n c1, .slice A2 m c2] := hdep 0 (by rfl) (by decide)
            have t33 : tm.getD 33 undef = .int .i64 (k : Int) := hdep 1 (by rfl) (by decide)
            have t34 : tm.getD 34 undef = .int .i64 (x : Int) := hdep 2 (by rfl) (by decide)
            have t35 : tm.getD 35 undef = .int .u64 (s : Int) := hdep 3 (by rfl) (by decide)
            clear hdep hfr
            refine wp_call _ _ _ _ _ rfl rfl (by simp [Act.eval, t32, t33, t34, t35]) (by kernel_rfl) (HP1.out W (HU2.out W hS).1) (fun e W9 h9 => ?_)
            obtain ⟨rfl, hb9⟩ := h9
            exact ⟨_, rfl, hK W9 hb9⟩
          case s5 =>
            refine And.intro (by rfl) (fun tm W hS hsz hfr hdep K hK => ?_)
            change tm.size = 42 at hsz
            have t3 : tm.getD 3 undef = .pointer (some ⟨w.heap.size, 0, none⟩) := hfr 3 (by rfl)
            obtain ⟨_, b0, b1⟩ := HU2.out W hS
            clear hdep hfr
            go_simp
            exact hK W (Below.refl _ W)
          case s8 =>
            refine And.intro (by rfl) (fun tm W hS hsz hfr hdep K hK => ?_)
            change tm.size = 42 at hsz
            have t37 : tm.getD 37 undef = .agg #[.slice A1 n c1, .slice A2 m c2] := hdep 5 (by rfl) (by decide)
            have t38 : tm.getD 38 undef = .int .i64 (x : Int) := hdep 6 (by rfl) (by decide)
            have t39 : tm.getD 39 undef = .int .u64 (s : Int) := hdep 7 (by rfl) (by decide)
            clear hdep hfr
            refine wp_call _ _ _ _ _ rfl rfl (by simp [Act.eval, t37, t38, t39]) (by kernel_rfl) (HP0.out W (HU2.out W hS).1) (fun e W9 h9 => ?_)
            obtain ⟨rfl, hb9⟩ := h9
            exact ⟨_, rfl, hK W9 hb9⟩
          case s9 =>
            refine And.intro (by rfl) (fun tm W hS hsz hfr hdep K hK => ?_)
            change tm.size = 42 at hsz
            have t36 : tm.getD 36 undef = .agg #[.int .i64 (q1.1 : Int), .int .i64 (q1.2 : Int)] := hdep 4 (by rfl) (by decide)
            have t40 : tm.getD 40 undef = .agg #[.int .i64 (q0.1 : Int), .int .i64 (q0.2 : Int)] := hdep 8 (by rfl) (by decide)
            have hE := neqFr q1 q0
            rw [HEQ.out] at hE
            clear hdep hfr
            go_simp
            exact hK W (Below.refl _ W)
        case fin =>
          intro W hS
          have HS := Lib.hid hS
          clear hS
          simp only [fillD]
          go_simp
          have HBz := Lib.hid (HU2.out _ HS.out)
          have HPz := Lib.hid (HI.out.2.below HS.out HI.out.2.lt)
          go_wp2
          go_roundw
          case rel => exact ⟨k + 1, by omega, by omega, by go_num, HF2, Lib.hid ⟨HBz.out.1, HPz.out⟩⟩
          case measure => first | (simp [intOf]; done) | (simp [intOf]; omega)
      · have HEQ : Hid (eqQ q1 q0 = false) := Lib.hid (by unfold eqQ; exact decide_eq_false he)
        have HV := Lib.hid (HF1.out k hlt (by rw [HQ1.out]; exact he))
        clear he HF
        refine wp_region_mix [.agg #[.slice A1 n c1, .slice A2 m c2], .int .i64 (k : Int), .int .i64 (x : Int), .int .u64 (s : Int), .agg #[.int .i64 (q1.1 : Int), .int .i64 (q1.2 : Int)], .agg #[.slice A1 n c1, .slice A2 m c2], .int .i64 (x : Int), .int .u64 (s : Int), .agg #[.int .i64 (q0.1 : Int), .int .i64 (q0.2 : Int)], .bool true] [32, 33, 34, 35, 36, 37, 38, 39, 40, 41] [0, 4, 5, 8, 9] (fun W => Below wr.heap.size wr W) (fun W W' => Below W.heap.size W W') 10 42 rfl rfl rfl rfl (by decide) (by decide) (by kernel_rfl) (by kernel_rfl) (by kernel_rfl) (fun W => Below.refl _ W) (fun W1 W2 W3 h1 h2 => h1.trans (h2.mono h1.size)) (fun W W' h h2 => h.trans (h2.mono h.size)) (Below.refl wr.heap.size wr).drew (by kernel_rfl) [] rfl ?hop ?fin
        case hop =>
          refine (And.intro ?s0 (And.intro ?s4 (And.intro ?s5 (And.intro ?s8 (And.intro ?s9 trivial)))))
          case s0 =>
            refine And.intro (by rfl) (fun tm W hS hsz hfr hdep K hK => ?_)
            change tm.size = 42 at hsz
            have t3 : tm.getD 3 undef = .pointer (some ⟨w.heap.size, 0, none⟩) := hfr 3 (by rfl)
            obtain ⟨_, b0, b1⟩ := HU2.out W hS
            clear hdep hfr
            go_simp
            exact hK W (Below.refl _ W)
          case s4 =>
            refine And.intro (by rfl) (fun tm W hS hsz hfr hdep K hK => ?_)
            change tm.size = 42 at hsz
            have t32 : tm.getD 32 undef = .agg #[.slice A1 n c1, .slice A2 m c2] := hdep 0 (by rfl) (by decide)
            have t33 : tm.getD 33 undef = .int .i64 (k : Int) := hdep 1 (by rfl) (by decide)
            have t34 : tm.getD 34 undef = .int .i64 (x : Int) := hdep 2 (by rfl) (by decide)
            have t35 : tm.getD 35 undef = .int .u64 (s : Int) := hdep 3 (by rfl) (by decide)
            clear hdep hfr
            refine wp_call _ _ _ _ _ rfl rfl (by simp [Act.eval, t32, t33, t34, t35]) (by kernel_rfl) (HP1.out W (HU2.out W hS).1) (fun e W9 h9 => ?_)
            obtain ⟨rfl, hb9⟩ := h9
            exact ⟨_, rfl, hK W9 hb9⟩
          case s5 =>
            refine And.intro (by rfl) (fun tm W hS hsz hfr hdep K hK => ?_)
            change tm.size = 42 at hsz
            have t3 : tm.getD 3 undef = .pointer (some ⟨w.heap.size, 0, none⟩) := hfr 3 (by rfl)
            obtain ⟨_, b0, b1⟩ := HU2.out W hS
            clear hdep hfr
            go_simp
            exact hK W (Below.refl _ W)
          case s8 =>
            refine And.intro (by rfl) (fun tm W hS hsz hfr hdep K hK => ?_)
            change tm.size = 42 at hsz
            have t37 : tm.getD 37 undef = .agg #[.slice A1 n c1, .slice A2 m c2] := hdep 5 (by rfl) (by decide)
            have t38 : tm.getD 38 undef = .int .i64 (x : Int) := hdep 6 (by rfl) (by decide)
            have t39 : tm.getD 39 undef = .int .u64 (s : Int) := hdep 7 (by rfl) (by decide)
            clear hdep hfr
            refine wp_call _ _ _ _ _ rfl rfl (by simp [Act.eval, t37, t38, t39]) (by kernel_rfl) (HP0.out W (HU2.out W hS).1) (fun e W9 h9 => ?_)
            obtain ⟨rfl, hb9⟩ := h9
            exact ⟨_, rfl, hK W9 hb9⟩
          case s9 =>
            refine And.intro (by rfl) (fun tm W hS hsz hfr hdep K hK => ?_)
            change tm.size = 42 at hsz
            have t36 : tm.getD 36 undef = .agg #[.int .i64 (q1.1 : Int), .int .i64 (q1.2 : Int)] := hdep 4 (by rfl) (by decide)
            have t40 : tm.getD 40 undef = .agg #[.int .i64 (q0.1 : Int), .int .i64 (q0.2 : Int)] := hdep 8 (by rfl) (by decide)
            have hE := neqFr q1 q0
            rw [HEQ.out] at hE
            clear hdep hfr
            go_simp
            exact hK W (Below.refl _ W)
        case fin =>
          intro W hS
          have HS := Lib.hid hS
          clear hS
          simp only [fillD]
          go_simp
          have HBz := Lib.hid (HU2.out _ HS.out)
          have HPz := Lib.hid (HI.out.2.below HS.out HI.out.2.lt)
          go_wp2
          go_ret2
          exact ⟨by rw [HV.out]; rfl, HBz.out.1⟩
    · have HV := Lib.hid (HT1.out (fun a ha => HF.out a (by omega)))
      have d2 : decide (k < m) = false := decide_eq_false hlt
      clear HF
      go_wp2
      go_ret2
      exact ⟨by rw [HV.out]; rfl, HI.out.1⟩
set_option maxHeartbeats 2000000 in
theorem rAgree_any (p : Pri) (v : Value) (x : Int) (s : Nat) (w : World) (hM : PrR w w.heap.size v p) (hs : s < 18446744073709551616) :
    Calls Tryd.prog 27 #[v, .int .i64 x, .int .u64 (s : Int)] w (GivesB (agV p x s) (agE p x s) w) := by
  by_cases h : agE p x s = 0
  · obtain ⟨h0, h1, h2⟩ := agE_ok h
    have HV : agV p x s = agB p x.toNat s := by unfold agV; rw [if_pos h]
    obtain ⟨k, rfl⟩ := Int.eq_ofNat_of_zero_le h1
    rw [h, HV]
    exact rAgree_ok p v k s w hM h0 (by omega) hs
  · have HV : agV p x s = false := by unfold agV; rw [if_neg h]
    rw [HV]
    obtain ⟨A1, c1, A2, c2, rfl, hv, hr⟩ := hM.ex
    have HB1 : Hid (Below w.heap.size w (w.alloc (.cells #[.slice A1 p.wt.length c1, .slice A2 p.cells.length c2] 25))) := Lib.hid ((Below.refl _ w).alloc (Nat.le_refl _) _)
    have HPB := Lib.hid (PBox.made w (.slice A1 p.wt.length c1) (.slice A2 p.cells.length c2))
    have HC := Lib.hid (rEv_any p _ s _ (hM.step HB1.out) hs)
    by_cases h0 : evE p s = 0
    · rw [h0] at HC
      have hx : ¬ (0 ≤ x ∧ x < p.wt.length) := fun hx => h (by unfold agE; rw [if_pos h0, if_pos hx])
      have HE : agE p x s = 2 := by unfold agE; rw [if_pos h0, if_neg hx]
      rw [HE]
      clear hM hv hr h0 HE h HV hs
      generalize p.wt.length = n at *
      generalize p.cells.length = m at *
      by_cases h2 : x < 0
      · have d0 : decide (x < 0) = true := decide_eq_true h2
        clear hx h2
        go_enter Tryd.func27, Tryd.ntmps27
        go_wp2_with fail
        refine (HC.out).mono ?_
        rintro e w2 ⟨rfl, hb⟩
        have HPB2 := Lib.hid (HPB.out.below hb HPB.out.lt)
        have b0 := HPB2.out.c0
        have b1 := HPB2.out.c1
        have HB2 := Lib.hid (belowNext HB1.out hb)
        clear hb HB1 HPB
        go_wp2
        go_ret2
        exact ⟨rfl, HB2.out⟩
      · have d0 : decide (x < 0) = false := decide_eq_false h2
        have d1 : decide ((n : Int) ≤ x) = true := decide_eq_true (by omega)
        clear hx h2
        go_enter Tryd.func27, Tryd.ntmps27
        go_wp2_with fail
        refine (HC.out).mono ?_
        rintro e w2 ⟨rfl, hb⟩
        have HPB2 := Lib.hid (HPB.out.below hb HPB.out.lt)
        have b0 := HPB2.out.c0
        have b1 := HPB2.out.c1
        have HB2 := Lib.hid (belowNext HB1.out hb)
        clear hb HB1 HPB
        go_wp2
        go_ret2
        exact ⟨rfl, HB2.out⟩
    · have HE : agE p x s = evE p s := by unfold agE; rw [if_neg h0]
      rw [HE]
      have hz : (evE p s != 0) = true := by rw [bne_iff_ne]; exact h0
      clear hM hv hr h0 HE h HV hs
      generalize evE p s = E at *
      generalize p.wt.length = n at *
      generalize p.cells.length = m at *
      go_enter Tryd.func27, Tryd.ntmps27
      go_wp2_with fail
      refine (HC.out).mono ?_
      rintro e w2 ⟨rfl, hb⟩
      have HB2 := Lib.hid (belowNext HB1.out hb)
      clear hb HB1 HPB
      go_wp2
      go_ret2
      exact ⟨rfl, HB2.out⟩
theorem postE_cases (p : Pri) (a x : Int) (s : Nat) : (evE p s ≠ 0 ∧ postE p a x s = evE p s) ∨ (evE p s = 0 ∧ ¬ (0 ≤ a ∧ a < p.cells.length ∧ 0 ≤ x ∧ x < p.wt.length) ∧ postE p a x s = 2) ∨ (evE p s = 0 ∧ 0 ≤ a ∧ a < p.cells.length ∧ 0 ≤ x ∧ x < p.wt.length ∧ postE p a x s = 0) := by
  unfold postE postsE
  by_cases h0 : evE p s = 0
  · by_cases h1 : 0 ≤ a ∧ a < p.cells.length
    · by_cases h2 : 0 ≤ x ∧ x < p.wt.length
      · simp [h0, h1, h2]
      · right; left
        refine ⟨h0, fun h => h2 ⟨h.2.2.1, h.2.2.2⟩, ?_⟩
        rw [if_pos h0, if_pos h1, if_pos rfl, if_neg h2]
    · right; left
      refine ⟨h0, fun h => h1 ⟨h.1, h.2.1⟩, ?_⟩
      rw [if_pos h0, if_neg h1, if_neg (by decide)]
  · left
    refine ⟨h0, ?_⟩
    rw [if_neg h0, if_neg h0]
set_option maxHeartbeats 2000000 in
theorem rPosterior_any (p : Pri) (v : Value) (a x : Int) (s : Nat) (w : World) (hM : PrR w w.heap.size v p) (hs : s < 18446744073709551616) :
    Calls Tryd.prog 23 #[v, .int .i64 a, .int .i64 x, .int .u64 (s : Int)] w (GivesQ (postV p a x s) (postE p a x s) w) := by
  have HV : Hid (postV p a x s = if postE p a x s = 0 then postN p a.toNat x.toNat s else (0, 0)) := Lib.hid rfl
  have hcs := postE_cases p a x s
  have HMB := Lib.hid (fun W (hb : Below w.heap.size w W) => hM.below hb hb.size)
  obtain ⟨A1, c1, A2, c2, rfl, hv, hr⟩ := hM.ex
  have HB1 : Hid (Below w.heap.size w ((w.alloc (.cells #[.slice A1 p.wt.length c1, .slice A2 p.cells.length c2] 25)).alloc (.cells #[.int .i64 0, .int .i64 0] 41))) := Lib.hid (((Below.refl _ w).alloc (Nat.le_refl _) _).alloc (by simp) _)
  have HPB : Hid (PBox ((w.alloc (.cells #[.slice A1 p.wt.length c1, .slice A2 p.cells.length c2] 25)).alloc (.cells #[.int .i64 0, .int .i64 0] 41)) w.heap.size (.slice A1 p.wt.length c1) (.slice A2 p.cells.length c2)) := Lib.hid ((Below.heap_alloc _ _ _ (PBox.made w _ _).lt).trans (PBox.made w _ _))
  have HFB : Hid (FBox ((w.alloc (.cells #[.slice A1 p.wt.length c1, .slice A2 p.cells.length c2] 25)).alloc (.cells #[.int .i64 0, .int .i64 0] 41)) (w.heap.size + 1) (.int .i64 0) (.int .i64 0)) := Lib.hid (by
    have := FBox.made (w.alloc (.cells #[.slice A1 p.wt.length c1, .slice A2 p.cells.length c2] 25)) (.int .i64 0) (.int .i64 0)
    simpa using this)
  have HC := Lib.hid (rEv_any p _ s _ (hM.step HB1.out) hs)
  generalize hPE : postE p a x s = PE at *
  generalize hPV : postV p a x s = PV at *
  clear hPE hPV
  rcases hcs with ⟨h0, rfl⟩ | ⟨h0, hno, rfl⟩ | ⟨h0, ha0, ha1, hx0, hx1, rfl⟩
  · have HV2 := HV.out
    rw [if_neg h0] at HV2
    have HV3 := Lib.hid HV2
    have hz : (evE p s != 0) = true := by rw [bne_iff_ne]; exact h0
    clear HV HV2 h0 hM hv hr hs HMB
    generalize evE p s = E at *
    generalize p.wt.length = n at *
    generalize p.cells.length = m at *
    go_enter Tryd.func23, Tryd.ntmps23
    go_wp2_with fail
    generalize (w.alloc (.cells #[.slice A1 n c1, .slice A2 m c2] 25)).alloc (.cells #[.int .i64 0, .int .i64 0] 41) = w1 at *
    refine (HC.out).mono ?_
    rintro e w2 ⟨rfl, hb⟩
    have HPB2 := HPB.out.below hb HPB.out.lt
    have HFB2 := Lib.hid (HFB.out.below hb HFB.out.lt)
    have b0 := HPB2.c0
    have b1 := HPB2.c1
    have HB2 := Lib.hid (belowNext HB1.out hb)
    clear hb HPB2 HFB HB1 HPB
    have f0 := HFB2.out.free 0
    have f1 := HFB2.out.free 1
    have y0 := HFB2.out.c0
    have y1 := HFB2.out.c1
    go_wp2
    have HZ := Lib.hid (HFB2.out.set2 (.int .i64 0) (.int .i64 0))
    clear f0 f1 y0 y1
    generalize ((w2.setCell ⟨w.heap.size + 1, 0, none⟩ (.int .i64 0)).setCell ⟨w.heap.size + 1, 1, none⟩ (.int .i64 0)) = w7 at *
    (try simp only [Exit.inBlock, Exit.then])
    refine bodyPost_ret (ret_cellT rfl _ _ (w.heap.size + 1) _ _ _ _ rfl HZ.out.1 Tryd.underlying41 rfl (by kernel_rfl)) rfl ?_
    exact ⟨by rw [HV3.out]; rfl, HB2.out.trans (HZ.out.2.below (Nat.le_succ _) HB2.out.size)⟩
  · have HV2 := HV.out
    rw [if_neg (by decide)] at HV2
    have HV3 := Lib.hid HV2
    rw [h0] at HC
    clear HV HV2 h0 hM hv hr hs HMB
    generalize p.wt.length = n at *
    generalize p.cells.length = m at *
    by_cases e1 : a < 0
    · have d0 : decide (a < 0) = true := decide_eq_true e1
      clear hno e1
      go_enter Tryd.func23, Tryd.ntmps23
      go_wp2_with fail
      generalize (w.alloc (.cells #[.slice A1 n c1, .slice A2 m c2] 25)).alloc (.cells #[.int .i64 0, .int .i64 0] 41) = w1 at *
      refine (HC.out).mono ?_
      rintro e w2 ⟨rfl, hb⟩
      have HPB2 := HPB.out.below hb HPB.out.lt
      have HFB2 := Lib.hid (HFB.out.below hb HFB.out.lt)
      have b0 := HPB2.c0
      have b1 := HPB2.c1
      have HB2 := Lib.hid (belowNext HB1.out hb)
      clear hb HPB2 HFB HB1 HPB
      have f0 := HFB2.out.free 0
      have f1 := HFB2.out.free 1
      have y0 := HFB2.out.c0
      have y1 := HFB2.out.c1
      go_wp2
      have HZ := Lib.hid (HFB2.out.set2 (.int .i64 0) (.int .i64 0))
      clear f0 f1 y0 y1
      generalize ((w2.setCell ⟨w.heap.size + 1, 0, none⟩ (.int .i64 0)).setCell ⟨w.heap.size + 1, 1, none⟩ (.int .i64 0)) = w7 at *
      (try simp only [Exit.inBlock, Exit.then])
      refine bodyPost_ret (ret_cellT rfl _ _ (w.heap.size + 1) _ _ _ _ rfl HZ.out.1 Tryd.underlying41 rfl (by kernel_rfl)) rfl ?_
      exact ⟨by rw [HV3.out]; rfl, HB2.out.trans (HZ.out.2.below (Nat.le_succ _) HB2.out.size)⟩
    · have d0 : decide (a < 0) = false := decide_eq_false e1
      by_cases e2 : (m : Int) ≤ a
      · have d1 : decide ((m : Int) ≤ a) = true := decide_eq_true e2
        clear hno e1 e2
        go_enter Tryd.func23, Tryd.ntmps23
        go_wp2_with fail
        generalize (w.alloc (.cells #[.slice A1 n c1, .slice A2 m c2] 25)).alloc (.cells #[.int .i64 0, .int .i64 0] 41) = w1 at *
        refine (HC.out).mono ?_
        rintro e w2 ⟨rfl, hb⟩
        have HPB2 := HPB.out.below hb HPB.out.lt
        have HFB2 := Lib.hid (HFB.out.below hb HFB.out.lt)
        have b0 := HPB2.c0
        have b1 := HPB2.c1
        have HB2 := Lib.hid (belowNext HB1.out hb)
        clear hb HPB2 HFB HB1 HPB
        have f0 := HFB2.out.free 0
        have f1 := HFB2.out.free 1
        have y0 := HFB2.out.c0
        have y1 := HFB2.out.c1
        go_wp2
        have HZ := Lib.hid (HFB2.out.set2 (.int .i64 0) (.int .i64 0))
        clear f0 f1 y0 y1
        generalize ((w2.setCell ⟨w.heap.size + 1, 0, none⟩ (.int .i64 0)).setCell ⟨w.heap.size + 1, 1, none⟩ (.int .i64 0)) = w7 at *
        (try simp only [Exit.inBlock, Exit.then])
        refine bodyPost_ret (ret_cellT rfl _ _ (w.heap.size + 1) _ _ _ _ rfl HZ.out.1 Tryd.underlying41 rfl (by kernel_rfl)) rfl ?_
        exact ⟨by rw [HV3.out]; rfl, HB2.out.trans (HZ.out.2.below (Nat.le_succ _) HB2.out.size)⟩
      · have d1 : decide ((m : Int) ≤ a) = false := decide_eq_false e2
        by_cases e3 : x < 0
        · have d2 : decide (x < 0) = true := decide_eq_true e3
          clear hno e1 e2 e3
          go_enter Tryd.func23, Tryd.ntmps23
          go_wp2_with fail
          generalize (w.alloc (.cells #[.slice A1 n c1, .slice A2 m c2] 25)).alloc (.cells #[.int .i64 0, .int .i64 0] 41) = w1 at *
          refine (HC.out).mono ?_
          rintro e w2 ⟨rfl, hb⟩
          have HPB2 := HPB.out.below hb HPB.out.lt
          have HFB2 := Lib.hid (HFB.out.below hb HFB.out.lt)
          have b0 := HPB2.c0
          have b1 := HPB2.c1
          have HB2 := Lib.hid (belowNext HB1.out hb)
          clear hb HPB2 HFB HB1 HPB
          have f0 := HFB2.out.free 0
          have f1 := HFB2.out.free 1
          have y0 := HFB2.out.c0
          have y1 := HFB2.out.c1
          go_wp2
          have HZ := Lib.hid (HFB2.out.set2 (.int .i64 0) (.int .i64 0))
          clear f0 f1 y0 y1
          generalize ((w2.setCell ⟨w.heap.size + 1, 0, none⟩ (.int .i64 0)).setCell ⟨w.heap.size + 1, 1, none⟩ (.int .i64 0)) = w7 at *
          (try simp only [Exit.inBlock, Exit.then])
          refine bodyPost_ret (ret_cellT rfl _ _ (w.heap.size + 1) _ _ _ _ rfl HZ.out.1 Tryd.underlying41 rfl (by kernel_rfl)) rfl ?_
          exact ⟨by rw [HV3.out]; rfl, HB2.out.trans (HZ.out.2.below (Nat.le_succ _) HB2.out.size)⟩
        · have d2 : decide (x < 0) = false := decide_eq_false e3
          have d3 : decide ((n : Int) ≤ x) = true := decide_eq_true (by omega)
          clear hno e1 e2 e3
          go_enter Tryd.func23, Tryd.ntmps23
          go_wp2_with fail
          generalize (w.alloc (.cells #[.slice A1 n c1, .slice A2 m c2] 25)).alloc (.cells #[.int .i64 0, .int .i64 0] 41) = w1 at *
          refine (HC.out).mono ?_
          rintro e w2 ⟨rfl, hb⟩
          have HPB2 := HPB.out.below hb HPB.out.lt
          have HFB2 := Lib.hid (HFB.out.below hb HFB.out.lt)
          have b0 := HPB2.c0
          have b1 := HPB2.c1
          have HB2 := Lib.hid (belowNext HB1.out hb)
          clear hb HPB2 HFB HB1 HPB
          have f0 := HFB2.out.free 0
          have f1 := HFB2.out.free 1
          have y0 := HFB2.out.c0
          have y1 := HFB2.out.c1
          go_wp2
          have HZ := Lib.hid (HFB2.out.set2 (.int .i64 0) (.int .i64 0))
          clear f0 f1 y0 y1
          generalize ((w2.setCell ⟨w.heap.size + 1, 0, none⟩ (.int .i64 0)).setCell ⟨w.heap.size + 1, 1, none⟩ (.int .i64 0)) = w7 at *
          (try simp only [Exit.inBlock, Exit.then])
          refine bodyPost_ret (ret_cellT rfl _ _ (w.heap.size + 1) _ _ _ _ rfl HZ.out.1 Tryd.underlying41 rfl (by kernel_rfl)) rfl ?_
          exact ⟨by rw [HV3.out]; rfl, HB2.out.trans (HZ.out.2.below (Nat.le_succ _) HB2.out.size)⟩
  · have HV2 := HV.out
    rw [if_pos rfl] at HV2
    rw [h0] at HC
    have hok := (evE_ok h0).1
    obtain ⟨b, rfl⟩ := Int.eq_ofNat_of_zero_le ha0
    obtain ⟨y, rfl⟩ := Int.eq_ofNat_of_zero_le hx0
    have HP := Lib.hid (fun W (hb : Below w.heap.size w W) => rPost_any p _ b y s W (HMB.out W hb) hok (by omega) (by omega) hs)
    have HV3 := Lib.hid HV2
    have d0 : decide ((b : Int) < 0) = false := by simp
    have d1 : decide (p.cells.length ≤ b) = false := decide_eq_false (by omega)
    have d2 : decide ((y : Int) < 0) = false := by simp
    have d3 : decide (p.wt.length ≤ y) = false := decide_eq_false (by omega)
    clear HV HV2 h0 hM hv hr hs HMB hok ha0 hx0 ha1 hx1
    rw [show ((b : Nat) : Int).toNat = b from rfl, show ((y : Nat) : Int).toNat = y from rfl] at HV3
    unfold frV at HP
    generalize postN p b y s = q at *
    generalize p.wt.length = n at *
    generalize p.cells.length = m at *
    go_enter Tryd.func23, Tryd.ntmps23
    go_wp2_with fail
    generalize (w.alloc (.cells #[.slice A1 n c1, .slice A2 m c2] 25)).alloc (.cells #[.int .i64 0, .int .i64 0] 41) = w1 at *
    refine (HC.out).mono ?_
    rintro e w2 ⟨rfl, hb⟩
    have HPB2 := HPB.out.below hb HPB.out.lt
    have HFB2 := Lib.hid (HFB.out.below hb HFB.out.lt)
    have b0 := HPB2.c0
    have b1 := HPB2.c1
    have HB2 := Lib.hid (belowNext HB1.out hb)
    clear hb HPB2 HFB HB1 HPB
    go_wp2_with fail
    refine (HP.out _ HB2.out).mono ?_
    rintro e w3 ⟨rfl, hb3⟩
    have HFB3 := Lib.hid (HFB2.out.below hb3 HFB2.out.lt)
    have HB3 := Lib.hid (belowNext HB2.out hb3)
    have f0 := HFB3.out.free 0
    have f1 := HFB3.out.free 1
    have y0 := HFB3.out.c0
    have y1 := HFB3.out.c1
    clear hb3 b0 b1
    go_wp2
    have HZ := Lib.hid (HFB3.out.set2 (.int .i64 (q.1 : Int)) (.int .i64 (q.2 : Int)))
    clear f0 f1 y0 y1
    generalize ((w3.setCell ⟨w.heap.size + 1, 0, none⟩ (.int .i64 (q.1 : Int))).setCell ⟨w.heap.size + 1, 1, none⟩ (.int .i64 (q.2 : Int))) = w7 at *
    (try simp only [Exit.inBlock, Exit.then])
    refine bodyPost_ret (ret_cellT rfl _ _ (w.heap.size + 1) _ _ _ _ rfl HZ.out.1 Tryd.underlying41 rfl (by kernel_rfl)) rfl ?_
    exact ⟨by rw [HV3.out]; rfl, HB3.out.trans (HZ.out.2.below (Nat.le_succ _) HB3.out.size)⟩
end Go.Proofs.YtfbgabcdeecpoaaDoor
