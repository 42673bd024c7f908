/- Layer 6: texts joined: Im In Io. -/
import Derived.Test.YtcdmchaehafijaaDoorNIi
import Derived.Test.YtcdmchaehafijaaDoorNIl
import Derived.Test.YtcdmchaehafijaaDoorNJl
/- Layer 9: the reference's SameCubes. -/
namespace Go.Proofs.YtcdmchaehafijaaDoor
open Go.RowKit Go.Proofs.Ws Go.Maps
set_option maxRecDepth 100000
def eqC (a b : Nat × Nat) : Bool := decide (a = b)
theorem eqC_fields (a b : Nat × Nat) : (((a.1 : Int) == (b.1 : Int)) && ((a.2 : Int) == (b.2 : Int))) = eqC a b := by
  obtain ⟨a1, a2⟩ := a
  obtain ⟨b1, b2⟩ := b
  unfold eqC
  rw [Bool.eq_iff_iff]
  simp
  omega
theorem eqCube (a b : Nat × Nat) (w : World) : (Op.equalIn 10000 51 (.agg #[.int .i64 (a.1 : Int), .int .i64 (a.2 : Int)]) (.agg #[.int .i64 (b.1 : Int), .int .i64 (b.2 : Int)])).run Tryd.prog w = .ok (eqC a b) w := by
  have u3 := Tryd.underlying3
  have a3 := Tryd.isAgg3
  have z3 := Tryd.sizeOf3
  have hS : Tryd.prog.underlying 51 = some (.struct (Tryd.prog.fieldsOf 51)) := by kernel_rfl
  have hp : Tryd.prog.stoodInHeld 51 = false := by kernel_rfl
  rw [show (10000 : Nat) = 9999 + 1 from rfl, run_equalIn_agg w 9999 _ _ _ hS hp]
  simp only [Program.fieldsOf, Tryd.underlying51]
  rw [← eqC_fields]
  go_simp
  generalize (a.1 : Int) = p1
  generalize (b.1 : Int) = p2
  generalize (a.2 : Int) = p3
  generalize (b.2 : Int) = p4
  by_cases h1 : p1 = p2
  · by_cases h2 : p3 = p4
    · simp [h1, h2]
    · simp [h1, h2]
  · simp [h1]
@[go_sem] theorem Tryd.eqCodeGuard : Tryd.prog.eqGuardType Tryd.prog.depth 51 = false := by kernel_rfl
theorem neqCube (a b : Nat × Nat) (w : World) : (binOp .neq 51 (.agg #[.int .i64 (a.1 : Int), .int .i64 (a.2 : Int)]) (.agg #[.int .i64 (b.1 : Int), .int .i64 (b.2 : Int)])).run Tryd.prog w = .ok (.bool (!eqC a b)) w := by
  rw [run_neq_struct, eqCube]
  rfl
theorem Reads.cb_len {w : World} {B n : Nat} {A : Option Addr} {l : List (Nat × Nat)} (h : Reads w B 2 A n (cbs l)) : l.length = n := by have := h.1; rw [cbs_len] at this; omega
theorem Reads.cb_at {w : World} {B n : Nat} {A : Option Addr} {l : List (Nat × Nat)} (h : Reads w B 2 A n (cbs l)) {k : Nat} (hk : k < n) :
    ∃ ad, A = some ad ∧ ad.block < B ∧ w.cell? (ad.add (k * 2)) = some (.int .i64 ((l.getD k (0, 0)).1 : Int)) ∧ w.cell? (ad.add (k * 2 + 1)) = some (.int .i64 ((l.getD k (0, 0)).2 : Int)) := by
  have hl := h.cb_len
  obtain ⟨ad, hA, hb, hc⟩ := h.2 (by omega)
  refine ⟨ad, hA, hb, hc _ _ ?_, hc _ _ ?_⟩
  · rw [cbs_at l _ (by omega), show k * 2 / 2 = k by omega, show k * 2 % 2 = 0 by omega]; rfl
  · rw [cbs_at l _ (by omega), show (k * 2 + 1) / 2 = k by omega, show (k * 2 + 1) % 2 = 1 by omega]; rfl
theorem cl_eq_at {a b : List (Nat × Nat)} (hl : a.length = b.length) (h : ∀ j, j < a.length → a.getD j (0, 0) = b.getD j (0, 0)) : a = b := by
  apply List.ext_getElem hl
  intro j h1 h2
  have := h j h1
  simp [h1, h2] at this
  exact this
set_option maxHeartbeats 4000000 in
theorem sameCubes_any (a b : List (Nat × Nat)) (A A2 : Option Addr) (n m c c2 : Nat) (w : World) (hR : Reads w w.heap.size 2 A n (cbs a)) (hR2 : Reads w w.heap.size 2 A2 m (cbs b)) (hm : n ≤ 1000000) (hm2 : m ≤ 1000000) :
    Calls Tryd.prog 23 #[.slice A n c, .slice A2 m c2] w fun e w' => e = .returned (.bool (decide (a = b))) ∧ Below w.heap.size w w' := by
  have hl := hR.cb_len
  have hl2 := hR2.cb_len
  have HL := Lib.hid hl
  have HL2 := Lib.hid hl2
  have HR := Lib.hid hR
  have HR2 := Lib.hid hR2
  by_cases hnm : n = m
  · subst hnm
    have hne : ((n : Int) != (n : Int)) = false := by simp
    clear hR hR2 hl hl2
    go_enter Tryd.func23, Tryd.ntmps23
    go_wp2
    go_loopw [5] (fun i wr => ∃ k : Nat, k ≤ n ∧ i = .int .i64 k ∧ Hid (∀ j, j < k → a.getD j (0, 0) = b.getD j (0, 0)) ∧ Hid (Below w.heap.size w wr)) (fun i _ => n - (intOf i).toNat)
    case atStart => exact ⟨0, Nat.zero_le _, rfl, Lib.hid (fun j hj => absurd hj (by omega)), Lib.hid (Below.refl _ _)⟩
    case round =>
      obtain ⟨k, hk, rfl, HF, HB⟩ := hrel
      by_cases hlt : k < n
      · obtain ⟨ad, rfl, hb, m0, m1⟩ := (HR.out.below HB.out).cb_at hlt
        obtain ⟨ad2, rfl, hb2, q0, q1⟩ := (HR2.out.below HB.out).cb_at hlt
        obtain ⟨x, hx⟩ : ∃ x, a.getD k (0, 0) = x := ⟨_, rfl⟩
        obtain ⟨y, hy⟩ : ∃ y, b.getD k (0, 0) = y := ⟨_, rfl⟩
        rw [hx] at m0 m1
        rw [hy] at q0 q1
        have HX := Lib.hid hx
        have HY := Lib.hid hy
        clear hx hy
        have l1 := add_cell m1
        have r1 := add_cell q1
        by_cases he : x = y
        · have HF2 := Lib.hid (fun j (hj : j < k + 1) => show a.getD j (0, 0) = b.getD j (0, 0) from by
            by_cases e : j = k
            · subst e; rw [HX.out, HY.out]; exact he
            · exact HF.out j (by omega))
          have hq : eqC x y = true := by unfold eqC; exact decide_eq_true he
          have hE := neqCube x y
          rw [hq] at hE
          clear he HF
          go_wp2
          go_quiet (fail)
          go_wp2
          go_roundw
          case rel => exact ⟨k + 1, by omega, by go_num, HF2, Lib.hid (below_drewN HB.out _)⟩
          case measure => simp [intOf]; omega
        · have HD : Hid (decide (a = b) = false) := Lib.hid (decide_eq_false (fun e => he (by rw [← HX.out, ← HY.out, e])))
          have hq : eqC x y = false := by unfold eqC; exact decide_eq_false he
          have hE := neqCube x y
          rw [hq] at hE
          clear he HF
          go_wp2
          go_quiet (fail)
          go_wp2
          go_ret
          exact ⟨by rw [HD.out]; rfl, below_drewN HB.out _⟩
      · have hkn : k = n := by omega
        subst hkn
        have HD : Hid (decide (a = b) = true) := Lib.hid (decide_eq_true (cl_eq_at (HL.out.trans HL2.out.symm) (fun j hj => HF.out j (by have := HL.out; omega))))
        clear HF
        go_wp2
        go_ret
        exact ⟨by rw [HD.out]; rfl, HB.out⟩
  · have HD : Hid (decide (a = b) = false) := Lib.hid (decide_eq_false (fun e => hnm (by rw [← hl, ← hl2, e])))
    have hne : ((n : Int) != (m : Int)) = true := by rw [bne_iff_ne]; omega
    clear hR hR2 hl hl2 hnm
    go_enter Tryd.func23, Tryd.ntmps23
    go_wp2
    go_ret
    exact ⟨by rw [HD.out]; rfl, Below.refl _ _⟩
end Go.Proofs.YtcdmchaehafijaaDoor
/- Layer 9: the reference's SameLists. -/
namespace Go.Proofs.YtcdmchaehafijaaDoor
open Go.RowKit Go.Proofs.Ws Go.Maps
/-- the same lists at two slices: they are found equal -/
theorem sameLists9_rd (ls : List (List Nd)) (A A2 : Option Addr) (c c2 : Nat) (w : World) (hi : (∀ k, k < ls.length → ∃ ad Aj cj, A = some ad ∧ w.cell? (ad.add k) = some (.slice Aj (ls.getD k []).length cj) ∧ Reads w w.heap.size 6 Aj (ls.getD k []).length (nds (ls.getD k [])))) (hi2 : (∀ k, k < ls.length → ∃ ad Aj cj, A2 = some ad ∧ w.cell? (ad.add k) = some (.slice Aj (ls.getD k []).length cj) ∧ Reads w w.heap.size 6 Aj (ls.getD k []).length (nds (ls.getD k [])))) (hm : ls.length ≤ 1000) (hmi : ∀ k, k < ls.length → (ls.getD k []).length ≤ maxLen) :
    Calls Tryd.prog 22 #[.slice A ls.length c, .slice A2 ls.length c2] w fun e w' => e = .returned (.bool true) ∧ Below w.heap.size w w' := by
  have HI := Lib.hid hi
  have HI2 := Lib.hid hi2
  have HM := Lib.hid hmi
  have hne : ((ls.length : Int) != (ls.length : Int)) = false := by simp
  clear hi hi2 hmi
  go_enter Tryd.func22, Tryd.ntmps22
  go_wp2
  go_loopw [5] (fun i wr => ∃ k : Nat, k ≤ ls.length ∧ i = .int .i64 k ∧ Hid (Below w.heap.size w wr)) (fun i _ => ls.length - (intOf i).toNat)
  case atStart => exact ⟨0, Nat.zero_le _, rfl, Lib.hid (Below.refl _ _)⟩
  case round =>
    obtain ⟨k, hk, rfl, HB⟩ := hrel
    by_cases hlt : k < ls.length
    · obtain ⟨ad, Aj, cj, rfl, hcj, hrj⟩ := HI.out k hlt
      obtain ⟨ad2, Aj2, cj2, rfl, hcj2, hrj2⟩ := HI2.out k hlt
      have hm2 := HM.out k hlt
      have hc1 := (HB.out.cell (p := ad.add k) (World.block_lt_of_cell? w _ hcj)).trans hcj
      have hc2 := (HB.out.cell (p := ad2.add k) (World.block_lt_of_cell? w _ hcj2)).trans hcj2
      have HE : Hid (∀ W, Below w.heap.size w W → Calls Tryd.prog 8 #[.slice Aj (ls.getD k []).length cj, .slice Aj2 (ls.getD k []).length cj2] W fun e w' => e = .returned (.bool true) ∧ Below W.heap.size W w') := Lib.hid (fun W hW => by
        have := rEqual_any (ls.getD k []) (ls.getD k []) Aj Aj2 _ _ cj cj2 W ((hrj.below hW).more hW.size) ((hrj2.below hW).more hW.size) hm2 hm2
        rw [decide_eq_true rfl] at this
        exact this)
      clear hcj hcj2 hrj hrj2 hm2
      generalize (ls.getD k []).length = mk at *
      have HBd : Hid (Below w.heap.size w wr.drew) := Lib.hid HB.out.drew
      go_wp2_with fail
      go_region_with (go_at_call 8; refine (HE.out _ HBd.out).mono ?_; rintro e w4 ⟨rfl, hb4⟩; have HB4 := Lib.hid (HBd.out.trans (hb4.mono HBd.out.size)); clear hb4)
      all_goals
        clear hc1 hc2
        go_wp2
        go_roundw
        case rel => exact ⟨k + 1, by omega, by go_num, HB4⟩
        case measure => simp [intOf]; omega
    · have hkn : k = ls.length := by omega
      subst hkn
      go_wp2
      go_ret
      exact ⟨rfl, HB.out⟩
end Go.Proofs.YtcdmchaehafijaaDoor
/- Layer 9: prime implicants by trial; the values of the chapter's examples. -/
namespace Go.Proofs.YtcdmchaehafijaaDoor
open Go.RowKit Go.Proofs.Ws Go.Maps
set_option maxRecDepth 100000
def insideB (t n care val : Nat) : Bool := (List.range (2 ^ n)).all (fun v => !(decide (v &&& care = val)) || t.testBit v)
theorem insideB_iff {t n care val : Nat} : insideB t n care val = true ↔ inside t n care val := by
  unfold insideB inside
  rw [List.all_eq_true]
  constructor
  · intro h v hv he
    have := h v (List.mem_range.2 hv)
    rw [decide_eq_true he] at this
    simpa using this
  · intro h v hv
    by_cases he : v &&& care = val
    · rw [h v (List.mem_range.1 hv) he]; exact Bool.or_true _
    · rw [decide_eq_false he]; rfl
def primeB (t n : Nat) (c : Nat × Nat) : Bool := decide (c.1 < 2 ^ n) && decide (c.2 &&& c.1 = c.2) && insideB t n c.1 c.2 && (List.range n).all (fun i => !(c.1.testBit i) || !insideB t n (clr c.1 i) (clr c.2 i))
theorem primeB_iff {t n : Nat} {c : Nat × Nat} : primeB t n c = true ↔ prime t n c := by
  unfold primeB prime cubeOk
  rw [Bool.and_eq_true, Bool.and_eq_true, Bool.and_eq_true, decide_eq_true_eq, decide_eq_true_eq, insideB_iff, List.all_eq_true]
  constructor
  · rintro ⟨⟨⟨h1, h2⟩, h3⟩, h4⟩
    refine ⟨⟨h1, h2⟩, h3, fun i hi hin => ?_⟩
    have h5 := h4 i (List.mem_range.2 (bit_lt h1 hi))
    rw [hi, insideB_iff.2 hin] at h5
    cases h5
  · rintro ⟨⟨h1, h2⟩, h3, h4⟩
    refine ⟨⟨⟨h1, h2⟩, h3⟩, fun i _ => ?_⟩
    by_cases hb : c.1.testBit i = true
    · have h5 := h4 i hb
      have h6 : insideB t n (clr c.1 i) (clr c.2 i) = false := by
        rw [Bool.eq_false_iff]
        exact fun k => h5 (insideB_iff.1 k)
      rw [h6]; exact Bool.or_true _
    · have hb2 : c.1.testBit i = false := by simpa using hb
      rw [hb2]; rfl
/-- the list of the prime implicants, in order -/
def primesF (t n : Nat) : List (Nat × Nat) := (pairsL (2 ^ n)).filter (primeB t n)
theorem primesF_mem {t n : Nat} (c : Nat × Nat) : c ∈ primesF t n ↔ prime t n c := by
  unfold primesF
  rw [List.mem_filter, primeB_iff, pairs_mem]
  refine ⟨fun h => h.2, fun h => ⟨⟨h.1.1, ?_⟩, h⟩⟩
  have h3 : c.2 ≤ c.1 := by rw [← h.1.2]; exact Nat.and_le_right
  have := h.1.1
  omega
theorem primesF_sorted (t n : Nat) : (primesF t n).Pairwise cLt := (pairs_sorted (2 ^ n)).filter _
theorem primes_are {t n : Nat} {l : List (Nat × Nat)} (hs : l.Pairwise cLt) (hm : ∀ c, c ∈ l ↔ prime t n c) : l = primesF t n :=
  sorted_ext cLt_irrefl (fun h k => cLt_trans h k) l (primesF t n) hs (primesF_sorted t n) (fun c => (hm c).trans (primesF_mem c).symm)
def eP9 : List Nd := [⟨3, 0, 0, 0, 0, 0⟩]
def eQ9 : List Nd := [⟨3, 1, 0, 0, 0, 0⟩]
def eK9 : List Nd := [⟨3, 0, 0, 0, 0, 0⟩, ⟨9, 0, 0, 0, 0, 0⟩]
def eI9 : List Nd := [⟨3, 0, 0, 0, 0, 0⟩, ⟨3, 1, 0, 0, 0, 0⟩, ⟨7, 0, 0, 0, 0, 1⟩]
def eKK9 : List Nd := [⟨3, 0, 0, 0, 0, 0⟩, ⟨9, 0, 0, 0, 0, 0⟩, ⟨7, 0, 0, 0, 1, 1⟩]
def eKP9 : List Nd := [⟨3, 0, 0, 0, 0, 0⟩, ⟨9, 0, 0, 0, 0, 0⟩, ⟨7, 0, 0, 0, 1, 0⟩]
theorem ev9_0 : primesF 13 2 = [(1, 0), (2, 2)] := by decide +kernel
theorem ev9_1 : primesF 15 2 = [(0, 0)] := by decide +kernel
theorem ev9_2 : tblE eI9 2 = 0 ∧ tblV eI9 2 = 13 ∧ tblE eI9 3 = 0 ∧ tblV eI9 3 = 221 := by decide +kernel
theorem ev9_4 : tauE eKK9 = 0 ∧ tauV eKK9 = true ∧ tauE eKP9 = 0 ∧ tauV eKP9 = false := by decide +kernel
theorem ev9_5 : chkT 13 2 = 0 ∧ chkT 15 2 = 0 := by decide +kernel
end Go.Proofs.YtcdmchaehafijaaDoor
