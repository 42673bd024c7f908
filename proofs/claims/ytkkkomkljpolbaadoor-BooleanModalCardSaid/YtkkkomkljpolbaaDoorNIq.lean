/- Layer 6: texts joined: Iq Ir. -/
import Derived.Test.YtkkkomkljpolbaaDoorNEb
import Derived.Test.YtkkkomkljpolbaaDoorNId
import Derived.Test.YtkkkomkljpolbaaDoorNJl
/- Layer 9: the reference's value of a node. -/
namespace Go.Proofs.YtkkkomkljpolbaaDoor
open Go.RowKit Go.Proofs.Ws Go.Maps
set_option maxRecDepth 100000
theorem i64_and_one (x : Nat) (hx : x < 4611686018427387904) : bits .and .i64 (x : Int) 1 = ((x &&& 1 : Nat) : Int) :=
  (bits_nat .i64 62 (by decide) (fun n h0 h1 => by rw [IntKind.wrap_i64]; omega) x 1 hx (by decide)).1
theorem bit_i64 (t v : Nat) (ht : t < 4611686018427387904) : (bits .and .i64 ((t : Int) / 2 ^ v) 1 == 1) = t.testBit v := by
  have e : (t : Int) / 2 ^ v = ((t / 2 ^ v : Nat) : Int) := by push_cast; rfl
  rw [e, i64_and_one _ (Nat.lt_of_le_of_lt (Nat.div_le_self _ _) ht), Nat.and_one_is_mod, Nat.testBit_eq_decide_div_mod_eq]
  have hm : t / 2 ^ v % 2 < 2 := Nat.mod_lt _ (by decide)
  generalize t / 2 ^ v % 2 = z at *
  have : z = 0 ∨ z = 1 := by omega
  rcases this with rfl | rfl <;> rfl
theorem Reads.bool_at {w : World} {B n : Nat} {A : Option Addr} {l : List Bool} (h : Reads w B 1 A n (bs l)) {k : Nat} (hk : k < n) : ∃ ad, A = some ad ∧ ad.block < B ∧ w.cell? (ad.add k) = some (.bool (l.getD k false)) := by
  obtain ⟨ad, u, e, hb, h1, h2⟩ := h.at_ hk
  refine ⟨ad, e, hb, ?_⟩
  rw [h2]
  unfold bs at h1
  rw [List.getElem?_map] at h1
  cases hl : l[k]? with
  | none => rw [hl] at h1; cases h1
  | some b =>
    rw [hl] at h1
    injection h1 with h1
    rw [← h1, List.getD_eq_getElem?_getD, hl]
    rfl
theorem prop_any (op : Int) (w : World) : Calls Tryd.prog 92 #[.int .i64 op] w fun e w' => e = .returned (.bool (decide (1 ≤ op ∧ op ≤ 8))) ∧ w = w' := by
  by_cases h0 : 1 ≤ op
  · by_cases h6 : op ≤ 8
    · rw [decide_eq_true (show 1 ≤ op ∧ op ≤ 8 from ⟨h0, h6⟩)]
      have d0 : decide (1 ≤ op) = true := decide_eq_true h0
      have d6 : decide (op ≤ 8) = true := decide_eq_true h6
      clear h0 h6
      go_enter Tryd.func92, Tryd.ntmps92
      go_wp2
      go_ret
      exact ⟨rfl, rfl⟩
    · rw [decide_eq_false (show ¬ (1 ≤ op ∧ op ≤ 8) from fun k => h6 k.2)]
      have d0 : decide (1 ≤ op) = true := decide_eq_true h0
      have d6 : decide (op ≤ 8) = false := decide_eq_false h6
      clear h0 h6
      go_enter Tryd.func92, Tryd.ntmps92
      go_wp2
      go_ret
      exact ⟨rfl, rfl⟩
  · rw [decide_eq_false (show ¬ (1 ≤ op ∧ op ≤ 8) from fun k => h0 k.1)]
    have d0 : decide (1 ≤ op) = false := decide_eq_false h0
    clear h0
    go_enter Tryd.func92, Tryd.ntmps92
    go_wp2
    go_ret
    exact ⟨rfl, rfl⟩
theorem value_1 (i e g : Int) (x y : Int) (vs : List Bool) (v : Value) (facts : Nat) (w : World) :
    Calls Tryd.prog 93 #[nv ⟨1, i, e, g, x, y⟩, v, .int .i64 (facts : Int)] w fun e w' => e = .returned (.bool (bNode 1 (vs.getD x.toNat false) (vs.getD y.toNat false) false)) ∧ Below w.heap.size w w' := by
  have HB : Hid (∀ o, Below w.heap.size w (w.alloc o)) := Lib.hid (fun o => (Below.refl _ w).alloc (Nat.le_refl _) o)
  unfold nv
  go_enter Tryd.func93, Tryd.ntmps93
  go_wp2
  go_ret
  exact ⟨rfl, HB.out _⟩
theorem value_2 (i e g : Int) (x y : Int) (vs : List Bool) (v : Value) (facts : Nat) (w : World) :
    Calls Tryd.prog 93 #[nv ⟨2, i, e, g, x, y⟩, v, .int .i64 (facts : Int)] w fun e w' => e = .returned (.bool (bNode 2 (vs.getD x.toNat false) (vs.getD y.toNat false) false)) ∧ Below w.heap.size w w' := by
  have HB : Hid (∀ o, Below w.heap.size w (w.alloc o)) := Lib.hid (fun o => (Below.refl _ w).alloc (Nat.le_refl _) o)
  unfold nv
  go_enter Tryd.func93, Tryd.ntmps93
  go_wp2
  go_ret
  exact ⟨rfl, HB.out _⟩
theorem value_3 (i : Nat) (e g : Int) (x y : Int) (_vs : List Bool) (v : Value) (facts : Nat) (hf : facts < 4611686018427387904) (hi : i < 8) (w : World) :
    Calls Tryd.prog 93 #[nv ⟨3, (i : Int), e, g, x, y⟩, v, .int .i64 (facts : Int)] w fun e w' => e = .returned (.bool (facts.testBit i)) ∧ Below w.heap.size w w' := by
  have HB : Hid (∀ o, Below w.heap.size w (w.alloc o)) := Lib.hid (fun o => (Below.refl _ w).alloc (Nat.le_refl _) o)
  have HBIT := Lib.hid (bit_i64 facts i hf)
  unfold nv
  go_enter Tryd.func93, Tryd.ntmps93
  go_wp2
  go_ret
  exact ⟨ret_bool HBIT.out, HB.out _⟩
theorem value_4 (i e g y : Int) (x : Nat) (vs : List Bool) (A : Option Addr) (m c facts : Nat) (w : World) (hR : Reads w w.heap.size 1 A m (bs vs)) (hx : x < m) (b : Bool) :
    Calls Tryd.prog 93 #[nv ⟨4, i, e, g, (x : Int), y⟩, .slice A m c, .int .i64 (facts : Int)] w fun e w' => e = .returned (.bool (bNode 4 (vs.getD x false) b false)) ∧ Below w.heap.size w w' := by
  have HB : Hid (∀ o, Below w.heap.size w (w.alloc o)) := Lib.hid (fun o => (Below.refl _ w).alloc (Nat.le_refl _) o)
  obtain ⟨ad, rfl, hb, cx⟩ := hR.bool_at hx
  have hxb : (ad.add x).block < w.heap.size := World.block_lt_of_cell? w _ cx
  have cx2 : (w.alloc (.cells #[.int .i64 4, .int .i64 i, .int .i64 e, .int .i64 g, .int .i64 (x : Int), .int .i64 y] 62)).cell? (ad.add x) = some (.bool (vs.getD x false)) := (World.cell?_alloc_lt w _ _ hxb).trans cx
  clear hR cx hxb hb
  unfold nv
  generalize vs.getD x false = bx at *
  cases bx
  all_goals
    go_enter Tryd.func93, Tryd.ntmps93
    go_wp2
    go_ret
    exact ⟨rfl, HB.out _⟩
theorem value_5 (i e g : Int) (x y : Nat) (vs : List Bool) (A : Option Addr) (m c facts : Nat) (w : World) (hR : Reads w w.heap.size 1 A m (bs vs)) (hx : x < m) (hy : y < m) :
    Calls Tryd.prog 93 #[nv ⟨5, i, e, g, (x : Int), (y : Int)⟩, .slice A m c, .int .i64 (facts : Int)] w fun e w' => e = .returned (.bool (bNode 5 (vs.getD x false) (vs.getD y false) false)) ∧ Below w.heap.size w w' := by
  have HB : Hid (∀ o, Below w.heap.size w (w.alloc o)) := Lib.hid (fun o => (Below.refl _ w).alloc (Nat.le_refl _) o)
  obtain ⟨ad, rfl, hb, cx⟩ := hR.bool_at hx
  obtain ⟨ad2, e2, _, cy⟩ := hR.bool_at hy
  injection e2 with e2
  subst e2
  have hxb : (ad.add x).block < w.heap.size := World.block_lt_of_cell? w _ cx
  have hyb : (ad.add y).block < w.heap.size := World.block_lt_of_cell? w _ cy
  have cx2 : (w.alloc (.cells #[.int .i64 5, .int .i64 i, .int .i64 e, .int .i64 g, .int .i64 (x : Int), .int .i64 (y : Int)] 62)).cell? (ad.add x) = some (.bool (vs.getD x false)) := (World.cell?_alloc_lt w _ _ hxb).trans cx
  have cy2 : (w.alloc (.cells #[.int .i64 5, .int .i64 i, .int .i64 e, .int .i64 g, .int .i64 (x : Int), .int .i64 (y : Int)] 62)).cell? (ad.add y) = some (.bool (vs.getD y false)) := (World.cell?_alloc_lt w _ _ hyb).trans cy
  clear hR cx cy hxb hyb hb
  unfold nv
  generalize vs.getD x false = bx at *
  generalize vs.getD y false = by_ at *
  cases bx
  all_goals
    cases by_
    all_goals
      go_enter Tryd.func93, Tryd.ntmps93
      go_wp2
      go_ret
      exact ⟨rfl, HB.out _⟩
theorem value_6 (i e g : Int) (x y : Nat) (vs : List Bool) (A : Option Addr) (m c facts : Nat) (w : World) (hR : Reads w w.heap.size 1 A m (bs vs)) (hx : x < m) (hy : y < m) :
    Calls Tryd.prog 93 #[nv ⟨6, i, e, g, (x : Int), (y : Int)⟩, .slice A m c, .int .i64 (facts : Int)] w fun e w' => e = .returned (.bool (bNode 6 (vs.getD x false) (vs.getD y false) false)) ∧ Below w.heap.size w w' := by
  have HB : Hid (∀ o, Below w.heap.size w (w.alloc o)) := Lib.hid (fun o => (Below.refl _ w).alloc (Nat.le_refl _) o)
  obtain ⟨ad, rfl, hb, cx⟩ := hR.bool_at hx
  obtain ⟨ad2, e2, _, cy⟩ := hR.bool_at hy
  injection e2 with e2
  subst e2
  have hxb : (ad.add x).block < w.heap.size := World.block_lt_of_cell? w _ cx
  have hyb : (ad.add y).block < w.heap.size := World.block_lt_of_cell? w _ cy
  have cx2 : (w.alloc (.cells #[.int .i64 6, .int .i64 i, .int .i64 e, .int .i64 g, .int .i64 (x : Int), .int .i64 (y : Int)] 62)).cell? (ad.add x) = some (.bool (vs.getD x false)) := (World.cell?_alloc_lt w _ _ hxb).trans cx
  have cy2 : (w.alloc (.cells #[.int .i64 6, .int .i64 i, .int .i64 e, .int .i64 g, .int .i64 (x : Int), .int .i64 (y : Int)] 62)).cell? (ad.add y) = some (.bool (vs.getD y false)) := (World.cell?_alloc_lt w _ _ hyb).trans cy
  clear hR cx cy hxb hyb hb
  unfold nv
  generalize vs.getD x false = bx at *
  generalize vs.getD y false = by_ at *
  cases bx
  all_goals
    cases by_
    all_goals
      go_enter Tryd.func93, Tryd.ntmps93
      go_wp2
      go_ret
      exact ⟨rfl, HB.out _⟩
theorem value_7 (i e g : Int) (x y : Nat) (vs : List Bool) (A : Option Addr) (m c facts : Nat) (w : World) (hR : Reads w w.heap.size 1 A m (bs vs)) (hx : x < m) (hy : y < m) :
    Calls Tryd.prog 93 #[nv ⟨7, i, e, g, (x : Int), (y : Int)⟩, .slice A m c, .int .i64 (facts : Int)] w fun e w' => e = .returned (.bool (bNode 7 (vs.getD x false) (vs.getD y false) false)) ∧ Below w.heap.size w w' := by
  have HB : Hid (∀ o, Below w.heap.size w (w.alloc o)) := Lib.hid (fun o => (Below.refl _ w).alloc (Nat.le_refl _) o)
  obtain ⟨ad, rfl, hb, cx⟩ := hR.bool_at hx
  obtain ⟨ad2, e2, _, cy⟩ := hR.bool_at hy
  injection e2 with e2
  subst e2
  have hxb : (ad.add x).block < w.heap.size := World.block_lt_of_cell? w _ cx
  have hyb : (ad.add y).block < w.heap.size := World.block_lt_of_cell? w _ cy
  have cx2 : (w.alloc (.cells #[.int .i64 7, .int .i64 i, .int .i64 e, .int .i64 g, .int .i64 (x : Int), .int .i64 (y : Int)] 62)).cell? (ad.add x) = some (.bool (vs.getD x false)) := (World.cell?_alloc_lt w _ _ hxb).trans cx
  have cy2 : (w.alloc (.cells #[.int .i64 7, .int .i64 i, .int .i64 e, .int .i64 g, .int .i64 (x : Int), .int .i64 (y : Int)] 62)).cell? (ad.add y) = some (.bool (vs.getD y false)) := (World.cell?_alloc_lt w _ _ hyb).trans cy
  clear hR cx cy hxb hyb hb
  unfold nv
  generalize vs.getD x false = bx at *
  generalize vs.getD y false = by_ at *
  cases bx
  all_goals
    cases by_
    all_goals
      go_enter Tryd.func93, Tryd.ntmps93
      go_wp2
      go_ret
      exact ⟨rfl, HB.out _⟩
theorem value_8 (i e g : Int) (x y : Nat) (vs : List Bool) (A : Option Addr) (m c facts : Nat) (w : World) (hR : Reads w w.heap.size 1 A m (bs vs)) (hx : x < m) (hy : y < m) :
    Calls Tryd.prog 93 #[nv ⟨8, i, e, g, (x : Int), (y : Int)⟩, .slice A m c, .int .i64 (facts : Int)] w fun e w' => e = .returned (.bool (bNode 8 (vs.getD x false) (vs.getD y false) false)) ∧ Below w.heap.size w w' := by
  have HB : Hid (∀ o, Below w.heap.size w (w.alloc o)) := Lib.hid (fun o => (Below.refl _ w).alloc (Nat.le_refl _) o)
  obtain ⟨ad, rfl, hb, cx⟩ := hR.bool_at hx
  obtain ⟨ad2, e2, _, cy⟩ := hR.bool_at hy
  injection e2 with e2
  subst e2
  have hxb : (ad.add x).block < w.heap.size := World.block_lt_of_cell? w _ cx
  have hyb : (ad.add y).block < w.heap.size := World.block_lt_of_cell? w _ cy
  have cx2 : (w.alloc (.cells #[.int .i64 8, .int .i64 i, .int .i64 e, .int .i64 g, .int .i64 (x : Int), .int .i64 (y : Int)] 62)).cell? (ad.add x) = some (.bool (vs.getD x false)) := (World.cell?_alloc_lt w _ _ hxb).trans cx
  have cy2 : (w.alloc (.cells #[.int .i64 8, .int .i64 i, .int .i64 e, .int .i64 g, .int .i64 (x : Int), .int .i64 (y : Int)] 62)).cell? (ad.add y) = some (.bool (vs.getD y false)) := (World.cell?_alloc_lt w _ _ hyb).trans cy
  clear hR cx cy hxb hyb hb
  unfold nv
  generalize vs.getD x false = bx at *
  generalize vs.getD y false = by_ at *
  cases bx
  all_goals
    cases by_
    all_goals
      go_enter Tryd.func93, Tryd.ntmps93
      go_wp2_with fail
      go_quiet (fail)
      go_wp2
      go_ret
      exact ⟨rfl, below_drewN (HB.out _) _⟩
theorem value_any (x : Nd) (vs : List Bool) (A : Option Addr) (m c facts : Nat) (w : World) (hR : Reads w w.heap.size 1 A m (bs vs)) (h1 : 1 ≤ x.op) (h8 : x.op ≤ 8) (hf : facts < 4611686018427387904) (hfl : fldOk x) (ho : opsOk x m) :
    Calls Tryd.prog 93 #[nv x, .slice A m c, .int .i64 (facts : Int)] w fun e w' => e = .returned (.bool (bNode x.op (vs.getD x.x.toNat false) (vs.getD x.y.toNat false) (facts.testBit x.i.toNat))) ∧ Below w.heap.size w w' := by
  have hi := (fld_i hfl).1
  have hox := fun h => opsOk_x ho h
  have hoy := fun h => opsOk_y ho h
  clear ho hfl
  obtain ⟨op, i, e, g, xx, yy⟩ := x
  dsimp only at h1 h8 hi hox hoy ⊢
  have hc : op = 1 ∨ op = 2 ∨ op = 3 ∨ op = 4 ∨ op = 5 ∨ op = 6 ∨ op = 7 ∨ op = 8 := by omega
  rcases hc with rfl | rfl | rfl | rfl | rfl | rfl | rfl | rfl
  · exact value_1 i e g xx yy vs _ facts w
  · exact value_2 i e g xx yy vs _ facts w
  · obtain ⟨k, rfl⟩ : ∃ k : Nat, i = (k : Int) := ⟨i.toNat, by have := hi rfl; omega⟩
    have h := hi rfl
    rw [Int.toNat_natCast]
    exact value_3 k e g xx yy vs _ facts hf (by omega) w
  · obtain ⟨k, rfl⟩ : ∃ k : Nat, xx = (k : Int) := ⟨xx.toNat, by have := hox rfl; omega⟩
    have h := hox rfl
    rw [Int.toNat_natCast]
    exact value_4 i e g yy k vs A m c facts w hR (by omega) (vs.getD yy.toNat false)
  · obtain ⟨k, rfl⟩ : ∃ k : Nat, xx = (k : Int) := ⟨xx.toNat, by have := hox rfl; omega⟩
    obtain ⟨l, rfl⟩ : ∃ k : Nat, yy = (k : Int) := ⟨yy.toNat, by have := hoy rfl; omega⟩
    have h := hox rfl
    have h' := hoy rfl
    rw [Int.toNat_natCast, Int.toNat_natCast]
    exact value_5 i e g k l vs A m c facts w hR (by omega) (by omega)
  · obtain ⟨k, rfl⟩ : ∃ k : Nat, xx = (k : Int) := ⟨xx.toNat, by have := hox rfl; omega⟩
    obtain ⟨l, rfl⟩ : ∃ k : Nat, yy = (k : Int) := ⟨yy.toNat, by have := hoy rfl; omega⟩
    have h := hox rfl
    have h' := hoy rfl
    rw [Int.toNat_natCast, Int.toNat_natCast]
    exact value_6 i e g k l vs A m c facts w hR (by omega) (by omega)
  · obtain ⟨k, rfl⟩ : ∃ k : Nat, xx = (k : Int) := ⟨xx.toNat, by have := hox rfl; omega⟩
    obtain ⟨l, rfl⟩ : ∃ k : Nat, yy = (k : Int) := ⟨yy.toNat, by have := hoy rfl; omega⟩
    have h := hox rfl
    have h' := hoy rfl
    rw [Int.toNat_natCast, Int.toNat_natCast]
    exact value_7 i e g k l vs A m c facts w hR (by omega) (by omega)
  · obtain ⟨k, rfl⟩ : ∃ k : Nat, xx = (k : Int) := ⟨xx.toNat, by have := hox rfl; omega⟩
    obtain ⟨l, rfl⟩ : ∃ k : Nat, yy = (k : Int) := ⟨yy.toNat, by have := hoy rfl; omega⟩
    have h := hox rfl
    have h' := hoy rfl
    rw [Int.toNat_natCast, Int.toNat_natCast]
    exact value_8 i e g k l vs A m c facts w hR (by omega) (by omega)
end Go.Proofs.YtkkkomkljpolbaaDoor
/- Layer 9: the reference's truth tables. -/
namespace Go.Proofs.YtkkkomkljpolbaaDoor
open Go.RowKit Go.Proofs.Ws Go.Maps
set_option maxRecDepth 100000
theorem mask_zero (g : Nd → Nat) (l : List Nd) (h : ∀ n ∈ l, g n = 0) : maskL g l = 0 := by
  have key : ∀ (l : List Nd), (∀ n ∈ l, g n = 0) → l.foldl (fun m n => m ||| g n) 0 = 0 := by
    intro l
    induction l with
    | nil => intro _; rfl
    | cons n l ih =>
      intro h
      show l.foldl _ (0 ||| g n) = 0
      rw [h n List.mem_cons_self]
      exact ih (fun m hm => h m (List.mem_cons_of_mem _ hm))
  exact key l h
theorem fragN_small {op : Int} (h8 : op ≤ 8) : fragN op = 0 := by
  unfold fragN
  repeat' split
  all_goals omega
theorem fragN_big {op : Int} (h8 : 8 < op) : fragN op ≠ 0 := by
  unfold fragN
  repeat' split
  all_goals omega
theorem prop_mask (q : List Nd) : maskL fragD q = 0 ↔ ∀ x ∈ q, x.op ≤ 8 := by
  constructor
  · intro h x hx
    apply Classical.byContradiction
    intro h8
    obtain ⟨i, hi⟩ := Nat.exists_testBit_of_ne_zero (show fragD x ≠ 0 from fragN_big (by omega))
    have := maskL_hit fragD q x hx i hi
    rw [h, Nat.zero_testBit] at this
    cases this
  · intro h
    exact mask_zero _ _ (fun x hx => fragN_small (h x hx))
theorem below_all : ∀ m : Fin 256, ∀ n : Fin 7, (decide (m.val = 0) || decide (Lib.bitLen m.val ≤ n.val)) = decide (m.val / 2 ^ n.val = 0) := by decide +kernel
theorem fits_ref {f : List Nd} (hz : fErr f = 0) (hp : ∀ x ∈ compF f, x.op ≤ 8) {n : Nat} (hn : n ≤ 6) : fitsF f 0 (n : Int) = decide (maskL factD (compF f) / 2 ^ n = 0) := by
  have ha : maskL agentD (compF f) = 0 := mask_zero _ _ (fun x hx => by
    have h8 := hp x hx
    have hg := (fld_i (compF_fld f x hx)).2.2.2
    unfold agentD
    have e1 : hasAgent x.op = false := by
      unfold hasAgent
      rw [decide_eq_false (by omega), decide_eq_false (by omega), decide_eq_false (by omega), decide_eq_false (by omega)]; rfl
    have e2 : hasGroup x.op = false := by
      unfold hasGroup
      rw [decide_eq_false (by omega)]; rfl
    rw [e1, if_neg (by decide), hg e2]
    rfl)
  have hm := factM_256 f
  have hb := below_all ⟨maskL factD (compF f), hm⟩ ⟨n, by omega⟩
  dsimp only at hb
  unfold fitsF
  rw [ha, decide_eq_true hz]
  show (true && (belowM 0 0 && belowM (maskL factD (compF f)) (n : Int))) = _
  rw [show belowM 0 0 = true from rfl, Bool.true_and, Bool.true_and, ← hb]
  unfold belowM
  congr 1
  exact decide_eq_decide.2 (by omega)
theorem opsOk_mono {n : Nd} {i j : Nat} (h : opsOk n i) (hij : i ≤ j) : opsOk n j := by
  refine ⟨?_, ?_⟩
  · have := h.1
    split at this
    · rename_i hu; rw [if_pos hu]; omega
    · rename_i hu; rw [if_neg hu]; exact this
  · have := h.2
    split at this
    · rename_i hu; rw [if_pos hu]; omega
    · rename_i hu; rw [if_neg hu]; exact this
theorem bs_append (a b : List Bool) : bs (a ++ b) = bs a ++ bs b := by simp [bs]
theorem compF_comp (f : List Nd) : compF (compF f) = compF f := by
  by_cases hz : fErr f = 0
  · have hok := compF_ok hz
    have e := compF_tree hz
    have hne : f.length ≠ 0 := by simpa using (fErr_ok hz).1
    have ht : trOk (treeAt f (f.length - 1)) := treeAt_ok (fErr_ops hz) f.length _ (by omega) (by omega)
    rw [e] at hok ⊢
    unfold compF
    rw [if_pos hok, canonF_canT ht]
  · have e : compF f = [] := by unfold compF; rw [if_neg hz]
    rw [e]
    unfold compF
    rw [if_neg (by decide)]
theorem tblE_bad {f : List Nd} {n : Int} (h : fErr f ≠ 0) : tblE f n = fErr f ∧ tblV f n = 0 := by
  have e : tblE f n = fErr f := by unfold tblE; rw [if_pos h]
  exact ⟨e, by unfold tblV; rw [if_neg (by rw [e]; exact h)]⟩
theorem tblE_op {f : List Nd} {n : Int} (hz : fErr f = 0) {x : Nd} (hx : x ∈ compF f) (h8 : ¬ x.op ≤ 8) : tblE f n = 10 ∧ tblV f n = 0 := by
  have hm : maskL fragD (compF f) ≠ 0 := fun h => h8 ((prop_mask _).1 h x hx)
  have e : tblE f n = 10 := by unfold tblE; rw [if_neg (by omega), if_pos hm]
  exact ⟨e, by unfold tblV; rw [if_neg (by rw [e]; decide)]⟩
theorem tblE_rng {f : List Nd} {n : Int} (hz : fErr f = 0) (hp : ∀ x ∈ compF f, x.op ≤ 8) (h : ¬ (0 ≤ n ∧ n ≤ 6)) : tblE f n = 2 ∧ tblV f n = 0 := by
  have e : tblE f n = 2 := by unfold tblE; rw [if_neg (by omega), if_neg (fun k => k ((prop_mask _).2 hp)), if_neg (fun k => h k.1)]
  exact ⟨e, by unfold tblV; rw [if_neg (by rw [e]; decide)]⟩
theorem tblE_fit {f : List Nd} {n : Nat} (hz : fErr f = 0) (hp : ∀ x ∈ compF f, x.op ≤ 8) (hn : n ≤ 6) (h : ¬ maskL factD (compF f) / 2 ^ n = 0) : tblE f n = 2 ∧ tblV f n = 0 := by
  have e : tblE f n = 2 := by
    unfold tblE
    rw [if_neg (by omega), if_neg (fun k => k ((prop_mask _).2 hp)), if_neg (fun k => by
      have h2 := k.2
      rw [fits_ref hz hp hn, decide_eq_true_eq] at h2
      exact h h2)]
  exact ⟨e, by unfold tblV; rw [if_neg (by rw [e]; decide)]⟩
/-- the truth of the last node where the facts are as v says -/
def lastB (q : List Nd) (v : Nat) : Bool := (bL q (factB q v) q.length).getD (q.length - 1) false
theorem tblE_ok {f : List Nd} {n : Nat} (hz : fErr f = 0) (hp : ∀ x ∈ compF f, x.op ≤ 8) (hn : n ≤ 6) (h : maskL factD (compF f) / 2 ^ n = 0) : tblE f n = 0 ∧ tblV f n = tabL (lastB (compF f)) (2 ^ n) := by
  have hft : fitsF f 0 (n : Int) = true := by rw [fits_ref hz hp hn]; exact decide_eq_true h
  have e : tblE f n = 0 := by
    unfold tblE
    rw [if_neg (by omega), if_neg (fun k => k ((prop_mask _).2 hp)), if_pos ⟨⟨by omega, by omega⟩, hft⟩]
  refine ⟨e, ?_⟩
  unfold tblV
  rw [if_pos e, Int.toNat_natCast]
  refine table_eq (fun x hx h3 => ?_) hn _
  have := fits_facts (f := f) (n := (n : Int)) ⟨by omega, by omega⟩ hft x hx h3
  omega
theorem tabL_snoc (p : Nat → Bool) (k : Nat) : tabL p (k + 1) = if p k = true then tabL p k ||| 1 <<< k else tabL p k := rfl
theorem shl_u64 (k : Nat) (hk : k < 64) : IntKind.u64.wrap ((2 : Int) ^ k) = ((2 ^ k : Nat) : Int) := by
  have h2 : 2 ^ k < 18446744073709551616 := Nat.pow_lt_pow_right (n := 64) (by decide) hk
  have e : ((2 ^ k : Nat) : Int) = (2 : Int) ^ k := by simp
  rw [← e]
  generalize 2 ^ k = z at *
  rw [IntKind.wrap_u64]
  omega
theorem or_shl {t k : Nat} (ht : t < 18446744073709551616) (hk : k < 64) : bits .or .u64 (t : Int) ((2 ^ k : Nat) : Int) = ((t ||| 1 <<< k : Nat) : Int) := by
  have h2 : 2 ^ k < 18446744073709551616 := Nat.pow_lt_pow_right (n := 64) (by decide) hk
  rw [u64_or_nat t (2 ^ k) ht h2, Nat.one_shiftLeft]
set_option maxHeartbeats 8000000 in
theorem rTable_any (f : List Nd) (n : Int) (A : Option Addr) (m c : Nat) (w : World) (hR : Reads w w.heap.size 6 A m (nds f)) (hm : m ≤ maxLen) :
    Calls Tryd.prog 33 #[.slice A m c, .int .i64 n] w fun e w' => e = .returned (.tuple #[.int .u64 ((tblV f n : Nat) : Int), .int .i64 (tblE f n)]) ∧ Below w.heap.size w w' := by
  have HV := Lib.hid (rCheck_any f A m c w hR hm)
  have HR := Lib.hid hR
  by_cases hz : fErr f = 0
  · have HC : Hid (∀ W, Below w.heap.size w W → Calls Tryd.prog 62 #[.slice A m c] W fun e w' => ∃ A' c', e = .returned (.slice A' (compF f).length c') ∧ Reads w' w'.heap.size 6 A' (compF f).length (nds (compF f)) ∧ Below W.heap.size W w') := Lib.hid (fun W h => rCompact_any f A m c W (up8 HR.out h) hm)
    have hok := compF_ok hz
    have hq2 := (fErr_ok hok).2.1
    have hq1 : (compF f).length ≠ 0 := by simpa using (fErr_ok hok).1
    have HOP := Lib.hid (fErr_ops hok)
    have HFL : Hid (∀ i, i < (compF f).length → fldOk ((compF f).getD i nd0)) := Lib.hid (fun i hi => fErr_fld hok _ (getD_mem hi))
    have HK1 : Hid (∀ i, i < (compF f).length → 1 ≤ ((compF f).getD i nd0).op) := Lib.hid (fun i hi => by
      have h := (HFL.out i hi).1
      unfold known at h
      simp only [Bool.and_eq_true, decide_eq_true_eq] at h
      exact h.1)
    have HCC : Hid (compF (compF f) = compF f) := Lib.hid (compF_comp f)
    have HFC : Hid (∀ (A' : Option Addr) (c' : Nat) (W : World), Reads W W.heap.size 6 A' (compF f).length (nds (compF f)) → Calls Tryd.prog 74 #[.slice A' (compF f).length c'] W fun e w' => e = .returned (.int .i64 ((maskL factD (compF f) : Nat) : Int)) ∧ Below W.heap.size W w') := Lib.hid (fun A' c' W h => by
      have := rFacts_any (compF f) A' _ c' W h (by unfold maxLen; omega)
      rw [HCC.out] at this
      exact this)
    have HE1 : Hid (∀ x ∈ compF f, ¬ x.op ≤ 8 → tblE f n = 10 ∧ tblV f n = 0) := Lib.hid (fun x hx h => tblE_op hz hx h)
    have HE2 : Hid ((∀ x ∈ compF f, x.op ≤ 8) → ¬ (0 ≤ n ∧ n ≤ 6) → tblE f n = 2 ∧ tblV f n = 0) := Lib.hid (fun h k => tblE_rng hz h k)
    have HE3 : Hid ((∀ x ∈ compF f, x.op ≤ 8) → ∀ k : Nat, k ≤ 6 → n = (k : Int) → ¬ maskL factD (compF f) / 2 ^ k = 0 → tblE f n = 2 ∧ tblV f n = 0) := Lib.hid (fun h k hk e => by subst e; exact tblE_fit hz h hk)
    have HE4 : Hid ((∀ x ∈ compF f, x.op ≤ 8) → ∀ k : Nat, k ≤ 6 → n = (k : Int) → maskL factD (compF f) / 2 ^ k = 0 → tblE f n = 0 ∧ tblV f n = tabL (lastB (compF f)) (2 ^ k)) := Lib.hid (fun h k hk e => by subst e; exact tblE_ok hz h hk)
    have hml : maskL factD (compF f) < 256 := factM_256 f
    rw [hz] at HV
    generalize tblE f n = te at *
    generalize tblV f n = tv at *
    generalize maskL factD (compF f) = mk at *
    generalize compF f = q at *
    clear hR hok HCC
    obtain ⟨i0, hi0, hz0, hz1, hz2⟩ := info_parts Tryd.infoB
    go_enter Tryd.func33, Tryd.ntmps33
    go_wp2_with fail
    refine (HV.out).mono ?_
    rintro e wA ⟨rfl, hbA⟩
    have HBA := Lib.hid hbA
    clear hbA
    go_wp2_with fail
    refine (HC.out _ HBA.out).mono ?_
    rintro e w1 ⟨A3, c3, rfl, hR3, hb1⟩
    have HR3 := Lib.hid hR3
    have HB1 : Hid (Below w.heap.size w w1) := Lib.hid (HBA.out.trans (hb1.mono HBA.out.size))
    clear hR3 hb1 HBA HC HR HV
    go_wp2
    go_loopw [7] (fun i wr => ∃ k : Nat, k ≤ q.length ∧ i = .int .i64 k ∧ Hid (∀ j, j < k → (q.getD j nd0).op ≤ 8) ∧ Hid (Below w1.heap.size w1 wr)) (fun i _ => q.length - (intOf i).toNat)
    case atStart => exact ⟨0, Nat.zero_le _, rfl, Lib.hid (fun j hj => absurd hj (by omega)), Lib.hid (Below.refl _ _)⟩
    case round =>
      obtain ⟨k, hk, rfl, HP, HB⟩ := hrel
      by_cases hlt : k < q.length
      · obtain ⟨ad, rfl, hb, m0, m1, m2, m3, m4, m5⟩ := (HR3.out.below HB.out).nd_at hlt
        have HPR := Lib.hid (fun W => prop_any (q.getD k nd0).op W)
        have h1 := HK1.out k hlt
        by_cases h8 : (q.getD k nd0).op ≤ 8
        · rw [decide_eq_true (show 1 ≤ (q.getD k nd0).op ∧ (q.getD k nd0).op ≤ 8 from ⟨h1, h8⟩)] at HPR
          have HP2 : Hid (∀ j, j < k + 1 → (q.getD j nd0).op ≤ 8) := Lib.hid (fun j hj => by
            by_cases e : j = k
            · subst e; exact h8
            · exact HP.out j (by omega))
          clear h1 h8 HP
          generalize q.getD k nd0 = x at *
          go_wp2_with fail
          refine (HPR.out _).mono ?_
          rintro e w3 ⟨rfl, rfl⟩
          go_wp2
          go_roundw
          case rel => exact ⟨k + 1, by omega, by go_num, HP2, HB⟩
          case measure => simp [intOf]; omega
        · rw [decide_eq_false (show ¬ (1 ≤ (q.getD k nd0).op ∧ (q.getD k nd0).op ≤ 8) from fun h => h8 h.2)] at HPR
          obtain ⟨rfl, rfl⟩ := HE1.out _ (getD_mem hlt) (by omega)
          clear h1 h8 HP
          generalize q.getD k nd0 = x at *
          go_wp2_with fail
          refine (HPR.out _).mono ?_
          rintro e w3 ⟨rfl, rfl⟩
          go_wp2
          go_ret2
          exact ⟨rfl, HB1.out.trans (HB.out.mono HB1.out.size)⟩
      · have HPA : Hid (∀ x ∈ q, x.op ≤ 8) := Lib.hid (fun x hx => by
          obtain ⟨j, hj, rfl⟩ := List.getElem_of_mem hx
          have h := HP.out j (by omega)
          rw [List.getD_eq_getElem?_getD, List.getElem?_eq_getElem hj] at h
          exact h)
        have HP : Hid (∀ i, i < q.length → (q.getD i nd0).op ≤ 8) := Lib.hid (fun i hi => HPA.out _ (getD_mem hi))
        have HR3 := Lib.hid (up8 HR3.out HB.out)
        have HB1 : Hid (Below w.heap.size w wr) := Lib.hid (HB1.out.trans (HB.out.mono HB1.out.size))
        have HB0 : Hid (Below wr.heap.size wr wr) := Lib.hid (Below.refl _ _)
        have HFC2 := Lib.hid (HFC.out A3 c3 wr HR3.out)
        have hE2 := HE2.out HPA.out
        have HE3 := Lib.hid (HE3.out HPA.out)
        have HE4 := Lib.hid (HE4.out HPA.out)
        clear HB HE1 HE2 HPA HFC
        have hkq : k = q.length := by omega
        subst hkq
        clear hlt hk
        by_cases h0 : 0 ≤ n
        · have d0 : decide (n < 0) = false := decide_eq_false (by omega)
          by_cases h6 : n ≤ 6
          · have d6 : decide (6 < n) = false := decide_eq_false (by omega)
            clear hE2
            obtain ⟨e, rfl⟩ : ∃ e : Nat, n = (e : Int) := ⟨n.toNat, by omega⟩
            have he6 : e ≤ 6 := by omega
            clear h0 h6
            by_cases hfit : mk / 2 ^ e = 0
            · obtain ⟨rfl, rfl⟩ := HE4.out e he6 rfl hfit
              have df : (((mk : Nat) : Int) / 2 ^ e != 0) = false := by
                have h3 : ((mk : Nat) : Int) / 2 ^ e = ((mk / 2 ^ e : Nat) : Int) := by push_cast; rfl
                rw [h3, hfit]; rfl
              have hP1 : 2 ^ e ≤ 64 := Nat.pow_le_pow_right (n := 2) (by decide) he6
              clear HE3 HE4 hfit
              go_wp2_with fail
              refine (HFC2.out).mono ?_
              rintro r w2 ⟨rfl, hb2⟩
              have HB2 := Lib.hid hb2
              clear hb2 HFC2
              have HR3 := Lib.hid (up8 HR3.out HB2.out)
              have HB1 : Hid (Below w.heap.size w w2) := Lib.hid (HB1.out.trans (HB2.out.mono HB1.out.size))
              clear HB2 HB0
              obtain ⟨P, hP⟩ : ∃ P : Nat, 2 ^ e = P := ⟨_, rfl⟩
              have hsh : wrap64 (2 ^ e) = (P : Int) := by
                rw [← hP]
                have : ((2 ^ e : Nat) : Int) = (2 : Int) ^ e := by simp
                rw [← this]
                have h16 : 2 ^ e ≤ 64 := hP1
                unfold wrap64
                omega
              rw [hP] at hP1
              have HPE := Lib.hid hP
              clear hP
              go_wp2
              go_loopw [8, 9, 10, 11] (fun t fc _ _ wr => ∃ k : Nat, k ≤ P ∧ fc = .int .i64 k ∧ t = .int .u64 ((tabL (lastB q) k : Nat) : Int) ∧ Hid (Below w2.heap.size w2 wr)) (fun _ fc _ _ _ => P - (intOf fc).toNat)
              case atStart => exact ⟨0, Nat.zero_le _, rfl, rfl, Lib.hid (Below.refl _ _)⟩
              case round =>
                obtain ⟨k, hk, rfl, rfl, HBK⟩ := hrel
                by_cases hkp : k < P
                · go_wp2
                  try rw [hsh]
                  clear hsh
                  go_loopw [10, 11] (fun v i wr => ∃ i' : Nat, i' ≤ q.length ∧ i = .int .i64 i' ∧ Hid (wr.ownsRow w2.heap.size 4 1 v i' (bs (bL q (factB q k) i'))) ∧ Hid (Below w2.heap.size w2 wr)) (fun _ i _ => q.length - (intOf i).toNat)
                  case atStart => exact ⟨0, Nat.zero_le _, rfl, Lib.hid (World.ownsRow_nil _ _ _ _), HBK⟩
                  case round =>
                    obtain ⟨i, hi, rfl, HV2, HBI⟩ := hrel
                    by_cases hli : i < q.length
                    · obtain ⟨ad, rfl, hb, m0, m1, m2, m3, m4, m5⟩ := (HR3.out.below HBI.out).nd_at hli
                      have l1 := add_cell m1
                      have l2 := add_cell m2
                      have l3 := add_cell m3
                      have l4 := add_cell m4
                      have l5 := add_cell m5
                      obtain ⟨Av, cv, rfl⟩ := own_sl HV2.out
                      have HSUC : Hid (bs (bL q (factB q k) (i + 1)) = bs (bL q (factB q k) i) ++ [.bool (bNode (q.getD i nd0).op ((bL q (factB q k) i).getD (q.getD i nd0).x.toNat false) ((bL q (factB q k) i).getD (q.getD i nd0).y.toNat false) (k.testBit (q.getD i nd0).i.toNat))]) := Lib.hid (by
                        rw [bL_succ, bs_append, bNode_fact q k i (HK1.out i hli) (HP.out i hli)]
                        rfl)
                      have CV : Hid (Calls Tryd.prog 93 #[.agg #[.int .i64 (q.getD i nd0).op, .int .i64 (q.getD i nd0).i, .int .i64 (q.getD i nd0).e, .int .i64 (q.getD i nd0).g, .int .i64 (q.getD i nd0).x, .int .i64 (q.getD i nd0).y], .slice Av i cv, .int .i64 (k : Int)] wr fun e w' => e = .returned (.bool (bNode (q.getD i nd0).op ((bL q (factB q k) i).getD (q.getD i nd0).x.toNat false) ((bL q (factB q k) i).getD (q.getD i nd0).y.toNat false) (k.testBit (q.getD i nd0).i.toNat))) ∧ Below wr.heap.size wr w') := Lib.hid (value_any (q.getD i nd0) (bL q (factB q k) i) Av i cv k wr (Reads.of_own HV2.out) (HK1.out i hli) (HP.out i hli) (by omega) (HFL.out i hli) (HOP.out i hli))
                      generalize q.getD i nd0 = x at *
                      obtain ⟨op, ni, ne, ng, nx, ny⟩ := x
                      dsimp only at m0 m1 m2 m3 m4 m5 l1 l2 l3 l4 l5 CV HSUC
                      generalize bNode op ((bL q (factB q k) i).getD nx.toNat false) ((bL q (factB q k) i).getD ny.toNat false) (k.testBit ni.toNat) = bv at *
                      go_wp2_with fail
                      refine (CV.out).mono ?_
                      rintro e w4 ⟨rfl, hb4⟩
                      have HB4 := Lib.hid (HBI.out.trans (hb4.mono HBI.out.size))
                      have hO := own_keep1 HV2.out (fun g hg => hb4.block g (HV2.out.lt g hg).2)
                      have hsz4 := HB4.out.size
                      clear hb4 CV m0 m1 m2 m3 m4 m5 l1 l2 l3 l4 l5
                      go_wp2_with (at_builtin; refine wpList_append_own _ rfl _ _ 94 rfl w2.heap.size 4 i0 (.bool false) 1 1 Tryd.underlying94 hi0 hz0 hz1 hz2 rfl (by decide) _ _ _ rfl (hO.alloc _) ⟨w4.heap.size, 0, none⟩ 1 1 [.bool bv] rfl rfl ?k1 ?k2 ?k3 ?k4 ?k5 ?_)
                      case k1 =>
                        intro j u hj
                        match j, hj with
                        | 0, hj => simp at hj; subst hj; simp [Addr.add]
                      case k2 => intro u hu; simp at hu; subst hu; rfl
                      case k3 => unfold maxLen; omega
                      case k4 => omega
                      case k5 => simp; omega
                      intro v' w5 hown' hgrow _
                      have HV5 : Hid (w5.ownsRow w2.heap.size 4 1 v' (i + 1) (bs (bL q (factB q k) (i + 1)))) := Lib.hid (by rw [HSUC.out]; exact hown')
                      have HB5 : Hid (Below w2.heap.size w2 w5) := Lib.hid ((HB4.out.alloc HB4.out.size _).grown hgrow (by simp; omega) (fun g hg => (hO.lt g hg).1))
                      clear hown' hgrow hO
                      go_wp2
                      go_roundw
                      case rel => exact ⟨i + 1, by omega, by go_num, HV5, HB5⟩
                      case measure => simp [intOf]; omega
                    · have hil : i = q.length := by omega
                      subst hil
                      obtain ⟨Av, cv, rfl⟩ := own_sl HV2.out
                      obtain ⟨adv, rfl, _, hlast⟩ := (Reads.of_own HV2.out).bool_at (show q.length - 1 < q.length by omega)
                      have HSN := Lib.hid (tabL_snoc (lastB q) k)
                      have hlb : (bL q (factB q k) q.length).getD (q.length - 1) false = lastB q k := rfl
                      rw [hlb] at hlast
                      clear hlb HV2 hli
                      have hq9 : ((q.length - 1 : Nat) : Int) = (q.length : Int) - 1 := by omega
                      cases hbv : lastB q k
                      · rw [hbv] at hlast HSN
                        have HT2 : Hid (tabL (lastB q) (k + 1) = tabL (lastB q) k) := Lib.hid (HSN.out.trans (if_neg (by decide)))
                        clear HSN hbv
                        go_wp2
                        go_roundw
                        case rel => exact ⟨k + 1, by omega, by go_num, by rw [HT2.out], HBI⟩
                        case measure => simp [intOf]; omega
                      · rw [hbv] at hlast HSN
                        have HT2 : Hid (tabL (lastB q) (k + 1) = tabL (lastB q) k ||| 1 <<< k) := Lib.hid (HSN.out.trans (if_pos rfl))
                        have HOR : Hid (bits .or .u64 ((tabL (lastB q) k : Nat) : Int) ((2 ^ k : Nat) : Int) = ((tabL (lastB q) (k + 1) : Nat) : Int)) := Lib.hid (by rw [HT2.out]; exact or_shl (Nat.lt_of_lt_of_le (tabL_lt _ _) (by exact Nat.pow_le_pow_right (n := 2) (by decide) (show k ≤ 64 by omega))) (by omega))
                        clear HSN hbv
                        go_wp2
                        go_roundw
                        case rel => exact ⟨k + 1, by omega, by go_num, by rw [shl_u64 k (by omega), HOR.out], HBI⟩
                        case measure => simp [intOf]; omega
                · have hkP : P = k := by omega
                  subst hkP
                  clear hkp
                  go_wp2
                  go_ret2
                  exact ⟨by rw [HPE.out]; rfl, HB1.out.trans (HBK.out.mono HB1.out.size)⟩
            · obtain ⟨rfl, rfl⟩ := HE3.out e he6 rfl hfit
              have df : (((mk : Nat) : Int) / 2 ^ e != 0) = true := by
                have h3 : ((mk : Nat) : Int) / 2 ^ e = ((mk / 2 ^ e : Nat) : Int) := by push_cast; rfl
                rw [h3]
                simp only [bne_iff_ne, ne_eq]
                exact_mod_cast hfit
              clear HE3 HE4 hfit
              go_wp2_with fail
              refine (HFC2.out).mono ?_
              rintro r w2 ⟨rfl, hb2⟩
              have HB2 := Lib.hid hb2
              clear hb2 HFC2
              go_wp2
              go_ret2
              exact ⟨rfl, HB1.out.trans (HB2.out.mono HB1.out.size)⟩
          · have d6 : decide (6 < n) = true := decide_eq_true (by omega)
            obtain ⟨rfl, rfl⟩ := hE2 (fun k => h6 k.2)
            clear h0 h6
            go_wp2
            go_ret2
            exact ⟨rfl, HB1.out⟩
        · have d0 : decide (n < 0) = true := decide_eq_true (by omega)
          obtain ⟨rfl, rfl⟩ := hE2 (fun k => h0 k.1)
          clear h0
          go_wp2
          go_ret2
          exact ⟨rfl, HB1.out⟩
  · obtain ⟨e1, e2⟩ := tblE_bad (n := n) hz
    rw [e1, e2]
    have hz1 : (fErr f != 0) = true := by simpa using hz
    generalize fErr f = z at *
    clear hz e1 e2
    go_enter Tryd.func33, Tryd.ntmps33
    go_wp2_with fail
    refine (HV.out).mono ?_
    rintro e w1 ⟨rfl, hb1⟩
    have HB1 := Lib.hid hb1
    clear hb1
    go_wp2
    go_ret2
    exact ⟨rfl, HB1.out⟩
end Go.Proofs.YtkkkomkljpolbaaDoor
