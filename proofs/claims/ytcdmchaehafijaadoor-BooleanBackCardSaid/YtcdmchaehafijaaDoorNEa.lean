/- Layer 6: texts joined: Qa Ea Ee Ef Ec Ed Eb Ei. -/
import Derived.Test.YtcdmchaehafijaaDoorNJa
/- Layer 8 as plain mathematics: lists of nodes in which equal formulas have one place. -/
namespace Go.Proofs.Ws
open Go
/-- no two nodes are equal, operands come first -/
structure Bd (o : List Nd) : Prop where
  nodup : o.Nodup
  ops : opsL o
theorem Bd.nil : Bd [] := ⟨List.nodup_nil, fun i hi => absurd hi (by simp)⟩
theorem Bd.inj {o : List Nd} (h : Bd o) {t : Tr} {j k : Nat} (h1 : rep o j t) (h2 : rep o k t) : j = k := by
  have e1 := finT_old h.nodup t j h1
  have e2 := finT_old h.nodup t k h2
  rw [e1] at e2
  exact congrArg Prod.fst e2
theorem Bd.fn {o : List Nd} (h : Bd o) {s t : Tr} {k : Nat} (hs : trOk s) (ht : trOk t) (h1 : rep o k s) (h2 : rep o k t) : s = t :=
  (rep_tree h.ops s k hs h1).symm.trans (rep_tree h.ops t k ht h2)
theorem Bd.same {o : List Nd} (h : Bd o) {s t : Tr} {j k : Nat} (hs : trOk s) (ht : trOk t) (h1 : rep o j s) (h2 : rep o k t) : j = k ↔ s = t :=
  ⟨fun e => by subst e; exact h.fn hs ht h1 h2, fun e => by subst e; exact h.inj h1 h2⟩
theorem Bd.top {o : List Nd} (h : Bd o) {t : Tr} {k : Nat} (ht : trOk t) (h1 : rep o k t) : (o.getD k nd0).op = topT t := by
  rw [← topT_at h.ops (rep_lt h1), rep_tree h.ops t k ht h1]
/-- a canonical list is no longer than a list in which its tree lies -/
theorem Bd.len {o : List Nd} (h : Bd o) {t : Tr} {k : Nat} (ht : trOk t) (h1 : rep o k t) : (canT t).length ≤ o.length := by
  have key := len_sub (treesL t) ((List.range o.length).map (treeAt o)) (treesL_nodup ht) (fun a ha => by
    obtain ⟨j, hj⟩ := rep_sub h1 ((treesL_mem ht a).1 ha)
    exact List.mem_map.2 ⟨j, List.mem_range.2 (rep_lt hj), rep_tree h.ops a j (subT_ok ((treesL_mem ht a).1 ha) ht) hj⟩)
  have e : (treesL t).length = (canT t).length := by unfold treesL; rw [List.length_map, List.length_range]
  rw [e, List.length_map, List.length_range] at key
  exact key
/-- a formula was added with at most m nodes, at a place -/
structure Gr (m : Nat) (o : List Nd) (p : Nat × List Nd) (t : Tr) : Prop where
  bd : Bd p.2
  pre : o <+: p.2
  rep : rep p.2 p.1 t
  ok : trOk t
  len : p.2.length ≤ o.length + m
theorem Gr.mono {m m' : Nat} {o : List Nd} {p : Nat × List Nd} {t : Tr} (h : Gr m o p t) (hm : m ≤ m') : Gr m' o p t := ⟨h.bd, h.pre, h.rep, h.ok, by have := h.len; omega⟩
theorem Gr.old {o : List Nd} (h : Bd o) {k : Nat} {t : Tr} (h1 : Ws.rep o k t) (ht : trOk t) : Gr 0 o (k, o) t := ⟨h, List.prefix_refl _, h1, ht, Nat.le_refl _⟩
theorem Gr.then {m m' : Nat} {o : List Nd} {p q : Nat × List Nd} {s t : Tr} (h : Gr m o p s) (k : Gr m' p.2 q t) : Gr (m + m') o q t :=
  ⟨k.bd, h.pre.trans k.pre, k.rep, k.ok, by have := h.len; have := k.len; omega⟩
theorem Gr.leaf {o : List Nd} (h : Bd o) {n : Nd} (ht : trOk (.leaf n)) : Gr 1 o (putNd o n) (.leaf n) :=
  ⟨⟨putNd_nodup h.nodup n, by
    obtain ⟨h1, h2, h3⟩ := ht
    exact opsL_put h.ops ⟨by rw [if_neg (by simp [h1])]; exact (bare_x h3).1, by rw [if_neg (by simp [h2])]; exact (bare_x h3).2⟩⟩, putNd_pre _ _, putNd_at _ _, ht, (putNd_len _ _).1⟩
theorem Gr.un {o : List Nd} (h : Bd o) {n : Nd} {x : Nat} {a : Tr} (ht : trOk (.un n a)) (ha : Ws.rep o x a) : Gr 1 o (putNd o { n with x := (x : Int) }) (.un n a) :=
  ⟨⟨putNd_nodup h.nodup _, by
    obtain ⟨h1, h2, h3, _⟩ := ht
    have := rep_lt ha
    exact opsL_put h.ops ⟨by show if usesX n.op = true then _ else _; rw [if_pos h1]; exact ⟨Int.natCast_nonneg _, by show (x : Int) < _; omega⟩, by show if usesY n.op = true then _ else _; rw [if_neg (by simp [h2])]; exact (bare_x h3).2⟩⟩,
    putNd_pre _ _, ⟨x, putNd_at _ _, rep_mono (putNd_pre _ _) a x ha⟩, ht, (putNd_len _ _).1⟩
theorem Gr.bin {o : List Nd} (h : Bd o) {n : Nd} {x y : Nat} {a b : Tr} (ht : trOk (.bin n a b)) (ha : Ws.rep o x a) (hb : Ws.rep o y b) : Gr 1 o (putNd o { n with x := (x : Int), y := (y : Int) }) (.bin n a b) :=
  ⟨⟨putNd_nodup h.nodup _, by
    obtain ⟨h1, h2, h3, _⟩ := ht
    have := rep_lt ha
    have := rep_lt hb
    exact opsL_put h.ops ⟨by show if usesX n.op = true then _ else _; rw [if_pos h1]; exact ⟨Int.natCast_nonneg _, by show (x : Int) < _; omega⟩, by show if usesY n.op = true then _ else _; rw [if_pos h2]; exact ⟨Int.natCast_nonneg _, by show (y : Int) < _; omega⟩⟩⟩,
    putNd_pre _ _, ⟨x, y, putNd_at _ _, rep_mono (putNd_pre _ _) a x ha, rep_mono (putNd_pre _ _) b y hb⟩, ht, (putNd_len _ _).1⟩
theorem Gr.keep {m : Nat} {o : List Nd} {p : Nat × List Nd} {t : Tr} (h : Gr m o p t) {k : Nat} {s : Tr} (h1 : Ws.rep o k s) : Ws.rep p.2 k s := rep_mono h.pre s k h1
/-- plain nodes -/
def opN (op : Int) : Nd := ⟨op, 0, 0, 0, 0, 0⟩
def jN (op : Int) (x y : Nat) : Nd := ⟨op, 0, 0, 0, (x : Int), (y : Int)⟩
def cT (op : Int) : Tr := .leaf (opN op)
def notT (a : Tr) : Tr := .un (opN 4) a
def jT (op : Int) (a b : Tr) : Tr := .bin (opN op) a b
def cPut (o : List Nd) (op : Int) : Nat × List Nd := putNd o (jN op 0 0)
def nPut (o : List Nd) (x : Nat) : Nat × List Nd := putNd o (jN 4 x 0)
def jPut (o : List Nd) (op : Int) (x y : Nat) : Nat × List Nd := putNd o (jN op x y)
theorem usesY_no {op : Int} (h : usesX op = false) : usesY op = false := by
  cases e : usesY op with
  | false => rfl
  | true => rw [usesY_X e] at h; cases h
theorem Gr.const {o : List Nd} (h : Bd o) {op : Int} (h1 : usesX op = false) : Gr 1 o (cPut o op) (cT op) :=
  Gr.leaf h (n := opN op) ⟨h1, usesY_no h1, rfl⟩
theorem Gr.not {o : List Nd} (h : Bd o) {x : Nat} {a : Tr} (ha : Ws.rep o x a) (hk : trOk a) : Gr 1 o (nPut o x) (notT a) :=
  Gr.un h (n := opN 4) ⟨by decide, by decide, rfl, hk⟩ ha
theorem Gr.join {o : List Nd} (h : Bd o) {op : Int} (h1 : usesY op = true) {x y : Nat} {a b : Tr} (ha : Ws.rep o x a) (hb : Ws.rep o y b) (hk : trOk a) (hl : trOk b) : Gr 1 o (jPut o op x y) (jT op a b) :=
  Gr.bin h (n := opN op) ⟨usesY_X h1, h1, rfl, hk, hl⟩ ha hb
/-- one formula is Not of the other exactly if the node says so -/
theorem Bd.isNot {o : List Nd} (h : Bd o) {x y : Nat} {a b : Tr} (ha : rep o x a) (hb : rep o y b) (hk : trOk a) (hl : trOk b) : o.getD x nd0 = jN 4 y 0 ↔ a = notT b := by
  constructor
  · intro e
    have e1 := rep_tree h.ops a x hk ha
    rw [treeAt_eq h.ops (rep_lt ha), e, if_neg (show ¬ usesY (jN 4 y 0).op = true from fun k => absurd (show usesY 4 = true from k) (by decide)), if_pos (show usesX (jN 4 y 0).op = true from (by decide : usesX 4 = true))] at e1
    have e2 : (jN 4 y 0).x.toNat = y := Int.toNat_natCast y
    rw [e2, rep_tree h.ops b y hl hb] at e1
    exact e1.symm
  · intro e
    subst e
    obtain ⟨z, hz, hr⟩ := ha
    have := h.inj hr hb
    subst this
    exact getD_some hz
/-- the formula without its negation, or with one -/
def negT : Tr → Tr
  | .leaf n => notT (.leaf n)
  | .un n a => if n.op = 4 then a else notT (.un n a)
  | .bin n a b => notT (.bin n a b)
def negP (o : List Nd) (x : Nat) : Nat × List Nd := if (o.getD x nd0).op = 4 then ((o.getD x nd0).x.toNat, o) else nPut o x
theorem negT_not {t : Tr} (ht : trOk t) (h : topT t ≠ 4) : negT t = notT t := by
  cases t with
  | leaf n => rfl
  | un n a => exact if_neg h
  | bin n a b => rfl
theorem Gr.neg {o : List Nd} (h : Bd o) {x : Nat} {a : Tr} (ha : Ws.rep o x a) (hk : trOk a) : Gr 1 o (negP o x) (negT a) := by
  have ht := h.top hk ha
  unfold negP
  by_cases e : topT a = 4
  · rw [if_pos (ht.trans e)]
    cases a with
    | leaf n => have : n.op = 4 := e; have h1 := hk.1; rw [this] at h1; exact absurd h1 (by decide)
    | bin n a b => have : n.op = 4 := e; have h1 := hk.2.1; rw [this] at h1; exact absurd h1 (by decide)
    | un n a =>
      obtain ⟨z, hz, hr⟩ := ha
      have e2 : negT (.un n a) = a := if_pos (show n.op = 4 from e)
      rw [e2, getD_some hz]
      show Gr 1 o ((z : Int).toNat, o) a
      rw [Int.toNat_natCast]
      exact (Gr.old h hr hk.2.2.2).mono (by omega)
  · rw [if_neg (fun k => e (ht.symm.trans k)), negT_not hk e]
    exact Gr.not h ha hk
end Go.Proofs.Ws
/- Layer 9 as plain mathematics: a formula at 64 valuations at once. -/
namespace Go.Proofs.Ws
open Go
def w64 : Nat := 2 ^ 64 - 1
theorem w64_bit {v : Nat} (h : v < 64) : w64.testBit v = true := by unfold w64; rw [Nat.testBit_two_pow_sub_one]; simpa using h
theorem not_bit {x v : Nat} (h : v < 64) : (w64 ^^^ x).testBit v = !x.testBit v := by rw [Nat.testBit_xor, w64_bit h]; cases x.testBit v <;> rfl
/-- the word of a node, of those of its operands; g: that of an atom -/
def wNode (op : Int) (x y g : Nat) : Nat :=
  if op = 1 then w64 else if op = 2 then 0 else if op = 4 then w64 ^^^ x else if op = 5 then x &&& y else if op = 6 then x ||| y else if op = 7 then (w64 ^^^ x) ||| y else if op = 8 then w64 ^^^ (x ^^^ y) else g
/-- the truth of a node -/
def bNode (op : Int) (x y g : Bool) : Bool :=
  if op = 1 then true else if op = 2 then false else if op = 4 then !x else if op = 5 then x && y else if op = 6 then x || y else if op = 7 then !x || y else if op = 8 then x == y else g
theorem wNode_bit (op : Int) {x y g v : Nat} (h : v < 64) : (wNode op x y g).testBit v = bNode op (x.testBit v) (y.testBit v) (g.testBit v) := by
  unfold wNode bNode
  by_cases h1 : op = 1
  · rw [if_pos h1, if_pos h1]; exact w64_bit h
  rw [if_neg h1, if_neg h1]
  by_cases h2 : op = 2
  · rw [if_pos h2, if_pos h2]; exact Nat.zero_testBit v
  rw [if_neg h2, if_neg h2]
  by_cases h4 : op = 4
  · rw [if_pos h4, if_pos h4]; exact not_bit h
  rw [if_neg h4, if_neg h4]
  by_cases h5 : op = 5
  · rw [if_pos h5, if_pos h5]; exact Nat.testBit_and x y v
  rw [if_neg h5, if_neg h5]
  by_cases h6 : op = 6
  · rw [if_pos h6, if_pos h6]; exact Nat.testBit_or x y v
  rw [if_neg h6, if_neg h6]
  by_cases h7 : op = 7
  · rw [if_pos h7, if_pos h7, Nat.testBit_or, not_bit h]
  rw [if_neg h7, if_neg h7]
  by_cases h8 : op = 8
  · rw [if_pos h8, if_pos h8, not_bit h, Nat.testBit_xor]
    cases x.testBit v <;> cases y.testBit v <;> rfl
  rw [if_neg h8, if_neg h8]
/-- the words of the nodes, operands first; g: the words of the atoms by their places -/
def wL (q : List Nd) (g : List Nat) : Nat → List Nat
  | 0 => []
  | i + 1 => wL q g i ++ [wNode (q.getD i nd0).op ((wL q g i).getD (q.getD i nd0).x.toNat 0) ((wL q g i).getD (q.getD i nd0).y.toNat 0) (g.getD i 0)]
def bL (q : List Nd) (g : Nat → Bool) : Nat → List Bool
  | 0 => []
  | i + 1 => bL q g i ++ [bNode (q.getD i nd0).op ((bL q g i).getD (q.getD i nd0).x.toNat false) ((bL q g i).getD (q.getD i nd0).y.toNat false) (g i)]
theorem wL_len (q : List Nd) (g : List Nat) : ∀ i, (wL q g i).length = i
  | 0 => rfl
  | i + 1 => by show (wL q g i ++ [_]).length = _; rw [List.length_append, wL_len q g i]; rfl
theorem bL_len (q : List Nd) (g : Nat → Bool) : ∀ i, (bL q g i).length = i
  | 0 => rfl
  | i + 1 => by show (bL q g i ++ [_]).length = _; rw [List.length_append, bL_len q g i]; rfl
theorem snocW {l : List Nat} {v j : Nat} : (l ++ [v]).getD j 0 = if j = l.length then v else l.getD j 0 := by
  rw [List.getD_eq_getElem?_getD, List.getD_eq_getElem?_getD]
  by_cases e : j = l.length
  · rw [if_pos e, e]; simp
  · rw [if_neg e]
    by_cases h : j < l.length
    · rw [List.getElem?_append_left h]
    · rw [List.getElem?_eq_none (by simp; omega), List.getElem?_eq_none (by omega)]
theorem snocB {l : List Bool} {v : Bool} {j : Nat} : (l ++ [v]).getD j false = if j = l.length then v else l.getD j false := by
  rw [List.getD_eq_getElem?_getD, List.getD_eq_getElem?_getD]
  by_cases e : j = l.length
  · rw [if_pos e, e]; simp
  · rw [if_neg e]
    by_cases h : j < l.length
    · rw [List.getElem?_append_left h]
    · rw [List.getElem?_eq_none (by simp; omega), List.getElem?_eq_none (by omega)]
/-- each bit of the words is a row of truths -/
theorem wL_bit (q : List Nd) (g : List Nat) {v : Nat} (h : v < 64) : ∀ i j, ((wL q g i).getD j 0).testBit v = (bL q (fun k => (g.getD k 0).testBit v) i).getD j false
  | 0, j => by show (0 : Nat).testBit v = false; exact Nat.zero_testBit v
  | i + 1, j => by
    show ((wL q g i ++ [_]).getD j 0).testBit v = (bL q _ i ++ [_]).getD j false
    rw [snocW, snocB, wL_len, bL_len]
    by_cases e : j = i
    · rw [if_pos e, if_pos e, wNode_bit _ h, wL_bit q g h i, wL_bit q g h i]
    · rw [if_neg e, if_neg e]; exact wL_bit q g h i j
theorem wNode_lt (op : Int) {x y g : Nat} (hx : x < 2 ^ 64) (hy : y < 2 ^ 64) (hg : g < 2 ^ 64) : wNode op x y g < 2 ^ 64 := by
  have hw : w64 < 2 ^ 64 := by decide
  unfold wNode
  repeat' split
  · exact hw
  · decide
  · exact Nat.xor_lt_two_pow hw hx
  · exact Nat.and_lt_two_pow x hy
  · exact Nat.or_lt_two_pow hx hy
  · exact Nat.or_lt_two_pow (Nat.xor_lt_two_pow hw hx) hy
  · exact Nat.xor_lt_two_pow hw (Nat.xor_lt_two_pow hx hy)
  · exact hg
/-- the truth of a tree; g: that of its atoms -/
def bT (g : Tr → Bool) : Tr → Bool
  | .leaf n => bNode n.op false false (g (.leaf n))
  | .un n a => bNode n.op (bT g a) false (g (.un n a))
  | .bin n a b => bNode n.op (bT g a) (bT g b) (g (.bin n a b))
theorem bNode_x {op : Int} (h : usesX op = false) (x x' y y' g : Bool) : bNode op x y g = bNode op x' y' g := by
  have h4 : op ≠ 4 := by intro e; rw [e] at h; cases h
  have h5 : op ≠ 5 := by intro e; rw [e] at h; cases h
  have h6 : op ≠ 6 := by intro e; rw [e] at h; cases h
  have h7 : op ≠ 7 := by intro e; rw [e] at h; cases h
  have h8 : op ≠ 8 := by intro e; rw [e] at h; cases h
  unfold bNode
  rw [if_neg h4, if_neg h5, if_neg h6, if_neg h7, if_neg h8, if_neg h4, if_neg h5, if_neg h6, if_neg h7, if_neg h8]
theorem bNode_y {op : Int} (h : usesY op = false) (x y y' g : Bool) : bNode op x y g = bNode op x y' g := by
  have h5 : op ≠ 5 := by intro e; rw [e] at h; cases h
  have h6 : op ≠ 6 := by intro e; rw [e] at h; cases h
  have h7 : op ≠ 7 := by intro e; rw [e] at h; cases h
  have h8 : op ≠ 8 := by intro e; rw [e] at h; cases h
  unfold bNode
  rw [if_neg h5, if_neg h6, if_neg h7, if_neg h8, if_neg h5, if_neg h6, if_neg h7, if_neg h8]
/-- the row of truths is that of the trees -/
theorem bL_tree {q : List Nd} (hq : opsL q) (g : Tr → Bool) : ∀ i, i ≤ q.length → ∀ j, j < i → (bL q (fun k => g (treeAt q k)) i).getD j false = bT g (treeAt q j)
  | 0, _, j, hj => absurd hj (by omega)
  | i + 1, hi, j, hj => by
    have ih := bL_tree hq g i (by omega)
    show (bL q _ i ++ [_]).getD j false = _
    rw [snocB, bL_len]
    by_cases e : j = i
    · subst e
      rw [if_pos rfl]
      have hop := hq j (by omega)
      have ht := treeAt_eq hq (show j < q.length by omega)
      by_cases hy : usesY (q.getD j nd0).op = true
      · have hx := usesY_X hy
        rw [if_pos hy] at ht
        rw [ih _ (opsOk_x hop hx).2, ih _ (opsOk_y hop hy).2]
        show bNode _ _ _ (g (treeAt q j)) = bT g (treeAt q j)
        rw [ht]; rfl
      · rw [if_neg hy] at ht
        by_cases hx : usesX (q.getD j nd0).op = true
        · rw [if_pos hx] at ht
          rw [ih _ (opsOk_x hop hx).2]
          show bNode _ _ _ (g (treeAt q j)) = bT g (treeAt q j)
          rw [ht]
          exact bNode_y (Bool.eq_false_iff.2 hy) _ _ _ _
        · rw [if_neg hx] at ht
          show bNode _ _ _ (g (treeAt q j)) = bT g (treeAt q j)
          rw [ht]
          exact bNode_x (Bool.eq_false_iff.2 hx) _ _ _ _ _
    · rw [if_neg e]; exact ih j (by omega)
/-- the columns of the facts: bit v of column i is bit i of v -/
def colN : Nat → Nat
  | 0 => 0xaaaaaaaaaaaaaaaa
  | 1 => 0xcccccccccccccccc
  | 2 => 0xf0f0f0f0f0f0f0f0
  | 3 => 0xff00ff00ff00ff00
  | 4 => 0xffff0000ffff0000
  | 5 => 0xffffffff00000000
  | _ => 0
theorem col_bit : ∀ i, i < 6 → ∀ v, v < 64 → (colN i).testBit v = v.testBit i := by decide +kernel
theorem col_lt : ∀ i, colN i < 2 ^ 64
  | 0 => by decide
  | 1 => by decide
  | 2 => by decide
  | 3 => by decide
  | 4 => by decide
  | 5 => by decide
  | _ + 6 => by show (0 : Nat) < _; decide
/-- a truth table of n facts: the bits below 2 ^ n -/
def fullN (n : Nat) : Nat := 2 ^ (2 ^ n) - 1
theorem full_bit {n v : Nat} : (fullN n).testBit v = decide (v < 2 ^ n) := Nat.testBit_two_pow_sub_one _ _
/-- the loop of the reference: bit k is set where p k -/
def tabL (p : Nat → Bool) : Nat → Nat
  | 0 => 0
  | k + 1 => if p k = true then tabL p k ||| 1 <<< k else tabL p k
theorem tabL_bit (p : Nat → Bool) : ∀ m v, (tabL p m).testBit v = (decide (v < m) && p v)
  | 0, v => by show (0 : Nat).testBit v = _; rw [Nat.zero_testBit]; simp
  | m + 1, v => by
    have ih := tabL_bit p m v
    have one : (1 <<< m : Nat).testBit v = decide (m = v) := by
      rw [Nat.shiftLeft_eq, Nat.one_mul]
      exact Nat.testBit_two_pow
    unfold tabL
    by_cases e : v = m
    · subst e
      have h0 : (tabL p v).testBit v = false := by rw [ih]; simp
      split
      · rename_i hp
        rw [Nat.testBit_or, one, hp]; simp
      · rename_i hp
        rw [h0]; simp [Bool.eq_false_iff.2 hp]
    · have hd : decide (v < m + 1) = decide (v < m) := by simp; omega
      have hm : decide (m = v) = false := by simp; omega
      split
      · rw [Nat.testBit_or, one, hm, ih, hd, Bool.or_false]
      · rw [ih, hd]
end Go.Proofs.Ws
/- Layer 9 as plain mathematics: tautologies by words of 64 valuations. -/
namespace Go.Proofs.Ws
open Go
/-- the word of an atom: the first six are columns, the others as the round u says -/
def gW (a : List Nat) (u : Nat) (i : Nat) : Nat := if i ∈ a then (if a.idxOf i < 6 then colN (a.idxOf i) else if u.testBit (a.idxOf i - 6) = true then w64 else 0) else 0
/-- a word list for a round -/
def gWL (a : List Nat) (n u : Nat) : List Nat := (List.range n).map (gW a u)
theorem gWL_at (a : List Nat) {n u i : Nat} (h : i < n) : (gWL a n u).getD i 0 = gW a u i := by
  unfold gWL
  rw [List.getD_eq_getElem?_getD, List.getElem?_map, List.getElem?_range h]; rfl
/-- the truths do not depend on atoms behind the list -/
theorem bL_take {q : List Nd} {g h : Nat → Bool} : ∀ i, (∀ j, j < i → g j = h j) → bL q g i = bL q h i
  | 0, _ => rfl
  | i + 1, e => by
    show bL q g i ++ [_] = bL q h i ++ [_]
    rw [bL_take i (fun j hj => e j (by omega)), e i (by omega)]
end Go.Proofs.Ws
/- Layer 9 as plain mathematics: the walk to the atoms, by recursion and by a stack; truth tables. -/
namespace Go.Proofs.Ws
open Go
/-- the operands of a node through which a walk to the atoms goes -/
def kids (n : Nd) : List Nat := if n.op = 4 then [n.x.toNat] else if 5 ≤ n.op ∧ n.op ≤ 8 then [n.x.toNat, n.y.toNat] else []
/-- the nodes met, in their order -/
structure TS where
  met : List Bool
  order : List Nat
def TS.mark (s : TS) (i : Nat) : TS := ⟨s.met.set i true, s.order ++ [i]⟩
/-- the recursion -/
def meetF (q : List Nd) : Nat → Nat → TS → TS
  | 0, _, s => s
  | fuel + 1, i, s => if s.met.getD i false = true then s else (kids (q.getD i nd0)).foldl (fun t k => meetF q fuel k t) (s.mark i)
/-- the stack -/
inductive StackR (q : List Nd) : List Nat → TS → TS → Prop where
  | nil (s : TS) : StackR q [] s s
  | skip {i : Nat} {S : List Nat} {s s' : TS} : s.met.getD i false = true → StackR q S s s' → StackR q (i :: S) s s'
  | visit {i : Nat} {S : List Nat} {s s' : TS} : s.met.getD i false = false → StackR q (kids (q.getD i nd0) ++ S) (s.mark i) s' → StackR q (i :: S) s s'
theorem StackR.fn {q : List Nd} {S : List Nat} {s a b : TS} (h : StackR q S s a) (k : StackR q S s b) : a = b := by
  induction h with
  | nil s => cases k; rfl
  | skip h1 _ ih =>
    cases k with
    | skip _ k2 => exact ih k2
    | visit k1 _ => rw [h1] at k1; cases k1
  | visit h1 _ ih =>
    cases k with
    | skip k1 _ => rw [h1] at k1; cases k1
    | visit _ k2 => exact ih k2
theorem kids_lt {q : List Nd} (hq : opsL q) {i : Nat} (hi : i < q.length) : ∀ k ∈ kids (q.getD i nd0), k < i := by
  intro k hk
  have hop := hq i hi
  unfold kids at hk
  split at hk
  · rename_i h4
    rw [List.mem_singleton.1 hk]
    exact (opsOk_x hop (by rw [h4]; decide)).2
  · split at hk
    · rename_i h5
      have hy : usesY (q.getD i nd0).op = true := by
        generalize (q.getD i nd0).op = c at h5 ⊢
        unfold usesY
        simp only [Bool.or_eq_true, Bool.and_eq_true, decide_eq_true_eq]
        omega
      rcases List.mem_cons.1 hk with rfl | hk
      · exact (opsOk_x hop (usesY_X hy)).2
      · rw [List.mem_singleton.1 hk]
        exact (opsOk_y hop hy).2
    · cases hk
/-- the atoms among the nodes met -/
def atomOp (op : Int) : Bool := decide (op = 3) || decide (8 < op)
def atomsL (q : List Nd) (order : List Nat) : List Nat := order.filter (fun i => atomOp (q.getD i nd0).op)
theorem atomsL_snoc (q : List Nd) (l : List Nat) (i : Nat) : atomsL q (l ++ [i]) = if atomOp (q.getD i nd0).op = true then atomsL q l ++ [i] else atomsL q l := by
  unfold atomsL
  rw [List.filter_append]
  by_cases h : atomOp (q.getD i nd0).op = true
  · rw [if_pos h, List.filter_cons_of_pos (p := fun i => atomOp (q.getD i nd0).op) h]; rfl
  · rw [if_neg h, List.filter_cons_of_neg (p := fun i => atomOp (q.getD i nd0).op) h]; exact List.append_nil _
/-- what is met stands in the order once -/
structure MetOk (n : Nat) (s : TS) : Prop where
  len : s.met.length = n
  mem : ∀ i, i ∈ s.order ↔ s.met.getD i false = true
  nodup : s.order.Nodup
theorem getB_set {u : List Bool} {i j : Nat} (h : i < u.length) : (u.set i true).getD j false = if i = j then true else u.getD j false := by
  rw [List.getD_eq_getElem?_getD, List.getElem?_set]
  by_cases e : i = j
  · rw [if_pos e, if_pos e, if_pos h]; rfl
  · rw [if_neg e, if_neg e, ← List.getD_eq_getElem?_getD]
theorem MetOk.mark {n : Nat} {s : TS} (h : MetOk n s) {i : Nat} (hi : i < n) (hm : s.met.getD i false = false) : MetOk n (s.mark i) := by
  have hl := h.len
  refine ⟨by show (s.met.set i true).length = n; rw [List.length_set]; exact hl, fun j => ?_, ?_⟩
  · show j ∈ s.order ++ [i] ↔ (s.met.set i true).getD j false = true
    rw [getB_set (by omega), List.mem_append, List.mem_singleton, h.mem j]
    by_cases e : i = j
    · rw [if_pos e]; exact ⟨fun _ => rfl, fun _ => .inr e.symm⟩
    · rw [if_neg e]; exact ⟨fun k => k.resolve_right (fun k => e k.symm), .inl⟩
  · show (s.order ++ [i]).Nodup
    rw [List.nodup_append]
    refine ⟨h.nodup, by simp, fun a ha b hb e => ?_⟩
    rw [List.mem_singleton.1 hb] at e
    rw [e, h.mem i, hm] at ha
    cases ha
theorem meet_ok {q : List Nd} (hq : opsL q) : ∀ (fuel i : Nat), i < fuel → i < q.length → ∀ s, MetOk q.length s → MetOk q.length (meetF q fuel i s)
  | 0, i, h, _, _, _ => absurd h (by omega)
  | fuel + 1, i, h, hi, s, hs => by
    have ih := meet_ok hq fuel
    unfold meetF
    by_cases hm : s.met.getD i false = true
    · rw [if_pos hm]; exact hs
    · rw [if_neg hm]
      have hk := kids_lt hq hi
      have hs2 := hs.mark hi (Bool.eq_false_iff.2 hm)
      revert hs2 hk
      generalize kids (q.getD i nd0) = l
      generalize s.mark i = t
      intro hk hs2
      induction l generalizing t with
      | nil => exact hs2
      | cons k l ihl =>
        have hk1 := hk k List.mem_cons_self
        exact ihl (meetF q fuel k t) (fun m hm => hk m (List.mem_cons_of_mem _ hm)) (ih k (by omega) (by omega) t hs2)
theorem met_start (n : Nat) : MetOk n ⟨List.replicate n false, []⟩ := by
  refine ⟨by simp, fun i => ?_, List.nodup_nil⟩
  show i ∈ [] ↔ (List.replicate n false).getD i false = true
  rw [List.getD_eq_getElem?_getD, List.getElem?_replicate]
  constructor
  · intro h; cases h
  · split <;> intro h <;> cases h
/-- the atoms of a canonical list -/
def atomsOf (q : List Nd) : List Nat := atomsL q (meetF q q.length (q.length - 1) ⟨List.replicate q.length false, []⟩).order
theorem atoms_nodup {q : List Nd} (hq : opsL q) (hne : q ≠ []) : (atomsOf q).Nodup := by
  have hp := List.length_pos_iff.2 hne
  exact (meet_ok hq q.length (q.length - 1) (by omega) (by omega) _ (met_start _)).nodup.filter _
theorem atoms_lt {q : List Nd} (hq : opsL q) (hne : q ≠ []) : ∀ i ∈ atomsOf q, i < q.length ∧ atomOp (q.getD i nd0).op = true := by
  intro i hi
  have hp := List.length_pos_iff.2 hne
  have hm := meet_ok hq q.length (q.length - 1) (by omega) (by omega) _ (met_start q.length)
  obtain ⟨h1, h2⟩ := List.mem_filter.1 hi
  have h3 := (hm.mem i).1 h1
  refine ⟨?_, h2⟩
  by_cases hl : i < q.length
  · exact hl
  · rw [List.getD_eq_getElem?_getD, List.getElem?_eq_none (by rw [hm.len]; omega)] at h3; cases h3
/-- the words of the facts -/
def factW (q : List Nd) : List Nat := q.map (fun n => if n.op = 3 then colN n.i.toNat else 0)
def factB (q : List Nd) (v i : Nat) : Bool := decide ((q.getD i nd0).op = 3) && v.testBit (q.getD i nd0).i.toNat
theorem factW_at (q : List Nd) {i : Nat} (h : i < q.length) : (factW q).getD i 0 = if (q.getD i nd0).op = 3 then colN (q.getD i nd0).i.toNat else 0 := by
  unfold factW
  rw [List.getD_eq_getElem?_getD, List.getElem?_map, List.getD_eq_getElem?_getD, List.getElem?_eq_getElem h]; rfl
/-- a truth table by words and valuation by valuation -/
theorem table_eq {q : List Nd} (hf : ∀ n ∈ q, n.op = 3 → n.i.toNat < 6) {n : Nat} (hn : n ≤ 6) (j : Nat) :
    (wL q (factW q) q.length).getD j 0 &&& fullN n = tabL (fun v => (bL q (factB q v) q.length).getD j false) (2 ^ n) := by
  apply Nat.eq_of_testBit_eq
  intro v
  rw [Nat.testBit_and, full_bit, tabL_bit]
  by_cases hv : v < 2 ^ n
  · have h64 : v < 64 := by
      have : 2 ^ n ≤ 2 ^ 6 := Nat.pow_le_pow_right (by decide) hn
      omega
    rw [wL_bit q _ h64]
    rw [bL_take (g := fun k => ((factW q).getD k 0).testBit v) (h := factB q v) q.length (fun i hi => by
      show ((factW q).getD i 0).testBit v = factB q v i
      rw [factW_at q hi]
      unfold factB
      by_cases h3 : (q.getD i nd0).op = 3
      · rw [if_pos h3, col_bit _ (hf _ (by
          rw [List.getD_eq_getElem?_getD, List.getElem?_eq_getElem hi]; exact List.getElem_mem _) h3) _ h64, decide_eq_true h3, Bool.true_and]
      · rw [if_neg h3, Nat.zero_testBit, decide_eq_false h3, Bool.false_and])]
    simp [hv]
  · simp [hv]
end Go.Proofs.Ws
/- Layer 9 as plain mathematics: a formula with a given truth table. -/
namespace Go.Proofs.Ws
open Go
def factN (i : Nat) : Tr := .leaf ⟨3, (i : Int), 0, 0, 0, 0⟩
/-- each bit of the one is one of the other -/
def subB (a b : Nat) : Prop := a &&& b = a
instance (a b : Nat) : Decidable (subB a b) := by unfold subB; infer_instance
theorem subB_bit {a b : Nat} (h : subB a b) {j : Nat} (k : a.testBit j = true) : b.testBit j = true := by
  have : (a &&& b).testBit j = true := by rw [h]; exact k
  rw [Nat.testBit_and, Bool.and_eq_true] at this
  exact this.2
def lowN (n t : Nat) : Nat := t &&& fullN n
def highN (n t : Nat) : Nat := t >>> 2 ^ n
def withT (n low high : Nat) (w : Tr) : Tr := if subB high low then w else jT 5 (factN n) w
def withoutT (n low high : Nat) (w : Tr) : Tr := if subB low high then w else jT 5 (notT (factN n)) w
/-- the formula with a truth table of n facts, by the cases of the last one -/
def expT : Nat → Nat → Tr
  | 0, t => if t = 0 then cT 2 else cT 1
  | n + 1, t => if t = 0 then cT 2 else if t = fullN (n + 1) then cT 1 else
    if lowN n t = highN n t then expT n (highN n t)
    else jT 6 (withT n (lowN n t) (highN n t) (expT n (highN n t))) (withoutT n (lowN n t) (highN n t) (expT n (lowN n t)))
/-- the truth of the facts at a valuation -/
def gF (v : Nat) : Tr → Bool
  | .leaf n => decide (n.op = 3) && v.testBit n.i.toNat
  | _ => false
theorem bT_fact (v i : Nat) : bT (gF v) (factN i) = v.testBit i := by
  show bNode 3 false false (gF v (factN i)) = _
  show gF v (factN i) = _
  show (decide ((3 : Int) = 3) && v.testBit ((i : Int).toNat)) = _
  rw [Int.toNat_natCast]; rfl
theorem bT_and (g : Tr → Bool) (a b : Tr) : bT g (jT 5 a b) = (bT g a && bT g b) := rfl
theorem bT_or (g : Tr → Bool) (a b : Tr) : bT g (jT 6 a b) = (bT g a || bT g b) := rfl
theorem bT_not (g : Tr → Bool) (a : Tr) : bT g (notT a) = !bT g a := rfl
theorem low_lt (n t : Nat) : lowN n t < 2 ^ 2 ^ n := by
  unfold lowN fullN
  rw [Nat.and_two_pow_sub_one_eq_mod]
  exact Nat.mod_lt _ (Nat.two_pow_pos _)
theorem high_lt {n t : Nat} (h : t < 2 ^ 2 ^ (n + 1)) : highN n t < 2 ^ 2 ^ n := by
  unfold highN
  rw [Nat.shiftRight_eq_div_pow]
  apply Nat.div_lt_of_lt_mul
  rw [← Nat.pow_add, show 2 ^ n + 2 ^ n = 2 ^ (n + 1) by rw [Nat.pow_succ]; omega]
  exact h
theorem low_bit {n t r : Nat} (h : r < 2 ^ n) : (lowN n t).testBit r = t.testBit r := by
  unfold lowN
  rw [Nat.testBit_and, full_bit]
  simp [h]
theorem high_bit {n t r : Nat} : (highN n t).testBit r = t.testBit (2 ^ n + r) := by
  unfold highN; rw [Nat.testBit_shiftRight]
theorem mod_succ (v n : Nat) : v % 2 ^ (n + 1) = if v.testBit n = true then 2 ^ n + v % 2 ^ n else v % 2 ^ n := by
  apply Nat.eq_of_testBit_eq
  intro j
  rw [Nat.testBit_mod_two_pow]
  by_cases hb : v.testBit n = true
  · rw [if_pos hb]
    by_cases e : j = n
    · subst e
      rw [Nat.testBit_two_pow_add_eq, Nat.testBit_mod_two_pow, hb]; simp
    · by_cases hj : j < n
      · rw [Nat.testBit_two_pow_add_gt hj, Nat.testBit_mod_two_pow]
        simp [hj]; omega
      · have h1 : 2 ^ n + v % 2 ^ n < 2 ^ (n + 1) := by
          have := Nat.mod_lt v (Nat.two_pow_pos n)
          rw [Nat.pow_succ]; omega
        rw [Nat.testBit_lt_two_pow (Nat.lt_of_lt_of_le h1 (Nat.pow_le_pow_right (by decide) (by omega)))]
        simp; omega
  · rw [if_neg hb, Nat.testBit_mod_two_pow]
    by_cases e : j = n
    · subst e
      rw [Bool.eq_false_iff.2 hb]; simp
    · have : decide (j < n + 1) = decide (j < n) := by simp; omega
      rw [this]
/-- its truth table -/
theorem exp_bit (v : Nat) : ∀ n t, t < 2 ^ 2 ^ n → bT (gF v) (expT n t) = t.testBit (v % 2 ^ n)
  | 0, t, h => by
    have h : t < 2 := h
    unfold expT
    rw [Nat.pow_zero, Nat.mod_one]
    by_cases e : t = 0
    · rw [if_pos e, e]; rfl
    · have : t = 1 := by omega
      rw [if_neg e, this]; rfl
  | n + 1, t, h => by
    have hr := Nat.mod_lt v (Nat.two_pow_pos (n + 1))
    have hr0 := Nat.mod_lt v (Nat.two_pow_pos n)
    unfold expT
    by_cases e0 : t = 0
    · rw [if_pos e0, e0, Nat.zero_testBit]; rfl
    rw [if_neg e0]
    by_cases e1 : t = fullN (n + 1)
    · rw [if_pos e1, e1, full_bit]; simp [hr]; rfl
    rw [if_neg e1]
    have ihl := exp_bit v n (lowN n t) (low_lt n t)
    have ihh := exp_bit v n (highN n t) (high_lt h)
    have key : t.testBit (v % 2 ^ (n + 1)) = if v.testBit n = true then (highN n t).testBit (v % 2 ^ n) else (lowN n t).testBit (v % 2 ^ n) := by
      rw [mod_succ, high_bit, low_bit hr0]
      split <;> rfl
    rw [key]
    by_cases e2 : lowN n t = highN n t
    · rw [if_pos e2, ihh, e2]
      split <;> rfl
    · rw [if_neg e2, bT_or]
      unfold withT withoutT
      by_cases hf : v.testBit n = true
      · rw [if_pos hf]
        have h1 : bT (gF v) (if subB (highN n t) (lowN n t) then expT n (highN n t) else jT 5 (factN n) (expT n (highN n t))) = (highN n t).testBit (v % 2 ^ n) := by
          split
          · exact ihh
          · rw [bT_and, bT_fact, hf, ihh]; rfl
        rw [h1]
        split
        · rename_i hs
          rw [ihl]
          cases hb : (lowN n t).testBit (v % 2 ^ n) with
          | false => exact Bool.or_false _
          | true => rw [subB_bit hs hb]; rfl
        · rw [bT_and, bT_not, bT_fact, hf]; exact Bool.or_false _
      · have hf2 := Bool.eq_false_iff.2 hf
        rw [if_neg hf]
        have h1 : bT (gF v) (if subB (lowN n t) (highN n t) then expT n (lowN n t) else jT 5 (notT (factN n)) (expT n (lowN n t))) = (lowN n t).testBit (v % 2 ^ n) := by
          split
          · exact ihl
          · rw [bT_and, bT_not, bT_fact, hf2, ihl]; rfl
        rw [h1]
        split
        · rename_i hs
          rw [ihh]
          cases hb : (highN n t).testBit (v % 2 ^ n) with
          | false => exact Bool.false_or _
          | true => rw [subB_bit hs hb]; rfl
        · rw [bT_and, bT_fact, hf2]; exact Bool.false_or _
end Go.Proofs.Ws
/- Layer 9 as plain mathematics: the formula with a given truth table has at most 111 nodes. -/
namespace Go.Proofs.Ws
open Go
theorem fact_ok (i : Nat) : trOk (factN i) := ⟨by show usesX 3 = false; decide, by show usesY 3 = false; decide, rfl⟩
theorem c1_ok : trOk (cT 1) := ⟨by decide, by decide, rfl⟩
theorem c2_ok : trOk (cT 2) := ⟨by decide, by decide, rfl⟩
theorem not_ok {a : Tr} (h : trOk a) : trOk (notT a) := ⟨by decide, by decide, rfl, h⟩
theorem and_ok {a b : Tr} (h : trOk a) (k : trOk b) : trOk (jT 5 a b) := ⟨by decide, by decide, rfl, h, k⟩
theorem or_ok {a b : Tr} (h : trOk a) (k : trOk b) : trOk (jT 6 a b) := ⟨by decide, by decide, rfl, h, k⟩
theorem exp_ok : ∀ n t, trOk (expT n t)
  | 0, t => by unfold expT; split; exact c2_ok; exact c1_ok
  | n + 1, t => by
    have h1 := exp_ok n (lowN n t)
    have h2 := exp_ok n (highN n t)
    unfold expT
    split
    · exact c2_ok
    split
    · exact c1_ok
    split
    · exact h2
    refine or_ok ?_ ?_
    · unfold withT
      split
      · exact h2
      · exact and_ok (fact_ok n) h2
    · unfold withoutT
      split
      · exact h1
      · exact and_ok (not_ok (fact_ok n)) h1
/-- constants, facts and their negations; what two tables of one fact consist of -/
def baseL : List Tr := [cT 1, cT 2, factN 0, factN 1, factN 2, factN 3, factN 4, factN 5, notT (factN 0), notT (factN 1), notT (factN 2), notT (factN 3), notT (factN 4), notT (factN 5),
  expT 1 1, expT 1 2, jT 5 (factN 0) (cT 1), jT 5 (notT (factN 0)) (cT 1)]
def xsL : Nat → Nat → List Tr
  | 0, _ => []
  | 1, _ => []
  | n + 2, t => [expT (n + 2) t, jT 5 (factN (n + 1)) (expT (n + 1) (highN (n + 1) t)), jT 5 (notT (factN (n + 1))) (expT (n + 1) (lowN (n + 1) t))] ++ (xsL (n + 1) (lowN (n + 1) t) ++ xsL (n + 1) (highN (n + 1) t))
theorem xsL_len : ∀ n t, (xsL n t).length ≤ 3 * (2 ^ (n - 1) - 1)
  | 0, _ => Nat.zero_le _
  | 1, _ => Nat.zero_le _
  | n + 2, t => by
    have h1 := xsL_len (n + 1) (lowN (n + 1) t)
    have h2 := xsL_len (n + 1) (highN (n + 1) t)
    show ([_, _, _] ++ (xsL (n + 1) _ ++ xsL (n + 1) _)).length ≤ _
    rw [List.length_append, List.length_append]
    have e : n + 2 - 1 = (n + 1 - 1) + 1 := by omega
    have hp := Nat.two_pow_pos (n + 1 - 1)
    rw [e, Nat.pow_succ]
    simp only [List.length_cons, List.length_nil]
    omega
theorem fact_base {i : Nat} (h : i < 6) : factN i ∈ baseL ∧ notT (factN i) ∈ baseL := by
  have : i = 0 ∨ i = 1 ∨ i = 2 ∨ i = 3 ∨ i = 4 ∨ i = 5 := by omega
  rcases this with rfl | rfl | rfl | rfl | rfl | rfl <;> exact ⟨by simp [baseL], by simp [baseL]⟩
theorem c1_base : cT 1 ∈ baseL := by simp [baseL]
theorem c2_base : cT 2 ∈ baseL := by simp [baseL]
theorem sub_and {s a b : Tr} (h : subT s (jT 5 a b)) : s = jT 5 a b ∨ subT s a ∨ subT s b := h
theorem sub_or {s a b : Tr} (h : subT s (jT 6 a b)) : s = jT 6 a b ∨ subT s a ∨ subT s b := h
theorem sub_not {s a : Tr} (h : subT s (notT a)) : s = notT a ∨ subT s a := h
theorem sub_fact {s : Tr} {i : Nat} (h : subT s (factN i)) : s = factN i := h
theorem sub_c {s : Tr} {op : Int} (h : subT s (cT op)) : s = cT op := h
theorem exp1 : expT 1 0 = cT 2 ∧ expT 1 3 = cT 1 ∧ expT 1 1 = jT 6 (cT 2) (jT 5 (notT (factN 0)) (cT 1)) ∧ expT 1 2 = jT 6 (jT 5 (factN 0) (cT 1)) (cT 2) := by decide +kernel
theorem sub_exp1 {t : Nat} (h : t < 4) {s : Tr} (hs : subT s (expT 1 t)) : s ∈ baseL := by
  have : t = 0 ∨ t = 1 ∨ t = 2 ∨ t = 3 := by omega
  rcases this with rfl | rfl | rfl | rfl
  · rw [exp1.1] at hs; rw [sub_c hs]; exact c2_base
  · have hs0 := hs
    rw [exp1.2.2.1] at hs
    rcases sub_or hs with h1 | h1 | h1
    · rw [h1, ← exp1.2.2.1]; simp [baseL]
    · rw [sub_c h1]; exact c2_base
    · rcases sub_and h1 with h2 | h2 | h2
      · rw [h2]; simp [baseL]
      · rcases sub_not h2 with h3 | h3
        · rw [h3]; exact (fact_base (by decide)).2
        · rw [sub_fact h3]; exact (fact_base (by decide)).1
      · rw [sub_c h2]; exact c1_base
  · rw [exp1.2.2.2] at hs
    rcases sub_or hs with h1 | h1 | h1
    · rw [h1, ← exp1.2.2.2]; simp [baseL]
    · rcases sub_and h1 with h2 | h2 | h2
      · rw [h2]; simp [baseL]
      · rw [sub_fact h2]; exact (fact_base (by decide)).1
      · rw [sub_c h2]; exact c1_base
    · rw [sub_c h1]; exact c2_base
  · rw [exp1.2.1] at hs; rw [sub_c hs]; exact c1_base
theorem sub_exp : ∀ n t, n ≤ 6 → t < 2 ^ 2 ^ n → ∀ s, subT s (expT n t) → s ∈ baseL ∨ s ∈ xsL n t
  | 0, t, _, _, s, hs => by
    unfold expT at hs
    split at hs
    · rw [sub_c hs]; exact .inl c2_base
    · rw [sub_c hs]; exact .inl c1_base
  | 1, t, _, h, s, hs => .inl (sub_exp1 h hs)
  | n + 2, t, hn, h, s, hs => by
    have ihl : ∀ s, subT s (expT (n + 1) (lowN (n + 1) t)) → s ∈ baseL ∨ s ∈ xsL (n + 2) t := fun s hs => by
      rcases sub_exp (n + 1) _ (by omega) (low_lt _ _) s hs with k | k
      · exact .inl k
      · exact .inr (List.mem_append.2 (.inr (List.mem_append.2 (.inl k))))
    have ihh : ∀ s, subT s (expT (n + 1) (highN (n + 1) t)) → s ∈ baseL ∨ s ∈ xsL (n + 2) t := fun s hs => by
      rcases sub_exp (n + 1) _ (by omega) (high_lt h) s hs with k | k
      · exact .inl k
      · exact .inr (List.mem_append.2 (.inr (List.mem_append.2 (.inr k))))
    have hf := fact_base (show n + 1 < 6 by omega)
    have hself : expT (n + 2) t ∈ xsL (n + 2) t := List.mem_append.2 (.inl (by simp))
    have hself0 := hself
    have ha : jT 5 (factN (n + 1)) (expT (n + 1) (highN (n + 1) t)) ∈ xsL (n + 2) t := List.mem_append.2 (.inl (by simp))
    have hb : jT 5 (notT (factN (n + 1))) (expT (n + 1) (lowN (n + 1) t)) ∈ xsL (n + 2) t := List.mem_append.2 (.inl (by simp))
    have e : expT (n + 2) t = (if t = 0 then cT 2 else if t = fullN (n + 2) then cT 1 else
      if lowN (n + 1) t = highN (n + 1) t then expT (n + 1) (highN (n + 1) t)
      else jT 6 (withT (n + 1) (lowN (n + 1) t) (highN (n + 1) t) (expT (n + 1) (highN (n + 1) t))) (withoutT (n + 1) (lowN (n + 1) t) (highN (n + 1) t) (expT (n + 1) (lowN (n + 1) t)))) := rfl
    rw [e] at hs hself
    by_cases c0 : t = 0
    · rw [if_pos c0] at hs; rw [sub_c hs]; exact .inl c2_base
    rw [if_neg c0] at hs hself
    by_cases c1 : t = fullN (n + 2)
    · rw [if_pos c1] at hs; rw [sub_c hs]; exact .inl c1_base
    rw [if_neg c1] at hs hself
    by_cases c2 : lowN (n + 1) t = highN (n + 1) t
    · rw [if_pos c2] at hs; exact ihh s hs
    rw [if_neg c2] at hs hself
    rcases sub_or hs with h1 | h1 | h1
    · rw [h1]; exact .inr hself
    · unfold withT at h1
      split at h1
      · exact ihh s h1
      · rcases sub_and h1 with h2 | h2 | h2
        · rw [h2]; exact .inr ha
        · rw [sub_fact h2]; exact .inl hf.1
        · exact ihh s h2
    · unfold withoutT at h1
      split at h1
      · exact ihl s h1
      · rcases sub_and h1 with h2 | h2 | h2
        · rw [h2]; exact .inr hb
        · rcases sub_not h2 with h3 | h3
          · rw [h3]; exact .inl hf.2
          · rw [sub_fact h3]; exact .inl hf.1
        · exact ihl s h2
/-- at most 111 nodes -/
theorem exp_len {n t : Nat} (hn : n ≤ 6) (h : t < 2 ^ 2 ^ n) : (canT (expT n t)).length ≤ 111 := by
  have key := len_sub (treesL (expT n t)) (baseL ++ xsL n t) (treesL_nodup (exp_ok n t)) (fun s hs => List.mem_append.2 (sub_exp n t hn h s ((treesL_mem (exp_ok n t) s).1 hs)))
  have e : (treesL (expT n t)).length = (canT (expT n t)).length := by unfold treesL; rw [List.length_map, List.length_range]
  have hx := xsL_len n t
  have hp : 2 ^ (n - 1) ≤ 32 := by
    have : 2 ^ (n - 1) ≤ 2 ^ 5 := Nat.pow_le_pow_right (by decide) (by omega)
    simpa using this
  have hb : baseL.length = 18 := rfl
  rw [e, List.length_append, hb] at key
  omega
end Go.Proofs.Ws
/- Layer 9 as plain mathematics: prime implicants by merging cubes. -/
namespace Go.Proofs.Ws
open Go
/-- a bit taken away, a bit turned -/
def clr (x i : Nat) : Nat := if x.testBit i = true then x ^^^ 2 ^ i else x
def flp (x i : Nat) : Nat := x ^^^ 2 ^ i
theorem flp_bit (x i j : Nat) : (flp x i).testBit j = if i = j then !x.testBit j else x.testBit j := by
  unfold flp
  rw [Nat.testBit_xor, Nat.testBit_two_pow]
  by_cases e : i = j
  · rw [if_pos e]; simp [e]
  · rw [if_neg e]; simp [e]
theorem clr_bit (x i j : Nat) : (clr x i).testBit j = if i = j then false else x.testBit j := by
  unfold clr
  by_cases h : x.testBit i = true
  · rw [if_pos h]
    have := flp_bit x i j
    unfold flp at this
    rw [this]
    by_cases e : i = j
    · subst e; rw [if_pos rfl, if_pos rfl, h]; rfl
    · rw [if_neg e, if_neg e]
  · rw [if_neg h]
    by_cases e : i = j
    · subst e; rw [if_pos rfl]; exact Bool.eq_false_iff.2 h
    · rw [if_neg e]
theorem cube_iff (v care val : Nat) : v &&& care = val ↔ ∀ j, (v.testBit j && care.testBit j) = val.testBit j :=
  ⟨fun h j => by rw [← h, Nat.testBit_and], fun h => Nat.eq_of_testBit_eq (fun j => by rw [Nat.testBit_and]; exact h j)⟩
/-- all valuations of a cube lie in the table -/
def inside (t n care val : Nat) : Prop := ∀ v, v < 2 ^ n → v &&& care = val → t.testBit v = true
theorem clr_in {v care val i : Nat} (h : v &&& care = val) : v &&& clr care i = clr val i := by
  rw [cube_iff] at h ⊢
  intro j
  rw [clr_bit, clr_bit]
  by_cases e : i = j
  · rw [if_pos e, if_pos e, Bool.and_false]
  · rw [if_neg e, if_neg e]; exact h j
theorem clr_flp (val i : Nat) : clr (flp val i) i = clr val i := by
  apply Nat.eq_of_testBit_eq
  intro j
  rw [clr_bit, clr_bit, flp_bit]
  by_cases e : i = j
  · rw [if_pos e, if_pos e]
  · rw [if_neg e, if_neg e, if_neg e]
/-- a cube lies in the table exactly if its two halves do -/
theorem inside_clr {t n care val i : Nat} (_hs : val &&& care = val) (hi : care.testBit i = true) : inside t n (clr care i) (clr val i) ↔ inside t n care val ∧ inside t n care (flp val i) := by
  constructor
  · intro h
    refine ⟨fun v hv e => h v hv (clr_in e), fun v hv e => h v hv ?_⟩
    have := clr_in (i := i) e
    rw [clr_flp] at this
    exact this
  · rintro ⟨h1, h2⟩ v hv e
    rw [cube_iff] at e
    by_cases hb : v.testBit i = val.testBit i
    · refine h1 v hv ((cube_iff _ _ _).2 (fun j => ?_))
      by_cases hj : i = j
      · subst hj; rw [hi, Bool.and_true]; exact hb
      · have := e j
        rw [clr_bit, clr_bit, if_neg hj, if_neg hj] at this
        exact this
    · refine h2 v hv ((cube_iff _ _ _).2 (fun j => ?_))
      rw [flp_bit]
      by_cases hj : i = j
      · subst hj
        rw [hi, Bool.and_true, if_pos rfl]
        cases hv1 : v.testBit i <;> cases hv2 : val.testBit i <;> simp_all
      · have := e j
        rw [clr_bit, clr_bit, if_neg hj, if_neg hj] at this
        rw [if_neg hj]; exact this
/-- how many bits below n are set -/
def popN : Nat → Nat → Nat
  | 0, _ => 0
  | n + 1, x => popN n x + if x.testBit n = true then 1 else 0
theorem pop_congr {x y : Nat} : ∀ n, (∀ j, j < n → x.testBit j = y.testBit j) → popN n x = popN n y
  | 0, _ => rfl
  | n + 1, h => by
    show popN n x + _ = popN n y + _
    rw [pop_congr n (fun j hj => h j (by omega)), h n (by omega)]
theorem pop_clr {x i : Nat} (hx : x.testBit i = true) : ∀ n, i < n → popN n (clr x i) + 1 = popN n x
  | 0, h => absurd h (by omega)
  | n + 1, h => by
    show popN n (clr x i) + _ + 1 = popN n x + _
    rw [clr_bit]
    by_cases e : i = n
    · subst e
      rw [if_pos rfl, if_neg (by decide), if_pos hx, pop_congr i (y := x) (fun j hj => by rw [clr_bit, if_neg (by omega)])]
    · have ih := pop_clr hx n (by omega)
      rw [if_neg e]
      omega
theorem pop_le (x : Nat) : ∀ n, popN n x ≤ n
  | 0 => Nat.le_refl _
  | n + 1 => by
    have := pop_le x n
    show popN n x + _ ≤ n + 1
    split <;> omega
theorem pop_full {x : Nat} : ∀ n, popN n x = n → ∀ j, j < n → x.testBit j = true
  | 0, _, j, hj => absurd hj (by omega)
  | n + 1, h, j, hj => by
    have h1 := pop_le x n
    have h : popN n x + (if x.testBit n = true then 1 else 0) = n + 1 := h
    by_cases hb : x.testBit n = true
    · rw [if_pos hb] at h
      by_cases e : j = n
      · rw [e]; exact hb
      · exact pop_full n (by omega) j (by omega)
    · rw [if_neg hb] at h; omega
theorem pop_not {x : Nat} : ∀ n, popN n x < n → ∃ j, j < n ∧ x.testBit j = false
  | 0, h => absurd h (by omega)
  | n + 1, h => by
    have h : popN n x + (if x.testBit n = true then 1 else 0) < n + 1 := h
    by_cases hb : x.testBit n = true
    · rw [if_pos hb] at h
      obtain ⟨j, h1, h2⟩ := pop_not n (x := x) (by omega)
      exact ⟨j, by omega, h2⟩
    · exact ⟨n, by omega, Bool.eq_false_iff.2 hb⟩
/-- a cube of n facts -/
def cubeOk (n : Nat) (c : Nat × Nat) : Prop := c.1 < 2 ^ n ∧ c.2 &&& c.1 = c.2
/-- the cubes that lie in the table and care for n - k facts -/
def lvl (t n k : Nat) (c : Nat × Nat) : Prop := cubeOk n c ∧ inside t n c.1 c.2 ∧ popN n c.1 + k = n
theorem bit_lt {x n j : Nat} (h : x < 2 ^ n) (hb : x.testBit j = true) : j < n := by
  by_cases hj : j < n
  · exact hj
  · rw [Nat.testBit_lt_two_pow (Nat.lt_of_lt_of_le h (Nat.pow_le_pow_right (by decide) (by omega)))] at hb; cases hb
theorem lt_of_bits {x n : Nat} (h : ∀ j, x.testBit j = true → j < n) : x < 2 ^ n := by
  apply Nat.lt_pow_two_of_testBit
  intro i hi
  cases hb : x.testBit i with
  | false => rfl
  | true => have := h i hb; omega
theorem ok_clr {n i : Nat} {c : Nat × Nat} (h : cubeOk n c) : cubeOk n (clr c.1 i, clr c.2 i) := by
  refine ⟨lt_of_bits (fun j hj => ?_), ?_⟩
  · have hj : (clr c.1 i).testBit j = true := hj
    rw [clr_bit] at hj
    split at hj
    · cases hj
    · exact bit_lt h.1 hj
  · show clr c.2 i &&& clr c.1 i = clr c.2 i
    have := (cube_iff _ _ _).1 h.2
    rw [cube_iff]
    intro j
    rw [clr_bit, clr_bit]
    by_cases e : i = j
    · rw [if_pos e, if_pos e]; rfl
    · rw [if_neg e, if_neg e]; exact this j
theorem ok_flp {n i : Nat} {c : Nat × Nat} (h : cubeOk n c) (hi : c.1.testBit i = true) : cubeOk n (c.1, flp c.2 i) := by
  refine ⟨h.1, ?_⟩
  show flp c.2 i &&& c.1 = flp c.2 i
  have := (cube_iff _ _ _).1 h.2
  rw [cube_iff]
  intro j
  rw [flp_bit]
  by_cases e : i = j
  · subst e; rw [if_pos rfl, hi, Bool.and_true]
  · rw [if_neg e]; exact this j
/-- two of a level that differ in a fact are merged into one of the next -/
theorem lvl_up {t n k i : Nat} {c : Nat × Nat} (h : lvl t n k c) (hi : c.1.testBit i = true) (h2 : lvl t n k (c.1, flp c.2 i)) : lvl t n (k + 1) (clr c.1 i, clr c.2 i) := by
  have hn := bit_lt h.1.1 hi
  have hp := pop_clr hi n hn
  refine ⟨ok_clr h.1, (inside_clr h.1.2 hi).2 ⟨h.2.1, h2.2.1⟩, ?_⟩
  have := h.2.2
  show popN n (clr c.1 i) + (k + 1) = n
  omega
/-- each cube of the next level is merged of two -/
theorem lvl_down {t n k : Nat} {c : Nat × Nat} (h : lvl t n (k + 1) c) : ∃ d i, lvl t n k d ∧ d.1.testBit i = true ∧ lvl t n k (d.1, flp d.2 i) ∧ c = (clr d.1 i, clr d.2 i) := by
  have hp := h.2.2
  obtain ⟨i, hi, hb⟩ := pop_not n (x := c.1) (by omega)
  obtain ⟨care, val⟩ := c
  have hb : care.testBit i = false := hb
  have hsub := (cube_iff _ _ _).1 h.1.2
  have hv : val.testBit i = false := by have h1 : (val.testBit i && care.testBit i) = val.testBit i := hsub i; rw [hb, Bool.and_false] at h1; exact h1.symm
  have e1 : clr (flp care i) i = care := by
    apply Nat.eq_of_testBit_eq
    intro j
    rw [clr_bit, flp_bit]
    by_cases e : i = j
    · subst e; rw [if_pos rfl, hb]
    · rw [if_neg e, if_neg e]
  have e2 : clr val i = val := by
    apply Nat.eq_of_testBit_eq
    intro j
    rw [clr_bit]
    by_cases e : i = j
    · subst e; rw [if_pos rfl, hv]
    · rw [if_neg e]
  have hf : (flp care i).testBit i = true := by rw [flp_bit, if_pos rfl, hb]; rfl
  have hok : cubeOk n (flp care i, val) := by
    refine ⟨lt_of_bits (fun j hj => ?_), ?_⟩
    · have hj : (flp care i).testBit j = true := hj
      rw [flp_bit] at hj
      by_cases e : i = j
      · omega
      · rw [if_neg e] at hj; exact bit_lt h.1.1 hj
    · show val &&& flp care i = val
      rw [cube_iff]
      intro j
      rw [flp_bit]
      by_cases e : i = j
      · subst e; rw [if_pos rfl, hv]; rfl
      · rw [if_neg e]; exact hsub j
  have hin := (inside_clr (t := t) (n := n) hok.2 hf)
  rw [e1, e2] at hin
  have hins := hin.1 h.2.1
  have hpop := pop_clr hf n hi
  rw [e1] at hpop
  have hp : popN n care + (k + 1) = n := hp
  refine ⟨(flp care i, val), i, ⟨hok, hins.1, ?_⟩, hf, ⟨ok_flp hok hf, hins.2, ?_⟩, by rw [e1, e2]⟩
  · show popN n (flp care i) + k = n; omega
  · show popN n (flp care i) + k = n; omega
/-- a prime implicant: in the table, and no fact can be left out -/
def prime (t n : Nat) (c : Nat × Nat) : Prop := cubeOk n c ∧ inside t n c.1 c.2 ∧ ∀ i, c.1.testBit i = true → ¬ inside t n (clr c.1 i) (clr c.2 i)
/-- those of a level that are merged with none are its prime implicants -/
theorem alone_prime {t n k : Nat} {c : Nat × Nat} (h : lvl t n k c) : (∀ i, c.1.testBit i = true → ¬ lvl t n k (c.1, flp c.2 i)) ↔ prime t n c := by
  constructor
  · intro h2
    refine ⟨h.1, h.2.1, fun i hi hin => h2 i hi ⟨ok_flp h.1 hi, ((inside_clr h.1.2 hi).1 hin).2, h.2.2⟩⟩
  · intro hp i hi h2
    exact hp.2.2 i hi ((inside_clr h.1.2 hi).2 ⟨h.2.1, h2.2.1⟩)
theorem prime_lvl {t n : Nat} {c : Nat × Nat} (h : prime t n c) : lvl t n (n - popN n c.1) c := ⟨h.1, h.2.1, by have := pop_le c.1 n; omega⟩
/-- the first level: the valuations of the table -/
theorem lvl_zero {t n : Nat} (c : Nat × Nat) : lvl t n 0 c ↔ c.1 = 2 ^ n - 1 ∧ c.2 < 2 ^ n ∧ t.testBit c.2 = true := by
  constructor
  · rintro ⟨⟨h1, h2⟩, h3, h4⟩
    have hall := pop_full n (x := c.1) (by omega)
    have e : c.1 = 2 ^ n - 1 := by
      apply Nat.eq_of_testBit_eq
      intro j
      rw [Nat.testBit_two_pow_sub_one]
      by_cases hj : j < n
      · rw [hall j hj]; simp [hj]
      · rw [Nat.testBit_lt_two_pow (Nat.lt_of_lt_of_le h1 (Nat.pow_le_pow_right (by decide) (by omega)))]; simp [hj]
    have hlt : c.2 < 2 ^ n := by rw [← h2]; exact Nat.and_lt_two_pow _ h1
    exact ⟨e, hlt, h3 _ hlt h2⟩
  · rintro ⟨h1, h2, h3⟩
    have hp : 0 < 2 ^ n := Nat.two_pow_pos n
    have hand : ∀ v, v < 2 ^ n → v &&& c.1 = v := fun v hv => by rw [h1]; exact Nat.and_two_pow_sub_one_of_lt_two_pow hv
    refine ⟨⟨by omega, hand _ h2⟩, fun v hv e => by rw [hand v hv] at e; rw [e]; exact h3, ?_⟩
    have : ∀ m, m ≤ n → popN m c.1 = m := by
      intro m
      induction m with
      | zero => intro _; rfl
      | succ m ih =>
        intro hm
        show popN m c.1 + _ = m + 1
        have hb : c.1.testBit m = true := by rw [h1, Nat.testBit_two_pow_sub_one]; simp; omega
        rw [ih (by omega), if_pos hb]
    rw [this n (Nat.le_refl _)]; rfl
end Go.Proofs.Ws
/- Layer 9 as plain mathematics: prime implicants cover the table, none lies in another; their list in order (BooleanPrimes, BooleanCovers). -/
namespace Go.Proofs.Ws
open Go
/-- cubes in order: by Care, then by Value -/
def cLt (a b : Nat × Nat) : Prop := a.1 < b.1 ∨ a.1 = b.1 ∧ a.2 < b.2
theorem cLt_irrefl (a : Nat × Nat) : ¬ cLt a a := by rintro (h | ⟨_, h⟩) <;> omega
theorem cLt_trans {a b c : Nat × Nat} (h : cLt a b) (k : cLt b c) : cLt a c := by
  rcases h with h | ⟨h1, h2⟩ <;> rcases k with k | ⟨k1, k2⟩
  · exact .inl (by omega)
  · exact .inl (by omega)
  · exact .inl (by omega)
  · exact .inr ⟨by omega, by omega⟩
/-- two lists in strict order with the same members are equal -/
theorem sorted_ext {α : Type} {lt : α → α → Prop} (hi : ∀ a, ¬ lt a a) (ht : ∀ {a b c}, lt a b → lt b c → lt a c) : ∀ (l m : List α), l.Pairwise lt → m.Pairwise lt → (∀ a, a ∈ l ↔ a ∈ m) → l = m
  | [], [], _, _, _ => rfl
  | [], b :: m, _, _, h => by have := (h b).2 List.mem_cons_self; cases this
  | a :: l, [], _, _, h => by have := (h a).1 List.mem_cons_self; cases this
  | a :: l, b :: m, hl, hm, h => by
    obtain ⟨hl1, hl2⟩ := List.pairwise_cons.1 hl
    obtain ⟨hm1, hm2⟩ := List.pairwise_cons.1 hm
    have e : a = b := by
      rcases List.mem_cons.1 ((h a).1 List.mem_cons_self) with e | h1
      · exact e
      · rcases List.mem_cons.1 ((h b).2 List.mem_cons_self) with e | h2
        · exact e.symm
        · exact absurd (ht (hl1 b h2) (hm1 a h1)) (hi a)
    subst e
    have : l = m := sorted_ext hi ht l m hl2 hm2 (fun c => by
      constructor
      · intro hc
        rcases List.mem_cons.1 ((h c).1 (List.mem_cons_of_mem _ hc)) with e | h1
        · exact absurd (hl1 c hc) (by rw [e]; exact hi a)
        · exact h1
      · intro hc
        rcases List.mem_cons.1 ((h c).2 (List.mem_cons_of_mem _ hc)) with e | h1
        · exact absurd (hm1 c hc) (by rw [e]; exact hi a)
        · exact h1)
    rw [this]
/-- all pairs of numbers below a bound, in order -/
def pairsL (m : Nat) : List (Nat × Nat) := (List.range m).flatMap (fun a => (List.range m).map (fun b => (a, b)))
theorem pairs_mem {m : Nat} (c : Nat × Nat) : c ∈ pairsL m ↔ c.1 < m ∧ c.2 < m := by
  unfold pairsL
  rw [List.mem_flatMap]
  constructor
  · rintro ⟨a, ha, hb⟩
    obtain ⟨b, h1, rfl⟩ := List.mem_map.1 hb
    exact ⟨List.mem_range.1 ha, List.mem_range.1 h1⟩
  · rintro ⟨h1, h2⟩
    exact ⟨c.1, List.mem_range.2 h1, List.mem_map.2 ⟨c.2, List.mem_range.2 h2, rfl⟩⟩
theorem flat_sorted {m : Nat} : ∀ (zs : List Nat), zs.Pairwise (· < ·) → (zs.flatMap (fun a => (List.range m).map (fun b => (a, b)))).Pairwise cLt
  | [], _ => List.Pairwise.nil
  | a :: zs, h => by
    obtain ⟨h1, h2⟩ := List.pairwise_cons.1 h
    rw [List.flatMap_cons, List.pairwise_append]
    refine ⟨?_, flat_sorted zs h2, fun x hx y hy => ?_⟩
    · rw [List.pairwise_map]
      exact List.Pairwise.imp (fun k => .inr ⟨rfl, k⟩) List.pairwise_lt_range
    · obtain ⟨b, _, rfl⟩ := List.mem_map.1 hx
      obtain ⟨a', h3, h4⟩ := List.mem_flatMap.1 hy
      obtain ⟨b', _, rfl⟩ := List.mem_map.1 h4
      exact .inl (h1 a' h3)
theorem pairs_sorted (m : Nat) : (pairsL m).Pairwise cLt := flat_sorted _ List.pairwise_lt_range
end Go.Proofs.Ws
