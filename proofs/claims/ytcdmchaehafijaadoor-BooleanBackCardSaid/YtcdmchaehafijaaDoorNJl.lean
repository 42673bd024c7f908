/- Layer 6: texts joined: Mu Mv Mw Mx Mr Na Mn Mz Mp Mk Mt Nc Nd Ne Nb Mo. -/
import Derived.Test.YtcdmchaehafijaaDoorNJa
import Derived.Test.YtcdmchaehafijaaDoorNJi
import Derived.Test.YtcdmchaehafijaaDoorNJj
import Derived.Test.YtcdmchaehafijaaDoorNJk
import Derived.Shelf.Strconv.Itoa0
import Derived.Shelf.Lay
import Derived.Lib.SlicesS
/- Layer 5: the builders of the reference: short, One, Unary, Binary. -/
namespace Go.Proofs.Ws
open Go
/-- the canonical list of a list of nodes, or nothing if it is too long -/
def shortF (l : List Nd) : List Nd := if 200 < (canonF l).length then [] else canonF l
def oneF (x : Nd) : List Nd := if nodeErr x 0 = 0 then [x] else []
def unaryF (x : Nd) (f : List Nd) : List Nd :=
  if fErr f = 0 then (if nodeErr { x with x := (f.length : Int) - 1 } f.length = 0 then shortF (f ++ [{ x with x := (f.length : Int) - 1 }]) else []) else []
def binaryF (x : Nd) (f g : List Nd) : List Nd :=
  if fErr f = 0 then (if fErr g = 0 then (if nodeErr { x with x := (f.length : Int) - 1, y := (f.length + g.length : Int) - 1 } ((f.length + g.length : Nat) : Int) = 0 then
    shortF (f ++ g.map (shiftN f.length) ++ [{ x with x := (f.length : Int) - 1, y := (f.length + g.length : Int) - 1 }]) else []) else []) else []
end Go.Proofs.Ws
namespace Go.Proofs.YtcdmchaehafijaaDoor
open Go.RowKit Go.Proofs.Ws Go.Maps
end Go.Proofs.YtcdmchaehafijaaDoor
/- Layer 5: Binary of the reference. -/
namespace Go.Proofs.YtcdmchaehafijaaDoor
open Go.RowKit Go.Proofs.Ws Go.Maps
theorem catL_ok {f g : List Nd} (hf : fErr f = 0) (hg : fErr g = 0) : opsL (f ++ g.map (shiftN f.length)) ∧ ∀ m ∈ f ++ g.map (shiftN f.length), fldOk m := by
  have h := catK_ok [f, g] (by intro h hh; simp at hh; rcases hh with rfl | rfl <;> assumption) 2 (by simp)
  have e : catKn [f, g] 2 = f ++ g.map (shiftN f.length) := by
    have hs : f.map (shiftN 0) = f := by
      have : ∀ l : List Nd, l.map (shiftN 0) = l := by
        intro l
        induction l with
        | nil => rfl
        | cons a l ih =>
          rw [List.map_cons, ih]
          congr 1
          obtain ⟨o, i, e, g', x, y⟩ := a
          simp [shiftN]
      exact this f
    simp [catKn, catS, hs]
  rw [e] at h
  exact ⟨h.1, h.2.1⟩
end Go.Proofs.YtcdmchaehafijaaDoor
/- Layer 5: both ways of building give the same formula. -/
namespace Go.Proofs.YtcdmchaehafijaaDoor
open Go.RowKit Go.Proofs.Ws Go.Maps
/-- the fields that an operator does not use are 0, but for its operands -/
def cleanN (n : Nd) : Prop := (n.op = 3 ∨ hasAgent n.op = true ∨ n.op = 17 ∨ n.i = 0) ∧ (n.op = 17 ∨ n.e = 0) ∧ (hasGroup n.op = true ∨ n.g = 0)
theorem map_shift0 : ∀ l : List Nd, l.map (shiftN 0) = l := by
  intro l
  induction l with
  | nil => rfl
  | cons a l ih =>
    rw [List.map_cons, ih]
    congr 1
    obtain ⟨o, i, e, g', x, y⟩ := a
    simp [shiftN]
end Go.Proofs.YtcdmchaehafijaaDoor
/- Layer 5: the law's own ways to build: with a constructor of the program, and as specified. -/
namespace Go.Proofs.Ws
open Go
end Go.Proofs.Ws
namespace Go.Proofs.YtcdmchaehafijaaDoor
open Go.RowKit Go.Proofs.Ws Go.Maps
end Go.Proofs.YtcdmchaehafijaaDoor
/- Layer 5: subformulas: depth, fragments, order (mathematics). -/
namespace Go.Proofs.YtcdmchaehafijaaDoor
open Go.RowKit Go.Proofs.Ws Go.Maps
end Go.Proofs.YtcdmchaehafijaaDoor
/- Layer 5: what building means for trees; every formula is built from its operands. -/
namespace Go.Proofs.YtcdmchaehafijaaDoor
open Go.RowKit Go.Proofs.Ws Go.Maps
theorem bare_shift (s : Nat) (n : Nd) : bare (shiftN s n) = bare n := rfl
/-- a list that stands behind another one keeps its trees -/
theorem treeAt_app {l f : List Nd} (h : opsL (l ++ f.map (shiftN l.length))) (hf : opsL f) : ∀ (k i : Nat), i < k → i < f.length → treeAt (l ++ f.map (shiftN l.length)) (l.length + i) = treeAt f i := by
  intro k
  induction k with
  | zero => intro i h; omega
  | succ k ih =>
    intro i hk hi
    have ho := hf i hi
    have hlen : l.length + i < (l ++ f.map (shiftN l.length)).length := by rw [List.length_append, List.length_map]; omega
    have hg : (l ++ f.map (shiftN l.length)).getD (l.length + i) nd0 = shiftN l.length (f.getD i nd0) := by
      rw [List.getD_eq_getElem?_getD, List.getElem?_append_right (by omega), show l.length + i - l.length = i from by omega, List.getElem?_map]
      simp [hi]
    rw [treeAt_eq h hlen, treeAt_eq hf hi, hg, bare_shift]
    have hop : (shiftN l.length (f.getD i nd0)).op = (f.getD i nd0).op := rfl
    rw [hop]
    by_cases hy : usesY (f.getD i nd0).op = true
    · rw [if_pos hy, if_pos hy]
      have hx := usesY_X hy
      have h1 := opsOk_x ho hx
      have h2 := opsOk_y ho hy
      have e1 : (shiftN l.length (f.getD i nd0)).x.toNat = l.length + (f.getD i nd0).x.toNat := by
        show (if usesX (f.getD i nd0).op = true then (f.getD i nd0).x + (l.length : Int) else _).toNat = _
        rw [if_pos hx]; omega
      have e2 : (shiftN l.length (f.getD i nd0)).y.toNat = l.length + (f.getD i nd0).y.toNat := by
        show (if usesY (f.getD i nd0).op = true then (f.getD i nd0).y + (l.length : Int) else _).toNat = _
        rw [if_pos hy]; omega
      rw [e1, e2, ih _ (by omega) (by omega), ih _ (by omega) (by omega)]
    · rw [if_neg hy, if_neg hy]
      by_cases hx : usesX (f.getD i nd0).op = true
      · rw [if_pos hx, if_pos hx]
        have h1 := opsOk_x ho hx
        have e1 : (shiftN l.length (f.getD i nd0)).x.toNat = l.length + (f.getD i nd0).x.toNat := by
          show (if usesX (f.getD i nd0).op = true then (f.getD i nd0).x + (l.length : Int) else _).toNat = _
          rw [if_pos hx]; omega
        rw [e1, ih _ (by omega) (by omega)]
      · rw [if_neg hx, if_neg hx]
theorem treeAt_left {l r : List Nd} (h : opsL (l ++ r)) {i : Nat} (hi : i < l.length) : treeAt (l ++ r) i = treeAt l i := by
  have := treeAt_take h l.length (i + 1) i (by omega) hi (by rw [List.length_append]; omega)
  rw [List.take_left] at this
  exact this.symm
/-- the tree of a formula -/
def treeOf (f : List Nd) : Tr := treeAt f (f.length - 1)
def shortT (t : Tr) : List Nd := if 200 < (canT t).length then [] else canT t
theorem treeOf_snoc {l : List Nd} {n : Nd} (h : opsL (l ++ [n])) : treeOf (l ++ [n]) = (if usesY n.op = true then .bin (bare n) (treeAt l n.x.toNat) (treeAt l n.y.toNat) else if usesX n.op = true then .un (bare n) (treeAt l n.x.toNat) else .leaf (bare n)) := by
  unfold treeOf
  have hl : (l ++ [n]).length - 1 = l.length := by simp
  have hg : (l ++ [n]).getD l.length nd0 = n := getD_some (by simp)
  have ho := h l.length (by simp)
  rw [hg] at ho
  rw [hl, treeAt_eq h (by simp), hg]
  by_cases hy : usesY n.op = true
  · rw [if_pos hy, if_pos hy]
    have h1 := opsOk_x ho (usesY_X hy)
    have h2 := opsOk_y ho hy
    rw [treeAt_left h h1.2, treeAt_left h h2.2]
  · rw [if_neg hy, if_neg hy]
    by_cases hx : usesX n.op = true
    · rw [if_pos hx, if_pos hx]
      have h1 := opsOk_x ho hx
      rw [treeAt_left h h1.2]
    · rw [if_neg hx, if_neg hx]
theorem build_un {n : Nd} {f : List Nd} (hk : known n.op = true) (hc : cleanN n) (hr : rangeOk n = true) (hb : bare n = n) (hux : usesX n.op = true) (huy : usesY n.op = false) (hf : fErr f = 0) : buildF n [f] = shortT (.un n (treeOf f)) := by
  obtain ⟨hx, hy⟩ := bare_x hb
  have hne : f.length ≠ 0 := by simpa using (fErr_ok hf).1
  have hok := (fin_1 n f hk hc hy hux huy hr (by intro g hg; simp at hg; rw [hg]; exact hf)).1
  have e : catKn [f] [f].length = f := by simp [catKn, catS, map_shift0]
  rw [e] at hok
  unfold buildF
  rw [if_neg (by rw [hr]; decide), if_neg (by simp [hf])]
  have e2 : catS [f] [] = f := by simp [catS, map_shift0]
  rw [e2]
  have hcan : canonF (f ++ [lastN n [f]]) = canT (.un n (treeOf f)) := by
    rw [canonF_tree hok.ops hok.ne]
    show canT (treeOf (f ++ [lastN n [f]])) = _
    rw [treeOf_snoc hok.ops]
    have ho : (lastN n [f]).op = n.op := rfl
    rw [ho, if_neg (by rw [huy]; decide), if_pos hux]
    have hbx : bare (lastN n [f]) = n := by rw [← hb]; rfl
    have hxx : (lastN n [f]).x.toNat = f.length - 1 := by show ((f.length : Int) - 1).toNat = _; omega
    rw [hbx, hxx]; rfl
  rw [hcan]; rfl
theorem build_bin {n : Nd} {f g : List Nd} (hk : known n.op = true) (hc : cleanN n) (hr : rangeOk n = true) (hb : bare n = n) (hux : usesX n.op = true) (huy : usesY n.op = true) (hf : fErr f = 0) (hg : fErr g = 0) : buildF n [f, g] = shortT (.bin n (treeOf f) (treeOf g)) := by
  have hne : f.length ≠ 0 := by simpa using (fErr_ok hf).1
  have hne2 : g.length ≠ 0 := by simpa using (fErr_ok hg).1
  have hok := (fin_2 n f g hk hc hux huy hr (by intro h hh; simp at hh; rcases hh with rfl | rfl <;> assumption)).1
  have e : catKn [f, g] [f, g].length = f ++ g.map (shiftN f.length) := by simp [catKn, catS, map_shift0]
  rw [e] at hok
  unfold buildF
  rw [if_neg (by rw [hr]; decide), if_neg (by simp [hf, hg])]
  have e2 : catS [f, g] [] = f ++ g.map (shiftN f.length) := by simp [catS, map_shift0]
  rw [e2]
  obtain ⟨hol, _⟩ := catL_ok hf hg
  have hcan : canonF (f ++ g.map (shiftN f.length) ++ [lastN n [f, g]]) = canT (.bin n (treeOf f) (treeOf g)) := by
    rw [canonF_tree hok.ops hok.ne]
    show canT (treeOf (f ++ g.map (shiftN f.length) ++ [lastN n [f, g]])) = _
    rw [treeOf_snoc hok.ops]
    have ho : (lastN n [f, g]).op = n.op := rfl
    rw [ho, if_pos huy]
    have hbx : bare (lastN n [f, g]) = n := by rw [← hb]; rfl
    have hxx : (lastN n [f, g]).x.toNat = f.length - 1 := by show ((f.length : Int) - 1).toNat = _; omega
    have hyy : (lastN n [f, g]).y.toNat = f.length + (g.length - 1) := by show ((f.length + g.length : Int) - 1).toNat = _; omega
    rw [hbx, hxx, hyy, treeAt_left hol (by omega), treeAt_app hol (fErr_ops hg) _ _ (Nat.lt_succ_self _) (by omega)]
    rfl
  rw [hcan]; rfl
end Go.Proofs.YtcdmchaehafijaaDoor
/- Layer 5: Subs of the reference, lists of lists compared. -/
namespace Go.Proofs.YtcdmchaehafijaaDoor
open Go.RowKit Go.Proofs.Ws Go.Maps
end Go.Proofs.YtcdmchaehafijaaDoor
/- Layer 5: conjunctions and disjunctions of lists of formulas. -/
namespace Go.Proofs.Ws
open Go
end Go.Proofs.Ws
namespace Go.Proofs.YtcdmchaehafijaaDoor
open Go.RowKit Go.Proofs.Ws Go.Maps
/-- a slice of lists of nodes -/
structure LsR (W : World) (B : Nat) (A : Option Addr) (n : Nat) (ls : List (List Nd)) : Prop where
  len : ls.length = n
  ex : ∃ vs, Reads W B 1 A n vs ∧ ∀ j, j < n → ∃ Aj cj, vs[j]? = some (.slice Aj (ls.getD j []).length cj) ∧ Reads W B 6 Aj (ls.getD j []).length (nds (ls.getD j [])) ∧ (ls.getD j []).length ≤ maxLen
theorem LsR.below {W W' : World} {B B2 : Nat} {A : Option Addr} {n : Nat} {ls : List (List Nd)} (h : LsR W B A n ls) (hb : Below B W W') (h2 : B ≤ B2) : LsR W' B2 A n ls := by
  obtain ⟨vs, h1, h3⟩ := h.ex
  refine ⟨h.len, vs, (h1.below hb).more h2, fun j hj => ?_⟩
  obtain ⟨Aj, cj, e1, e2, e3⟩ := h3 j hj
  exact ⟨Aj, cj, e1, (e2.below hb).more h2, e3⟩
theorem LsR.at_ {W : World} {B : Nat} {A : Option Addr} {n k : Nat} {ls : List (List Nd)} (h : LsR W B A n ls) (hk : k < n) :
    ∃ ad Aj cj, A = some ad ∧ ad.block < B ∧ W.cell? (ad.add k) = some (.slice Aj (ls.getD k []).length cj) ∧ Reads W B 6 Aj (ls.getD k []).length (nds (ls.getD k [])) ∧ (ls.getD k []).length ≤ maxLen := by
  obtain ⟨vs, h1, h3⟩ := h.ex
  obtain ⟨Aj, cj, e1, e2, e3⟩ := h3 k hk
  obtain ⟨ad, rfl, hb, hc⟩ := h1.2 (by omega)
  exact ⟨ad, Aj, cj, rfl, hb, hc k _ e1, e2, e3⟩
end Go.Proofs.YtcdmchaehafijaaDoor
/- Layer 5: the masks of the reference. -/
namespace Go.Proofs.YtcdmchaehafijaaDoor
open Go.RowKit Go.Proofs.Ws Go.Maps
end Go.Proofs.YtcdmchaehafijaaDoor
/- Layer 5: Fits of the program. -/
namespace Go.Proofs
open Go.Shelf Go.RowKit
shelf_lay Lays.n129 Nm 129 at Tryd as Tryd.lays129
end Go.Proofs
namespace Go.Proofs.Ws
open Go
def belowM (m : Nat) (l : Int) : Bool := decide (m = 0) || decide (((Lib.bitLen m : Nat) : Int) ≤ l)
def fitsF (f : List Nd) (a b : Int) : Bool := decide (fErr f = 0) && (belowM (maskL agentD (compF f)) a && belowM (maskL factD (compF f)) b)
end Go.Proofs.Ws
namespace Go.Proofs.YtcdmchaehafijaaDoor
open Go.RowKit Go.Proofs.Ws Go.Maps
theorem len64_any (x : Nat) (w : World) (hx : x < 18446744073709551616) :
    Calls Tryd.prog 88 #[.int .u64 x] w fun e w' => e = .returned (.int .i64 (Lib.bitLen x)) ∧ w = w' := by
  have h := Any.bits_Len64 Tryd.lays129 x w (by omega) (by omega)
  rw [Int.toNat_natCast] at h
  exact h.mono fun e w' ⟨h1, h2⟩ => ⟨h1, h2.symm⟩
theorem len_any (x : Nat) (w : World) (hx : x < 512) :
    Calls Tryd.prog 68 #[.int .u64 x] w fun e w' => e = .returned (.int .i64 (Lib.bitLen x)) ∧ w = w' := by
  have HC := Lib.hid (len64_any x w (by omega))
  generalize Lib.bitLen x = z at *
  go_enter Tryd.func68, Tryd.ntmps68
  go_wp2_with fail
  refine (HC.out).mono ?_
  rintro e w1 ⟨rfl, rfl⟩
  go_wp2
  go_ret
  exact ⟨rfl, rfl⟩
theorem allBelow_any (x : Nat) (l : Int) (w : World) (hx : x < 512) :
    Calls Tryd.prog 55 #[.int .i64 (x : Int), .int .i64 l] w fun e w' => e = .returned (.bool (belowM x l)) ∧ w = w' := by
  by_cases h0 : x = 0
  · have HV : Hid (belowM x l = true) := Lib.hid (by unfold belowM; rw [decide_eq_true h0]; rfl)
    rw [HV.out]
    subst h0
    go_enter Tryd.func55, Tryd.ntmps55
    go_wp2
    go_ret
    exact ⟨rfl, rfl⟩
  · have HC := Lib.hid (len_any x w hx)
    have HV : Hid (belowM x l = decide (((Lib.bitLen x : Nat) : Int) ≤ l)) := Lib.hid (by unfold belowM; rw [decide_eq_false h0]; rfl)
    have hb : ((x : Int) == 0) = false := by simp; omega
    have hw : IntKind.u64.wrap (x : Int) = (x : Int) := by rw [IntKind.wrap_u64]; omega
    rw [HV.out]
    clear HV h0
    generalize Lib.bitLen x = z at *
    generalize hd : decide ((z : Int) ≤ l) = b at *
    go_enter Tryd.func55, Tryd.ntmps55
    go_wp2_with fail
    refine (HC.out).mono ?_
    rintro e w1 ⟨rfl, rfl⟩
    go_wp2
    go_ret
    exact ⟨rfl, rfl⟩
theorem agentM_lt (f : List Nd) : maskL agentD (compF f) < 512 := maskL_lt _ _ (fun x hx => agentD_lt (compF_fld f x hx))
theorem factM_lt (f : List Nd) : maskL factD (compF f) < 512 := maskL_lt _ _ (fun x hx => factD_lt (compF_fld f x hx))
set_option maxRecDepth 100000 in
theorem pFits_any (f : List Nd) (a b : Int) (A : Option Addr) (n c : Nat) (w : World) (hR : Reads w w.heap.size 6 A n (nds f)) (hm : n ≤ maxLen) :
    Calls Tryd.prog 32 #[.slice A n c, .int .i64 a, .int .i64 b] w fun e w' => e = .returned (.bool (fitsF f a b)) ∧ Below w.heap.size w w' := by
  have HV := Lib.hid (pValid_any f A n c w hR hm)
  have HA : Hid (∀ W, Below w.heap.size w W → Calls Tryd.prog 56 #[.slice A n c] W fun e w' => e = .returned (.int .i64 (maskL agentD (compF f) : Int)) ∧ Below W.heap.size W w') := Lib.hid (fun W h => pAgents_any f A n c W ((hR.below h).more h.size) hm)
  have HF : Hid (∀ W, Below w.heap.size w W → Calls Tryd.prog 10 #[.slice A n c] W fun e w' => e = .returned (.int .i64 (maskL factD (compF f) : Int)) ∧ Below W.heap.size W w') := Lib.hid (fun W h => pFacts_any f A n c W ((hR.below h).more h.size) hm)
  have HBA := Lib.hid (fun W => allBelow_any (maskL agentD (compF f)) a W (agentM_lt f))
  have HBF := Lib.hid (fun W => allBelow_any (maskL factD (compF f)) b W (factM_lt f))
  unfold fitsF
  generalize maskL agentD (compF f) = ma at *
  generalize maskL factD (compF f) = mf at *
  have hE : (fErr f == 0) = decide (fErr f = 0) := by cases h : decide (fErr f = 0) <;> simp_all
  rw [hE] at HV
  generalize decide (fErr f = 0) = z at *
  generalize belowM ma a = ba at *
  generalize belowM mf b = bb at *
  clear hR hE
  cases z
  · go_enter Tryd.func32, Tryd.ntmps32
    go_wp2_with fail
    refine (HV.out).mono ?_
    rintro e w1 ⟨rfl, hb1⟩
    have HB1 := Lib.hid hb1
    clear hb1
    go_wp2
    go_ret
    exact ⟨rfl, HB1.out⟩
  · go_enter Tryd.func32, Tryd.ntmps32
    go_wp2_with fail
    refine (HV.out).mono ?_
    rintro e w1 ⟨rfl, hb1⟩
    have HB1 := Lib.hid hb1
    clear hb1
    go_wp2_with fail
    refine (HA.out _ HB1.out).mono ?_
    rintro e w2 ⟨rfl, hb2⟩
    have HB2 := Lib.hid (HB1.out.trans (hb2.mono HB1.out.size))
    clear hb2
    go_wp2_with fail
    refine (HBA.out _).mono ?_
    rintro e w3 ⟨rfl, rfl⟩
    cases ba
    · go_wp2
      go_ret
      exact ⟨rfl, HB2.out⟩
    · go_wp2_with fail
      refine (HF.out _ HB2.out).mono ?_
      rintro e w3 ⟨rfl, hb3⟩
      have HB3 := Lib.hid (HB2.out.trans (hb3.mono HB2.out.size))
      clear hb3
      go_wp2_with fail
      refine (HBF.out _).mono ?_
      rintro e w4 ⟨rfl, rfl⟩
      go_wp2
      go_ret
      exact ⟨by simp, HB3.out⟩
end Go.Proofs.YtcdmchaehafijaaDoor
/- Layer 5: Fits of the reference. -/
namespace Go.Proofs.Ws
open Go
def bitsOk (m : Nat) (l : Int) (k : Nat) : Bool := (List.range k).all (fun i => !decide (m / 2 ^ i % 2 = 1) || decide ((i : Int) < l))
theorem bitsOk_iff (m : Nat) (l : Int) (k : Nat) : bitsOk m l k = true ↔ ∀ i, i < k → m / 2 ^ i % 2 = 1 → (i : Int) < l := by
  unfold bitsOk
  rw [List.all_eq_true]
  constructor
  · intro h i hi hb
    have := h i (List.mem_range.2 hi)
    simp [hb] at this
    exact this
  · intro h i hi
    have := h i (List.mem_range.1 hi)
    by_cases hb : m / 2 ^ i % 2 = 1
    · simp [hb, this hb]
    · simp [hb]
theorem bits_top : ∀ n : Fin 256, n.val ≠ 0 → 0 < Lib.bitLen n.val ∧ n.val / 2 ^ (Lib.bitLen n.val - 1) % 2 = 1 ∧ 2 ^ (Lib.bitLen n.val - 1) ≤ n.val ∧ ∀ i : Fin 8, n.val / 2 ^ i.val % 2 = 1 → i.val < Lib.bitLen n.val := by decide +kernel
theorem belowM_bits (m K : Nat) (l : Int) (hK : K ≤ 8) (hm : m < 2 ^ K) : belowM m l = bitsOk m l K := by
  have h256 : m < 256 := Nat.lt_of_lt_of_le hm (Nat.pow_le_pow_right (n := 2) (by decide) hK)
  rw [Bool.eq_iff_iff, bitsOk_iff]
  unfold belowM
  rw [Bool.or_eq_true, decide_eq_true_eq, decide_eq_true_eq]
  by_cases h0 : m = 0
  · subst h0
    simp
  · obtain ⟨h1, h2, h3, h4⟩ := bits_top ⟨m, h256⟩ h0
    dsimp only at h1 h2 h3 h4
    constructor
    · rintro (h | h) i hi hb
      · exact absurd h h0
      · have := h4 ⟨i, by omega⟩ hb
        dsimp only at this
        omega
    · intro h
      refine .inr ?_
      have hlt : Lib.bitLen m - 1 < K := by
        refine Nat.lt_of_not_le (fun hle => ?_)
        have := Nat.pow_le_pow_right (n := 2) (by decide) hle
        omega
      have := h _ hlt h2
      omega
theorem maskL_le (g : Nd → Nat) (e : Nat) (l : List Nd) (h : ∀ n ∈ l, g n < 2 ^ e) : maskL g l < 2 ^ e := by
  have : ∀ (l : List Nd) (a : Nat), a < 2 ^ e → (∀ n ∈ l, g n < 2 ^ e) → l.foldl (fun m n => m ||| g n) a < 2 ^ e := by
    intro l
    induction l with
    | nil => intro a h _; exact h
    | cons n l ih =>
      intro a h hl
      exact ih _ (Nat.or_lt_two_pow h (hl n (by simp))) (fun m hm => hl m (by simp [hm]))
  exact this l 0 (Nat.two_pow_pos e) h
end Go.Proofs.Ws
namespace Go.Proofs.YtcdmchaehafijaaDoor
open Go.RowKit Go.Proofs.Ws Go.Maps
theorem factM_256 (f : List Nd) : maskL factD (compF f) < 2 ^ 8 := maskL_le _ 8 _ (fun n hn => by
  unfold factD
  split
  · rename_i h3
    have := (fld_i (compF_fld f n hn)).1 h3
    exact Nat.pow_lt_pow_right (by decide) (show n.i.toNat < 8 by omega)
  · decide)
end Go.Proofs.YtcdmchaehafijaaDoor
/- Layer 5: the text of a tree, as the law builds it. -/
namespace Go.Proofs.Ws
open Go
end Go.Proofs.Ws
/- Layer 5: the law's text of a tree. -/
namespace Go.Proofs.YtcdmchaehafijaaDoor
open Go.RowKit Go.Proofs.Ws Go.Maps
end Go.Proofs.YtcdmchaehafijaaDoor
/- Layer 5: what the law of trees asks of canonical lists; a row of truth values. -/
namespace Go.Proofs.Ws
open Go
end Go.Proofs.Ws
namespace Go.Proofs.YtcdmchaehafijaaDoor
open Go.RowKit Go.Proofs.Ws Go.Maps
/-- a block holds just these truth values -/
def bs (l : List Bool) : List Value := l.map Value.bool
def BS (W : World) (g : Nat) (l : List Bool) : Prop := W.heap[g]? = some (.cells (bs l).toArray 4 (0, 0))
theorem BS.cell {W : World} {g : Nat} {l : List Bool} (h : BS W g l) {k : Nat} (hk : k < l.length) : W.cell? ⟨g, k, none⟩ = some (.bool (l.getD k false)) := by
  rw [Lib.cell_of_heap h]
  simp [bs, hk]
theorem BS.free {W : World} {g : Nat} {l : List Bool} (h : BS W g l) (k : Nat) : W.frozen? ⟨g, k, none⟩ = false := Lib.frozen_of_heap h k
theorem BS.put {W : World} {g : Nat} {l : List Bool} (h : BS W g l) (k : Nat) (x : Bool) : BS (W.setCell ⟨g, k, none⟩ (.bool x)) g (l.set k x) := by
  unfold BS at h ⊢
  have e : (bs (l.set k x)).toArray = (bs l).toArray.setIfInBounds k (.bool x) := by
    unfold bs
    rw [List.map_set]
    simp
  rw [e]
  simp [World.setCell, Array.getElem?_modify, h]
theorem BS.keep {W W' : World} {g : Nat} {l : List Bool} (h : BS W g l) (hb : W'.heap[g]? = W.heap[g]?) : BS W' g l := hb.trans h
theorem Tryd.infoB : (Tryd.prog.info? 4).map (fun i => (i.zero, i.size, i.bytes)) = some (some (.bool false), 1, 1) := by kernel_rfl
def falses (n : Nat) : Array Value := (List.replicate n (Value.bool false)).toArray
theorem made_falses (n : Nat) : madeCells (Value.bool false).cells n = falses n := by
  apply Array.ext
  · simp [madeCells, falses]
  · intro i h1 h2
    simp [madeCells, falses, Value.cells, Nat.mod_one]
theorem makeB (w : World) (n : Nat) (hn : n ≤ 1000000) : (Instr.makeSlice 95 (.int .i64 (n : Int)) (.int .i64 (n : Int))).run Tryd.prog w = .ok (.slice (some ⟨w.heap.size, 0, none⟩) n n) (w.alloc (.cells (falses n) 4)) := by
  obtain ⟨i0, hi, hz0, hz1, hz2⟩ := info_parts Tryd.infoB
  have h := run_make (P := Tryd.prog) w 95 4 i0 (.bool false) Tryd.underlying95 hi hz0 .i64 .i64 n n (by omega) (Int.le_refl _) (by rw [hz2]; omega) (by omega)
  rw [h, hz1]
  simp only [Int.toNat_natCast, Nat.mul_one]
  rw [made_falses]
theorem BS.made (w : World) (n : Nat) : BS (w.alloc (.cells (falses n) 4)) w.heap.size (List.replicate n false) := by
  have := heap_alloc_new w (.cells (falses n) 4)
  unfold BS
  rw [this]
  have e : (bs (List.replicate n false)).toArray = falses n := by simp [bs, falses]
  rw [e]
end Go.Proofs.YtcdmchaehafijaaDoor
/- Layer 5: Sub of the program with rows of its own; the boxes of the law that rebuilds. -/
namespace Go.Proofs.YtcdmchaehafijaaDoor
open Go.RowKit Go.Proofs.Ws Go.Maps
set_option maxRecDepth 100000 in
set_option maxHeartbeats 4000000 in
theorem pSub_own (f : List Nd) (i : Int) (A : Option Addr) (n c : Nat) (w : World) (hc : n ≤ c) (hR : Reads w w.heap.size 6 A n (nds f)) (hm : n ≤ maxLen) :
    Calls Tryd.prog 45 #[.slice A n c, .int .i64 i] w fun e w' => ∃ A' c', e = .returned (.slice A' (subF f i).length c') ∧ w'.ownsRow w.heap.size 53 6 (.slice A' (subF f i).length c') (subF f i).length (nds (subF f i)) ∧ Below w.heap.size w w' := by
  have hl := hR.nd_len
  have HV := Lib.hid (pValid_any f A n c w hR hm)
  have HR := Lib.hid hR
  unfold maxLen at hm
  by_cases hz : fErr f = 0
  · by_cases h0 : 0 ≤ i
    · by_cases h1 : i < n
      · obtain ⟨k, rfl⟩ : ∃ k : Nat, i = (k : Int) := ⟨i.toNat, by omega⟩
        have hk : k < n := by omega
        have h200 := (fErr_ok hz).2.1
        have HC : Hid (∀ W, Reads W W.heap.size 6 A n (nds f) → Calls Tryd.prog 29 #[.slice A (k + 1) c] W fun e w' => ∃ A' c', e = .returned (.slice A' (subF f k).length c') ∧ w'.ownsRow W.heap.size 53 6 (.slice A' (subF f k).length c') (subF f k).length (nds (subF f k)) ∧ Below W.heap.size W w') :=
          Lib.hid (fun W h => by
            have := pCanon_own (f.take (k + 1)) ((OkL_of hz).take (by omega)) A (k + 1) c W (h.takeN (by omega)) (by omega)
            have e1 : subF f k = canonF (f.take (k + 1)) := by unfold subF; rw [if_pos ⟨hz, by omega, by omega⟩, Int.toNat_natCast]
            rw [e1]; exact this)
        rw [hz] at HV
        generalize subF f k = q at *
        have d0 : decide ((k : Int) < 0) = false := decide_eq_false (by omega)
        have d1 : decide ((k : Int) ≥ (n : Int)) = false := decide_eq_false (by omega)
        have d2 : decide (n ≤ k) = false := decide_eq_false (by omega)
        clear hR hl hz h0 h1
        go_enter Tryd.func45, Tryd.ntmps45
        go_wp2_with fail
        refine (HV.out).mono ?_
        rintro e w1 ⟨rfl, hb⟩
        have HB := Lib.hid hb
        have hR1 := (HR.out.below hb).more hb.size
        clear hb
        go_wp2_with fail
        refine (HC.out w1 hR1).mono ?_
        rintro e w2 ⟨A', c', rfl, hR2, hb2⟩
        have HR2 := Lib.hid (own_baseR hR2 HB.out.size)
        have HB2 := Lib.hid (HB.out.trans (hb2.mono HB.out.size))
        clear hR2 hb2 hR1
        go_wp2
        go_ret
        exact ⟨A', c', rfl, HR2.out, HB2.out⟩
      · have d0 : decide (i < 0) = false := decide_eq_false (by omega)
        have d1 : decide (i ≥ (n : Int)) = true := decide_eq_true (by omega)
        have HE : Hid (subF f i = []) := Lib.hid (by unfold subF; rw [if_neg (by omega)])
        rw [hz] at HV
        generalize subF f i = q at *
        have HE2 : q = [] := HE.out
        subst HE2
        clear HE hR h0 h1 hz hl
        go_enter Tryd.func45, Tryd.ntmps45
        go_wp2_with fail
        refine (HV.out).mono ?_
        rintro e w1 ⟨rfl, hb1⟩
        have HB1 := Lib.hid hb1
        clear hb1
        go_wp2
        go_ret
        exact ⟨none, 0, rfl, World.ownsRow_nil _ _ _ _, HB1.out⟩
    · have d0 : decide (i < 0) = true := decide_eq_true (by omega)
      have HE : Hid (subF f i = []) := Lib.hid (by unfold subF; rw [if_neg (by omega)])
      rw [hz] at HV
      generalize subF f i = q at *
      have HE2 : q = [] := HE.out
      subst HE2
      clear HE hR h0 hz hl
      go_enter Tryd.func45, Tryd.ntmps45
      go_wp2_with fail
      refine (HV.out).mono ?_
      rintro e w1 ⟨rfl, hb1⟩
      have HB1 := Lib.hid hb1
      clear hb1
      go_wp2
      go_ret
      exact ⟨none, 0, rfl, World.ownsRow_nil _ _ _ _, HB1.out⟩
  · have HE : Hid (subF f i = []) := Lib.hid (by unfold subF; rw [if_neg (fun e => hz e.1)])
    have hzb : (fErr f == 0) = false := by simpa using hz
    rw [hzb] at HV
    generalize subF f i = q at *
    have HE2 : q = [] := HE.out
    subst HE2
    clear HE hR hz hl
    go_enter Tryd.func45, Tryd.ntmps45
    go_wp2_with fail
    refine (HV.out).mono ?_
    rintro e w1 ⟨rfl, hb1⟩
    have HB1 := Lib.hid hb1
    clear hb1
    go_wp2
    go_ret
    exact ⟨none, 0, rfl, World.ownsRow_nil _ _ _ _, HB1.out⟩
end Go.Proofs.YtcdmchaehafijaaDoor
/- Layer 5: lists of lists compared; the law FormulaCompacts. -/
namespace Go.Proofs.YtcdmchaehafijaaDoor
open Go.RowKit Go.Proofs.Ws Go.Maps
theorem LL.item {W : World} {base : Nat} {v : Value} {ls : List (List Nd)} (h : LL W base v ls) : ∃ A c, v = .slice A ls.length c ∧ ∀ k, k < ls.length → ∃ ad Aj cj, A = some ad ∧ W.cell? (ad.add k) = some (.slice Aj (ls.getD k []).length cj) ∧ Reads W W.heap.size 6 Aj (ls.getD k []).length (nds (ls.getD k [])) := by
  obtain ⟨vs, h1, h2⟩ := h.row
  obtain ⟨A, c, rfl⟩ := own_sl h1
  refine ⟨A, c, rfl, fun k hk => ?_⟩
  obtain ⟨ad, hA, _, hc⟩ := (Reads.of_own h1).2 (by omega)
  obtain ⟨Aj, cj, hv, ho⟩ := h2 k hk
  exact ⟨ad, Aj, cj, hA, hc k _ hv, Reads.of_own ho⟩
end Go.Proofs.YtcdmchaehafijaaDoor
