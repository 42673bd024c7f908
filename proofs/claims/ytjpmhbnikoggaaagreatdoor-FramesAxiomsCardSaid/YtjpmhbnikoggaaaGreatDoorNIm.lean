/- Layer 6: texts joined: Fr13 Fr14 Fr15. -/
import Derived.Test.YtjpmhbnikoggaaaGreatDoorNIl
import Derived.Deep.LoopGhost
import Derived.WalkMore
/- Layer 15 as plain mathematics: lists of worlds as numbers, counted one after another. -/
namespace Go.Proofs.YtjpmhbnikoggaaaGreatDoor
open Go.Proofs.Ws
/-- a list of digits as a number in base n -/
def numV (n : Nat) : List Nat → Nat
  | [] => 0
  | d :: t => d * n ^ t.length + numV n t
def DigL (n m : Nat) (x : List Nat) : Prop := x.length = m ∧ ∀ d ∈ x, d < n
theorem numV_lt {n : Nat} : ∀ x : List Nat, (∀ d ∈ x, d < n) → numV n x < n ^ x.length
  | [], _ => by show 0 < 1; decide
  | d :: t, h => by
    have h1 := numV_lt t (fun e he => h e (List.mem_cons_of_mem _ he))
    have h2 := h d List.mem_cons_self
    show d * n ^ t.length + numV n t < n ^ (t.length + 1)
    have h3 : (d + 1) * n ^ t.length ≤ n * n ^ t.length := Nat.mul_le_mul_right _ h2
    rw [Nat.add_mul, Nat.one_mul] at h3
    rw [Nat.pow_succ, Nat.mul_comm (n ^ t.length) n]
    omega
theorem numV_inj {n : Nat} : ∀ x y : List Nat, x.length = y.length → (∀ d ∈ x, d < n) → (∀ d ∈ y, d < n) → numV n x = numV n y → x = y
  | [], [], _, _, _, _ => rfl
  | [], _ :: _, h, _, _, _ => by simp at h
  | _ :: _, [], h, _, _, _ => by simp at h
  | d :: t, e :: s, h, hx, hy, he => by
    have hl : t.length = s.length := by simpa using h
    have h1 := numV_lt t (fun e he => hx e (List.mem_cons_of_mem _ he))
    have h2 := numV_lt s (fun e he => hy e (List.mem_cons_of_mem _ he))
    have h3 : d * n ^ t.length + numV n t = e * n ^ s.length + numV n s := he
    rw [← hl] at h2 h3
    have hp : 0 < n ^ t.length := by omega
    have d1 : (d * n ^ t.length + numV n t) / n ^ t.length = d := by
      rw [Nat.add_comm, Nat.add_mul_div_right _ _ hp, Nat.div_eq_of_lt h1, Nat.zero_add]
    have d2 : (e * n ^ t.length + numV n s) / n ^ t.length = e := by
      rw [Nat.add_comm, Nat.add_mul_div_right _ _ hp, Nat.div_eq_of_lt h2, Nat.zero_add]
    have hde : d = e := by rw [← d1, h3, d2]
    subst hde
    have ht := numV_inj t s hl (fun e he => hx e (List.mem_cons_of_mem _ he)) (fun e he => hy e (List.mem_cons_of_mem _ he)) (by omega)
    rw [ht]
theorem numV_set {n : Nat} : ∀ (x : List Nat) (i d : Nat), i < x.length → numV n (x.set i d) + x.getD i 0 * n ^ (x.length - 1 - i) = numV n x + d * n ^ (x.length - 1 - i)
  | [], _, _, h => by simp at h
  | e :: t, 0, d, _ => by
    show d * n ^ t.length + numV n t + e * n ^ (t.length + 1 - 1 - 0) = e * n ^ t.length + numV n t + d * n ^ (t.length + 1 - 1 - 0)
    rw [show t.length + 1 - 1 - 0 = t.length by omega]
    omega
  | e :: t, i + 1, d, h => by
    have hi : i < t.length := by simpa using h
    have ih := numV_set (n := n) t i d hi
    show e * n ^ (t.set i d).length + numV n (t.set i d) + t.getD i 0 * n ^ (t.length + 1 - 1 - (i + 1)) = e * n ^ t.length + numV n t + d * n ^ (t.length + 1 - 1 - (i + 1))
    rw [List.length_set, show t.length + 1 - 1 - (i + 1) = t.length - 1 - i by omega]
    omega
theorem DigL.set {n m i d : Nat} {x : List Nat} (h : DigL n m x) (hd : d < n) : DigL n m (x.set i d) := ⟨by rw [List.length_set]; exact h.1, fun e he => by
  rcases List.mem_or_eq_of_mem_set he with h1 | h1
  · exact h.2 e h1
  · rw [h1]; exact hd⟩
/-- the count at place i: the places behind it have come round to 0 -/
def CntR (n m : Nat) (x z : List Nat) (i : Nat) : Prop := DigL n m z ∧ i ≤ m ∧ numV n x + 1 = numV n z + n ^ (m - i)
theorem CntR.start {n m : Nat} {x : List Nat} (h : DigL n m x) : CntR n m x x m := ⟨h, Nat.le_refl _, by rw [Nat.sub_self, Nat.pow_zero]⟩
theorem CntR.up {n m i : Nat} {x z : List Nat} (h : CntR n m x z (i + 1)) (hd : z.getD i 0 + 1 < n) : DigL n m (z.set i (z.getD i 0 + 1)) ∧ numV n (z.set i (z.getD i 0 + 1)) = numV n x + 1 := by
  have hi : i < z.length := by rw [h.1.1]; exact h.2.1
  have h1 := numV_set (n := n) z i (z.getD i 0 + 1) hi
  have h2 := h.2.2
  rw [h.1.1, Nat.add_mul, Nat.one_mul] at h1
  rw [show m - (i + 1) = m - 1 - i by omega] at h2
  exact ⟨h.1.set hd, by omega⟩
theorem CntR.next {n m i : Nat} {x z : List Nat} (h : CntR n m x z (i + 1)) (hd : ¬ z.getD i 0 + 1 < n) (hn : 0 < n) : CntR n m x (z.set i 0) i := by
  have hi : i < z.length := by rw [h.1.1]; exact h.2.1
  have h1 := numV_set (n := n) z i 0 hi
  have h2 := h.2.2
  have h3 : z.getD i 0 < n := h.1.2 _ (by rw [List.getD_eq_getElem?_getD, List.getElem?_eq_getElem hi]; exact List.getElem_mem hi)
  have h4 : z.getD i 0 = n - 1 := by omega
  rw [h.1.1, h4, Nat.zero_mul] at h1
  rw [show m - (i + 1) = m - 1 - i by omega] at h2
  refine ⟨h.1.set hn, by have := h.2.1; omega, ?_⟩
  have hm := h.2.1
  have h5 : n ^ (m - i) = (n - 1) * n ^ (m - 1 - i) + n ^ (m - 1 - i) := by
    rw [show m - i = (m - 1 - i) + 1 by omega, Nat.pow_succ, Nat.mul_comm, Nat.sub_mul, Nat.one_mul]
    have : n ^ (m - 1 - i) ≤ n * n ^ (m - 1 - i) := Nat.le_mul_of_pos_left _ hn
    omega
  omega
theorem CntR.last {n m : Nat} {x z : List Nat} (h : CntR n m x z 0) (_hx : DigL n m x) : ∀ y, DigL n m y → numV n y ≤ numV n x := fun y hy => by
  have h1 := numV_lt y hy.2
  rw [hy.1] at h1
  have h2 := h.2.2
  rw [Nat.sub_zero] at h2
  omega
/-- the least list of worlds that shows that a relation lacks a property -/
structure WitP (n : Nat) (p : Int) (l x : List Nat) : Prop where
  dig : DigL n (lenP p) x
  shows : shB p l x = true
  least : ∀ y, DigL n (lenP p) y → shB p l y = true → numV n x ≤ numV n y
theorem WitP.unique {n : Nat} {p : Int} {l x y : List Nat} (h : WitP n p l x) (k : WitP n p l y) : x = y :=
  numV_inj x y (by rw [h.dig.1, k.dig.1]) h.dig.2 k.dig.2 (Nat.le_antisymm (h.least y k.dig k.shows) (k.least x h.dig h.shows))
/-- what has been tried before x does not show it -/
def TriedB (n : Nat) (p : Int) (l x : List Nat) : Prop := DigL n (lenP p) x ∧ ∀ y, DigL n (lenP p) y → numV n y < numV n x → shB p l y = false
theorem numV_zeros {n : Nat} : ∀ m, numV n (List.replicate m 0) = 0
  | 0 => rfl
  | m + 1 => by
    show 0 * _ + numV n (List.replicate m 0) = 0
    rw [numV_zeros m, Nat.zero_mul]
theorem TriedB.start {n : Nat} {p : Int} {l : List Nat} (hn : 0 < n) : TriedB n p l (List.replicate (lenP p) 0) :=
  ⟨⟨by simp, fun d hd => by rw [(List.mem_replicate.1 hd).2]; exact hn⟩, fun y _ hy => by rw [numV_zeros] at hy; omega⟩
theorem TriedB.hit {n : Nat} {p : Int} {l x : List Nat} (h : TriedB n p l x) (hs : shB p l x = true) : WitP n p l x := ⟨h.1, hs, fun y hy hys => by
  rcases Nat.lt_or_ge (numV n y) (numV n x) with k | k
  · rw [h.2 y hy k] at hys; cases hys
  · exact k⟩
theorem TriedB.next {n : Nat} {p : Int} {l x y : List Nat} (h : TriedB n p l x) (hs : shB p l x = false) (hy : DigL n (lenP p) y) (e : numV n y = numV n x + 1) : TriedB n p l y := ⟨hy, fun z hz hlt => by
  by_cases k : numV n z = numV n x
  · rw [numV_inj z x (by rw [hz.1, h.1.1]) hz.2 h.1.2 k]; exact hs
  · exact h.2 z hz (by omega)⟩
theorem TriedB.all {n : Nat} {p : Int} {l x : List Nat} (h : TriedB n p l x) (hs : shB p l x = false) (hl : ∀ y, DigL n (lenP p) y → numV n y ≤ numV n x) : ∀ y, DigL n (lenP p) y → shB p l y = false := fun y hy => by
  by_cases k : numV n y = numV n x
  · rw [numV_inj y x (by rw [hy.1, h.1.1]) hy.2 h.1.2 k]; exact hs
  · exact h.2 y hy (by have := hl y hy; omega)
end Go.Proofs.YtjpmhbnikoggaaaGreatDoor
/- Layer 15: witness by the program: the least list of worlds that shows that a relation lacks a property. -/
namespace Go.Proofs.YtjpmhbnikoggaaaGreatDoor
open Go.RowKit Go.Proofs.Ws
set_option maxRecDepth 100000
theorem Tryz.infoI : (Tryz.prog.info? 3).map (fun i => (i.zero, i.size, i.bytes)) = some (some (.int .i64 0), 1, 8) := by kernel_rfl
set_option maxRecDepth 100000
/-- block g holds just these numbers -/
def HoldsN (w : World) (g : Nat) (l : List Nat) : Prop := w.heap[g]? = some (.cells (iv l).toArray 3 (0, 0))
theorem made_iv (n : Nat) : madeCells (Value.int IntKind.i64 0).cells n = (iv (List.replicate n 0)).toArray := by
  apply Array.ext
  · simp [madeCells, iv]
  · intro i h1 h2
    simp [madeCells, iv, Value.cells, Nat.mod_one]
theorem makeN (w : World) (n : Nat) (hn : n ≤ 1000000) : (Instr.makeSlice 28 (.int .i64 (n : Int)) (.int .i64 (n : Int))).run Tryz.prog w = .ok (.slice (some ⟨w.heap.size, 0, none⟩) n n) (w.alloc (.cells (iv (List.replicate n 0)).toArray 3)) := by
  obtain ⟨i0, hi, hz0, hz1, hz2⟩ := info_parts Tryz.infoI
  have h := run_make (P := Tryz.prog) w 28 3 i0 (.int .i64 0) Tryz.underlying28 hi hz0 .i64 .i64 n n (by omega) (Int.le_refl _) (by rw [hz2]; omega) (by omega)
  rw [h, hz1]
  simp only [Int.toNat_natCast, Nat.mul_one]
  rw [made_iv]
theorem HoldsN.cell {w : World} {g : Nat} {l : List Nat} (h : HoldsN w g l) (k : Nat) (hk : k < l.length) : w.cell? ⟨g, k, none⟩ = some (.int .i64 ((l.getD k 0 : Nat) : Int)) := by
  rw [Lib.cell_of_heap h, List.getElem?_toArray]
  unfold iv
  rw [List.getElem?_map, List.getElem?_eq_getElem hk, List.getD_eq_getElem?_getD, List.getElem?_eq_getElem hk]
  rfl
theorem HoldsN.free {w : World} {g : Nat} {l : List Nat} (h : HoldsN w g l) (k : Nat) : w.frozen? ⟨g, k, none⟩ = false := Lib.frozen_of_heap h k
theorem HoldsN.put {w : World} {g : Nat} {l : List Nat} (h : HoldsN w g l) (k x : Nat) : HoldsN (w.setCell ⟨g, k, none⟩ (.int .i64 (x : Int))) g (l.set k x) := by
  unfold HoldsN at h ⊢
  have e : (iv (l.set k x)).toArray = (iv l).toArray.setIfInBounds k (.int .i64 (x : Int)) := by
    unfold iv
    rw [List.map_set]
    simp
  rw [e]
  simp [World.setCell, Array.getElem?_modify, h]
theorem HoldsN.lt {w : World} {g : Nat} {l : List Nat} (h : HoldsN w g l) : g < w.heap.size := (Array.getElem?_eq_some_iff.1 h).1
theorem HoldsN.reads {w : World} {g : Nat} {l : List Nat} (h : HoldsN w g l) : Reads w w.heap.size 1 (some ⟨g, 0, none⟩) l.length (iv l) := by
  refine ⟨by rw [iv_length]; omega, fun _ => ⟨_, rfl, h.lt, fun j u hu => ?_⟩⟩
  rw [addr0]
  unfold iv at hu
  rw [List.getElem?_map] at hu
  obtain ⟨k, hk, rfl⟩ := Option.map_eq_some_iff.1 hu
  have hj : j < l.length := by
    by_cases h' : j < l.length
    · exact h'
    · rw [List.getElem?_eq_none (by omega)] at hk; cases hk
  rw [h.cell j hj, List.getD_eq_getElem?_getD, hk]; rfl
/-- what witness returns -/
def WitE (n : Nat) (p : Int) (l : List Nat) (w : World) (e : Ending) (w' : World) : Prop :=
  (((HasQ n l p ∨ ∀ y, DigL n (lenP p) y → shB p l y = false) ∧ e = .returned (.slice none 0 0)) ∨
  ∃ g c x, WitP n p l x ∧ ¬ HasQ n l p ∧ e = .returned (.slice (some ⟨g, 0, none⟩) (lenP p) c) ∧ w.heap.size ≤ g ∧ HoldsN w' g x) ∧ Below w.heap.size w w'
set_option maxHeartbeats 8000000 in
theorem wit1_any (l : List Nat) (A : Option Addr) (n c : Nat) (fa fs : Fn) (ca cb cs ct : Array Value) (w : World) (hR : Reads w w.heap.size 1 A n (us l)) (hw : Words l) (h1 : ¬ HasQ n l 1 → 1 ≤ n) (hn : n ≤ 64) (hT : Tab w) :
    Calls Tryz.prog 50 #[.agg #[.int .i64 1, .func fa ca cb, .int .i64 1, .func (.func 92) #[] #[], .func fs cs ct], .slice A n c] w (WitE n 1 l w) := by
  unfold WitE
  have HH := Lib.hid (fun W (hb : Below w.heap.size w W) => hasQ_any l A n c 1 W ((hR.below hb).more hb.size) hw (by unfold maxLen; omega) (hT.below hb))
  have HS := Lib.hid (fun W (hb : Below w.heap.size w W) (D : Option Addr) (d : Nat) (x : List Nat) (hX : Reads W W.heap.size 1 D 1 (iv x)) (hx : DigL n 1 x) => show1_any l x A D n c d W ((hR.below hb).more hb.size)  hX (fun k hk => hx.2 _ (by rw [List.getD_eq_getElem?_getD, List.getElem?_eq_getElem (by rw [hx.1]; exact hk)]; exact List.getElem_mem _)))
  have HB0 : Hid (Below w.heap.size w (w.alloc (.cells #[.int .i64 1, .func fa ca cb, .int .i64 1, .func (.func 92) #[] #[], .func fs cs ct] 72))) := Lib.hid ((Below.refl _ w).alloc (Nat.le_refl _) _)
  have kb := heap_alloc_new w (.cells #[.int .i64 1, .func fa ca cb, .int .i64 1, .func (.func 92) #[] #[], .func fs cs ct] 72)
  have KB := Lib.hid kb
  have hlp : lenP 1 = 1 := rfl
  rw [hlp]
  have g0 := (Lib.cell_of_heap kb 0).trans (show _ = some (Value.int .i64 1) from rfl)
  clear hR hT hw kb
  by_cases hq : HasQ n l 1
  · have e : qB (HasQ n l 1) = true := (qB_iff _).2 hq
    rw [e] at HH
    have HQ := Lib.hid hq
    clear e hq h1
    go_enter Tryz.func50, Tryz.ntmps50
    go_wp2
    go_step3
    go_wp2_with fail
    refine (HH.out _ HB0.out).mono ?_
    rintro e w2 ⟨rfl, hb⟩
    have HB2 := Lib.hid (HB0.out.trans (hb.mono HB0.out.size))
    clear hb
    go_wp2
    (try rw [Exit.noGoto_ret])
    go_ret
    exact ⟨.inl ⟨.inl HQ.out, rfl⟩, HB2.out⟩
  · have e : qB (HasQ n l 1) = false := qB_false hq
    rw [e] at HH
    have HQ := Lib.hid hq
    replace h1 : 1 ≤ n := h1 hq
    have hmk : ∀ W : World, (Instr.makeSlice 28 (.int .i64 1) (.int .i64 1)).run Tryz.prog W = .ok (.slice (some ⟨W.heap.size, 0, none⟩) 1 1) (W.alloc (.cells (iv (List.replicate 1 0)).toArray 3)) := fun W => makeN W 1 (by omega)
    clear e hq
    go_enter Tryz.func50, Tryz.ntmps50
    go_wp2
    go_step3
    go_wp2_with fail
    refine (HH.out _ HB0.out).mono ?_
    rintro e w2 ⟨rfl, hb⟩
    have HB2 := Lib.hid (HB0.out.trans (hb.mono HB0.out.size))
    have KB2 := Lib.hid ((hb.block _ (by simp)).trans KB.out)
    clear hb
    have g2 := (Lib.cell_of_heap KB2.out 2).trans (show _ = some (Value.int .i64 1) from rfl)
    go_wp2
    go_step3
    clear g2 g0
    have HN0 : Hid (HoldsN (w2.alloc (.cells (iv [0]).toArray 3)) w2.heap.size (List.replicate 1 0)) := Lib.hid (heap_alloc_new w2 _)
    have HB3 : Hid (Below w.heap.size w (w2.alloc (.cells (iv [0]).toArray 3))) := Lib.hid (HB2.out.alloc HB2.out.size _)
    have KB3 := Lib.hid ((Below.heap_alloc w2 (.cells (iv [0]).toArray 3) w.heap.size (Array.getElem?_eq_some_iff.1 KB2.out).1).trans KB2.out)
    have HG : Hid (w.heap.size < w2.heap.size) := Lib.hid (Array.getElem?_eq_some_iff.1 KB2.out).1
    generalize w2.alloc (.cells (iv [0]).toArray 3) = w3 at *
    generalize w2.heap.size = G at *
    clear hmk
    have hNz : 0 < n ^ 1 := Nat.pow_pos (by omega)
    obtain ⟨N, hN⟩ : ∃ N, n ^ 1 = N := ⟨_, rfl⟩
    have HN := Lib.hid hN
    go_wp2
    go_loopg [6] N (fun g s6 wr => ∃ x, numV n x + g = N ∧ Hid (TriedB n 1 l x ∧ HoldsN wr G x ∧ wr.heap[w.heap.size]? = some (.cells #[.int .i64 1, .func fa ca cb, .int .i64 1, .func (.func 92) #[] #[], .func fs cs ct] 72) ∧ Below w.heap.size w wr))
    case atStart => exact ⟨List.replicate 1 0, by rw [numV_zeros]; omega, Lib.hid ⟨TriedB.start (by omega), HN0.out, KB3.out, HB3.out⟩⟩
    case round =>
      obtain ⟨x, hxg, HI⟩ := hrel
      have hdx : DigL n 1 x := HI.out.1.1
      have hlx := hdx.1
      have hltx := numV_lt x hdx.2
      rw [hlx, HN.out] at hltx
      obtain ⟨g, rfl⟩ : ∃ g, gk = g + 1 := ⟨gk - 1, by omega⟩
      have f3 := (Lib.cell_of_heap HI.out.2.2.1 3).trans (show _ = some (Value.func (.func 92) #[] #[]) from rfl)
      have hrd := HI.out.2.1.reads
      rw [hlx] at hrd
      have HC := Lib.hid (HS.out wr HI.out.2.2.2 (some ⟨G, 0, none⟩) 1 x hrd hdx)
      have HXG := Lib.hid hxg
      clear hrd hltx hxg
      cases hs : shB 1 l x with
      | true =>
        rw [hs] at HC
        have HW : Hid (WitP n 1 l x) := Lib.hid (HI.out.1.hit hs)
        clear hs hdx hlx
        go_wp2_with fail
        refine (HC.out).mono ?_
        rintro e w4 ⟨rfl, hb⟩
        have HE : Hid (HoldsN w4 G x ∧ Below w.heap.size w w4) := Lib.hid ⟨(hb.block G HI.out.2.1.lt).trans HI.out.2.1, HI.out.2.2.2.trans (hb.mono HI.out.2.2.2.size)⟩
        clear hb
        go_wp2
        (try rw [Exit.noGoto_ret])
        go_ret
        exact ⟨.inr ⟨G, 1, x, HW.out, HQ.out, rfl, Nat.le_of_lt HG.out, HE.out.1⟩, HE.out.2⟩
      | false =>
        rw [hs] at HC
        have HF := Lib.hid hs
        have HD := Lib.hid hdx
        clear hs hlx hdx
        go_wp2_with fail
        refine (HC.out).mono ?_
        rintro e w4 ⟨rfl, hb⟩
        have HE : Hid (HoldsN w4 G x ∧ w4.heap[w.heap.size]? = some (.cells #[.int .i64 1, .func fa ca cb, .int .i64 1, .func (.func 92) #[] #[], .func fs cs ct] 72) ∧ Below w.heap.size w w4) := Lib.hid ⟨(hb.block G HI.out.2.1.lt).trans HI.out.2.1, (hb.block _ (Array.getElem?_eq_some_iff.1 HI.out.2.2.1).1).trans HI.out.2.2.1, HI.out.2.2.2.trans (hb.mono HI.out.2.2.2.size)⟩
        clear hb f3
        go_wp2
        go_loopg [6] 1 (fun g2 s6 wy => ∃ z, s6 = .int .i64 ((g2 : Int) - 1) ∧ Hid (CntR n 1 x z g2 ∧ HoldsN wy G z ∧ wy.heap[w.heap.size]? = some (.cells #[.int .i64 1, .func fa ca cb, .int .i64 1, .func (.func 92) #[] #[], .func fs cs ct] 72) ∧ Below w.heap.size w wy))
        case atStart => exact ⟨x, rfl, Lib.hid ⟨CntR.start HD.out, HE.out⟩⟩
        case round =>
          obtain ⟨z, rfl, HJ⟩ := hrel
          cases gk with
          | zero =>
            go_wp2
            (try rw [Exit.noGoto_ret])
            go_ret
            exact ⟨.inl ⟨.inr (HI.out.1.all HF.out (HJ.out.1.last HD.out)), rfl⟩, HJ.out.2.2.2⟩
          | succ i =>
            rw [show ((i + 1 : Nat) : Int) - 1 = (i : Int) by omega]
            have him : i < 1 := HJ.out.1.2.1
            have hzl : z.length = 1 := HJ.out.1.1.1
            have cz := HJ.out.2.1.cell i (by omega)
            have fz := HJ.out.2.1.free i
            have hdn : z.getD i 0 < n := HJ.out.1.1.2 _ (by rw [List.getD_eq_getElem?_getD, List.getElem?_eq_getElem (by omega)]; exact List.getElem_mem _)
            have di : decide ((0 : Int) ≤ (i : Int)) = true := decide_eq_true (by omega)
            by_cases hd : z.getD i 0 + 1 < n
            · have HU := Lib.hid (HJ.out.1.up hd)
              have HP := Lib.hid (HJ.out.2.1.put i (z.getD i 0 + 1))
              have HB := Lib.hid (HJ.out.2.2.2.setCell (p := ⟨G, i, none⟩) (Nat.le_of_lt HG.out) (.int .i64 ((z.getD i 0 + 1 : Nat) : Int)))
              have HK := Lib.hid ((Below.heap_setCell wr ⟨G, i, none⟩ (.int .i64 ((z.getD i 0 + 1 : Nat) : Int)) w.heap.size (by have := HG.out; show w.heap.size ≠ G; omega)).trans HJ.out.2.2.1)
              have HV := Lib.hid (HI.out.1.next HF.out HU.out.1 HU.out.2)
              generalize z.getD i 0 = d at *
              have dd : decide ((d : Int) + 1 < (n : Int)) = true := decide_eq_true (by omega)
              go_wp2
              go_roundg g
              case measure => omega
              case rel => exact ⟨z.set i (d + 1), by have := HU.out.2; have := HXG.out; omega, Lib.hid ⟨HV.out, HP.out, HK.out, HB.out⟩⟩
            · have HU := Lib.hid (HJ.out.1.next hd h1)
              have HP := Lib.hid (HJ.out.2.1.put i 0)
              have HB := Lib.hid (HJ.out.2.2.2.setCell (p := ⟨G, i, none⟩) (Nat.le_of_lt HG.out) (.int .i64 ((0 : Nat) : Int)))
              have HK := Lib.hid ((Below.heap_setCell wr ⟨G, i, none⟩ (.int .i64 ((0 : Nat) : Int)) w.heap.size (by have := HG.out; show w.heap.size ≠ G; omega)).trans HJ.out.2.2.1)
              generalize z.getD i 0 = d at *
              have dd : decide ((d : Int) + 1 < (n : Int)) = false := decide_eq_false (by omega)
              go_wp2
              go_roundg i
              case measure => omega
              case rel => exact ⟨z.set i 0, by go_num, Lib.hid ⟨HU.out, HP.out, HK.out, HB.out⟩⟩
set_option maxHeartbeats 8000000 in
theorem wit2_any (l : List Nat) (A : Option Addr) (n c : Nat) (fa fs : Fn) (ca cb cs ct : Array Value) (w : World) (hR : Reads w w.heap.size 1 A n (us l)) (hw : Words l) (h1 : ¬ HasQ n l 2 → 1 ≤ n) (hn : n ≤ 64) (hT : Tab w) :
    Calls Tryz.prog 50 #[.agg #[.int .i64 2, .func fa ca cb, .int .i64 1, .func (.func 95) #[] #[], .func fs cs ct], .slice A n c] w (WitE n 2 l w) := by
  unfold WitE
  have HH := Lib.hid (fun W (hb : Below w.heap.size w W) => hasQ_any l A n c 2 W ((hR.below hb).more hb.size) hw (by unfold maxLen; omega) (hT.below hb))
  have HS := Lib.hid (fun W (hb : Below w.heap.size w W) (D : Option Addr) (d : Nat) (x : List Nat) (hX : Reads W W.heap.size 1 D 1 (iv x)) (hx : DigL n 1 x) => show2_any l x A D n c d W ((hR.below hb).more hb.size) hw hn hX (fun k hk => hx.2 _ (by rw [List.getD_eq_getElem?_getD, List.getElem?_eq_getElem (by rw [hx.1]; exact hk)]; exact List.getElem_mem _)))
  have HB0 : Hid (Below w.heap.size w (w.alloc (.cells #[.int .i64 2, .func fa ca cb, .int .i64 1, .func (.func 95) #[] #[], .func fs cs ct] 72))) := Lib.hid ((Below.refl _ w).alloc (Nat.le_refl _) _)
  have kb := heap_alloc_new w (.cells #[.int .i64 2, .func fa ca cb, .int .i64 1, .func (.func 95) #[] #[], .func fs cs ct] 72)
  have KB := Lib.hid kb
  have hlp : lenP 2 = 1 := rfl
  rw [hlp]
  have g0 := (Lib.cell_of_heap kb 0).trans (show _ = some (Value.int .i64 2) from rfl)
  clear hR hT hw kb
  by_cases hq : HasQ n l 2
  · have e : qB (HasQ n l 2) = true := (qB_iff _).2 hq
    rw [e] at HH
    have HQ := Lib.hid hq
    clear e hq h1
    go_enter Tryz.func50, Tryz.ntmps50
    go_wp2
    go_step3
    go_wp2_with fail
    refine (HH.out _ HB0.out).mono ?_
    rintro e w2 ⟨rfl, hb⟩
    have HB2 := Lib.hid (HB0.out.trans (hb.mono HB0.out.size))
    clear hb
    go_wp2
    (try rw [Exit.noGoto_ret])
    go_ret
    exact ⟨.inl ⟨.inl HQ.out, rfl⟩, HB2.out⟩
  · have e : qB (HasQ n l 2) = false := qB_false hq
    rw [e] at HH
    have HQ := Lib.hid hq
    replace h1 : 1 ≤ n := h1 hq
    have hmk : ∀ W : World, (Instr.makeSlice 28 (.int .i64 1) (.int .i64 1)).run Tryz.prog W = .ok (.slice (some ⟨W.heap.size, 0, none⟩) 1 1) (W.alloc (.cells (iv (List.replicate 1 0)).toArray 3)) := fun W => makeN W 1 (by omega)
    clear e hq
    go_enter Tryz.func50, Tryz.ntmps50
    go_wp2
    go_step3
    go_wp2_with fail
    refine (HH.out _ HB0.out).mono ?_
    rintro e w2 ⟨rfl, hb⟩
    have HB2 := Lib.hid (HB0.out.trans (hb.mono HB0.out.size))
    have KB2 := Lib.hid ((hb.block _ (by simp)).trans KB.out)
    clear hb
    have g2 := (Lib.cell_of_heap KB2.out 2).trans (show _ = some (Value.int .i64 1) from rfl)
    go_wp2
    go_step3
    clear g2 g0
    have HN0 : Hid (HoldsN (w2.alloc (.cells (iv [0]).toArray 3)) w2.heap.size (List.replicate 1 0)) := Lib.hid (heap_alloc_new w2 _)
    have HB3 : Hid (Below w.heap.size w (w2.alloc (.cells (iv [0]).toArray 3))) := Lib.hid (HB2.out.alloc HB2.out.size _)
    have KB3 := Lib.hid ((Below.heap_alloc w2 (.cells (iv [0]).toArray 3) w.heap.size (Array.getElem?_eq_some_iff.1 KB2.out).1).trans KB2.out)
    have HG : Hid (w.heap.size < w2.heap.size) := Lib.hid (Array.getElem?_eq_some_iff.1 KB2.out).1
    generalize w2.alloc (.cells (iv [0]).toArray 3) = w3 at *
    generalize w2.heap.size = G at *
    clear hmk
    have hNz : 0 < n ^ 1 := Nat.pow_pos (by omega)
    obtain ⟨N, hN⟩ : ∃ N, n ^ 1 = N := ⟨_, rfl⟩
    have HN := Lib.hid hN
    go_wp2
    go_loopg [6] N (fun g s6 wr => ∃ x, numV n x + g = N ∧ Hid (TriedB n 2 l x ∧ HoldsN wr G x ∧ wr.heap[w.heap.size]? = some (.cells #[.int .i64 2, .func fa ca cb, .int .i64 1, .func (.func 95) #[] #[], .func fs cs ct] 72) ∧ Below w.heap.size w wr))
    case atStart => exact ⟨List.replicate 1 0, by rw [numV_zeros]; omega, Lib.hid ⟨TriedB.start (by omega), HN0.out, KB3.out, HB3.out⟩⟩
    case round =>
      obtain ⟨x, hxg, HI⟩ := hrel
      have hdx : DigL n 1 x := HI.out.1.1
      have hlx := hdx.1
      have hltx := numV_lt x hdx.2
      rw [hlx, HN.out] at hltx
      obtain ⟨g, rfl⟩ : ∃ g, gk = g + 1 := ⟨gk - 1, by omega⟩
      have f3 := (Lib.cell_of_heap HI.out.2.2.1 3).trans (show _ = some (Value.func (.func 95) #[] #[]) from rfl)
      have hrd := HI.out.2.1.reads
      rw [hlx] at hrd
      have HC := Lib.hid (HS.out wr HI.out.2.2.2 (some ⟨G, 0, none⟩) 1 x hrd hdx)
      have HXG := Lib.hid hxg
      clear hrd hltx hxg
      cases hs : shB 2 l x with
      | true =>
        rw [hs] at HC
        have HW : Hid (WitP n 2 l x) := Lib.hid (HI.out.1.hit hs)
        clear hs hdx hlx
        go_wp2_with fail
        refine (HC.out).mono ?_
        rintro e w4 ⟨rfl, hb⟩
        have HE : Hid (HoldsN w4 G x ∧ Below w.heap.size w w4) := Lib.hid ⟨(hb.block G HI.out.2.1.lt).trans HI.out.2.1, HI.out.2.2.2.trans (hb.mono HI.out.2.2.2.size)⟩
        clear hb
        go_wp2
        (try rw [Exit.noGoto_ret])
        go_ret
        exact ⟨.inr ⟨G, 1, x, HW.out, HQ.out, rfl, Nat.le_of_lt HG.out, HE.out.1⟩, HE.out.2⟩
      | false =>
        rw [hs] at HC
        have HF := Lib.hid hs
        have HD := Lib.hid hdx
        clear hs hlx hdx
        go_wp2_with fail
        refine (HC.out).mono ?_
        rintro e w4 ⟨rfl, hb⟩
        have HE : Hid (HoldsN w4 G x ∧ w4.heap[w.heap.size]? = some (.cells #[.int .i64 2, .func fa ca cb, .int .i64 1, .func (.func 95) #[] #[], .func fs cs ct] 72) ∧ Below w.heap.size w w4) := Lib.hid ⟨(hb.block G HI.out.2.1.lt).trans HI.out.2.1, (hb.block _ (Array.getElem?_eq_some_iff.1 HI.out.2.2.1).1).trans HI.out.2.2.1, HI.out.2.2.2.trans (hb.mono HI.out.2.2.2.size)⟩
        clear hb f3
        go_wp2
        go_loopg [6] 1 (fun g2 s6 wy => ∃ z, s6 = .int .i64 ((g2 : Int) - 1) ∧ Hid (CntR n 1 x z g2 ∧ HoldsN wy G z ∧ wy.heap[w.heap.size]? = some (.cells #[.int .i64 2, .func fa ca cb, .int .i64 1, .func (.func 95) #[] #[], .func fs cs ct] 72) ∧ Below w.heap.size w wy))
        case atStart => exact ⟨x, rfl, Lib.hid ⟨CntR.start HD.out, HE.out⟩⟩
        case round =>
          obtain ⟨z, rfl, HJ⟩ := hrel
          cases gk with
          | zero =>
            go_wp2
            (try rw [Exit.noGoto_ret])
            go_ret
            exact ⟨.inl ⟨.inr (HI.out.1.all HF.out (HJ.out.1.last HD.out)), rfl⟩, HJ.out.2.2.2⟩
          | succ i =>
            rw [show ((i + 1 : Nat) : Int) - 1 = (i : Int) by omega]
            have him : i < 1 := HJ.out.1.2.1
            have hzl : z.length = 1 := HJ.out.1.1.1
            have cz := HJ.out.2.1.cell i (by omega)
            have fz := HJ.out.2.1.free i
            have hdn : z.getD i 0 < n := HJ.out.1.1.2 _ (by rw [List.getD_eq_getElem?_getD, List.getElem?_eq_getElem (by omega)]; exact List.getElem_mem _)
            have di : decide ((0 : Int) ≤ (i : Int)) = true := decide_eq_true (by omega)
            by_cases hd : z.getD i 0 + 1 < n
            · have HU := Lib.hid (HJ.out.1.up hd)
              have HP := Lib.hid (HJ.out.2.1.put i (z.getD i 0 + 1))
              have HB := Lib.hid (HJ.out.2.2.2.setCell (p := ⟨G, i, none⟩) (Nat.le_of_lt HG.out) (.int .i64 ((z.getD i 0 + 1 : Nat) : Int)))
              have HK := Lib.hid ((Below.heap_setCell wr ⟨G, i, none⟩ (.int .i64 ((z.getD i 0 + 1 : Nat) : Int)) w.heap.size (by have := HG.out; show w.heap.size ≠ G; omega)).trans HJ.out.2.2.1)
              have HV := Lib.hid (HI.out.1.next HF.out HU.out.1 HU.out.2)
              generalize z.getD i 0 = d at *
              have dd : decide ((d : Int) + 1 < (n : Int)) = true := decide_eq_true (by omega)
              go_wp2
              go_roundg g
              case measure => omega
              case rel => exact ⟨z.set i (d + 1), by have := HU.out.2; have := HXG.out; omega, Lib.hid ⟨HV.out, HP.out, HK.out, HB.out⟩⟩
            · have HU := Lib.hid (HJ.out.1.next hd h1)
              have HP := Lib.hid (HJ.out.2.1.put i 0)
              have HB := Lib.hid (HJ.out.2.2.2.setCell (p := ⟨G, i, none⟩) (Nat.le_of_lt HG.out) (.int .i64 ((0 : Nat) : Int)))
              have HK := Lib.hid ((Below.heap_setCell wr ⟨G, i, none⟩ (.int .i64 ((0 : Nat) : Int)) w.heap.size (by have := HG.out; show w.heap.size ≠ G; omega)).trans HJ.out.2.2.1)
              generalize z.getD i 0 = d at *
              have dd : decide ((d : Int) + 1 < (n : Int)) = false := decide_eq_false (by omega)
              go_wp2
              go_roundg i
              case measure => omega
              case rel => exact ⟨z.set i 0, by go_num, Lib.hid ⟨HU.out, HP.out, HK.out, HB.out⟩⟩
set_option maxHeartbeats 8000000 in
theorem wit3_any (l : List Nat) (A : Option Addr) (n c : Nat) (fa fs : Fn) (ca cb cs ct : Array Value) (w : World) (hR : Reads w w.heap.size 1 A n (us l)) (hw : Words l) (h1 : ¬ HasQ n l 3 → 1 ≤ n) (hn : n ≤ 64) (hT : Tab w) :
    Calls Tryz.prog 50 #[.agg #[.int .i64 3, .func fa ca cb, .int .i64 2, .func (.func 99) #[] #[], .func fs cs ct], .slice A n c] w (WitE n 3 l w) := by
  unfold WitE
  have HH := Lib.hid (fun W (hb : Below w.heap.size w W) => hasQ_any l A n c 3 W ((hR.below hb).more hb.size) hw (by unfold maxLen; omega) (hT.below hb))
  have HS := Lib.hid (fun W (hb : Below w.heap.size w W) (D : Option Addr) (d : Nat) (x : List Nat) (hX : Reads W W.heap.size 1 D 2 (iv x)) (hx : DigL n 2 x) => show3_any l x A D n c d W ((hR.below hb).more hb.size) hw hn hX (fun k hk => hx.2 _ (by rw [List.getD_eq_getElem?_getD, List.getElem?_eq_getElem (by rw [hx.1]; exact hk)]; exact List.getElem_mem _)))
  have HB0 : Hid (Below w.heap.size w (w.alloc (.cells #[.int .i64 3, .func fa ca cb, .int .i64 2, .func (.func 99) #[] #[], .func fs cs ct] 72))) := Lib.hid ((Below.refl _ w).alloc (Nat.le_refl _) _)
  have kb := heap_alloc_new w (.cells #[.int .i64 3, .func fa ca cb, .int .i64 2, .func (.func 99) #[] #[], .func fs cs ct] 72)
  have KB := Lib.hid kb
  have hlp : lenP 3 = 2 := rfl
  rw [hlp]
  have g0 := (Lib.cell_of_heap kb 0).trans (show _ = some (Value.int .i64 3) from rfl)
  clear hR hT hw kb
  by_cases hq : HasQ n l 3
  · have e : qB (HasQ n l 3) = true := (qB_iff _).2 hq
    rw [e] at HH
    have HQ := Lib.hid hq
    clear e hq h1
    go_enter Tryz.func50, Tryz.ntmps50
    go_wp2
    go_step3
    go_wp2_with fail
    refine (HH.out _ HB0.out).mono ?_
    rintro e w2 ⟨rfl, hb⟩
    have HB2 := Lib.hid (HB0.out.trans (hb.mono HB0.out.size))
    clear hb
    go_wp2
    (try rw [Exit.noGoto_ret])
    go_ret
    exact ⟨.inl ⟨.inl HQ.out, rfl⟩, HB2.out⟩
  · have e : qB (HasQ n l 3) = false := qB_false hq
    rw [e] at HH
    have HQ := Lib.hid hq
    replace h1 : 1 ≤ n := h1 hq
    have hmk : ∀ W : World, (Instr.makeSlice 28 (.int .i64 2) (.int .i64 2)).run Tryz.prog W = .ok (.slice (some ⟨W.heap.size, 0, none⟩) 2 2) (W.alloc (.cells (iv (List.replicate 2 0)).toArray 3)) := fun W => makeN W 2 (by omega)
    clear e hq
    go_enter Tryz.func50, Tryz.ntmps50
    go_wp2
    go_step3
    go_wp2_with fail
    refine (HH.out _ HB0.out).mono ?_
    rintro e w2 ⟨rfl, hb⟩
    have HB2 := Lib.hid (HB0.out.trans (hb.mono HB0.out.size))
    have KB2 := Lib.hid ((hb.block _ (by simp)).trans KB.out)
    clear hb
    have g2 := (Lib.cell_of_heap KB2.out 2).trans (show _ = some (Value.int .i64 2) from rfl)
    go_wp2
    go_step3
    clear g2 g0
    have HN0 : Hid (HoldsN (w2.alloc (.cells (iv [0, 0]).toArray 3)) w2.heap.size (List.replicate 2 0)) := Lib.hid (heap_alloc_new w2 _)
    have HB3 : Hid (Below w.heap.size w (w2.alloc (.cells (iv [0, 0]).toArray 3))) := Lib.hid (HB2.out.alloc HB2.out.size _)
    have KB3 := Lib.hid ((Below.heap_alloc w2 (.cells (iv [0, 0]).toArray 3) w.heap.size (Array.getElem?_eq_some_iff.1 KB2.out).1).trans KB2.out)
    have HG : Hid (w.heap.size < w2.heap.size) := Lib.hid (Array.getElem?_eq_some_iff.1 KB2.out).1
    generalize w2.alloc (.cells (iv [0, 0]).toArray 3) = w3 at *
    generalize w2.heap.size = G at *
    clear hmk
    have hNz : 0 < n ^ 2 := Nat.pow_pos (by omega)
    obtain ⟨N, hN⟩ : ∃ N, n ^ 2 = N := ⟨_, rfl⟩
    have HN := Lib.hid hN
    go_wp2
    go_loopg [6] N (fun g s6 wr => ∃ x, numV n x + g = N ∧ Hid (TriedB n 3 l x ∧ HoldsN wr G x ∧ wr.heap[w.heap.size]? = some (.cells #[.int .i64 3, .func fa ca cb, .int .i64 2, .func (.func 99) #[] #[], .func fs cs ct] 72) ∧ Below w.heap.size w wr))
    case atStart => exact ⟨List.replicate 2 0, by rw [numV_zeros]; omega, Lib.hid ⟨TriedB.start (by omega), HN0.out, KB3.out, HB3.out⟩⟩
    case round =>
      obtain ⟨x, hxg, HI⟩ := hrel
      have hdx : DigL n 2 x := HI.out.1.1
      have hlx := hdx.1
      have hltx := numV_lt x hdx.2
      rw [hlx, HN.out] at hltx
      obtain ⟨g, rfl⟩ : ∃ g, gk = g + 1 := ⟨gk - 1, by omega⟩
      have f3 := (Lib.cell_of_heap HI.out.2.2.1 3).trans (show _ = some (Value.func (.func 99) #[] #[]) from rfl)
      have hrd := HI.out.2.1.reads
      rw [hlx] at hrd
      have HC := Lib.hid (HS.out wr HI.out.2.2.2 (some ⟨G, 0, none⟩) 2 x hrd hdx)
      have HXG := Lib.hid hxg
      clear hrd hltx hxg
      cases hs : shB 3 l x with
      | true =>
        rw [hs] at HC
        have HW : Hid (WitP n 3 l x) := Lib.hid (HI.out.1.hit hs)
        clear hs hdx hlx
        go_wp2_with fail
        refine (HC.out).mono ?_
        rintro e w4 ⟨rfl, hb⟩
        have HE : Hid (HoldsN w4 G x ∧ Below w.heap.size w w4) := Lib.hid ⟨(hb.block G HI.out.2.1.lt).trans HI.out.2.1, HI.out.2.2.2.trans (hb.mono HI.out.2.2.2.size)⟩
        clear hb
        go_wp2
        (try rw [Exit.noGoto_ret])
        go_ret
        exact ⟨.inr ⟨G, 2, x, HW.out, HQ.out, rfl, Nat.le_of_lt HG.out, HE.out.1⟩, HE.out.2⟩
      | false =>
        rw [hs] at HC
        have HF := Lib.hid hs
        have HD := Lib.hid hdx
        clear hs hlx hdx
        go_wp2_with fail
        refine (HC.out).mono ?_
        rintro e w4 ⟨rfl, hb⟩
        have HE : Hid (HoldsN w4 G x ∧ w4.heap[w.heap.size]? = some (.cells #[.int .i64 3, .func fa ca cb, .int .i64 2, .func (.func 99) #[] #[], .func fs cs ct] 72) ∧ Below w.heap.size w w4) := Lib.hid ⟨(hb.block G HI.out.2.1.lt).trans HI.out.2.1, (hb.block _ (Array.getElem?_eq_some_iff.1 HI.out.2.2.1).1).trans HI.out.2.2.1, HI.out.2.2.2.trans (hb.mono HI.out.2.2.2.size)⟩
        clear hb f3
        go_wp2
        go_loopg [6] 2 (fun g2 s6 wy => ∃ z, s6 = .int .i64 ((g2 : Int) - 1) ∧ Hid (CntR n 2 x z g2 ∧ HoldsN wy G z ∧ wy.heap[w.heap.size]? = some (.cells #[.int .i64 3, .func fa ca cb, .int .i64 2, .func (.func 99) #[] #[], .func fs cs ct] 72) ∧ Below w.heap.size w wy))
        case atStart => exact ⟨x, rfl, Lib.hid ⟨CntR.start HD.out, HE.out⟩⟩
        case round =>
          obtain ⟨z, rfl, HJ⟩ := hrel
          cases gk with
          | zero =>
            go_wp2
            (try rw [Exit.noGoto_ret])
            go_ret
            exact ⟨.inl ⟨.inr (HI.out.1.all HF.out (HJ.out.1.last HD.out)), rfl⟩, HJ.out.2.2.2⟩
          | succ i =>
            rw [show ((i + 1 : Nat) : Int) - 1 = (i : Int) by omega]
            have him : i < 2 := HJ.out.1.2.1
            have hzl : z.length = 2 := HJ.out.1.1.1
            have cz := HJ.out.2.1.cell i (by omega)
            have fz := HJ.out.2.1.free i
            have hdn : z.getD i 0 < n := HJ.out.1.1.2 _ (by rw [List.getD_eq_getElem?_getD, List.getElem?_eq_getElem (by omega)]; exact List.getElem_mem _)
            have di : decide ((0 : Int) ≤ (i : Int)) = true := decide_eq_true (by omega)
            by_cases hd : z.getD i 0 + 1 < n
            · have HU := Lib.hid (HJ.out.1.up hd)
              have HP := Lib.hid (HJ.out.2.1.put i (z.getD i 0 + 1))
              have HB := Lib.hid (HJ.out.2.2.2.setCell (p := ⟨G, i, none⟩) (Nat.le_of_lt HG.out) (.int .i64 ((z.getD i 0 + 1 : Nat) : Int)))
              have HK := Lib.hid ((Below.heap_setCell wr ⟨G, i, none⟩ (.int .i64 ((z.getD i 0 + 1 : Nat) : Int)) w.heap.size (by have := HG.out; show w.heap.size ≠ G; omega)).trans HJ.out.2.2.1)
              have HV := Lib.hid (HI.out.1.next HF.out HU.out.1 HU.out.2)
              generalize z.getD i 0 = d at *
              have dd : decide ((d : Int) + 1 < (n : Int)) = true := decide_eq_true (by omega)
              go_wp2
              go_roundg g
              case measure => omega
              case rel => exact ⟨z.set i (d + 1), by have := HU.out.2; have := HXG.out; omega, Lib.hid ⟨HV.out, HP.out, HK.out, HB.out⟩⟩
            · have HU := Lib.hid (HJ.out.1.next hd h1)
              have HP := Lib.hid (HJ.out.2.1.put i 0)
              have HB := Lib.hid (HJ.out.2.2.2.setCell (p := ⟨G, i, none⟩) (Nat.le_of_lt HG.out) (.int .i64 ((0 : Nat) : Int)))
              have HK := Lib.hid ((Below.heap_setCell wr ⟨G, i, none⟩ (.int .i64 ((0 : Nat) : Int)) w.heap.size (by have := HG.out; show w.heap.size ≠ G; omega)).trans HJ.out.2.2.1)
              generalize z.getD i 0 = d at *
              have dd : decide ((d : Int) + 1 < (n : Int)) = false := decide_eq_false (by omega)
              go_wp2
              go_roundg i
              case measure => omega
              case rel => exact ⟨z.set i 0, by go_num, Lib.hid ⟨HU.out, HP.out, HK.out, HB.out⟩⟩
set_option maxHeartbeats 8000000 in
theorem wit4_any (l : List Nat) (A : Option Addr) (n c : Nat) (fa fs : Fn) (ca cb cs ct : Array Value) (w : World) (hR : Reads w w.heap.size 1 A n (us l)) (hw : Words l) (h1 : ¬ HasQ n l 4 → 1 ≤ n) (hn : n ≤ 64) (hT : Tab w) :
    Calls Tryz.prog 50 #[.agg #[.int .i64 4, .func fa ca cb, .int .i64 3, .func (.func 102) #[] #[], .func fs cs ct], .slice A n c] w (WitE n 4 l w) := by
  unfold WitE
  have HH := Lib.hid (fun W (hb : Below w.heap.size w W) => hasQ_any l A n c 4 W ((hR.below hb).more hb.size) hw (by unfold maxLen; omega) (hT.below hb))
  have HS := Lib.hid (fun W (hb : Below w.heap.size w W) (D : Option Addr) (d : Nat) (x : List Nat) (hX : Reads W W.heap.size 1 D 3 (iv x)) (hx : DigL n 3 x) => show4_any l x A D n c d W ((hR.below hb).more hb.size) hw hn hX (fun k hk => hx.2 _ (by rw [List.getD_eq_getElem?_getD, List.getElem?_eq_getElem (by rw [hx.1]; exact hk)]; exact List.getElem_mem _)))
  have HB0 : Hid (Below w.heap.size w (w.alloc (.cells #[.int .i64 4, .func fa ca cb, .int .i64 3, .func (.func 102) #[] #[], .func fs cs ct] 72))) := Lib.hid ((Below.refl _ w).alloc (Nat.le_refl _) _)
  have kb := heap_alloc_new w (.cells #[.int .i64 4, .func fa ca cb, .int .i64 3, .func (.func 102) #[] #[], .func fs cs ct] 72)
  have KB := Lib.hid kb
  have hlp : lenP 4 = 3 := rfl
  rw [hlp]
  have g0 := (Lib.cell_of_heap kb 0).trans (show _ = some (Value.int .i64 4) from rfl)
  clear hR hT hw kb
  by_cases hq : HasQ n l 4
  · have e : qB (HasQ n l 4) = true := (qB_iff _).2 hq
    rw [e] at HH
    have HQ := Lib.hid hq
    clear e hq h1
    go_enter Tryz.func50, Tryz.ntmps50
    go_wp2
    go_step3
    go_wp2_with fail
    refine (HH.out _ HB0.out).mono ?_
    rintro e w2 ⟨rfl, hb⟩
    have HB2 := Lib.hid (HB0.out.trans (hb.mono HB0.out.size))
    clear hb
    go_wp2
    (try rw [Exit.noGoto_ret])
    go_ret
    exact ⟨.inl ⟨.inl HQ.out, rfl⟩, HB2.out⟩
  · have e : qB (HasQ n l 4) = false := qB_false hq
    rw [e] at HH
    have HQ := Lib.hid hq
    replace h1 : 1 ≤ n := h1 hq
    have hmk : ∀ W : World, (Instr.makeSlice 28 (.int .i64 3) (.int .i64 3)).run Tryz.prog W = .ok (.slice (some ⟨W.heap.size, 0, none⟩) 3 3) (W.alloc (.cells (iv (List.replicate 3 0)).toArray 3)) := fun W => makeN W 3 (by omega)
    clear e hq
    go_enter Tryz.func50, Tryz.ntmps50
    go_wp2
    go_step3
    go_wp2_with fail
    refine (HH.out _ HB0.out).mono ?_
    rintro e w2 ⟨rfl, hb⟩
    have HB2 := Lib.hid (HB0.out.trans (hb.mono HB0.out.size))
    have KB2 := Lib.hid ((hb.block _ (by simp)).trans KB.out)
    clear hb
    have g2 := (Lib.cell_of_heap KB2.out 2).trans (show _ = some (Value.int .i64 3) from rfl)
    go_wp2
    go_step3
    clear g2 g0
    have HN0 : Hid (HoldsN (w2.alloc (.cells (iv [0, 0, 0]).toArray 3)) w2.heap.size (List.replicate 3 0)) := Lib.hid (heap_alloc_new w2 _)
    have HB3 : Hid (Below w.heap.size w (w2.alloc (.cells (iv [0, 0, 0]).toArray 3))) := Lib.hid (HB2.out.alloc HB2.out.size _)
    have KB3 := Lib.hid ((Below.heap_alloc w2 (.cells (iv [0, 0, 0]).toArray 3) w.heap.size (Array.getElem?_eq_some_iff.1 KB2.out).1).trans KB2.out)
    have HG : Hid (w.heap.size < w2.heap.size) := Lib.hid (Array.getElem?_eq_some_iff.1 KB2.out).1
    generalize w2.alloc (.cells (iv [0, 0, 0]).toArray 3) = w3 at *
    generalize w2.heap.size = G at *
    clear hmk
    have hNz : 0 < n ^ 3 := Nat.pow_pos (by omega)
    obtain ⟨N, hN⟩ : ∃ N, n ^ 3 = N := ⟨_, rfl⟩
    have HN := Lib.hid hN
    go_wp2
    go_loopg [6] N (fun g s6 wr => ∃ x, numV n x + g = N ∧ Hid (TriedB n 4 l x ∧ HoldsN wr G x ∧ wr.heap[w.heap.size]? = some (.cells #[.int .i64 4, .func fa ca cb, .int .i64 3, .func (.func 102) #[] #[], .func fs cs ct] 72) ∧ Below w.heap.size w wr))
    case atStart => exact ⟨List.replicate 3 0, by rw [numV_zeros]; omega, Lib.hid ⟨TriedB.start (by omega), HN0.out, KB3.out, HB3.out⟩⟩
    case round =>
      obtain ⟨x, hxg, HI⟩ := hrel
      have hdx : DigL n 3 x := HI.out.1.1
      have hlx := hdx.1
      have hltx := numV_lt x hdx.2
      rw [hlx, HN.out] at hltx
      obtain ⟨g, rfl⟩ : ∃ g, gk = g + 1 := ⟨gk - 1, by omega⟩
      have f3 := (Lib.cell_of_heap HI.out.2.2.1 3).trans (show _ = some (Value.func (.func 102) #[] #[]) from rfl)
      have hrd := HI.out.2.1.reads
      rw [hlx] at hrd
      have HC := Lib.hid (HS.out wr HI.out.2.2.2 (some ⟨G, 0, none⟩) 3 x hrd hdx)
      have HXG := Lib.hid hxg
      clear hrd hltx hxg
      cases hs : shB 4 l x with
      | true =>
        rw [hs] at HC
        have HW : Hid (WitP n 4 l x) := Lib.hid (HI.out.1.hit hs)
        clear hs hdx hlx
        go_wp2_with fail
        refine (HC.out).mono ?_
        rintro e w4 ⟨rfl, hb⟩
        have HE : Hid (HoldsN w4 G x ∧ Below w.heap.size w w4) := Lib.hid ⟨(hb.block G HI.out.2.1.lt).trans HI.out.2.1, HI.out.2.2.2.trans (hb.mono HI.out.2.2.2.size)⟩
        clear hb
        go_wp2
        (try rw [Exit.noGoto_ret])
        go_ret
        exact ⟨.inr ⟨G, 3, x, HW.out, HQ.out, rfl, Nat.le_of_lt HG.out, HE.out.1⟩, HE.out.2⟩
      | false =>
        rw [hs] at HC
        have HF := Lib.hid hs
        have HD := Lib.hid hdx
        clear hs hlx hdx
        go_wp2_with fail
        refine (HC.out).mono ?_
        rintro e w4 ⟨rfl, hb⟩
        have HE : Hid (HoldsN w4 G x ∧ w4.heap[w.heap.size]? = some (.cells #[.int .i64 4, .func fa ca cb, .int .i64 3, .func (.func 102) #[] #[], .func fs cs ct] 72) ∧ Below w.heap.size w w4) := Lib.hid ⟨(hb.block G HI.out.2.1.lt).trans HI.out.2.1, (hb.block _ (Array.getElem?_eq_some_iff.1 HI.out.2.2.1).1).trans HI.out.2.2.1, HI.out.2.2.2.trans (hb.mono HI.out.2.2.2.size)⟩
        clear hb f3
        go_wp2
        go_loopg [6] 3 (fun g2 s6 wy => ∃ z, s6 = .int .i64 ((g2 : Int) - 1) ∧ Hid (CntR n 3 x z g2 ∧ HoldsN wy G z ∧ wy.heap[w.heap.size]? = some (.cells #[.int .i64 4, .func fa ca cb, .int .i64 3, .func (.func 102) #[] #[], .func fs cs ct] 72) ∧ Below w.heap.size w wy))
        case atStart => exact ⟨x, rfl, Lib.hid ⟨CntR.start HD.out, HE.out⟩⟩
        case round =>
          obtain ⟨z, rfl, HJ⟩ := hrel
          cases gk with
          | zero =>
            go_wp2
            (try rw [Exit.noGoto_ret])
            go_ret
            exact ⟨.inl ⟨.inr (HI.out.1.all HF.out (HJ.out.1.last HD.out)), rfl⟩, HJ.out.2.2.2⟩
          | succ i =>
            rw [show ((i + 1 : Nat) : Int) - 1 = (i : Int) by omega]
            have him : i < 3 := HJ.out.1.2.1
            have hzl : z.length = 3 := HJ.out.1.1.1
            have cz := HJ.out.2.1.cell i (by omega)
            have fz := HJ.out.2.1.free i
            have hdn : z.getD i 0 < n := HJ.out.1.1.2 _ (by rw [List.getD_eq_getElem?_getD, List.getElem?_eq_getElem (by omega)]; exact List.getElem_mem _)
            have di : decide ((0 : Int) ≤ (i : Int)) = true := decide_eq_true (by omega)
            by_cases hd : z.getD i 0 + 1 < n
            · have HU := Lib.hid (HJ.out.1.up hd)
              have HP := Lib.hid (HJ.out.2.1.put i (z.getD i 0 + 1))
              have HB := Lib.hid (HJ.out.2.2.2.setCell (p := ⟨G, i, none⟩) (Nat.le_of_lt HG.out) (.int .i64 ((z.getD i 0 + 1 : Nat) : Int)))
              have HK := Lib.hid ((Below.heap_setCell wr ⟨G, i, none⟩ (.int .i64 ((z.getD i 0 + 1 : Nat) : Int)) w.heap.size (by have := HG.out; show w.heap.size ≠ G; omega)).trans HJ.out.2.2.1)
              have HV := Lib.hid (HI.out.1.next HF.out HU.out.1 HU.out.2)
              generalize z.getD i 0 = d at *
              have dd : decide ((d : Int) + 1 < (n : Int)) = true := decide_eq_true (by omega)
              go_wp2
              go_roundg g
              case measure => omega
              case rel => exact ⟨z.set i (d + 1), by have := HU.out.2; have := HXG.out; omega, Lib.hid ⟨HV.out, HP.out, HK.out, HB.out⟩⟩
            · have HU := Lib.hid (HJ.out.1.next hd h1)
              have HP := Lib.hid (HJ.out.2.1.put i 0)
              have HB := Lib.hid (HJ.out.2.2.2.setCell (p := ⟨G, i, none⟩) (Nat.le_of_lt HG.out) (.int .i64 ((0 : Nat) : Int)))
              have HK := Lib.hid ((Below.heap_setCell wr ⟨G, i, none⟩ (.int .i64 ((0 : Nat) : Int)) w.heap.size (by have := HG.out; show w.heap.size ≠ G; omega)).trans HJ.out.2.2.1)
              generalize z.getD i 0 = d at *
              have dd : decide ((d : Int) + 1 < (n : Int)) = false := decide_eq_false (by omega)
              go_wp2
              go_roundg i
              case measure => omega
              case rel => exact ⟨z.set i 0, by go_num, Lib.hid ⟨HU.out, HP.out, HK.out, HB.out⟩⟩
set_option maxHeartbeats 8000000 in
theorem wit5_any (l : List Nat) (A : Option Addr) (n c : Nat) (fa fs : Fn) (ca cb cs ct : Array Value) (w : World) (hR : Reads w w.heap.size 1 A n (us l)) (hw : Words l) (h1 : ¬ HasQ n l 5 → 1 ≤ n) (hn : n ≤ 64) (hT : Tab w) :
    Calls Tryz.prog 50 #[.agg #[.int .i64 5, .func fa ca cb, .int .i64 3, .func (.func 105) #[] #[], .func fs cs ct], .slice A n c] w (WitE n 5 l w) := by
  unfold WitE
  have HH := Lib.hid (fun W (hb : Below w.heap.size w W) => hasQ_any l A n c 5 W ((hR.below hb).more hb.size) hw (by unfold maxLen; omega) (hT.below hb))
  have HS := Lib.hid (fun W (hb : Below w.heap.size w W) (D : Option Addr) (d : Nat) (x : List Nat) (hX : Reads W W.heap.size 1 D 3 (iv x)) (hx : DigL n 3 x) => show5_any l x A D n c d W ((hR.below hb).more hb.size) hw hn hX (fun k hk => hx.2 _ (by rw [List.getD_eq_getElem?_getD, List.getElem?_eq_getElem (by rw [hx.1]; exact hk)]; exact List.getElem_mem _)))
  have HB0 : Hid (Below w.heap.size w (w.alloc (.cells #[.int .i64 5, .func fa ca cb, .int .i64 3, .func (.func 105) #[] #[], .func fs cs ct] 72))) := Lib.hid ((Below.refl _ w).alloc (Nat.le_refl _) _)
  have kb := heap_alloc_new w (.cells #[.int .i64 5, .func fa ca cb, .int .i64 3, .func (.func 105) #[] #[], .func fs cs ct] 72)
  have KB := Lib.hid kb
  have hlp : lenP 5 = 3 := rfl
  rw [hlp]
  have g0 := (Lib.cell_of_heap kb 0).trans (show _ = some (Value.int .i64 5) from rfl)
  clear hR hT hw kb
  by_cases hq : HasQ n l 5
  · have e : qB (HasQ n l 5) = true := (qB_iff _).2 hq
    rw [e] at HH
    have HQ := Lib.hid hq
    clear e hq h1
    go_enter Tryz.func50, Tryz.ntmps50
    go_wp2
    go_step3
    go_wp2_with fail
    refine (HH.out _ HB0.out).mono ?_
    rintro e w2 ⟨rfl, hb⟩
    have HB2 := Lib.hid (HB0.out.trans (hb.mono HB0.out.size))
    clear hb
    go_wp2
    (try rw [Exit.noGoto_ret])
    go_ret
    exact ⟨.inl ⟨.inl HQ.out, rfl⟩, HB2.out⟩
  · have e : qB (HasQ n l 5) = false := qB_false hq
    rw [e] at HH
    have HQ := Lib.hid hq
    replace h1 : 1 ≤ n := h1 hq
    have hmk : ∀ W : World, (Instr.makeSlice 28 (.int .i64 3) (.int .i64 3)).run Tryz.prog W = .ok (.slice (some ⟨W.heap.size, 0, none⟩) 3 3) (W.alloc (.cells (iv (List.replicate 3 0)).toArray 3)) := fun W => makeN W 3 (by omega)
    clear e hq
    go_enter Tryz.func50, Tryz.ntmps50
    go_wp2
    go_step3
    go_wp2_with fail
    refine (HH.out _ HB0.out).mono ?_
    rintro e w2 ⟨rfl, hb⟩
    have HB2 := Lib.hid (HB0.out.trans (hb.mono HB0.out.size))
    have KB2 := Lib.hid ((hb.block _ (by simp)).trans KB.out)
    clear hb
    have g2 := (Lib.cell_of_heap KB2.out 2).trans (show _ = some (Value.int .i64 3) from rfl)
    go_wp2
    go_step3
    clear g2 g0
    have HN0 : Hid (HoldsN (w2.alloc (.cells (iv [0, 0, 0]).toArray 3)) w2.heap.size (List.replicate 3 0)) := Lib.hid (heap_alloc_new w2 _)
    have HB3 : Hid (Below w.heap.size w (w2.alloc (.cells (iv [0, 0, 0]).toArray 3))) := Lib.hid (HB2.out.alloc HB2.out.size _)
    have KB3 := Lib.hid ((Below.heap_alloc w2 (.cells (iv [0, 0, 0]).toArray 3) w.heap.size (Array.getElem?_eq_some_iff.1 KB2.out).1).trans KB2.out)
    have HG : Hid (w.heap.size < w2.heap.size) := Lib.hid (Array.getElem?_eq_some_iff.1 KB2.out).1
    generalize w2.alloc (.cells (iv [0, 0, 0]).toArray 3) = w3 at *
    generalize w2.heap.size = G at *
    clear hmk
    have hNz : 0 < n ^ 3 := Nat.pow_pos (by omega)
    obtain ⟨N, hN⟩ : ∃ N, n ^ 3 = N := ⟨_, rfl⟩
    have HN := Lib.hid hN
    go_wp2
    go_loopg [6] N (fun g s6 wr => ∃ x, numV n x + g = N ∧ Hid (TriedB n 5 l x ∧ HoldsN wr G x ∧ wr.heap[w.heap.size]? = some (.cells #[.int .i64 5, .func fa ca cb, .int .i64 3, .func (.func 105) #[] #[], .func fs cs ct] 72) ∧ Below w.heap.size w wr))
    case atStart => exact ⟨List.replicate 3 0, by rw [numV_zeros]; omega, Lib.hid ⟨TriedB.start (by omega), HN0.out, KB3.out, HB3.out⟩⟩
    case round =>
      obtain ⟨x, hxg, HI⟩ := hrel
      have hdx : DigL n 3 x := HI.out.1.1
      have hlx := hdx.1
      have hltx := numV_lt x hdx.2
      rw [hlx, HN.out] at hltx
      obtain ⟨g, rfl⟩ : ∃ g, gk = g + 1 := ⟨gk - 1, by omega⟩
      have f3 := (Lib.cell_of_heap HI.out.2.2.1 3).trans (show _ = some (Value.func (.func 105) #[] #[]) from rfl)
      have hrd := HI.out.2.1.reads
      rw [hlx] at hrd
      have HC := Lib.hid (HS.out wr HI.out.2.2.2 (some ⟨G, 0, none⟩) 3 x hrd hdx)
      have HXG := Lib.hid hxg
      clear hrd hltx hxg
      cases hs : shB 5 l x with
      | true =>
        rw [hs] at HC
        have HW : Hid (WitP n 5 l x) := Lib.hid (HI.out.1.hit hs)
        clear hs hdx hlx
        go_wp2_with fail
        refine (HC.out).mono ?_
        rintro e w4 ⟨rfl, hb⟩
        have HE : Hid (HoldsN w4 G x ∧ Below w.heap.size w w4) := Lib.hid ⟨(hb.block G HI.out.2.1.lt).trans HI.out.2.1, HI.out.2.2.2.trans (hb.mono HI.out.2.2.2.size)⟩
        clear hb
        go_wp2
        (try rw [Exit.noGoto_ret])
        go_ret
        exact ⟨.inr ⟨G, 3, x, HW.out, HQ.out, rfl, Nat.le_of_lt HG.out, HE.out.1⟩, HE.out.2⟩
      | false =>
        rw [hs] at HC
        have HF := Lib.hid hs
        have HD := Lib.hid hdx
        clear hs hlx hdx
        go_wp2_with fail
        refine (HC.out).mono ?_
        rintro e w4 ⟨rfl, hb⟩
        have HE : Hid (HoldsN w4 G x ∧ w4.heap[w.heap.size]? = some (.cells #[.int .i64 5, .func fa ca cb, .int .i64 3, .func (.func 105) #[] #[], .func fs cs ct] 72) ∧ Below w.heap.size w w4) := Lib.hid ⟨(hb.block G HI.out.2.1.lt).trans HI.out.2.1, (hb.block _ (Array.getElem?_eq_some_iff.1 HI.out.2.2.1).1).trans HI.out.2.2.1, HI.out.2.2.2.trans (hb.mono HI.out.2.2.2.size)⟩
        clear hb f3
        go_wp2
        go_loopg [6] 3 (fun g2 s6 wy => ∃ z, s6 = .int .i64 ((g2 : Int) - 1) ∧ Hid (CntR n 3 x z g2 ∧ HoldsN wy G z ∧ wy.heap[w.heap.size]? = some (.cells #[.int .i64 5, .func fa ca cb, .int .i64 3, .func (.func 105) #[] #[], .func fs cs ct] 72) ∧ Below w.heap.size w wy))
        case atStart => exact ⟨x, rfl, Lib.hid ⟨CntR.start HD.out, HE.out⟩⟩
        case round =>
          obtain ⟨z, rfl, HJ⟩ := hrel
          cases gk with
          | zero =>
            go_wp2
            (try rw [Exit.noGoto_ret])
            go_ret
            exact ⟨.inl ⟨.inr (HI.out.1.all HF.out (HJ.out.1.last HD.out)), rfl⟩, HJ.out.2.2.2⟩
          | succ i =>
            rw [show ((i + 1 : Nat) : Int) - 1 = (i : Int) by omega]
            have him : i < 3 := HJ.out.1.2.1
            have hzl : z.length = 3 := HJ.out.1.1.1
            have cz := HJ.out.2.1.cell i (by omega)
            have fz := HJ.out.2.1.free i
            have hdn : z.getD i 0 < n := HJ.out.1.1.2 _ (by rw [List.getD_eq_getElem?_getD, List.getElem?_eq_getElem (by omega)]; exact List.getElem_mem _)
            have di : decide ((0 : Int) ≤ (i : Int)) = true := decide_eq_true (by omega)
            by_cases hd : z.getD i 0 + 1 < n
            · have HU := Lib.hid (HJ.out.1.up hd)
              have HP := Lib.hid (HJ.out.2.1.put i (z.getD i 0 + 1))
              have HB := Lib.hid (HJ.out.2.2.2.setCell (p := ⟨G, i, none⟩) (Nat.le_of_lt HG.out) (.int .i64 ((z.getD i 0 + 1 : Nat) : Int)))
              have HK := Lib.hid ((Below.heap_setCell wr ⟨G, i, none⟩ (.int .i64 ((z.getD i 0 + 1 : Nat) : Int)) w.heap.size (by have := HG.out; show w.heap.size ≠ G; omega)).trans HJ.out.2.2.1)
              have HV := Lib.hid (HI.out.1.next HF.out HU.out.1 HU.out.2)
              generalize z.getD i 0 = d at *
              have dd : decide ((d : Int) + 1 < (n : Int)) = true := decide_eq_true (by omega)
              go_wp2
              go_roundg g
              case measure => omega
              case rel => exact ⟨z.set i (d + 1), by have := HU.out.2; have := HXG.out; omega, Lib.hid ⟨HV.out, HP.out, HK.out, HB.out⟩⟩
            · have HU := Lib.hid (HJ.out.1.next hd h1)
              have HP := Lib.hid (HJ.out.2.1.put i 0)
              have HB := Lib.hid (HJ.out.2.2.2.setCell (p := ⟨G, i, none⟩) (Nat.le_of_lt HG.out) (.int .i64 ((0 : Nat) : Int)))
              have HK := Lib.hid ((Below.heap_setCell wr ⟨G, i, none⟩ (.int .i64 ((0 : Nat) : Int)) w.heap.size (by have := HG.out; show w.heap.size ≠ G; omega)).trans HJ.out.2.2.1)
              generalize z.getD i 0 = d at *
              have dd : decide ((d : Int) + 1 < (n : Int)) = false := decide_eq_false (by omega)
              go_wp2
              go_roundg i
              case measure => omega
              case rel => exact ⟨z.set i 0, by go_num, Lib.hid ⟨HU.out, HP.out, HK.out, HB.out⟩⟩
end Go.Proofs.YtjpmhbnikoggaaaGreatDoor
/- Layer 15: a relation lacks a property exactly if some worlds show it; what witness gives. -/
namespace Go.Proofs.YtjpmhbnikoggaaaGreatDoor
open Go.RowKit Go.Proofs.Ws
theorem DigL.at_ {n m : Nat} {y : List Nat} (h : DigL n m y) {k : Nat} (hk : k < m) : y.getD k 0 < n := by
  have h1 : k < y.length := by rw [h.1]; exact hk
  rw [List.getD_eq_getElem?_getD, List.getElem?_eq_getElem h1]
  exact h.2 _ (List.getElem_mem h1)
theorem getD_mem {l : List Nat} {k : Nat} (h : k < l.length) : l.getD k 0 ∈ l := by
  rw [List.getD_eq_getElem?_getD, List.getElem?_eq_getElem h]
  exact List.getElem_mem h
theorem dig3 {n a b c : Nat} (ha : a < n) (hb : b < n) (hc : c < n) : DigL n 3 [a, b, c] := ⟨rfl, fun d hd => by
  simp only [List.mem_cons, List.not_mem_nil, or_false] at hd
  rcases hd with rfl | rfl | rfl <;> assumption⟩
theorem dig2 {n a b : Nat} (ha : a < n) (hb : b < n) : DigL n 2 [a, b] := ⟨rfl, fun d hd => by
  simp only [List.mem_cons, List.not_mem_nil, or_false] at hd
  rcases hd with rfl | rfl <;> assumption⟩
theorem dig1 {n a : Nat} (ha : a < n) : DigL n 1 [a] := ⟨rfl, fun d hd => by
  simp only [List.mem_cons, List.not_mem_nil, or_false] at hd
  subst hd; assumption⟩
theorem lack_iff {n : Nat} {p : Int} {l : List Nat} (hs : Sh n l) (hp : 1 ≤ p ∧ p ≤ 5) : HasP n p l ↔ ∀ y, DigL n (lenP p) y → shB p l y = false := by
  have hc : p = 1 ∨ p = 2 ∨ p = 3 ∨ p = 4 ∨ p = 5 := by omega
  rcases hc with rfl | rfl | rfl | rfl | rfl
  · rw [hasP1]
    constructor
    · intro h y hy
      have h0 : y.getD 0 0 < n := hy.at_ (k := 0) (by decide)
      show decide (l.getD (y.getD 0 0) 0 = 0) = false
      rw [decide_eq_false_iff_not]
      intro e
      apply h
      rw [← e]
      exact getD_mem (by rw [hs.1]; exact h0)
    · intro h hm
      obtain ⟨i, hi, e⟩ := List.getElem_of_mem hm
      have h1 : decide (l.getD ([i].getD 0 0) 0 = 0) = false := h [i] (dig1 (by rw [← hs.1]; exact hi))
      rw [decide_eq_false_iff_not] at h1
      apply h1
      show l.getD i 0 = 0
      rw [List.getD_eq_getElem?_getD, List.getElem?_eq_getElem hi, e]
      rfl
  · rw [hasP2]
    constructor
    · intro h y hy
      show (!bit l (y.getD 0 0) (y.getD 0 0)) = false
      rw [h _ (hy.at_ (k := 0) (by decide))]
      rfl
    · intro h w hw
      have h1 : (!bit l w w) = false := h [w] (dig1 hw)
      simpa using h1
  · rw [hasP3]
    constructor
    · intro h y _
      show (bit l (y.getD 0 0) (y.getD 1 0) && !bit l (y.getD 1 0) (y.getD 0 0)) = false
      cases e : bit l (y.getD 0 0) (y.getD 1 0) with
      | false => rfl
      | true => rw [h _ _ e]; rfl
    · intro h w v e
      have hb := bit_in hs e
      have h1 : (bit l w v && !bit l v w) = false := h [w, v] (dig2 hb.1 hb.2)
      rw [e] at h1
      simpa using h1
  · rw [hasP4]
    constructor
    · intro h y _
      show (bit l (y.getD 0 0) (y.getD 1 0) && bit l (y.getD 1 0) (y.getD 2 0) && !bit l (y.getD 0 0) (y.getD 2 0)) = false
      cases e : bit l (y.getD 0 0) (y.getD 1 0) with
      | false => rfl
      | true =>
        cases e2 : bit l (y.getD 1 0) (y.getD 2 0) with
        | false => rfl
        | true => rw [h _ _ _ e e2]; rfl
    · intro h w v u e e2
      have hb := bit_in hs e
      have hb2 := bit_in hs e2
      have h1 : (bit l w v && bit l v u && !bit l w u) = false := h [w, v, u] (dig3 hb.1 hb.2 hb2.2)
      rw [e, e2] at h1
      simpa using h1
  · rw [hasP5]
    constructor
    · intro h y _
      show (bit l (y.getD 0 0) (y.getD 1 0) && bit l (y.getD 0 0) (y.getD 2 0) && !bit l (y.getD 1 0) (y.getD 2 0)) = false
      cases e : bit l (y.getD 0 0) (y.getD 1 0) with
      | false => rfl
      | true =>
        cases e2 : bit l (y.getD 0 0) (y.getD 2 0) with
        | false => rfl
        | true => rw [h _ _ _ e e2]; rfl
    · intro h w u v e e2
      have hb := bit_in hs e
      have hb2 := bit_in hs e2
      have h1 : (bit l w u && bit l w v && !bit l u v) = false := h [w, u, v] (dig3 hb.1 hb.2 hb2.2)
      rw [e, e2] at h1
      simpa using h1
theorem relErr_sh {n : Nat} {l : List Nat} (h : relErr n l = 0) (hl : l.length = n) : Sh n l := ⟨hl, relErr_rows h⟩
theorem hasQ_empty {l : List Nat} {p : Int} (h : l.length = 0) (hp : 1 ≤ p ∧ p ≤ 5) : HasQ 0 l p := by
  obtain rfl : l = [] := List.length_eq_zero_iff.1 h
  refine ⟨by rfl, (lack_iff ⟨rfl, fun x hx => by cases hx⟩ hp).2 fun y hy => absurd (hy.at_ (k := 0) ?_) (by omega)⟩
  have hc : p = 1 ∨ p = 2 ∨ p = 3 ∨ p = 4 ∨ p = 5 := by omega
  rcases hc with rfl | rfl | rfl | rfl | rfl <;> decide
/-- what witness returns for a valid relation and one of the properties -/
def WitN (n : Nat) (p : Int) (l : List Nat) (w : World) (e : Ending) (w' : World) : Prop :=
  ((HasQ n l p ∧ e = .returned (.slice none 0 0)) ∨
  ∃ g c x, WitP n p l x ∧ ¬ HasQ n l p ∧ e = .returned (.slice (some ⟨g, 0, none⟩) (lenP p) c) ∧ w.heap.size ≤ g ∧ HoldsN w' g x) ∧ Below w.heap.size w w'
theorem WitE.fix {n : Nat} {p : Int} {l : List Nat} {w : World} {e : Ending} {w' : World} (h : WitE n p l w e w') (h0 : relErr n l = 0) (hl : l.length = n) (hp : 1 ≤ p ∧ p ≤ 5) : WitN n p l w e w' := by
  obtain ⟨h1, h2⟩ := h
  refine ⟨?_, h2⟩
  rcases h1 with ⟨h3, he⟩ | h3
  · rcases h3 with h3 | h3
    · exact .inl ⟨h3, he⟩
    · exact .inl ⟨⟨h0, (lack_iff (relErr_sh h0 hl) hp).2 h3⟩, he⟩
  · exact .inr h3
end Go.Proofs.YtjpmhbnikoggaaaGreatDoor
