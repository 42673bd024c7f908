/- Layer 6: texts joined: Xt Xu Xv Xw. -/
import Derived.Test.YtenbhalnpiahaaaGreatDoorPb
import Derived.Test.YtenbhalnpiahaaaGreatDoorPg
/- Layer 7: text of the reference: constants, facts, operators before an operand. -/
namespace Go.Proofs.YtenbhalnpiahaaaGreatDoor
open Go.RowKit Go.Proofs.Ws
def encI (r lv : Int) (s : ByteArray) : ByteArray := if lv < r then ⟨#[40]⟩ ++ s ++ ⟨#[41]⟩ else s
theorem encI_nat (r lv : Nat) (s : ByteArray) : encI (r : Int) (lv : Int) s = encA r lv s := by
  unfold encI encA
  by_cases h : lv < r
  · rw [if_pos h, if_pos (by omega)]
  · rw [if_neg h, if_neg (by omega)]
set_option maxRecDepth 100000 in
theorem rEnclI_any (s : ByteArray) (lv r : Int) (hs : s.size ≤ 100000) (w : World) : Calls Tryz.prog 68 #[.string s, .int .i64 lv, .int .i64 r] w fun e w' => e = .returned (.string (encI r lv s)) ∧ w = w' := by
  have z : (⟨#[40]⟩ : ByteArray).size = 1 := rfl
  have z2 : (⟨#[41]⟩ : ByteArray).size = 1 := rfl
  have z3 : ((⟨#[40]⟩ : ByteArray) ++ s).size ≤ 100001 := by rw [ByteArray.size_append, z]; omega
  by_cases h : lv < r
  · have d1 : decide (lv < r) = true := decide_eq_true h
    have HE : Hid (encI r lv s = ⟨#[40]⟩ ++ s ++ ⟨#[41]⟩) := Lib.hid (by unfold encI; rw [if_pos h])
    clear h
    go_enter Tryz.func68, Tryz.ntmps68
    go_wp2
    go_ret
    exact ⟨by rw [HE.out]; rfl, rfl⟩
  · have d1 : decide (lv < r) = false := decide_eq_false h
    have HE : Hid (encI r lv s = s) := Lib.hid (by unfold encI; rw [if_neg h])
    clear h
    go_enter Tryz.func68, Tryz.ntmps68
    go_wp2
    go_ret
    exact ⟨by rw [HE.out]; rfl, rfl⟩
/-- what the text of a node is made of: a formula's list, and the texts of the nodes before it -/
structure RT (w : World) (A F X : List ByteArray) (l : List Nd) (T : List ByteArray) (a0 : Option Addr) (n0 c0 : Nat) (a1 : Option Addr) (n1 c1 : Nat) (a2 : Option Addr) (n2 c2 : Nat) (al : Option Addr) (at_ : Option Addr) (i : Nat) : Prop where
  sig : SigR w w.heap.size (sv a0 n0 c0 a1 n1 c1 a2 n2 c2) A F X
  ok : sigErr A F X = 0
  ls : Reads w w.heap.size 6 al l.length (nds l)
  ll : l.length ≤ 200
  il : i < l.length
  ops : opsL l
  nd : ∀ n ∈ l, okX ⟨A, F, X, []⟩ n
  ts : Reads w w.heap.size 1 at_ i (ss T)
  tx : ∀ k, k < i → (T.getD k ByteArray.empty).data.toList = tx A F X l k ∧ (T.getD k ByteArray.empty).size ≤ 4000
section
variable {w : World} {A F X : List ByteArray} {l : List Nd} {T : List ByteArray} {a0 : Option Addr} {n0 c0 : Nat} {a1 : Option Addr} {n1 c1 : Nat} {a2 : Option Addr} {n2 c2 : Nat} {al at_ : Option Addr} {i : Nat}
/-- the cells of an operand: its operator and its text -/
theorem RT.operand (h : RT w A F X l T a0 n0 c0 a1 n1 c1 a2 n2 c2 al at_ i) {x : Nat} (hx : x < i) : ∃ ad at2, al = some ad ∧ at_ = some at2 ∧ ∀ W, Below w.heap.size w W → W.cell? (ad.add (x * 6)) = some (.int .i64 (opA l x)) ∧ W.cell? (at2.add x) = some (.string (T.getD x ByteArray.empty)) := by
  obtain ⟨ad, hA, hb, m0, _⟩ := h.ls.nd_at (k := x) (Nat.lt_trans hx h.il)
  obtain ⟨at2, hA2, hb2, hc2⟩ := h.ts.str_at hx
  exact ⟨ad, at2, hA, hA2, fun W hW => ⟨(hW.cell (p := ad.add (x * 6)) (by rw [block_of_add]; exact hb)).trans m0, (hW.cell (p := at2.add x) (by rw [block_of_add]; exact hb2)).trans hc2⟩⟩
theorem RT.en (h : RT w A F X l T a0 n0 c0 a1 n1 c1 a2 n2 c2 al at_ i) {x : Nat} (hx : x < i) (r : Nat) : (encI (r : Int) ((levN (opA l x) : Nat) : Int) (T.getD x ByteArray.empty)).data.toList = en A F X l r x ∧ (encI (r : Int) ((levN (opA l x) : Nat) : Int) (T.getD x ByteArray.empty)).size ≤ 4002 := by
  rw [encI_nat]
  refine ⟨?_, Nat.le_trans (encA_size _ _ _) (by have := (h.tx x hx).2; omega)⟩
  rw [encA_list, (h.tx x hx).1]
  rfl
theorem RT.known (h : RT w A F X l T a0 n0 c0 a1 n1 c1 a2 n2 c2 al at_ i) {x : Nat} (hx : x < l.length) : known (opA l x) = true := (h.nd _ (getD_mem hx)).1.1.1
theorem RT.boxes (h : RT w A F X l T a0 n0 c0 a1 n1 c1 a2 n2 c2 al at_ i) (v : Array Value) :
    ∀ W, Below (w.heap.size + 1 + 1) ((w.alloc (.cells #[.slice a0 n0 c0, .slice a1 n1 c1, .slice a2 n2 c2] 24)).alloc (.cells v 65)) W → Below w.heap.size w W ∧ w.heap.size + 1 + 1 ≤ W.heap.size ∧ W.cell? ⟨w.heap.size, 0, none⟩ = some (.slice a0 n0 c0) ∧ W.cell? ⟨w.heap.size, 1, none⟩ = some (.slice a1 n1 c1) ∧ W.cell? ⟨w.heap.size, 2, none⟩ = some (.slice a2 n2 c2) ∧
      W.heap[w.heap.size + 1]? = some (.cells v 65 (0, 0)) ∧ SigR W W.heap.size (sv a0 n0 c0 a1 n1 c1 a2 n2 c2) A F X := fun W hW => by
  have hb1 : Below w.heap.size w ((w.alloc (.cells #[.slice a0 n0 c0, .slice a1 n1 c1, .slice a2 n2 c2] 24)).alloc (.cells v 65)) := ((Below.refl _ w).alloc (Nat.le_refl _) _).alloc (by simp) _
  have h1 : ((w.alloc (.cells #[.slice a0 n0 c0, .slice a1 n1 c1, .slice a2 n2 c2] 24)).alloc (.cells v 65)).heap[w.heap.size]? = some (.cells #[.slice a0 n0 c0, .slice a1 n1 c1, .slice a2 n2 c2] 24 (0, 0)) := by
    rw [Below.heap_alloc _ _ _ (by simp)]; exact heap_alloc_new w _
  have h2 : ((w.alloc (.cells #[.slice a0 n0 c0, .slice a1 n1 c1, .slice a2 n2 c2] 24)).alloc (.cells v 65)).heap[w.heap.size + 1]? = some (.cells v 65 (0, 0)) := by
    have := heap_alloc_new (w.alloc (.cells #[.slice a0 n0 c0, .slice a1 n1 c1, .slice a2 n2 c2] 24)) (.cells v 65)
    simpa using this
  have hz : ((w.alloc (.cells #[.slice a0 n0 c0, .slice a1 n1 c1, .slice a2 n2 c2] 24)).alloc (.cells v 65)).heap.size = w.heap.size + 1 + 1 := by simp
  generalize (w.alloc (.cells #[.slice a0 n0 c0, .slice a1 n1 c1, .slice a2 n2 c2] 24)).alloc (.cells v 65) = w2 at *
  have k1 := (hW.block _ (by omega)).trans h1
  have hb : Below w.heap.size w W := hb1.trans (hW.mono (by omega))
  exact ⟨hb, by have := hW.size; omega, by rw [Lib.cell_of_heap k1]; rfl, by rw [Lib.cell_of_heap k1]; rfl, by rw [Lib.cell_of_heap k1]; rfl, (hW.block _ (by omega)).trans h2, (h.sig.below hb).more hb.size⟩
end
/-- the text of a node by the reference -/
def TextRun (w : World) (A F X : List ByteArray) (l : List Nd) (a0 : Option Addr) (n0 c0 : Nat) (a1 : Option Addr) (n1 c1 : Nat) (a2 : Option Addr) (n2 c2 : Nat) (al : Option Addr) (cl : Nat) (at_ : Option Addr) (ct i : Nat) : Prop :=
  Calls Tryz.prog 36 #[.agg #[.slice a0 n0 c0, .slice a1 n1 c1, .slice a2 n2 c2], .slice al l.length cl, .slice at_ i ct, .int .i64 (i : Int)] w fun e w' => (∃ s : ByteArray, e = .returned (.string s) ∧ s.data.toList = tx A F X l i ∧ s.size ≤ 20000) ∧ Below w.heap.size w w'
theorem size_list (s : ByteArray) : s.size = s.data.toList.length := by rw [Array.length_toList]; rfl
end Go.Proofs.YtenbhalnpiahaaaGreatDoor
/- Layer 7: text of the reference: constants, facts. -/
namespace Go.Proofs.YtenbhalnpiahaaaGreatDoor
open Go.RowKit Go.Proofs.Ws
set_option maxRecDepth 100000 in
set_option maxHeartbeats 2000000 in
theorem text_1 {w : World} {A F X : List ByteArray} {l : List Nd} {T : List ByteArray} {a0 : Option Addr} {n0 c0 : Nat} {a1 : Option Addr} {n1 c1 : Nat} {a2 : Option Addr} {n2 c2 : Nat} {al at_ : Option Addr} {i : Nat} (cl ct : Nat) (h : RT w A F X l T a0 n0 c0 a1 n1 c1 a2 n2 c2 al at_ i) {n : Nd} (hn : l.getD i nd0 = n) (hop : n.op = 1) : TextRun w A F X l a0 n0 c0 a1 n1 c1 a2 n2 c2 al cl at_ ct i := by
  obtain ⟨ad, hA, hb, m0, m1, m2, m3, m4, m5⟩ := h.ls.nd_at h.il
  rw [hn] at m0 m1 m2 m3 m4 m5
  rw [hop] at m0
  have hadb : ∀ q, (ad.add q).block < w.heap.size := fun q => by rw [block_of_add]; exact hb
  have HBS : Hid (Below w.heap.size w (w.alloc (.cells #[.slice a0 n0 c0, .slice a1 n1 c1, .slice a2 n2 c2] 24))) := Lib.hid ((Below.refl _ w).alloc (Nat.le_refl _) _)
  have p0 := (HBS.out.cell (p := ad.add (i * 6)) (hadb _)).trans m0
  have p1 := add_cell ((HBS.out.cell (p := ad.add (i * 6 + 1)) (hadb _)).trans m1)
  have p2 := add_cell ((HBS.out.cell (p := ad.add (i * 6 + 2)) (hadb _)).trans m2)
  have p3 := add_cell ((HBS.out.cell (p := ad.add (i * 6 + 3)) (hadb _)).trans m3)
  have p4 := add_cell ((HBS.out.cell (p := ad.add (i * 6 + 4)) (hadb _)).trans m4)
  have p5 := add_cell ((HBS.out.cell (p := ad.add (i * 6 + 5)) (hadb _)).trans m5)
  have HBX := Lib.hid (h.boxes #[.int .i64 1, .int .i64 n.i, .int .i64 n.e, .int .i64 n.g, .int .i64 n.x, .int .i64 n.y])
  have hil := h.il
  have hll := h.ll
  have HTX : Hid ((wordB 1).data.toList = tx A F X l i) := Lib.hid (by rw [k_const h.ops h.il hn (.inl hop), hop, catB_one])
  have HB : Hid (Below w.heap.size w ((w.alloc (.cells #[.slice a0 n0 c0, .slice a1 n1 c1, .slice a2 n2 c2] 24)).alloc (.cells #[.int .i64 1, .int .i64 n.i, .int .i64 n.e, .int .i64 n.g, .int .i64 n.x, .int .i64 n.y] 65))) := Lib.hid (HBX.out _ (Below.refl _ _)).1
  unfold TextRun
  rw [hA]
  clear h hn hop hA hb m0 m1 m2 m3 m4 m5 hadb HBS HBX
  go_enter Tryz.func36, Tryz.ntmps36
  go_wp2
  go_ret
  exact ⟨⟨_, rfl, HTX.out, by decide⟩, HB.out⟩
set_option maxRecDepth 100000 in
set_option maxHeartbeats 2000000 in
theorem text_2 {w : World} {A F X : List ByteArray} {l : List Nd} {T : List ByteArray} {a0 : Option Addr} {n0 c0 : Nat} {a1 : Option Addr} {n1 c1 : Nat} {a2 : Option Addr} {n2 c2 : Nat} {al at_ : Option Addr} {i : Nat} (cl ct : Nat) (h : RT w A F X l T a0 n0 c0 a1 n1 c1 a2 n2 c2 al at_ i) {n : Nd} (hn : l.getD i nd0 = n) (hop : n.op = 2) : TextRun w A F X l a0 n0 c0 a1 n1 c1 a2 n2 c2 al cl at_ ct i := by
  obtain ⟨ad, hA, hb, m0, m1, m2, m3, m4, m5⟩ := h.ls.nd_at h.il
  rw [hn] at m0 m1 m2 m3 m4 m5
  rw [hop] at m0
  have hadb : ∀ q, (ad.add q).block < w.heap.size := fun q => by rw [block_of_add]; exact hb
  have HBS : Hid (Below w.heap.size w (w.alloc (.cells #[.slice a0 n0 c0, .slice a1 n1 c1, .slice a2 n2 c2] 24))) := Lib.hid ((Below.refl _ w).alloc (Nat.le_refl _) _)
  have p0 := (HBS.out.cell (p := ad.add (i * 6)) (hadb _)).trans m0
  have p1 := add_cell ((HBS.out.cell (p := ad.add (i * 6 + 1)) (hadb _)).trans m1)
  have p2 := add_cell ((HBS.out.cell (p := ad.add (i * 6 + 2)) (hadb _)).trans m2)
  have p3 := add_cell ((HBS.out.cell (p := ad.add (i * 6 + 3)) (hadb _)).trans m3)
  have p4 := add_cell ((HBS.out.cell (p := ad.add (i * 6 + 4)) (hadb _)).trans m4)
  have p5 := add_cell ((HBS.out.cell (p := ad.add (i * 6 + 5)) (hadb _)).trans m5)
  have HBX := Lib.hid (h.boxes #[.int .i64 2, .int .i64 n.i, .int .i64 n.e, .int .i64 n.g, .int .i64 n.x, .int .i64 n.y])
  have hil := h.il
  have hll := h.ll
  have HTX : Hid ((wordB 2).data.toList = tx A F X l i) := Lib.hid (by rw [k_const h.ops h.il hn (.inr hop), hop, catB_one])
  have HB : Hid (Below w.heap.size w ((w.alloc (.cells #[.slice a0 n0 c0, .slice a1 n1 c1, .slice a2 n2 c2] 24)).alloc (.cells #[.int .i64 2, .int .i64 n.i, .int .i64 n.e, .int .i64 n.g, .int .i64 n.x, .int .i64 n.y] 65))) := Lib.hid (HBX.out _ (Below.refl _ _)).1
  unfold TextRun
  rw [hA]
  clear h hn hop hA hb m0 m1 m2 m3 m4 m5 hadb HBS HBX
  go_enter Tryz.func36, Tryz.ntmps36
  go_wp2
  go_ret
  exact ⟨⟨_, rfl, HTX.out, by decide⟩, HB.out⟩
set_option maxRecDepth 100000 in
set_option maxHeartbeats 2000000 in
theorem text_3 {w : World} {A F X : List ByteArray} {l : List Nd} {T : List ByteArray} {a0 : Option Addr} {n0 c0 : Nat} {a1 : Option Addr} {n1 c1 : Nat} {a2 : Option Addr} {n2 c2 : Nat} {al at_ : Option Addr} {i : Nat} (cl ct : Nat) (h : RT w A F X l T a0 n0 c0 a1 n1 c1 a2 n2 c2 al at_ i) {n : Nd} (hn : l.getD i nd0 = n) (hop : n.op = 3) : TextRun w A F X l a0 n0 c0 a1 n1 c1 a2 n2 c2 al cl at_ ct i := by
  obtain ⟨ad, hA, hb, m0, m1, m2, m3, m4, m5⟩ := h.ls.nd_at h.il
  rw [hn] at m0 m1 m2 m3 m4 m5
  rw [hop] at m0
  have hadb : ∀ q, (ad.add q).block < w.heap.size := fun q => by rw [block_of_add]; exact hb
  have HBS : Hid (Below w.heap.size w (w.alloc (.cells #[.slice a0 n0 c0, .slice a1 n1 c1, .slice a2 n2 c2] 24))) := Lib.hid ((Below.refl _ w).alloc (Nat.le_refl _) _)
  have p0 := (HBS.out.cell (p := ad.add (i * 6)) (hadb _)).trans m0
  have p1 := add_cell ((HBS.out.cell (p := ad.add (i * 6 + 1)) (hadb _)).trans m1)
  have p2 := add_cell ((HBS.out.cell (p := ad.add (i * 6 + 2)) (hadb _)).trans m2)
  have p3 := add_cell ((HBS.out.cell (p := ad.add (i * 6 + 3)) (hadb _)).trans m3)
  have p4 := add_cell ((HBS.out.cell (p := ad.add (i * 6 + 4)) (hadb _)).trans m4)
  have p5 := add_cell ((HBS.out.cell (p := ad.add (i * 6 + 5)) (hadb _)).trans m5)
  have HBX := Lib.hid (h.boxes #[.int .i64 3, .int .i64 n.i, .int .i64 n.e, .int .i64 n.g, .int .i64 n.x, .int .i64 n.y])
  have hil := h.il
  have hll := h.ll
  have hx := h.nd n (by rw [← hn]; exact getD_mem h.il)
  have h8 := (fld_i hx.1.1).1 hop
  have h9 := hx.1.2.1 hop
  obtain ⟨k, hk⟩ : ∃ k : Nat, n.i = (k : Int) := ⟨n.i.toNat, by omega⟩
  have hkF : k < F.length := by dsimp only at h9; omega
  rw [hk] at p1 HBX
  obtain ⟨_, _, _, _, _, _, _, _, _, esv, s0, s1, s2⟩ := h.sig
  injection esv with esv
  have esv := congrArg Array.toList esv
  simp only [List.cons.injEq, Value.slice.injEq, and_true] at esv
  obtain ⟨⟨rfl, rfl, rfl⟩, ⟨rfl, rfl, rfl⟩, ⟨rfl, rfl, rfl⟩⟩ := esv
  have hkn : k < n1 := by have := s1.1.str_len; omega
  obtain ⟨ad2, hA2, hb2, hc2⟩ := s1.1.str_at hkn
  have hz : (F.getD k ByteArray.empty).size ≤ 8 := sig_size h.ok _ (by rw [List.getD_eq_getElem?_getD, List.getElem?_eq_getElem (by omega)]; simp)
  have HTX : Hid ((F.getD k ByteArray.empty).data.toList = tx A F X l i) := Lib.hid (by rw [k_fact h.ops h.il hn hop, catB_one, hk]; rfl)
  generalize F.getD k ByteArray.empty = z at *
  subst hA2
  obtain ⟨hbz, hsz, q0, q1, q2, hnb, _⟩ := HBX.out ((w.alloc (.cells #[.slice a0 n0 c0, .slice (some ad2) n1 c1, .slice a2 n2 c2] 24)).alloc (.cells #[.int .i64 3, .int .i64 (k : Int), .int .i64 n.e, .int .i64 n.g, .int .i64 n.x, .int .i64 n.y] 65)) (Below.refl _ _)
  have HB := Lib.hid hbz
  have hcz := (hbz.cell (p := ad2.add k) (by rw [block_of_add]; exact hb2)).trans hc2
  unfold TextRun
  rw [hA]
  clear h hn hop hA hb m0 m1 m2 m3 m4 m5 hadb hbz hnb hx h8 h9 hk hkF s0 s1 s2 hb2 hc2 HBS HBX
  go_enter Tryz.func36, Tryz.ntmps36
  go_wp2
  go_ret
  exact ⟨⟨_, rfl, HTX.out, by omega⟩, HB.out⟩
end Go.Proofs.YtenbhalnpiahaaaGreatDoor
/- Layer 7: text of the reference: operators before an operand. -/
namespace Go.Proofs.YtenbhalnpiahaaaGreatDoor
open Go.RowKit Go.Proofs.Ws
set_option maxRecDepth 100000 in
set_option maxHeartbeats 4000000 in
theorem text_un {w : World} {A F X : List ByteArray} {l : List Nd} {T : List ByteArray} {a0 : Option Addr} {n0 c0 : Nat} {a1 : Option Addr} {n1 c1 : Nat} {a2 : Option Addr} {n2 c2 : Nat} {al at_ : Option Addr} {i : Nat} (cl ct : Nat) (h : RT w A F X l T a0 n0 c0 a1 n1 c1 a2 n2 c2 al at_ i) {n : Nd} (hn : l.getD i nd0 = n) (hu : n.op = 4 ∨ n.op = 9 ∨ n.op = 10 ∨ n.op = 11 ∨ n.op = 12 ∨ n.op = 15 ∨ n.op = 17 ∨ n.op = 18 ∨ n.op = 20)
    (hhead : ∀ W, SigR W W.heap.size (sv a0 n0 c0 a1 n1 c1 a2 n2 c2) A F X → Calls Tryz.prog 70 #[.agg #[.slice a0 n0 c0, .slice a1 n1 c1, .slice a2 n2 c2], .agg #[.int .i64 n.op, .int .i64 n.i, .int .i64 n.e, .int .i64 n.g, .int .i64 n.x, .int .i64 n.y], .string ⟨#[]⟩] W fun e w' => (∃ s : ByteArray, e = .returned (.string s) ∧ s.data.toList = headB A X n ∧ s.size ≤ 300) ∧ Below W.heap.size W w') : TextRun w A F X l a0 n0 c0 a1 n1 c1 a2 n2 c2 al cl at_ ct i := by
  have hux : usesX n.op = true := by rcases hu with h9 | h9 | h9 | h9 | h9 | h9 | h9 | h9 | h9 <;> rw [h9] <;> rfl
  have huy : usesY n.op = false := by rcases hu with h9 | h9 | h9 | h9 | h9 | h9 | h9 | h9 | h9 <;> rw [h9] <;> rfl
  have hxo := opsOk_x (h.ops i h.il) (by rw [hn]; exact hux)
  rw [hn] at hxo
  obtain ⟨x, hxn⟩ : ∃ x : Nat, n.x = (x : Int) := ⟨n.x.toNat, by omega⟩
  have hxi : x < i := by omega
  have hxl : x < l.length := Nat.lt_trans hxi h.il
  have b0 : (0 : Int) ≤ (x : Int) := by omega
  have b1 : (x : Int) < (i : Int) := by omega
  have b2 : (x : Int) < (l.length : Int) := by omega
  obtain ⟨ad, hA, hb, m0, m1, m2, m3, m4, m5⟩ := h.ls.nd_at h.il
  rw [hn] at m0 m1 m2 m3 m4 m5
  rw [hxn] at m4
  have hadb : ∀ q, (ad.add q).block < w.heap.size := fun q => by rw [block_of_add]; exact hb
  have HBS : Hid (Below w.heap.size w (w.alloc (.cells #[.slice a0 n0 c0, .slice a1 n1 c1, .slice a2 n2 c2] 24))) := Lib.hid ((Below.refl _ w).alloc (Nat.le_refl _) _)
  have p0 := (HBS.out.cell (p := ad.add (i * 6)) (hadb _)).trans m0
  have p1 := add_cell ((HBS.out.cell (p := ad.add (i * 6 + 1)) (hadb _)).trans m1)
  have p2 := add_cell ((HBS.out.cell (p := ad.add (i * 6 + 2)) (hadb _)).trans m2)
  have p3 := add_cell ((HBS.out.cell (p := ad.add (i * 6 + 3)) (hadb _)).trans m3)
  have p4 := add_cell ((HBS.out.cell (p := ad.add (i * 6 + 4)) (hadb _)).trans m4)
  have p5 := add_cell ((HBS.out.cell (p := ad.add (i * 6 + 5)) (hadb _)).trans m5)
  have HBX := Lib.hid (h.boxes #[.int .i64 n.op, .int .i64 n.i, .int .i64 n.e, .int .i64 n.g, .int .i64 (x : Int), .int .i64 n.y])
  have hil := h.il
  have hll := h.ll
  obtain ⟨ad3, at2, hA3, hA2, hop⟩ := h.operand hxi
  rw [hA] at hA3
  injection hA3 with hA3
  subst hA3
  have HEN := Lib.hid (h.en hxi 5)
  have hz := (h.tx x hxi).2
  have HTX : Hid (tx A F X l i = headB A X n ++ en A F X l 5 x) := Lib.hid (by rw [tx_un h.ops h.il (by unfold opA; rw [hn]; exact hux) (by unfold opA; rw [hn]; exact huy), hn, hxn, Int.toNat_natCast])
  have hka := h.known (x := x) (by omega)
  have HLV : Hid (∀ W, Calls Tryz.prog 69 #[.int .i64 (opA l x)] W fun e w' => e = .returned (.int .i64 ((levN (opA l x) : Nat) : Int)) ∧ W = w') := Lib.hid (fun W => rLevel_any _ hka W)
  have HL0 : Hid (∀ W, Calls Tryz.prog 69 #[.int .i64 n.op] W fun e w' => e = .returned (.int .i64 5) ∧ W = w') := Lib.hid (fun W => by
    have h5 := rLevel_any n.op (by rcases hu with h9 | h9 | h9 | h9 | h9 | h9 | h9 | h9 | h9 <;> rw [h9] <;> rfl) W
    have h6 : levN n.op = 5 := by rcases hu with h9 | h9 | h9 | h9 | h9 | h9 | h9 | h9 | h9 <;> rw [h9] <;> rfl
    rw [h6] at h5
    exact h5)
  have HEC : Hid (∀ W, Calls Tryz.prog 68 #[.string (T.getD x ByteArray.empty), .int .i64 ((levN (opA l x) : Nat) : Int), .int .i64 5] W fun e w' => e = .returned (.string (encI ((5 : Nat) : Int) ((levN (opA l x) : Nat) : Int) (T.getD x ByteArray.empty))) ∧ W = w') := Lib.hid (fun W => rEnclI_any _ _ _ (by omega) W)
  have HOC : Hid (∀ W, Below w.heap.size w W → W.cell? (ad.add (x * 6)) = some (.int .i64 (opA l x)) ∧ W.cell? (at2.add x) = some (.string (T.getD x ByteArray.empty))) := Lib.hid hop
  generalize T.getD x ByteArray.empty = z at *
  generalize opA l x = oz at *
  obtain ⟨E, hE⟩ : ∃ E, encI ((5 : Nat) : Int) ((levN oz : Nat) : Int) z = E := ⟨_, rfl⟩
  rw [hE] at HEN HEC
  have hEs := HEN.out.2
  have d1 : (n.op == 1) = false := by rw [beq_eq_false_iff_ne]; omega
  have d2 : (n.op == 2) = false := by rw [beq_eq_false_iff_ne]; omega
  have d3 : (n.op == 3) = false := by rw [beq_eq_false_iff_ne]; omega
  have d16 : (n.op == 16) = false := by rw [beq_eq_false_iff_ne]; omega
  have d13 : (n.op == 13) = false := by rw [beq_eq_false_iff_ne]; omega
  have d14 : (n.op == 14) = false := by rw [beq_eq_false_iff_ne]; omega
  have HS : Hid (∀ W, Below (w.heap.size + 1 + 1) ((w.alloc (.cells #[.slice a0 n0 c0, .slice a1 n1 c1, .slice a2 n2 c2] 24)).alloc (.cells #[.int .i64 n.op, .int .i64 n.i, .int .i64 n.e, .int .i64 n.g, .int .i64 (x : Int), .int .i64 n.y] 65)) W → (W.cell? ⟨w.heap.size, 0, none⟩ = some (.slice a0 n0 c0) ∧ W.cell? ⟨w.heap.size, 1, none⟩ = some (.slice a1 n1 c1) ∧ W.cell? ⟨w.heap.size, 2, none⟩ = some (.slice a2 n2 c2) ∧ W.cell? ⟨w.heap.size + 1, 0, none⟩ = some (.int .i64 n.op) ∧ W.cell? ⟨w.heap.size + 1, 1, none⟩ = some (.int .i64 n.i) ∧ W.cell? ⟨w.heap.size + 1, 2, none⟩ = some (.int .i64 n.e) ∧ W.cell? ⟨w.heap.size + 1, 3, none⟩ = some (.int .i64 n.g) ∧ W.cell? ⟨w.heap.size + 1, 4, none⟩ = some (.int .i64 (x : Int)) ∧ W.cell? ⟨w.heap.size + 1, 5, none⟩ = some (.int .i64 n.y) ∧ W.cell? (ad.add (x * 6)) = some (.int .i64 oz) ∧ W.cell? (at2.add x) = some (.string z)) ∧ Hid (Below (w.heap.size + 1 + 1) ((w.alloc (.cells #[.slice a0 n0 c0, .slice a1 n1 c1, .slice a2 n2 c2] 24)).alloc (.cells #[.int .i64 n.op, .int .i64 n.i, .int .i64 n.e, .int .i64 n.g, .int .i64 (x : Int), .int .i64 n.y] 65)) W)) := Lib.hid (fun W hW => by
    obtain ⟨g1, g2, q0, q1, q2, hnb, _⟩ := HBX.out W hW
    exact ⟨⟨q0, q1, q2, Lib.cell_of_heap hnb 0, Lib.cell_of_heap hnb 1, Lib.cell_of_heap hnb 2, Lib.cell_of_heap hnb 3, Lib.cell_of_heap hnb 4, Lib.cell_of_heap hnb 5, (HOC.out W g1).1, (HOC.out W g1).2⟩, Lib.hid hW⟩)
  have HH : Hid (∀ W, Hid (Below (w.heap.size + 1 + 1) ((w.alloc (.cells #[.slice a0 n0 c0, .slice a1 n1 c1, .slice a2 n2 c2] 24)).alloc (.cells #[.int .i64 n.op, .int .i64 n.i, .int .i64 n.e, .int .i64 n.g, .int .i64 (x : Int), .int .i64 n.y] 65)) W) → Calls Tryz.prog 70 #[.agg #[.slice a0 n0 c0, .slice a1 n1 c1, .slice a2 n2 c2], .agg #[.int .i64 n.op, .int .i64 n.i, .int .i64 n.e, .int .i64 n.g, .int .i64 (x : Int), .int .i64 n.y], .string ⟨#[]⟩] W fun e w' => (∃ s : ByteArray, e = .returned (.string s) ∧ Hid (s.data.toList = headB A X n) ∧ s.size ≤ 300) ∧ w'.cell? ⟨w.heap.size, 0, none⟩ = some (.slice a0 n0 c0) ∧ w'.cell? ⟨w.heap.size, 1, none⟩ = some (.slice a1 n1 c1) ∧ w'.cell? ⟨w.heap.size, 2, none⟩ = some (.slice a2 n2 c2) ∧ w'.cell? ⟨w.heap.size + 1, 0, none⟩ = some (.int .i64 n.op) ∧ w'.cell? ⟨w.heap.size + 1, 1, none⟩ = some (.int .i64 n.i) ∧ w'.cell? ⟨w.heap.size + 1, 2, none⟩ = some (.int .i64 n.e) ∧ w'.cell? ⟨w.heap.size + 1, 3, none⟩ = some (.int .i64 n.g) ∧ w'.cell? ⟨w.heap.size + 1, 4, none⟩ = some (.int .i64 (x : Int)) ∧ w'.cell? ⟨w.heap.size + 1, 5, none⟩ = some (.int .i64 n.y) ∧ w'.cell? (ad.add (x * 6)) = some (.int .i64 oz) ∧ w'.cell? (at2.add x) = some (.string z) ∧ Hid (Below (w.heap.size + 1 + 1) ((w.alloc (.cells #[.slice a0 n0 c0, .slice a1 n1 c1, .slice a2 n2 c2] 24)).alloc (.cells #[.int .i64 n.op, .int .i64 n.i, .int .i64 n.e, .int .i64 n.g, .int .i64 (x : Int), .int .i64 n.y] 65)) w')) := Lib.hid (fun W hW => by
    obtain ⟨g1, g2, _, _, _, _, gs⟩ := HBX.out W hW.out
    have h5 := hhead W gs
    rw [hxn] at h5
    refine h5.mono ?_
    rintro e w' ⟨⟨s, h6, h7, h8⟩, h9⟩
    obtain ⟨⟨g10, g11, g12, g13, g14, g15, g16, g17, g18, g19, g20⟩, g9⟩ := HS.out w' (hW.out.trans (h9.mono g2))
    exact ⟨⟨s, h6, Lib.hid h7, h8⟩, g10, g11, g12, g13, g14, g15, g16, g17, g18, g19, g20, g9⟩)
  obtain ⟨⟨j0, j1, j2, j3, j4, j5, j6, j7, j8, j9, j10⟩, j99⟩ := HS.out ((w.alloc (.cells #[.slice a0 n0 c0, .slice a1 n1 c1, .slice a2 n2 c2] 24)).alloc (.cells #[.int .i64 n.op, .int .i64 n.i, .int .i64 n.e, .int .i64 n.g, .int .i64 (x : Int), .int .i64 n.y] 65)) (Below.refl _ _)
  obtain ⟨⟨i0, i1, i2, i3, i4, i5, i6, i7, i8, i9, i10⟩, i99⟩ := HS.out (((w.alloc (.cells #[.slice a0 n0 c0, .slice a1 n1 c1, .slice a2 n2 c2] 24)).alloc (.cells #[.int .i64 n.op, .int .i64 n.i, .int .i64 n.e, .int .i64 n.g, .int .i64 (x : Int), .int .i64 n.y] 65))).drew (Below.refl _ _).drew
  have HBE : Hid (∀ W, Hid (Below (w.heap.size + 1 + 1) ((w.alloc (.cells #[.slice a0 n0 c0, .slice a1 n1 c1, .slice a2 n2 c2] 24)).alloc (.cells #[.int .i64 n.op, .int .i64 n.i, .int .i64 n.e, .int .i64 n.g, .int .i64 (x : Int), .int .i64 n.y] 65)) W) → Below w.heap.size w W) := Lib.hid (fun W hW => (HBX.out W hW.out).1)
  unfold TextRun
  rw [hA, hA2]
  clear h hn hu hux huy hxo hA hA2 hb m0 m1 m2 m3 m4 m5 hadb HBS HBX hhead hxn hka hop HOC HS hE
  go_enter Tryz.func36, Tryz.ntmps36
  go_wp2_with fail
  refine (HL0.out _).mono ?_
  rintro e w1 ⟨rfl, hw1⟩
  subst w1
  go_wp2_with fail
  go_region_held3 (fun W => (W.cell? ⟨w.heap.size, 0, none⟩ = some (.slice a0 n0 c0) ∧ W.cell? ⟨w.heap.size, 1, none⟩ = some (.slice a1 n1 c1) ∧ W.cell? ⟨w.heap.size, 2, none⟩ = some (.slice a2 n2 c2) ∧ W.cell? ⟨w.heap.size + 1, 0, none⟩ = some (.int .i64 n.op) ∧ W.cell? ⟨w.heap.size + 1, 1, none⟩ = some (.int .i64 n.i) ∧ W.cell? ⟨w.heap.size + 1, 2, none⟩ = some (.int .i64 n.e) ∧ W.cell? ⟨w.heap.size + 1, 3, none⟩ = some (.int .i64 n.g) ∧ W.cell? ⟨w.heap.size + 1, 4, none⟩ = some (.int .i64 (x : Int)) ∧ W.cell? ⟨w.heap.size + 1, 5, none⟩ = some (.int .i64 n.y) ∧ W.cell? (ad.add (x * 6)) = some (.int .i64 oz) ∧ W.cell? (at2.add x) = some (.string z) ∧ Hid (Below (w.heap.size + 1 + 1) ((w.alloc (.cells #[.slice a0 n0 c0, .slice a1 n1 c1, .slice a2 n2 c2] 24)).alloc (.cells #[.int .i64 n.op, .int .i64 n.i, .int .i64 n.e, .int .i64 n.g, .int .i64 (x : Int), .int .i64 n.y] 65)) W))) (first | assumption | (refine ⟨?_, ?_, ?_, ?_, ?_, ?_, ?_, ?_, ?_, ?_, ?_, ?_⟩ <;> first | assumption | go_keep) | go_keep)
    (first
      | (go_at_call 70; refine (HH.out _ (by assumption)).mono ?_; rintro e Wb ⟨⟨s, rfl, hs, hsz⟩, k0, k1, k2, k3, k4, k5, k6, k7, k8, k9, k10, k99⟩)
      | (go_at_call 69; refine (HLV.out _).mono ?_; rintro e Wc ⟨rfl, hWc⟩; subst Wc)
      | (go_at_call 68; refine (HEC.out _).mono ?_; rintro e Wd ⟨rfl, hWd⟩; subst Wd; have hsum : ¬ 9223372036854775807 < s.size + E.size := by omega))
  go_wp2
  go_ret
  exact ⟨⟨_, rfl, by rw [HTX.out, ← hs.out, ← HEN.out.1]; simp, by simp only [ByteArray.size_append]; omega⟩, HBE.out _ k99⟩
end Go.Proofs.YtenbhalnpiahaaaGreatDoor
/- Layer 7: text of the reference: announcements. -/
namespace Go.Proofs.YtenbhalnpiahaaaGreatDoor
open Go.RowKit Go.Proofs.Ws
set_option maxRecDepth 100000 in
set_option maxHeartbeats 8000000 in
theorem text_ann {w : World} {A F X : List ByteArray} {l : List Nd} {T : List ByteArray} {a0 : Option Addr} {n0 c0 : Nat} {a1 : Option Addr} {n1 c1 : Nat} {a2 : Option Addr} {n2 c2 : Nat} {al at_ : Option Addr} {i : Nat} (cl ct : Nat) (h : RT w A F X l T a0 n0 c0 a1 n1 c1 a2 n2 c2 al at_ i) {n : Nd} (hn : l.getD i nd0 = n) (hop : n.op = 16) : TextRun w A F X l a0 n0 c0 a1 n1 c1 a2 n2 c2 al cl at_ ct i := by
  have huy : usesY n.op = true := by rw [hop]; rfl
  have hux : usesX n.op = true := usesY_X huy
  have hxo := opsOk_x (h.ops i h.il) (by rw [hn]; exact hux)
  rw [hn] at hxo
  obtain ⟨x, hxn⟩ : ∃ x : Nat, n.x = (x : Int) := ⟨n.x.toNat, by omega⟩
  have hxi : x < i := by omega
  have hxl : x < l.length := Nat.lt_trans hxi h.il
  have bx0 : (0 : Int) ≤ (x : Int) := by omega
  have bx1 : (x : Int) < (i : Int) := by omega
  have bx2 : (x : Int) < (l.length : Int) := by omega
  have hyo := opsOk_y (h.ops i h.il) (by rw [hn]; exact huy)
  rw [hn] at hyo
  obtain ⟨y, hyn⟩ : ∃ y : Nat, n.y = (y : Int) := ⟨n.y.toNat, by omega⟩
  have hyi : y < i := by omega
  have hyl : y < l.length := Nat.lt_trans hyi h.il
  have by0 : (0 : Int) ≤ (y : Int) := by omega
  have by1 : (y : Int) < (i : Int) := by omega
  have by2 : (y : Int) < (l.length : Int) := by omega
  obtain ⟨ad, hA, hb, m0, m1, m2, m3, m4, m5⟩ := h.ls.nd_at h.il
  rw [hn] at m0 m1 m2 m3 m4 m5
  rw [hxn] at m4
  rw [hyn] at m5
  rw [hop] at m0
  have hadb : ∀ q, (ad.add q).block < w.heap.size := fun q => by rw [block_of_add]; exact hb
  have HBS : Hid (Below w.heap.size w (w.alloc (.cells #[.slice a0 n0 c0, .slice a1 n1 c1, .slice a2 n2 c2] 24))) := Lib.hid ((Below.refl _ w).alloc (Nat.le_refl _) _)
  have p0 := (HBS.out.cell (p := ad.add (i * 6)) (hadb _)).trans m0
  have p1 := add_cell ((HBS.out.cell (p := ad.add (i * 6 + 1)) (hadb _)).trans m1)
  have p2 := add_cell ((HBS.out.cell (p := ad.add (i * 6 + 2)) (hadb _)).trans m2)
  have p3 := add_cell ((HBS.out.cell (p := ad.add (i * 6 + 3)) (hadb _)).trans m3)
  have p4 := add_cell ((HBS.out.cell (p := ad.add (i * 6 + 4)) (hadb _)).trans m4)
  have p5 := add_cell ((HBS.out.cell (p := ad.add (i * 6 + 5)) (hadb _)).trans m5)
  have HBX := Lib.hid (h.boxes #[.int .i64 16, .int .i64 n.i, .int .i64 n.e, .int .i64 n.g, .int .i64 (x : Int), .int .i64 (y : Int)])
  have hil := h.il
  have hll := h.ll
  obtain ⟨ad3, at3, hA3, hB3, hopx⟩ := h.operand hxi
  rw [hA] at hA3
  injection hA3 with hA3
  subst hA3
  obtain ⟨ad4, at4, hA4, hB4, hopy⟩ := h.operand hyi
  rw [hA] at hA4
  injection hA4 with hA4
  subst hA4
  rw [hB3] at hB4
  injection hB4 with hB4
  subst hB4
  have HEN := Lib.hid (h.en hyi 5)
  have hzx := (h.tx x hxi).2
  have hzy := (h.tx y hyi).2
  have HTX : Hid (tx A F X l i = 91 :: 33 :: (tx A F X l x ++ 93 :: en A F X l 5 y)) := Lib.hid (by rw [tx_bin h.ops h.il (by unfold opA; rw [hn]; exact huy), hn, hxn, hyn, Int.toNat_natCast, Int.toNat_natCast, if_pos (by unfold opA; rw [hn]; exact hop)])
  have HTZ := Lib.hid (h.tx x hxi).1
  have hka := h.known (x := y) (by omega)
  have HLV : Hid (∀ W, Calls Tryz.prog 69 #[.int .i64 (opA l y)] W fun e w' => e = .returned (.int .i64 ((levN (opA l y) : Nat) : Int)) ∧ W = w') := Lib.hid (fun W => rLevel_any _ hka W)
  have HEC : Hid (∀ W, Calls Tryz.prog 68 #[.string (T.getD y ByteArray.empty), .int .i64 ((levN (opA l y) : Nat) : Int), .int .i64 5] W fun e w' => e = .returned (.string (encI ((5 : Nat) : Int) ((levN (opA l y) : Nat) : Int) (T.getD y ByteArray.empty))) ∧ W = w') := Lib.hid (fun W => rEnclI_any _ _ _ (by omega) W)
  obtain ⟨hbz, _, q0, q1, q2, hnb, _⟩ := HBX.out ((w.alloc (.cells #[.slice a0 n0 c0, .slice a1 n1 c1, .slice a2 n2 c2] 24)).alloc (.cells #[.int .i64 16, .int .i64 n.i, .int .i64 n.e, .int .i64 n.g, .int .i64 (x : Int), .int .i64 (y : Int)] 65)) (Below.refl _ _)
  have HB := Lib.hid hbz
  obtain ⟨_, cx⟩ := hopx _ hbz
  obtain ⟨oy, cy⟩ := hopy _ hbz
  generalize T.getD x ByteArray.empty = zx at *
  obtain ⟨E, hE⟩ : ∃ E, encI ((5 : Nat) : Int) ((levN (opA l y) : Nat) : Int) (T.getD y ByteArray.empty) = E := ⟨_, rfl⟩
  rw [hE] at HEN HEC
  have hEs := HEN.out.2
  generalize T.getD y ByteArray.empty = zy at *
  generalize opA l y = oz at *
  have l1 : (⟨#[91, 33]⟩ : ByteArray).size = 2 := rfl
  have l2 : (⟨#[93]⟩ : ByteArray).size = 1 := rfl
  have g1 : ((⟨#[91, 33]⟩ : ByteArray) ++ zx).size ≤ 4002 := by simp only [ByteArray.size_append]; omega
  have g2 : ((⟨#[91, 33]⟩ : ByteArray) ++ zx ++ ⟨#[93]⟩).size ≤ 4003 := by simp only [ByteArray.size_append]; omega
  have x4 := Lib.cell_of_heap hnb 4
  have x5 := Lib.cell_of_heap hnb 5
  simp only [List.getElem?_toArray, List.getElem?_cons_succ, List.getElem?_cons_zero] at x4 x5
  unfold TextRun
  rw [hA, hB3]
  clear h hn hop hux huy hxo hyo hA hB3 hb m0 m1 m2 m3 m4 m5 hadb HBS HBX hxn hyn hka hopx hopy hE hbz hnb
  go_enter Tryz.func36, Tryz.ntmps36
  go_wp2_with fail
  go_quiet (first | (go_at_call 69; exact quiet_same (HLV.out _)) | (go_at_call 68; exact quiet_same (HEC.out _)))
  go_wp2
  go_ret
  exact ⟨⟨_, rfl, by rw [HTX.out, ← HEN.out.1, ← HTZ.out]; simp, by simp only [ByteArray.size_append]; omega⟩, below_drewN HB.out _⟩
end Go.Proofs.YtenbhalnpiahaaaGreatDoor
