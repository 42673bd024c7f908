/- Layer 6: texts joined: Xd Xe Xg. -/
import Derived.Test.YtenbhalnpiahaaaGreatDoorJn
import Derived.Test.YtenbhalnpiahaaaGreatDoorJr
import Derived.Test.YtenbhalnpiahaaaGreatDoorJx
import Derived.Test.YtenbhalnpiahaaaGreatDoorPa
/- Layer 7: the names of the agents of a node. -/
namespace Go.Proofs.Ws
open Go
theorem more_tail (A : List ByteArray) : ∀ js : List Nat, moreB A js = Lib.joinTail [44] ((js.map (fun i => A.getD i ByteArray.empty)).map (·.data.toList))
  | [] => rfl
  | j :: js => by
    have ih := more_tail A js
    unfold moreB
    rw [ih]
    simp [Lib.joinTail]
theorem join_grp (A : List ByteArray) (g : Nat) : (joinV (selK A g A.length)).data.toList = grpB A g := by
  unfold joinV selK grpB grpI
  cases h : (List.range A.length).filter (fun i => g.testBit i) with
  | nil => rfl
  | cons j js =>
    show (Lib.join (((j :: js).map (fun i => A.getD i ByteArray.empty)).map (·.data.toList)) [44]) = (A.getD j ByteArray.empty).data.toList ++ moreB A js
    rw [List.map_cons, List.map_cons, Lib.join_cons, more_tail]
theorem selK_bit (A : List ByteArray) (i : Nat) : ∀ k, selK A (2 ^ i) k = if i < k then [A.getD i ByteArray.empty] else []
  | 0 => rfl
  | k + 1 => by
    rw [selK_succ, selK_bit A i k, Nat.testBit_two_pow]
    by_cases h : i = k
    · subst h; simp
    · by_cases h2 : i < k
      · have : i < k + 1 := by omega
        simp [h, h2, this]
      · have : ¬ i < k + 1 := by omega
        simp [h, h2, this]
theorem join_bit {A : List ByteArray} {i : Nat} (h : i < A.length) : joinV (selK A (2 ^ i) A.length) = A.getD i ByteArray.empty := by
  rw [selK_bit, if_pos h]
  unfold joinV
  simp [Lib.join_one]
end Go.Proofs.Ws
namespace Go.Proofs.YtenbhalnpiahaaaGreatDoor
open Go.RowKit Go.Proofs.Ws
/-- what the node of a formula with names says of its agents -/
def agOk (na : Nat) (n : Nd) : Prop := (hasGroup n.op = true ∧ ∃ g : Nat, n.g = (g : Int) ∧ 1 ≤ g ∧ g < 2 ^ na) ∨ (hasGroup n.op = false ∧ n.g = 0 ∧ ∃ i : Nat, n.i = (i : Int) ∧ i < na)
structure QE (K : QK) : Prop where
  sig : SigR K.w0 K.w0.heap.size (sv K.a0 K.n0 K.c0 K.a1 K.n1 K.c1 K.a2 K.n2 K.c2) K.A K.F K.X
  ok : sigErr K.A K.F K.X = 0
  env : EnvS K.w0
  ls : Reads K.w0 K.w0.heap.size 6 K.al K.l.length (nds K.l)
  ll : K.l.length ≤ 200
  lc : K.l.length ≤ K.cl
theorem sig_size {A F X : List ByteArray} (h : sigErr A F X = 0) : ∀ x, x ∈ A ++ (F ++ X) → x.size ≤ 8 := fun x hx => name_size ((sigErr_ok h).2.2.2.1 x hx).1
theorem join_size {A F X : List ByteArray} (h : sigErr A F X = 0) (g : Nat) : (joinV (selK A g A.length)).size ≤ 200 := by
  have hA4 : A.length ≤ 4 := (sigErr_ok h).1
  have h1 := join_len (l := selK A g A.length) (fun x hx => ((sigErr_ok h).2.2.2.1 x (List.mem_append.2 (.inl (selK_mem (Nat.le_refl _) hx)))).1) (by
    rw [selK_length]
    unfold popK
    have := List.length_filter_le (fun i => g.testBit i) (List.range A.length)
    rw [List.length_range] at this
    omega)
  have e : (joinV (selK A g A.length)).size = (Lib.join ((selK A g A.length).map (·.data.toList)) [44]).length := by
    unfold joinV; exact List.size_toArray
  omega
set_option maxRecDepth 100000 in
set_option maxHeartbeats 2000000 in
theorem qAgents_any {K : QK} (hE : QE K) {w : World} {t : List UInt8} (h : QP K w t) (n : Nd) (hn : agOk K.A.length n) :
    Calls Tryz.prog 57 #[.pointer (some ⟨K.w0.heap.size, 0, none⟩), .agg #[.int .i64 n.op, .int .i64 n.i, .int .i64 n.e, .int .i64 n.g, .int .i64 n.x, .int .i64 n.y]] w fun e w' => (∃ s : ByteArray, e = .returned (.string s) ∧ s.data.toList = agB K.A n ∧ s.size ≤ 200) ∧ Below w.heap.size w w' := by
  have HB : Hid (∀ o, Below w.heap.size w (w.alloc o)) := Lib.hid (fun o => (Below.refl _ w).alloc (Nat.le_refl _) o)
  have HC : Hid (∀ o, QP K (w.alloc o) t) := Lib.hid (fun o => h.below (HB.out o))
  have HT : Hid (∀ o g, Calls Tryz.prog 92 #[.agg #[.slice K.a0 K.n0 K.c0, .slice K.a1 K.n1 K.c1, .slice K.a2 K.n2 K.c2], .int .i64 g] (w.alloc o) fun e w' => e = .returned (.tuple #[.string (textV K.A K.F K.X g).1, .int .i64 (textV K.A K.F K.X g).2]) ∧ Below w.heap.size w w') := Lib.hid (fun o g =>
    (pText_any _ K.A K.F K.X g (w.alloc o) ((hE.sig.below (HC.out o).be).more (HC.out o).be.size) (hE.env.below (HC.out o).be)).mono (fun e w' ⟨he, hb⟩ => ⟨he, (HB.out o).trans (hb.mono (HB.out o).size)⟩))
  have HCL : Hid (∀ o, (w.alloc o).cell? ⟨K.w0.heap.size, 0, none⟩ = some (.slice K.a0 K.n0 K.c0) ∧ (w.alloc o).cell? ⟨K.w0.heap.size, 1, none⟩ = some (.slice K.a1 K.n1 K.c1) ∧ (w.alloc o).cell? ⟨K.w0.heap.size, 2, none⟩ = some (.slice K.a2 K.n2 K.c2)) := Lib.hid (fun o => by
    obtain ⟨q0, q1, q2, _⟩ := (HC.out o).cells
    exact ⟨q0, q1, q2⟩)
  have hok := hE.ok
  have hA4 : K.A.length ≤ 4 := (sigErr_ok hok).1
  rcases hn with ⟨hg, g, e1, e2, e3⟩ | ⟨hg, e1, i, e2, e3⟩
  · have HV : Hid ((textV K.A K.F K.X (g : Int)).1.data.toList = agB K.A n ∧ (textV K.A K.F K.X (g : Int)).1.size ≤ 200) := Lib.hid (by
      rw [text_ok hok e2 e3]
      refine ⟨?_, join_size hok g⟩
      unfold agB
      rw [if_pos hg, e1, Int.toNat_natCast]
      exact join_grp _ _)
    have hne : ((g : Int) == 0) = false := by rw [beq_eq_false_iff_ne]; omega
    rw [e1]
    obtain ⟨q0, q1, q2⟩ := HCL.out (.cells #[.int .i64 n.op, .int .i64 n.i, .int .i64 n.e, .int .i64 (g : Int), .int .i64 n.x, .int .i64 n.y] 65)
    clear e1 e2 e3 hg hok hA4 h hE HC HB
    go_enter Tryz.func57, Tryz.ntmps57
    go_wp2_with fail
    refine (HT.out _ _).mono ?_
    rintro e w1 ⟨rfl, hb⟩
    have HB1 := Lib.hid hb
    clear hb q0 q1 q2
    go_wp2
    go_ret
    exact ⟨⟨_, rfl, HV.out⟩, HB1.out⟩
  · have HV : Hid ((textV K.A K.F K.X ((2 ^ i : Nat) : Int)).1.data.toList = agB K.A n ∧ (textV K.A K.F K.X ((2 ^ i : Nat) : Int)).1.size ≤ 200) := Lib.hid (by
      rw [text_ok hok (Nat.one_le_two_pow) (Nat.pow_lt_pow_right (by decide) e3)]
      refine ⟨?_, join_size hok _⟩
      unfold agB
      rw [if_neg (by rw [hg]; decide), e2, Int.toNat_natCast, join_bit e3])
    obtain ⟨z, p, hz, hp, hi4⟩ : ∃ z p : Int, n.i = z ∧ ((2 ^ i : Nat) : Int) = p ∧ ((z = 0 ∧ p = 1) ∨ (z = 1 ∧ p = 2) ∨ (z = 2 ∧ p = 4) ∨ (z = 3 ∧ p = 8)) := by
      have hi4 : i = 0 ∨ i = 1 ∨ i = 2 ∨ i = 3 := by omega
      refine ⟨_, _, rfl, rfl, ?_⟩
      rw [e2]
      rcases hi4 with rfl | rfl | rfl | rfl <;> decide
    rw [hp] at HV
    rw [e1, hz]
    obtain ⟨q0, q1, q2⟩ := HCL.out (.cells #[.int .i64 n.op, .int .i64 z, .int .i64 n.e, .int .i64 0, .int .i64 n.x, .int .i64 n.y] 65)
    clear e1 e2 e3 hg hok hA4 h hE HC HB hz hp
    rcases hi4 with ⟨rfl, rfl⟩ | ⟨rfl, rfl⟩ | ⟨rfl, rfl⟩ | ⟨rfl, rfl⟩
    all_goals
      go_enter Tryz.func57, Tryz.ntmps57
      go_wp2_with fail
      refine (HT.out _ _).mono ?_
      rintro e w1 ⟨rfl, hb⟩
      have HB1 := Lib.hid hb
      clear hb q0 q1 q2
      go_wp2
      go_ret
      exact ⟨⟨_, rfl, HV.out⟩, HB1.out⟩
end Go.Proofs.YtenbhalnpiahaaaGreatDoor
/- Layer 7: the table of layouts; what the printer's methods promise. -/
namespace Go.Proofs.YtenbhalnpiahaaaGreatDoor
open Go.RowKit Go.Proofs.Ws
def layV : List Value := [.int .i64 0, .string ⟨#[]⟩, .int .i64 0, .int .i64 0, .int .i64 0, .int .i64 0, .string ⟨#[116, 114, 117, 101]⟩, .int .i64 5, .int .i64 0, .int .i64 0, .int .i64 0, .string ⟨#[102, 97, 108, 115, 101]⟩, .int .i64 5, .int .i64 0, .int .i64 0, .int .i64 1, .string ⟨#[]⟩, .int .i64 5, .int .i64 0, .int .i64 0, .int .i64 2, .string ⟨#[126]⟩, .int .i64 5, .int .i64 5, .int .i64 0, .int .i64 3, .string ⟨#[38]⟩, .int .i64 4, .int .i64 4, .int .i64 5, .int .i64 3, .string ⟨#[124]⟩, .int .i64 3, .int .i64 3, .int .i64 4, .int .i64 3, .string ⟨#[45, 62]⟩, .int .i64 1, .int .i64 2, .int .i64 1, .int .i64 3, .string ⟨#[60, 45, 62]⟩, .int .i64 0, .int .i64 0, .int .i64 1, .int .i64 4, .string ⟨#[75]⟩, .int .i64 5, .int .i64 5, .int .i64 0, .int .i64 4, .string ⟨#[77]⟩, .int .i64 5, .int .i64 5, .int .i64 0, .int .i64 4, .string ⟨#[69]⟩, .int .i64 5, .int .i64 5, .int .i64 0, .int .i64 4, .string ⟨#[68]⟩, .int .i64 5, .int .i64 5, .int .i64 0, .int .i64 5, .string ⟨#[67]⟩, .int .i64 5, .int .i64 0, .int .i64 5, .int .i64 5, .string ⟨#[66]⟩, .int .i64 5, .int .i64 0, .int .i64 5, .int .i64 4, .string ⟨#[83]⟩, .int .i64 5, .int .i64 5, .int .i64 0, .int .i64 6, .string ⟨#[33]⟩, .int .i64 5, .int .i64 0, .int .i64 5, .int .i64 7, .string ⟨#[46]⟩, .int .i64 5, .int .i64 5, .int .i64 0, .int .i64 2, .string ⟨#[110, 101, 120, 116, 32]⟩, .int .i64 5, .int .i64 5, .int .i64 0, .int .i64 3, .string ⟨#[117, 110, 116, 105, 108]⟩, .int .i64 2, .int .i64 3, .int .i64 2, .int .i64 2, .string ⟨#[112, 114, 101, 118, 32]⟩, .int .i64 5, .int .i64 5, .int .i64 0, .int .i64 3, .string ⟨#[115, 105, 110, 99, 101]⟩, .int .i64 2, .int .i64 3, .int .i64 2]
/-- the table in memory -/
def LayW (w : World) : Prop := 0 < w.heap.size ∧ ∀ j v, layV[j]? = some v → w.cell? ⟨0, j, none⟩ = some v
theorem LayW.below {w w' : World} (h : LayW w) (hb : Below w.heap.size w w') : LayW w' :=
  ⟨Nat.lt_of_lt_of_le h.1 hb.size, fun j v hj => (hb.cell (p := ⟨0, j, none⟩) h.1).trans (h.2 j v hj)⟩
theorem lay_row (m : Nat) (h1 : 1 ≤ m) (h2 : m < 22) : layV[m * 5]? = some (.int .i64 (kindN (m : Int))) ∧ layV[m * 5 + 1]? = some (.string (wordB (m : Int))) ∧ layV[m * 5 + 2]? = some (.int .i64 ((levN (m : Int) : Nat) : Int)) ∧ layV[m * 5 + 3]? = some (.int .i64 ((reqX (m : Int) : Nat) : Int)) ∧ layV[m * 5 + 4]? = some (.int .i64 ((reqY (m : Int) : Nat) : Int)) := by
  have h : m = 1 ∨ m = 2 ∨ m = 3 ∨ m = 4 ∨ m = 5 ∨ m = 6 ∨ m = 7 ∨ m = 8 ∨ m = 9 ∨ m = 10 ∨ m = 11 ∨ m = 12 ∨ m = 13 ∨ m = 14 ∨ m = 15 ∨ m = 16 ∨ m = 17 ∨ m = 18 ∨ m = 19 ∨ m = 20 ∨ m = 21 := by omega
  rcases h with rfl | rfl | rfl | rfl | rfl | rfl | rfl | rfl | rfl | rfl | rfl | rfl | rfl | rfl | rfl | rfl | rfl | rfl | rfl | rfl | rfl
  all_goals exact ⟨rfl, rfl, rfl, rfl, rfl⟩
theorem LayW.at_ {w : World} (h : LayW w) {m : Nat} (h1 : 1 ≤ m) (h2 : m < 22) :
    w.cell? ⟨0, m * 5, none⟩ = some (.int .i64 (kindN (m : Int))) ∧ w.cell? ⟨0, m * 5 + 1, none⟩ = some (.string (wordB (m : Int))) ∧ w.cell? ⟨0, m * 5 + 2, none⟩ = some (.int .i64 ((levN (m : Int) : Nat) : Int)) ∧
      w.cell? ⟨0, m * 5 + 3, none⟩ = some (.int .i64 ((reqX (m : Int) : Nat) : Int)) ∧ w.cell? ⟨0, m * 5 + 4, none⟩ = some (.int .i64 ((reqY (m : Int) : Nat) : Int)) := by
  obtain ⟨r0, r1, r2, r3, r4⟩ := lay_row m h1 h2
  exact ⟨h.2 _ _ r0, h.2 _ _ r1, h.2 _ _ r2, h.2 _ _ r3, h.2 _ _ r4⟩
/-- s' is s and then u; or both are too long -/
def Ext (s u s' : List UInt8) : Prop := s.length ≤ s'.length ∧ (s' = s ++ u ∨ (4000 < s'.length ∧ 4000 < s.length + u.length))
theorem Ext.app (s u : List UInt8) : Ext s u (s ++ u) := ⟨by rw [List.length_append]; omega, .inl rfl⟩
theorem Ext.full {s : List UInt8} (h : 4000 < s.length) (u : List UInt8) : Ext s u s := ⟨Nat.le_refl _, .inr ⟨h, by omega⟩⟩
theorem Ext.trans {s u s' v s'' : List UInt8} (h : Ext s u s') (k : Ext s' v s'') : Ext s (u ++ v) s'' := by
  refine ⟨Nat.le_trans h.1 k.1, ?_⟩
  rcases h.2 with rfl | ⟨h1, h2⟩
  · rcases k.2 with rfl | ⟨k1, k2⟩
    · exact .inl (List.append_assoc _ _ _)
    · refine .inr ⟨k1, ?_⟩
      rw [List.length_append] at k2 ⊢
      omega
  · refine .inr ⟨by have := k.1; omega, ?_⟩
    rw [List.length_append]
    omega
theorem Ext.end_ {u s' : List UInt8} (h : Ext [] u s') : (4000 < s'.length ↔ 4000 < u.length) ∧ (¬ 4000 < s'.length → s' = u) := by
  rcases h.2 with rfl | ⟨h1, h2⟩
  · exact ⟨Iff.rfl, fun _ => rfl⟩
  · rw [List.length_nil, Nat.zero_add] at h2
    exact ⟨⟨fun _ => h2, fun _ => h1⟩, fun h => absurd h1 h⟩
theorem Oth.hid_alloc {a w : World} (h : Hid (Oth a w)) (o : Obj) : Hid (Oth a (w.alloc o)) := Lib.hid (h.out.alloc o)
/-- a node is written -/
def NodeOK (K : QK) (i : Nat) : Prop := ∀ (W : World) (t : List UInt8), QP K W t → t.length ≤ 500000 → Calls Tryz.prog 29 #[.pointer (some ⟨K.w0.heap.size, 0, none⟩), .int .i64 (i : Int)] W fun e w' => e = .returned (.tuple #[]) ∧
  ∃ t', QP K w' t' ∧ Ext t (tx K.A K.F K.X K.l i) t' ∧ t'.length ≤ max t.length (4000 + 300 * (i + 1)) ∧ Oth W w'
/-- .. at a place where a level is required -/
def OperOK (K : QK) (i r : Nat) : Prop := ∀ (W : World) (t : List UInt8), QP K W t → t.length ≤ 490000 → Calls Tryz.prog 56 #[.pointer (some ⟨K.w0.heap.size, 0, none⟩), .int .i64 (i : Int), .int .i64 (r : Int)] W fun e w' => e = .returned (.tuple #[]) ∧
  ∃ t', QP K w' t' ∧ Ext t (en K.A K.F K.X K.l r i) t' ∧ t'.length ≤ max t.length (4000 + 300 * (i + 1)) + 2 ∧ Oth W w'
/-- .. a condition -/
def CondOK (K : QK) (i : Nat) : Prop := ∀ (W : World) (t : List UInt8), QP K W t → t.length ≤ 480000 → Calls Tryz.prog 58 #[.pointer (some ⟨K.w0.heap.size, 0, none⟩), .int .i64 (i : Int), .int .i64 0] W fun e w' => e = .returned (.tuple #[]) ∧
  ∃ t', QP K w' t' ∧ Ext t (condB (opA K.l i) (tx K.A K.F K.X K.l i)) t' ∧ t'.length ≤ max t.length (4000 + 300 * (i + 1)) + 3 ∧ Oth W w'
theorem qWr1 {K : QK} {W : World} {t : List UInt8} (h : QP K W t) (x0 : ByteArray) (hl : t.length + (catB [x0]).length ≤ 1000000) :
    ∀ g, g = W.heap.size → Calls Tryz.prog 55 #[.pointer (some ⟨K.w0.heap.size, 0, none⟩), .slice (some ⟨g, 0, none⟩) 1 1] (W.alloc (.cells #[.string x0] 9)) fun e w' => e = .returned (.tuple #[]) ∧ QP K w' (t ++ catB [x0]) ∧ Oth W w' := fun g hg => by
  subst hg
  exact (qWrites_any (h.below ((Below.refl _ W).alloc (Nat.le_refl _) _)) [x0] W.heap.size 1 (heap_alloc_new W _) rfl (by decide) hl).mono (fun e w' ⟨he, hq, ho⟩ => ⟨he, hq, ((Oth.refl W).alloc _).trans ho⟩)
theorem qWr2 {K : QK} {W : World} {t : List UInt8} (h : QP K W t) (x0 x1 : ByteArray) (hl : t.length + (catB [x0, x1]).length ≤ 1000000) :
    ∀ g, g = W.heap.size → Calls Tryz.prog 55 #[.pointer (some ⟨K.w0.heap.size, 0, none⟩), .slice (some ⟨g, 0, none⟩) 2 2] (W.alloc (.cells #[.string x0, .string x1] 9)) fun e w' => e = .returned (.tuple #[]) ∧ QP K w' (t ++ catB [x0, x1]) ∧ Oth W w' := fun g hg => by
  subst hg
  exact (qWrites_any (h.below ((Below.refl _ W).alloc (Nat.le_refl _) _)) [x0, x1] W.heap.size 2 (heap_alloc_new W _) rfl (by decide) hl).mono (fun e w' ⟨he, hq, ho⟩ => ⟨he, hq, ((Oth.refl W).alloc _).trans ho⟩)
theorem qWr3 {K : QK} {W : World} {t : List UInt8} (h : QP K W t) (x0 x1 x2 : ByteArray) (hl : t.length + (catB [x0, x1, x2]).length ≤ 1000000) :
    ∀ g, g = W.heap.size → Calls Tryz.prog 55 #[.pointer (some ⟨K.w0.heap.size, 0, none⟩), .slice (some ⟨g, 0, none⟩) 3 3] (W.alloc (.cells #[.string x0, .string x1, .string x2] 9)) fun e w' => e = .returned (.tuple #[]) ∧ QP K w' (t ++ catB [x0, x1, x2]) ∧ Oth W w' := fun g hg => by
  subst hg
  exact (qWrites_any (h.below ((Below.refl _ W).alloc (Nat.le_refl _) _)) [x0, x1, x2] W.heap.size 3 (heap_alloc_new W _) rfl (by decide) hl).mono (fun e w' ⟨he, hq, ho⟩ => ⟨he, hq, ((Oth.refl W).alloc _).trans ho⟩)
theorem qWr4 {K : QK} {W : World} {t : List UInt8} (h : QP K W t) (x0 x1 x2 x3 : ByteArray) (hl : t.length + (catB [x0, x1, x2, x3]).length ≤ 1000000) :
    ∀ g, g = W.heap.size → Calls Tryz.prog 55 #[.pointer (some ⟨K.w0.heap.size, 0, none⟩), .slice (some ⟨g, 0, none⟩) 4 4] (W.alloc (.cells #[.string x0, .string x1, .string x2, .string x3] 9)) fun e w' => e = .returned (.tuple #[]) ∧ QP K w' (t ++ catB [x0, x1, x2, x3]) ∧ Oth W w' := fun g hg => by
  subst hg
  exact (qWrites_any (h.below ((Below.refl _ W).alloc (Nat.le_refl _) _)) [x0, x1, x2, x3] W.heap.size 4 (heap_alloc_new W _) rfl (by decide) hl).mono (fun e w' ⟨he, hq, ho⟩ => ⟨he, hq, ((Oth.refl W).alloc _).trans ho⟩)
theorem qWr5 {K : QK} {W : World} {t : List UInt8} (h : QP K W t) (x0 x1 x2 x3 x4 : ByteArray) (hl : t.length + (catB [x0, x1, x2, x3, x4]).length ≤ 1000000) :
    ∀ g, g = W.heap.size → Calls Tryz.prog 55 #[.pointer (some ⟨K.w0.heap.size, 0, none⟩), .slice (some ⟨g, 0, none⟩) 5 5] (W.alloc (.cells #[.string x0, .string x1, .string x2, .string x3, .string x4] 9)) fun e w' => e = .returned (.tuple #[]) ∧ QP K w' (t ++ catB [x0, x1, x2, x3, x4]) ∧ Oth W w' := fun g hg => by
  subst hg
  exact (qWrites_any (h.below ((Below.refl _ W).alloc (Nat.le_refl _) _)) [x0, x1, x2, x3, x4] W.heap.size 5 (heap_alloc_new W _) rfl (by decide) hl).mono (fun e w' ⟨he, hq, ho⟩ => ⟨he, hq, ((Oth.refl W).alloc _).trans ho⟩)
theorem catB_cons (x : ByteArray) (xs : List ByteArray) : (catB (x :: xs)).length = x.size + (catB xs).length := by unfold catB; simp [List.length_append]
theorem catB_nil : (catB []).length = 0 := rfl
theorem ite_size {p : Prop} [Decidable p] {a b : ByteArray} {k : Nat} (h1 : a.size ≤ k) (h2 : b.size ≤ k) : (if p then a else b).size ≤ k := by by_cases h : p <;> simp [h, h1, h2]
theorem wordB_size (op : Int) : (wordB op).size ≤ 5 := by
  unfold wordB
  repeat (refine ite_size (by decide) ?_)
  decide
theorem catB_one (x : ByteArray) : catB [x] = x.data.toList := by unfold catB; simp
set_option maxRecDepth 100000 in
set_option maxHeartbeats 2000000 in
theorem qOperand_any {K : QK} (hE : QE K) (hL : LayW K.w0) {i r : Nat} (hi : i < K.l.length) (hk : known (K.l.getD i nd0).op = true) (hN : NodeOK K i) : OperOK K i r := by
  intro w t h ht
  obtain ⟨ad, hA, hb, m0, _⟩ := hE.ls.nd_at hi
  obtain ⟨m, hm⟩ : ∃ m : Nat, (K.l.getD i nd0).op = (m : Int) := by
    unfold known at hk
    simp only [Bool.and_eq_true, decide_eq_true_eq] at hk
    exact ⟨(K.l.getD i nd0).op.toNat, by omega⟩
  have hm2 : 1 ≤ m ∧ m < 22 := by
    unfold known at hk
    simp only [Bool.and_eq_true, decide_eq_true_eq] at hk
    omega
  obtain ⟨_, _, r2, _, _⟩ := (hL.below h.be).at_ hm2.1 hm2.2
  obtain ⟨_, _, _, p3⟩ := h.cells
  have n0 := h.keep (a := ad.add (i * 6)) (by rw [block_of_add]; exact hb) m0
  rw [hm] at n0
  rw [hA] at p3
  have hq := h.size
  have hll := hE.ll
  have HQ := Lib.hid h
  have HEN : Hid (en K.A K.F K.X K.l r i = encB r (levN (m : Int)) (tx K.A K.F K.X K.l i)) := Lib.hid (by unfold en opA; rw [hm])
  rw [HEN.out]
  have HN := Lib.hid hN
  have HWA := Lib.hid (qWr1 h ⟨#[40]⟩ (by rw [catB_one]; have : (⟨#[40]⟩ : ByteArray).data.toList.length = 1 := rfl; omega) _ rfl)
  generalize K.l.length = L at *
  have hm22 := hm2.2
  clear hk hA hb m0 hm HEN hE hL h hN hm2
  by_cases hr : r ≤ levN (m : Int)
  · have d1 : decide ((r : Int) ≤ ((levN (m : Int) : Nat) : Int)) = true := decide_eq_true (by omega)
    have d2 : decide (r ≤ levN (m : Int)) = true := decide_eq_true hr
    have HX : Hid (encB r (levN (m : Int)) (tx K.A K.F K.X K.l i) = tx K.A K.F K.X K.l i) := Lib.hid (by unfold encB; rw [if_neg (by omega)])
    rw [HX.out]
    generalize levN (m : Int) = lv at *
    clear hr HX HWA
    go_enter Tryz.func56, Tryz.ntmps56
    go_wp2_with fail
    refine (HN.out w t HQ.out (by omega)).mono ?_
    rintro e w1 ⟨rfl, t', hq1, he1, hl1, ho1⟩
    have HR : Hid (∃ t', QP K w1 t' ∧ Ext t (tx K.A K.F K.X K.l i) t' ∧ t'.length ≤ max t.length (4000 + 300 * (i + 1)) + 2 ∧ Oth w w1) := Lib.hid ⟨t', hq1, he1, by omega, ho1⟩
    clear hq1 he1 hl1 ho1
    go_wp2
    first | go_end0 | (refine bodyPost_ret (results_none rfl _ _ _) rfl ?_)
    exact ⟨rfl, HR.out⟩
  · have d1 : decide ((r : Int) ≤ ((levN (m : Int) : Nat) : Int)) = false := decide_eq_false (by omega)
    have d2 : decide (r ≤ levN (m : Int)) = false := decide_eq_false hr
    have HX : Hid (encB r (levN (m : Int)) (tx K.A K.F K.X K.l i) = 40 :: (tx K.A K.F K.X K.l i ++ [41])) := Lib.hid (by unfold encB; rw [if_pos (by omega)])
    rw [HX.out]
    generalize levN (m : Int) = lv at *
    clear hr HX
    go_enter Tryz.func56, Tryz.ntmps56
    go_wp2_with fail
    refine (HWA.out).mono ?_
    rintro e w1 ⟨rfl, hq1, ho1⟩
    have HQ1 := Lib.hid hq1
    have HO1 := Lib.hid ho1
    have e40 : (catB [(⟨#[40]⟩ : ByteArray)]) = [40] := rfl
    have e41 : (catB [(⟨#[41]⟩ : ByteArray)]) = [41] := rfl
    have HNN := Lib.hid (HN.out w1 _ hq1 (by rw [e40, List.length_append]; show _ + 1 ≤ _; omega))
    clear hq1 ho1 HN HWA
    go_wp2_with fail
    refine (HNN.out).mono ?_
    rintro e w2 ⟨rfl, t2, hq2, he2, hl2, ho2⟩
    have hl3 : t2.length ≤ max (t.length + 1) (4000 + 300 * (i + 1)) := by rw [e40, List.length_append] at hl2; exact hl2
    have HE2 := Lib.hid he2
    have HQ2 := Lib.hid hq2
    have HO2 := Lib.hid (HO1.out.trans ho2)
    have HWB := Lib.hid (qWr1 hq2 ⟨#[41]⟩ (by rw [e41]; show _ + 1 ≤ _; omega) _ rfl)
    clear hq2 he2 hl2 ho2 HNN HO1
    go_wp2_with fail
    refine (HWB.out).mono ?_
    rintro e w3 ⟨rfl, hq3, ho3⟩
    have HR : Hid (∃ t', QP K w3 t' ∧ Ext t (40 :: (tx K.A K.F K.X K.l i ++ [41])) t' ∧ t'.length ≤ max t.length (4000 + 300 * (i + 1)) + 2 ∧ Oth w w3) := Lib.hid ⟨_, hq3, ((Ext.app t [40]).trans HE2.out).trans (Ext.app t2 [41]), by rw [e41, List.length_append]; show _ + 1 ≤ _; omega, HO2.out.trans ho3⟩
    clear hq3 ho3 HWB HO2 HE2 HQ2
    go_wp2
    first | go_end0 | (refine bodyPost_ret (results_none rfl _ _ _) rfl ?_)
    exact ⟨rfl, HR.out⟩
set_option maxRecDepth 100000 in
set_option maxHeartbeats 2000000 in
theorem qCond_any {K : QK} (hE : QE K) {i : Nat} (hi : i < K.l.length) (hO : OperOK K i 0) : CondOK K i := by
  intro w t h ht
  obtain ⟨ad, hA, hb, m0, _⟩ := hE.ls.nd_at hi
  obtain ⟨_, _, _, p3⟩ := h.cells
  have n0 := h.keep (a := ad.add (i * 6)) (by rw [block_of_add]; exact hb) m0
  rw [hA] at p3
  have hq := h.size
  have hll := hE.ll
  have HQ := Lib.hid h
  have HO := Lib.hid hO
  have HWA := Lib.hid (qWr1 h ⟨#[124]⟩ (by rw [catB_one]; have : (⟨#[124]⟩ : ByteArray).data.toList.length = 1 := rfl; omega) _ rfl)
  have HEN := Lib.hid (en_zero K.A K.F K.X K.l i)
  have HOP : Hid (opA K.l i = (K.l.getD i nd0).op) := Lib.hid rfl
  rw [HOP.out]
  generalize (K.l.getD i nd0).op = op at *
  generalize K.l.length = L at *
  clear hA hb m0 hE h hO HOP
  by_cases ho : op = 1
  · subst ho
    have HX : Hid (condB 1 (tx K.A K.F K.X K.l i) = []) := Lib.hid rfl
    rw [HX.out]
    clear HX HWA HO HEN
    go_enter Tryz.func58, Tryz.ntmps58
    go_wp2
    first | go_end0 | (refine bodyPost_ret (results_none rfl _ _ _) rfl ?_)
    exact ⟨rfl, t, HQ.out, by simpa using Ext.app t [], by omega, Oth.refl _⟩
  · have d1 : (op == 1) = false := by rw [beq_eq_false_iff_ne]; exact ho
    have HX : Hid (condB op (tx K.A K.F K.X K.l i) = 124 :: tx K.A K.F K.X K.l i) := Lib.hid (by unfold condB; rw [if_neg ho])
    rw [HX.out]
    clear HX ho
    go_enter Tryz.func58, Tryz.ntmps58
    go_wp2_with fail
    refine (HWA.out).mono ?_
    rintro e w1 ⟨rfl, hq1, ho1⟩
    have e40 : (catB [(⟨#[124]⟩ : ByteArray)]) = [124] := rfl
    have HOO := Lib.hid (HO.out w1 _ hq1 (by rw [e40, List.length_append]; show _ + 1 ≤ _; omega))
    have HO1 := Lib.hid ho1
    clear hq1 ho1 HO HWA
    go_wp2_with fail
    refine (HOO.out).mono ?_
    rintro e w2 ⟨rfl, t2, hq2, he2, hl2, ho2⟩
    have HR : Hid (∃ t', QP K w2 t' ∧ Ext t (124 :: tx K.A K.F K.X K.l i) t' ∧ t'.length ≤ max t.length (4000 + 300 * (i + 1)) + 3 ∧ Oth w w2) := Lib.hid ⟨t2, hq2, (by rw [← HEN.out]; exact (Ext.app t [124]).trans he2), by rw [e40, List.length_append] at hl2; have : t2.length ≤ max (t.length + 1) (4000 + 300 * (i + 1)) + 2 := hl2; omega, HO1.out.trans ho2⟩
    clear hq2 he2 hl2 ho2 HOO HO1
    go_wp2
    first | go_end0 | (refine bodyPost_ret (results_none rfl _ _ _) rfl ?_)
    exact ⟨rfl, HR.out⟩
end Go.Proofs.YtenbhalnpiahaaaGreatDoor
/- Layer 7: what is written for each kind of node. -/
namespace Go.Proofs.YtenbhalnpiahaaaGreatDoor
open Go.RowKit Go.Proofs.Ws
section
variable {A F X : List ByteArray} {l : List Nd} {i : Nat} {n : Nd}
theorem k_const (ho : opsL l) (hi : i < l.length) (hn : l.getD i nd0 = n) (h : n.op = 1 ∨ n.op = 2) : tx A F X l i = catB [wordB n.op] := by
  have e : opA l i = n.op := by unfold opA; rw [hn]
  rw [tx_leaf ho hi (by rw [e]; rcases h with h | h <;> rw [h] <;> rfl), e]
  rcases h with h | h <;> rw [h] <;> rfl
theorem k_fact (ho : opsL l) (hi : i < l.length) (hn : l.getD i nd0 = n) (h : n.op = 3) : tx A F X l i = catB [F.getD n.i.toNat ByteArray.empty] := by
  have e : opA l i = n.op := by unfold opA; rw [hn]
  rw [tx_leaf ho hi (by rw [e, h]; rfl), e, h, hn, catB_one]
  rfl
theorem k_before (ho : opsL l) (hi : i < l.length) (hn : l.getD i nd0 = n) (h : n.op = 4 ∨ n.op = 18 ∨ n.op = 20) : tx A F X l i = catB [wordB n.op] ++ en A F X l (reqX n.op) n.x.toNat := by
  have e : opA l i = n.op := by unfold opA; rw [hn]
  rw [tx_un ho hi (by rw [e]; rcases h with h | h | h <;> rw [h] <;> rfl) (by rw [e]; rcases h with h | h | h <;> rw [h] <;> rfl), hn, catB_one]
  unfold headB
  rcases h with h | h | h <;> rw [h] <;> rfl
theorem k_between (ho : opsL l) (hi : i < l.length) (hn : l.getD i nd0 = n) (h : MidN n.op) : tx A F X l i = en A F X l (reqX n.op) n.x.toNat ++ (catB [⟨#[32]⟩, wordB n.op, ⟨#[32]⟩] ++ en A F X l (reqY n.op) n.y.toNat) := by
  have e : opA l i = n.op := by unfold opA; rw [hn]
  unfold MidN at h
  rw [tx_bin ho hi (by rw [e]; rcases h with h | h | h | h | h | h <;> rw [h] <;> rfl), hn, e]
  rcases h with h | h | h | h | h | h <;> rw [h] <;> rfl
theorem k_agents (ho : opsL l) (hi : i < l.length) (hn : l.getD i nd0 = n) (h : n.op = 9 ∨ n.op = 10 ∨ n.op = 11 ∨ n.op = 12 ∨ n.op = 15) {s : ByteArray} (hs : s.data.toList = agB A n) : tx A F X l i = catB [wordB n.op, ⟨#[91]⟩, s, ⟨#[93]⟩] ++ en A F X l (reqX n.op) n.x.toNat := by
  have e : opA l i = n.op := by unfold opA; rw [hn]
  rw [tx_un ho hi (by rw [e]; rcases h with h | h | h | h | h <;> rw [h] <;> rfl) (by rw [e]; rcases h with h | h | h | h | h <;> rw [h] <;> rfl), hn]
  have e2 : catB [wordB n.op, ⟨#[91]⟩, s, ⟨#[93]⟩] = headB A X n := by
    unfold catB
    simp only [List.map_cons, List.map_nil, List.flatten_cons, List.flatten_nil, List.append_nil]
    rw [hs]
    unfold agB headB
    rcases h with h | h | h | h | h <;> rw [h] <;> rfl
  rw [e2]
  congr 1
  rcases h with h | h | h | h | h <;> rw [h] <;> rfl
theorem k_if (ho : opsL l) (hi : i < l.length) (hn : l.getD i nd0 = n) (h : n.op = 13 ∨ n.op = 14) {s : ByteArray} (hs : s.data.toList = agB A n) : tx A F X l i = catB [wordB n.op, ⟨#[91]⟩, s] ++ (condB (opA l n.x.toNat) (tx A F X l n.x.toNat) ++ (catB [⟨#[93]⟩] ++ en A F X l (reqY n.op) n.y.toNat)) := by
  have e : opA l i = n.op := by unfold opA; rw [hn]
  have e3 : catB [wordB n.op, ⟨#[91]⟩, s] = (wordB n.op).data.toList ++ (91 :: s.data.toList) := by
    unfold catB
    simp
  have hx : n.op = 13 → tx A F X l i = 67 :: 91 :: (grpB A n.g.toNat ++ (condB (opA l n.x.toNat) (tx A F X l n.x.toNat) ++ 93 :: en A F X l 5 n.y.toNat)) := fun h13 => by
    rw [tx_bin ho hi (by rw [e, h13]; rfl), hn, e, h13]; rfl
  have hy : n.op = 14 → tx A F X l i = 66 :: 91 :: ((A.getD n.i.toNat ByteArray.empty).data.toList ++ (condB (opA l n.x.toNat) (tx A F X l n.x.toNat) ++ 93 :: en A F X l 5 n.y.toNat)) := fun h14 => by
    rw [tx_bin ho hi (by rw [e, h14]; rfl), hn, e, h14]; rfl
  rw [e3, hs]
  unfold agB
  rcases h with h | h
  · rw [hx h, h]
    show _ = [67] ++ (91 :: grpB A n.g.toNat) ++ _
    simp [catB]; rfl
  · rw [hy h, h]
    show _ = [66] ++ (91 :: (A.getD n.i.toNat ByteArray.empty).data.toList) ++ _
    simp [catB]; rfl
theorem k_ann (ho : opsL l) (hi : i < l.length) (hn : l.getD i nd0 = n) (h : n.op = 16) : tx A F X l i = catB [⟨#[91]⟩, wordB n.op] ++ (en A F X l (reqX n.op) n.x.toNat ++ (catB [⟨#[93]⟩] ++ en A F X l (reqY n.op) n.y.toNat)) := by
  have e : opA l i = n.op := by unfold opA; rw [hn]
  rw [tx_bin ho hi (by rw [e, h]; rfl), hn, e, h]
  have : reqX 16 = 0 := rfl
  rw [this, en_zero]
  rfl
theorem k_event (ho : opsL l) (hi : i < l.length) (hn : l.getD i nd0 = n) (h : n.op = 17) : tx A F X l i = catB [⟨#[91]⟩, X.getD n.i.toNat ByteArray.empty, wordB n.op, digW n.e.toNat, ⟨#[93]⟩] ++ en A F X l (reqX n.op) n.x.toNat := by
  have e : opA l i = n.op := by unfold opA; rw [hn]
  rw [tx_un ho hi (by rw [e, h]; rfl) (by rw [e, h]; rfl), hn]
  have e2 : catB [⟨#[91]⟩, X.getD n.i.toNat ByteArray.empty, wordB n.op, digW n.e.toNat, ⟨#[93]⟩] = headB A X n := by
    unfold catB headB
    simp only [List.map_cons, List.map_nil, List.flatten_cons, List.flatten_nil, List.append_nil]
    rw [h]
    show [91] ++ ((X.getD n.i.toNat ByteArray.empty).data.toList ++ ([46] ++ _)) = 91 :: _
    rfl
  rw [e2]
  congr 1
  rw [h]; rfl
end
/-- the kinds of nodes -/
theorem kinds {n : Nd} (hk : known n.op = true) : (n.op = 1 ∨ n.op = 2) ∨ n.op = 3 ∨ (n.op = 4 ∨ n.op = 18 ∨ n.op = 20) ∨ MidN n.op ∨ (n.op = 9 ∨ n.op = 10 ∨ n.op = 11 ∨ n.op = 12 ∨ n.op = 15) ∨ (n.op = 13 ∨ n.op = 14) ∨ n.op = 16 ∨ n.op = 17 := by
  unfold known at hk
  simp only [Bool.and_eq_true, decide_eq_true_eq] at hk
  unfold MidN
  omega
theorem agOk_of {E : PEnv} {n : Nd} (h : okE E n) (hop : hasAgent n.op = true ∨ hasGroup n.op = true) : agOk E.A.length n := by
  obtain ⟨hf, h3, h4, h5⟩ := h
  have hfi := fld_i hf
  cases hg : hasGroup n.op with
  | true =>
    refine .inl ⟨hg, n.g.toNat, ?_, ?_, ?_⟩
    · have := hfi.2.2.1 hg; omega
    · have := hfi.2.2.1 hg; omega
    · have := hfi.2.2.1 hg
      omega
  | false =>
    rw [hg] at hop
    have ha : hasAgent n.op = true := by simpa using hop
    have h6 := hfi.2.1 ha
    have h7 := h4 ha
    refine .inr ⟨hg, hfi.2.2.2 hg, n.i.toNat, by omega, by omega⟩
end Go.Proofs.YtenbhalnpiahaaaGreatDoor
