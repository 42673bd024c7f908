/- Layer 13: awake. -/
import Derived.Test.YtofclgapgjcflaaDoorEa
import Derived.Test.YtofclgapgjcflaaDoorEf
namespace Go.Proofs.YtofclgapgjcflaaDoor
open Go.RowKit Go.Proofs.Ws
set_option maxRecDepth 100000
theorem ex_rest : restE exM 6 = 0 ∧ restM exM 6 = ⟨2, [1], [[1, 2], [3, 3]]⟩ ∧ restL exM 6 = [1, 2] := by decide +kernel
theorem ex_gen : csE exM 1 = 0 ∧ genV exM 1 = 7 ∧ csE exM 4 = 0 ∧ genV exM 4 = 7 := by decide +kernel
theorem ex_ren : renE exM [2, 1, 0] = 0 ∧ renM exM [2, 1, 0] = ⟨3, [6], [[1, 6, 6], [3, 3, 4]]⟩ := by decide +kernel
theorem ex_un : unionE exM exM = 0 ∧ (unionM exM exM).n = 6 ∧ (unionM exM exM).val.length = 1 ∧ (unionM exM exM).rel.length = 2 := by decide +kernel
theorem ex_grp : groupL exM 3 = [3, 7, 6] ∧ meetL exM 3 = [1, 2, 4] := by decide +kernel
theorem ex_fact : factV exM 2 = 0 ∧ factV exM 1 = 1 ∧ chkM exM = 0 := by decide +kernel
theorem MoR.shape {W : World} {B : Nat} {v : Value} {m : Mo} {n : Int} {k q : Nat} (h : MoR W B v m) (e1 : m.n = n) (e2 : m.val.length = k) (e3 : m.rel.length = q) :
    ∃ A1 c1 A2 c2, v = .agg #[.int .i64 n, .slice A1 k c1, .slice A2 q c2] := by
  obtain ⟨A1, c1, A2, c2, e, _⟩ := h.ex
  subst e1 e2 e3
  exact ⟨_, _, _, _, e⟩
theorem up13 {W W' : World} {s : Nat} {A : Option Addr} {n : Nat} {xs : List Value} (h : Reads W W.heap.size s A n xs) (hb : Below W.heap.size W W') : Reads W' W'.heap.size s A n xs := (h.below hb).more hb.size
theorem upM {W W' : World} {v : Value} {m : Mo} (h : MoR W W.heap.size v m) (hb : Below W.heap.size W W') : MoR W' W'.heap.size v m := h.below hb hb.size
theorem upX {W W' : World} {g : Nat} {n : Int} {v1 v2 : Value} (h : MBox W g n v1 v2) (hb : Below W.heap.size W W') : MBox W' g n v1 v2 := h.below hb h.lt
theorem upT {W W' : World} (h : Tab W) (hb : Below W.heap.size W W') : Tab W' := h.below hb
theorem upB {B : Nat} {W0 W W' : World} (h : Below B W0 W) (hs : B ≤ W0.heap.size) (hb : Below W.heap.size W W') : Below B W0 W' := h.trans (hb.mono (Nat.le_trans hs h.size))
/-- three numbers in a block of their own -/
def HoldsI3 (W : World) (g : Nat) : Prop := W.heap[g]? = some (.cells #[.int .i64 2, .int .i64 1, .int .i64 0] 3 (0, 0))
theorem HoldsI3.reads {W : World} {g : Nat} (h : HoldsI3 W g) : Reads W W.heap.size 1 (some ⟨g, 0, none⟩) 3 (ints [2, 1, 0]) := ⟨rfl, fun _ => ⟨_, rfl, (Array.getElem?_eq_some_iff.1 h).1, fun j u hu => by
  rw [addr0, Lib.cell_of_heap h, ← hu]
  simp [ints]⟩⟩
theorem getq {l : Array Value} {i : Nat} {v : Value} (h : l.getD i undef = v) (hs : i < l.size) : l[i] = v := by
  simpa [Array.getD, hs] using h
/-- what is known of each operation of awake's last statement -/
def AwV (P1 : Option Addr) (p1 : Nat) (P2 : Option Addr) (p2 : Nat) (R1 : Option Addr) (r1 : Nat) (R2 : Option Addr) (r2 : Nat) (bu : Nat) : Nat → Value → World → Prop
  | 2, v, _ => v = .int .u64 7
  | 6, v, _ => v = .int .u64 7
  | 10, v, _ => v = .agg #[.int .i64 3, .slice P1 1 p1, .slice P2 2 p2]
  | 11, v, W => ∃ A c, v = .slice A 3 c ∧ Reads W W.heap.size 1 A 3 (us [3, 7, 6])
  | 12, v, W => ∃ g, v = .slice (some ⟨g, 0, none⟩) 3 3 ∧ HoldsU W g [3, 7, 6]
  | 16, v, _ => v = .agg #[.int .i64 3, .slice P1 1 p1, .slice P2 2 p2]
  | 17, v, W => ∃ A c, v = .slice A 3 c ∧ Reads W W.heap.size 1 A 3 (us [1, 2, 4])
  | 18, v, W => ∃ g, v = .slice (some ⟨g, 0, none⟩) 3 3 ∧ HoldsU W g [1, 2, 4]
  | 22, v, _ => v = .agg #[.int .i64 3, .slice R1 1 r1, .slice R2 2 r2]
  | 23, v, W => ∃ g, v = .slice (some ⟨g, 0, none⟩) 1 1 ∧ HoldsU W g [6]
  | 24, v, W => ∃ g, v = .slice (some ⟨g, 0, none⟩) 3 3 ∧ HoldsU W g [1, 6, 6]
  | 25, v, W => ∃ g, v = .slice (some ⟨g, 0, none⟩) 3 3 ∧ HoldsU W g [3, 3, 4]
  | 26, v, W => ∃ g g2 g3, v = .slice (some ⟨g, 0, none⟩) 2 2 ∧ HoldsV W g [.slice (some ⟨g2, 0, none⟩) 3 3, .slice (some ⟨g3, 0, none⟩) 3 3] ∧ HoldsU W g2 [1, 6, 6] ∧ HoldsU W g3 [3, 3, 4]
  | 27, v, W => ∃ g1 g, v = .agg #[.int .i64 3, .slice (some ⟨g1, 0, none⟩) 1 1, .slice (some ⟨g, 0, none⟩) 2 2] ∧ MoR W W.heap.size v ⟨3, [6], [[1, 6, 6], [3, 3, 4]]⟩
  | 31, v, _ => v = .pointer (some ⟨bu, 0, none⟩)
  | 32, v, _ => v = .int .i64 6
  | 36, v, _ => v = .agg #[.int .i64 3, .slice P1 1 p1, .slice P2 2 p2]
  | 37, v, _ => v = .int .i64 0
  | 41, v, _ => v = .agg #[.int .i64 3, .slice P1 1 p1, .slice P2 2 p2]
  | 42, v, _ => v = .int .i64 1
  | 46, v, _ => v = .agg #[.int .i64 3, .slice P1 1 p1, .slice P2 2 p2]
  | 47, v, _ => v = .int .i64 0
  | 51, v, _ => v = .agg #[.int .i64 3, .slice P1 1 p1, .slice P2 2 p2]
  | 52, v, W => MoR W W.heap.size v exM
  | _, v, _ => v = .bool true
def AwD (i : Nat) : Nat := if i = 55 then 0 else 87 + i
set_option maxHeartbeats 16000000 in
theorem awake13_any (w : World) (hT : Tab w) : Calls Tryd.prog 11 #[] w fun e w' => e = .returned (.bool true) ∧ Below w.heap.size w w' := by
  have HT := Lib.hid hT
  have HB : Hid (Below w.heap.size w w) := Lib.hid (Below.refl _ _)
  clear hT
  go_enter Tryd.func11, Tryd.ntmps11
  go_wp2_with fail
  refine (example_any w).mono ?_
  rintro e w1 ⟨v1, rfl, hm, hb⟩
  replace HB := Lib.hid (upB HB.out (Nat.le_refl _) hb)
  replace HT := Lib.hid (upT HT.out hb)
  clear hb
  obtain ⟨P1, p1, P2, p2, rfl⟩ := hm.shape (n := 3) (k := 1) (q := 2) rfl rfl rfl
  have HM := Lib.hid hm
  clear hm
  go_wp2_with fail
  have g1 : ∃ g1, g1 = w1.heap.size := ⟨_, rfl⟩
  have hb : Below w1.heap.size w1 (w1.alloc (.cells #[.int .i64 3, .slice P1 1 p1, .slice P2 2 p2] 25)) := (Below.refl _ _).alloc (Nat.le_refl _) _
  have HX := Lib.hid (MBox.made w1 3 (.slice P1 1 p1) (.slice P2 2 p2))
  generalize hW2 : w1.alloc (.cells #[.int .i64 3, .slice P1 1 p1, .slice P2 2 p2] 25) = w2 at *
  clear hW2
  replace HB := Lib.hid (upB HB.out (Nat.le_refl _) hb)
  replace HT := Lib.hid (upT HT.out hb)
  replace HM := Lib.hid (upM HM.out hb)
  clear hb
  generalize w1.heap.size = b1 at *
  go_wp2_with fail
  refine (pRestrict_any exM _ 6 w2 HM.out (by decide) HT.out).mono ?_
  rintro e w3 ⟨v2, A2, c2, rfl, hr, hl, hb⟩
  replace HB := Lib.hid (upB HB.out (Nat.le_refl _) hb)
  replace HT := Lib.hid (upT HT.out hb)
  replace HM := Lib.hid (upM HM.out hb)
  replace HX := Lib.hid (upX HX.out hb)
  clear hb
  have hr := hr.self
  rw [ex_rest.2.1] at hr
  rw [ex_rest.2.2] at hl
  rw [ex_rest.2.2, ex_rest.1]
  obtain ⟨Q1, q1, Q2, q2, rfl⟩ := hr.shape (n := 2) (k := 1) (q := 2) rfl rfl rfl
  have HMR := Lib.hid hr
  have HRL := Lib.hid (show Reads w3 w3.heap.size 1 A2 2 (iv [1, 2]) from hl)
  clear hr hl
  rw [show ([1, 2] : List Nat).length = 2 from rfl]
  have m0 := HX.out.c0
  have m1 := HX.out.c1
  have m2 := HX.out.c2
  have hlt1 := HX.out.lt
  go_wp2_with fail
  clear hlt1
  clear m0 m1 m2
  have hb : Below w3.heap.size w3 (w3.alloc (.cells #[.int .i64 2, .slice Q1 1 q1, .slice Q2 2 q2] 25)) := (Below.refl _ _).alloc (Nat.le_refl _) _
  have HXr := Lib.hid (MBox.made w3 2 (.slice Q1 1 q1) (.slice Q2 2 q2))
  generalize hW4 : w3.alloc (.cells #[.int .i64 2, .slice Q1 1 q1, .slice Q2 2 q2] 25) = w4 at *
  clear hW4
  replace HB := Lib.hid (upB HB.out (Nat.le_refl _) hb)
  replace HT := Lib.hid (upT HT.out hb)
  replace HM := Lib.hid (upM HM.out hb)
  replace HX := Lib.hid (upX HX.out hb)
  replace HMR := Lib.hid (upM HMR.out hb)
  replace HRL := Lib.hid (up13 HRL.out hb)
  clear hb
  generalize w3.heap.size = br at *
  go_wp2_with fail
  refine (pGenerated_any exM _ 1 w4 HM.out (by decide) HT.out).mono ?_
  rintro e w5 ⟨rfl, hb⟩
  replace HB := Lib.hid (upB HB.out (Nat.le_refl _) hb)
  replace HT := Lib.hid (upT HT.out hb)
  replace HM := Lib.hid (upM HM.out hb)
  replace HX := Lib.hid (upX HX.out hb)
  replace HMR := Lib.hid (upM HMR.out hb)
  replace HRL := Lib.hid (up13 HRL.out hb)
  replace HXr := Lib.hid (upX HXr.out hb)
  clear hb
  rw [ex_gen.1, ex_gen.2.1]
  have m0 := HX.out.c0
  have m1 := HX.out.c1
  have m2 := HX.out.c2
  go_wp2_with fail
  refine (pGenerated_any exM _ 4 w5 HM.out (by decide) HT.out).mono ?_
  rintro e w6 ⟨rfl, hb⟩
  replace HB := Lib.hid (upB HB.out (Nat.le_refl _) hb)
  replace HT := Lib.hid (upT HT.out hb)
  replace HM := Lib.hid (upM HM.out hb)
  replace HX := Lib.hid (upX HX.out hb)
  replace HMR := Lib.hid (upM HMR.out hb)
  replace HRL := Lib.hid (up13 HRL.out hb)
  replace HXr := Lib.hid (upX HXr.out hb)
  clear hb
  rw [ex_gen.2.2.1, ex_gen.2.2.2]
  clear m0 m1 m2
  have m0 := HX.out.c0
  have m1 := HX.out.c1
  have m2 := HX.out.c2
  have hlt1 := HX.out.lt
  go_wp2_with fail
  clear hlt1
  clear m0 m1 m2
  have hb : Below w6.heap.size w6 (w6.alloc (.cells #[.int .i64 2, .int .i64 1, .int .i64 0] 3)) := (Below.refl _ _).alloc (Nat.le_refl _) _
  have hl : HoldsI3 (w6.alloc (.cells #[.int .i64 2, .int .i64 1, .int .i64 0] 3)) w6.heap.size := heap_alloc_new w6 _
  generalize hW7 : w6.alloc (.cells #[.int .i64 2, .int .i64 1, .int .i64 0] 3) = w7 at *
  clear hW7
  replace HB := Lib.hid (upB HB.out (Nat.le_refl _) hb)
  replace HT := Lib.hid (upT HT.out hb)
  replace HM := Lib.hid (upM HM.out hb)
  replace HX := Lib.hid (upX HX.out hb)
  replace HMR := Lib.hid (upM HMR.out hb)
  replace HRL := Lib.hid (up13 HRL.out hb)
  replace HXr := Lib.hid (upX HXr.out hb)
  clear hb
  have HLI := Lib.hid hl.reads
  clear hl
  go_wp2_with fail
  refine (pRename_any exM _ [2, 1, 0] _ 3 _ w7 HM.out HLI.out (by unfold maxLen; decide)).mono ?_
  rintro e w8 ⟨v5, rfl, hr, hb⟩
  replace HB := Lib.hid (upB HB.out (Nat.le_refl _) hb)
  replace HT := Lib.hid (upT HT.out hb)
  replace HM := Lib.hid (upM HM.out hb)
  replace HX := Lib.hid (upX HX.out hb)
  replace HMR := Lib.hid (upM HMR.out hb)
  replace HRL := Lib.hid (up13 HRL.out hb)
  replace HXr := Lib.hid (upX HXr.out hb)
  clear hb
  have hr := hr.self
  rw [ex_ren.2] at hr
  rw [ex_ren.1]
  obtain ⟨R1, r1, R2, r2, rfl⟩ := hr.shape (n := 3) (k := 1) (q := 2) rfl rfl rfl
  have HMN := Lib.hid hr
  clear hr
  have m0 := HX.out.c0
  have m1 := HX.out.c1
  have m2 := HX.out.c2
  have hlt1 := HX.out.lt
  go_wp2_with fail
  clear hlt1
  clear m0 m1 m2
  have hb : Below w8.heap.size w8 (w8.alloc (.cells #[.int .i64 3, .slice R1 1 r1, .slice R2 2 r2] 25)) := (Below.refl _ _).alloc (Nat.le_refl _) _
  have HXn := Lib.hid (MBox.made w8 3 (.slice R1 1 r1) (.slice R2 2 r2))
  generalize hW9 : w8.alloc (.cells #[.int .i64 3, .slice R1 1 r1, .slice R2 2 r2] 25) = w9 at *
  clear hW9
  replace HB := Lib.hid (upB HB.out (Nat.le_refl _) hb)
  replace HT := Lib.hid (upT HT.out hb)
  replace HM := Lib.hid (upM HM.out hb)
  replace HX := Lib.hid (upX HX.out hb)
  replace HMR := Lib.hid (upM HMR.out hb)
  replace HRL := Lib.hid (up13 HRL.out hb)
  replace HXr := Lib.hid (upX HXr.out hb)
  replace HMN := Lib.hid (upM HMN.out hb)
  clear hb
  generalize w8.heap.size = bn at *
  go_wp2_with fail
  refine (pUnion_any exM exM _ _ w9 HM.out HM.out).mono ?_
  rintro e w10 ⟨v6, rfl, hr, hb⟩
  replace HB := Lib.hid (upB HB.out (Nat.le_refl _) hb)
  replace HT := Lib.hid (upT HT.out hb)
  replace HM := Lib.hid (upM HM.out hb)
  replace HX := Lib.hid (upX HX.out hb)
  replace HMR := Lib.hid (upM HMR.out hb)
  replace HRL := Lib.hid (up13 HRL.out hb)
  replace HXr := Lib.hid (upX HXr.out hb)
  replace HMN := Lib.hid (upM HMN.out hb)
  replace HXn := Lib.hid (upX HXn.out hb)
  clear hb
  have hr := hr.self
  rw [ex_un.1]
  obtain ⟨U1, u1, U2, u2, rfl⟩ := hr.shape (n := 6) (k := 1) (q := 2) ex_un.2.1 ex_un.2.2.1 ex_un.2.2.2
  clear hr
  have mr0 := HXr.out.c0
  have mr1 := HXr.out.c1
  have mr2 := HXr.out.c2
  have hlt2 := HXr.out.lt
  have m0 := HX.out.c0
  have m1 := HX.out.c1
  have m2 := HX.out.c2
  have hlt1 := HX.out.lt
  go_wp2_with fail
  clear hlt1 hlt2
  clear m0 m1 m2
  clear mr0 mr1 mr2
  have hsz : (w10.alloc (.cells #[.int .i64 6, .slice U1 1 u1, .slice U2 2 u2] 25)).heap.size = w10.heap.size + 1 := by simp
  have hb : Below w10.heap.size w10 (w10.alloc (.cells #[.int .i64 6, .slice U1 1 u1, .slice U2 2 u2] 25)) := (Below.refl _ _).alloc (Nat.le_refl _) _
  have HXu := Lib.hid (MBox.made w10 6 (.slice U1 1 u1) (.slice U2 2 u2))
  generalize hW11 : w10.alloc (.cells #[.int .i64 6, .slice U1 1 u1, .slice U2 2 u2] 25) = w11 at *
  clear hW11
  replace HB := Lib.hid (upB HB.out (Nat.le_refl _) hb)
  replace HT := Lib.hid (upT HT.out hb)
  replace HM := Lib.hid (upM HM.out hb)
  replace HX := Lib.hid (upX HX.out hb)
  replace HMR := Lib.hid (upM HMR.out hb)
  replace HRL := Lib.hid (up13 HRL.out hb)
  replace HXr := Lib.hid (upX HXr.out hb)
  replace HMN := Lib.hid (upM HMN.out hb)
  replace HXn := Lib.hid (upX HXn.out hb)
  clear hb
  rw [← hsz]
  clear hsz
  generalize w10.heap.size = bu at *
  obtain ⟨k1, k2, k3, k4, hb⟩ := four_at w11 #[.int .u64 1] #[.int .u64 1, .int .u64 2] #[.int .u64 3, .int .u64 3] #[.slice (some ⟨w11.heap.size + 1, 0, none⟩) 2 2, .slice (some ⟨w11.heap.size + 1 + 1, 0, none⟩) 2 2] 31 31 31 22
  generalize ((((w11.alloc (.cells #[.int .u64 1] 31)).alloc (.cells #[.int .u64 1, .int .u64 2] 31)).alloc (.cells #[.int .u64 3, .int .u64 3] 31)).alloc (.cells #[.slice (some ⟨w11.heap.size + 1, 0, none⟩) 2 2, .slice (some ⟨w11.heap.size + 1 + 1, 0, none⟩) 2 2] 22)) = w12 at *
  replace HB := Lib.hid (upB HB.out (Nat.le_refl _) hb)
  replace HT := Lib.hid (upT HT.out hb)
  replace HM := Lib.hid (upM HM.out hb)
  replace HX := Lib.hid (upX HX.out hb)
  replace HMR := Lib.hid (upM HMR.out hb)
  replace HRL := Lib.hid (up13 HRL.out hb)
  replace HXr := Lib.hid (upX HXr.out hb)
  replace HMN := Lib.hid (upM HMN.out hb)
  replace HXn := Lib.hid (upX HXn.out hb)
  replace HXu := Lib.hid (upX HXu.out hb)
  clear hb
  go_wp2_with fail
  refine (rSame_any ⟨2, [1], [[1, 2], [3, 3]]⟩ ⟨2, [1], [[1, 2], [3, 3]]⟩ _ _ w12 HMR.out (MoR.lit (n := 2) (val := [1]) (r1 := [1, 2]) (r2 := [3, 3]) k1 k2 k3 k4 (by decide) (by decide) (words_of (by decide)) (words_of (by decide)) (words_of (by decide)))).mono ?_
  rintro e w13 ⟨rfl, hb⟩
  replace HB := Lib.hid (upB HB.out (Nat.le_refl _) hb)
  replace HT := Lib.hid (upT HT.out hb)
  replace HM := Lib.hid (upM HM.out hb)
  replace HX := Lib.hid (upX HX.out hb)
  replace HMR := Lib.hid (upM HMR.out hb)
  replace HRL := Lib.hid (up13 HRL.out hb)
  replace HXr := Lib.hid (upX HXr.out hb)
  replace HMN := Lib.hid (upM HMN.out hb)
  replace HXn := Lib.hid (upX HXn.out hb)
  replace HXu := Lib.hid (upX HXu.out hb)
  clear hb
  clear k1 k2 k3 k4
  rw [show decide ((⟨2, [1], [[1, 2], [3, 3]]⟩ : Mo) = ⟨2, [1], [[1, 2], [3, 3]]⟩) = true from decide_eq_true rfl]
  clear HMR HXr
  obtain ⟨ad, e0, hab, hl0⟩ := HRL.out.iv_k (k := 0) (by decide)
  subst e0
  obtain ⟨ad9, e1, _, hl1⟩ := HRL.out.iv_k (k := 1) (by decide)
  injection e1 with e1
  subst e1
  have hl0 : w13.cell? ad = some (.int .i64 1) := by rw [Addr.add_zero'] at hl0; exact hl0
  have hl1 : w13.cell? ⟨ad.block, ad.off + 1, none⟩ = some (.int .i64 2) := hl1
  go_wp2_with fail
  clear hl0 hl1
  clear hl0 hl1
  have HMW : Hid (∀ W, Below w13.heap.size w13 W → MoR W W.heap.size (.agg #[.int .i64 3, .slice P1 1 p1, .slice P2 2 p2]) exM) := Lib.hid (fun W h => HM.out.below h h.size)
  have HNW : Hid (∀ W, Below w13.heap.size w13 W → MoR W W.heap.size (.agg #[.int .i64 3, .slice R1 1 r1, .slice R2 2 r2]) ⟨3, [6], [[1, 6, 6], [3, 3, 4]]⟩) := Lib.hid (fun W h => HMN.out.below h h.size)
  have HC1 : Hid (∀ W, Below w13.heap.size w13 W → MBox W b1 3 (.slice P1 1 p1) (.slice P2 2 p2)) := Lib.hid (fun W h => HX.out.below h HX.out.lt)
  have HC2 : Hid (∀ W, Below w13.heap.size w13 W → MBox W bn 3 (.slice R1 1 r1) (.slice R2 2 r2)) := Lib.hid (fun W h => HXn.out.below h HXn.out.lt)
  have HC3 : Hid (∀ W, Below w13.heap.size w13 W → MBox W bu 6 (.slice U1 1 u1) (.slice U2 2 u2)) := Lib.hid (fun W h => HXu.out.below h HXu.out.lt)
  clear HT HM HX HMN HXn HXu HRL HLI
  refine wp_region_late (AwV P1 p1 P2 p2 R1 r1 R2 r2 bu) (fun W => Below w13.heap.size w13 W) (fun W W' => Below W.heap.size W W') AwD 56 142 rfl rfl (by kernel_rfl) (by kernel_rfl) (by kernel_rfl) (fun W => Below.refl _ W) (fun W1 W2 W3 h1 h2 => h1.trans (h2.mono h1.size)) (fun W W' h h2 => h.trans (h2.mono h.size)) ?inj ?lt (Below.refl _ w13).drew ?hop ?fin
  case inj => intro i j hi hj h; unfold AwD at h; split at h <;> split at h <;> omega
  case lt => intro i hi; unfold AwD; split <;> omega
  case hop =>
    refine (lt_more (lt_more (lt_more (lt_more (lt_more (lt_more (lt_more (lt_more (lt_more (lt_more (lt_more (lt_more (lt_more (lt_more (lt_more (lt_more (lt_more (lt_more (lt_more (lt_more (lt_more (lt_more (lt_more (lt_more (lt_more (lt_more (lt_more (lt_more (lt_more (lt_more (lt_more (lt_more (lt_more (lt_more (lt_more (lt_more (lt_more (lt_more (lt_more (lt_more (lt_more (lt_more (lt_more (lt_more (lt_more (lt_more (lt_more (lt_more (lt_more (lt_more (lt_more (lt_more (lt_more (lt_more (lt_more (lt_more (lt_none _) ?s0) ?s1) ?s2) ?s3) ?s4) ?s5) ?s6) ?s7) ?s8) ?s9) ?s10) ?s11) ?s12) ?s13) ?s14) ?s15) ?s16) ?s17) ?s18) ?s19) ?s20) ?s21) ?s22) ?s23) ?s24) ?s25) ?s26) ?s27) ?s28) ?s29) ?s30) ?s31) ?s32) ?s33) ?s34) ?s35) ?s36) ?s37) ?s38) ?s39) ?s40) ?s41) ?s42) ?s43) ?s44) ?s45) ?s46) ?s47) ?s48) ?s49) ?s50) ?s51) ?s52) ?s53) ?s54) ?s55)
    case s0 =>
      intro o ho a W hS hsz hdf hfr hdep K hK
      obtain ⟨tm, df⟩ := a
      have hdf : df = [] := hdf
      subst hdf
      have ho := Option.some.inj ho
      subst ho
      have hsz : tm.size = 142 := hsz
      have t13 : tm.getD 13 undef = .bool true := hfr 13 (by intro j hj; unfold AwD; split <;> omega)
      clear hdep hfr
      go_simp
      exact hK _ W (Below.refl _ W) (fun W9 hb => rfl)
    case s1 =>
      intro o ho a W hS hsz hdf hfr hdep K hK
      obtain ⟨tm, df⟩ := a
      have hdf : df = [] := hdf
      subst hdf
      have ho := Option.some.inj ho
      subst ho
      have hsz : tm.size = 142 := hsz
      have t87 : tm.getD 87 undef = .bool true := hdep ⟨0, .data⟩ (by simp) (by rfl) (by decide) W (Below.refl _ W)
      clear hdep hfr
      go_simp
      exact hK _ W (Below.refl _ W) (fun W9 hb => rfl)
    case s2 =>
      intro o ho a W hS hsz hdf hfr hdep K hK
      obtain ⟨tm, df⟩ := a
      have hdf : df = [] := hdf
      subst hdf
      have ho := Option.some.inj ho
      subst ho
      have hsz : tm.size = 142 := hsz
      have t5 : tm.getD 5 undef = .int .u64 7 := hfr 5 (by intro j hj; unfold AwD; split <;> omega)
      have t88 : tm.getD 88 undef = .bool true := hdep ⟨1, .guard⟩ (by simp) (by rfl) (by decide) W (Below.refl _ W)
      have u88 : tm[88]'(by omega) = .bool true := getq t88 (by omega)
      clear hdep hfr
      go_simp
      exact hK _ W (Below.refl _ W) (fun W9 hb => rfl)
    case s3 =>
      intro o ho a W hS hsz hdf hfr hdep K hK
      obtain ⟨tm, df⟩ := a
      have hdf : df = [] := hdf
      subst hdf
      have ho := Option.some.inj ho
      subst ho
      have hsz : tm.size = 142 := hsz
      have t89 : tm.getD 89 undef = .int .u64 7 := hdep ⟨2, .data⟩ (by simp) (by rfl) (by decide) W (Below.refl _ W)
      have t88 : tm.getD 88 undef = .bool true := hdep ⟨1, .guard⟩ (by simp) (by rfl) (by decide) W (Below.refl _ W)
      have u88 : tm[88]'(by omega) = .bool true := getq t88 (by omega)
      clear hdep hfr
      go_simp
      exact hK _ W (Below.refl _ W) (fun W9 hb => rfl)
    case s4 =>
      intro o ho a W hS hsz hdf hfr hdep K hK
      obtain ⟨tm, df⟩ := a
      have hdf : df = [] := hdf
      subst hdf
      have ho := Option.some.inj ho
      subst ho
      have hsz : tm.size = 142 := hsz
      have t88 : tm.getD 88 undef = .bool true := hdep ⟨1, .data⟩ (by simp) (by rfl) (by decide) W (Below.refl _ W)
      have t90 : tm.getD 90 undef = .bool true := hdep ⟨3, .data⟩ (by simp) (by rfl) (by decide) W (Below.refl _ W)
      clear hdep hfr
      go_simp
      exact hK _ W (Below.refl _ W) (fun W9 hb => rfl)
    case s5 =>
      intro o ho a W hS hsz hdf hfr hdep K hK
      obtain ⟨tm, df⟩ := a
      have hdf : df = [] := hdf
      subst hdf
      have ho := Option.some.inj ho
      subst ho
      have hsz : tm.size = 142 := hsz
      have t91 : tm.getD 91 undef = .bool true := hdep ⟨4, .data⟩ (by simp) (by rfl) (by decide) W (Below.refl _ W)
      clear hdep hfr
      go_simp
      exact hK _ W (Below.refl _ W) (fun W9 hb => rfl)
    case s6 =>
      intro o ho a W hS hsz hdf hfr hdep K hK
      obtain ⟨tm, df⟩ := a
      have hdf : df = [] := hdf
      subst hdf
      have ho := Option.some.inj ho
      subst ho
      have hsz : tm.size = 142 := hsz
      have t7 : tm.getD 7 undef = .int .u64 7 := hfr 7 (by intro j hj; unfold AwD; split <;> omega)
      have t92 : tm.getD 92 undef = .bool true := hdep ⟨5, .guard⟩ (by simp) (by rfl) (by decide) W (Below.refl _ W)
      have u92 : tm[92]'(by omega) = .bool true := getq t92 (by omega)
      clear hdep hfr
      go_simp
      exact hK _ W (Below.refl _ W) (fun W9 hb => rfl)
    case s7 =>
      intro o ho a W hS hsz hdf hfr hdep K hK
      obtain ⟨tm, df⟩ := a
      have hdf : df = [] := hdf
      subst hdf
      have ho := Option.some.inj ho
      subst ho
      have hsz : tm.size = 142 := hsz
      have t93 : tm.getD 93 undef = .int .u64 7 := hdep ⟨6, .data⟩ (by simp) (by rfl) (by decide) W (Below.refl _ W)
      have t92 : tm.getD 92 undef = .bool true := hdep ⟨5, .guard⟩ (by simp) (by rfl) (by decide) W (Below.refl _ W)
      have u92 : tm[92]'(by omega) = .bool true := getq t92 (by omega)
      clear hdep hfr
      go_simp
      exact hK _ W (Below.refl _ W) (fun W9 hb => rfl)
    case s8 =>
      intro o ho a W hS hsz hdf hfr hdep K hK
      obtain ⟨tm, df⟩ := a
      have hdf : df = [] := hdf
      subst hdf
      have ho := Option.some.inj ho
      subst ho
      have hsz : tm.size = 142 := hsz
      have t92 : tm.getD 92 undef = .bool true := hdep ⟨5, .data⟩ (by simp) (by rfl) (by decide) W (Below.refl _ W)
      have t94 : tm.getD 94 undef = .bool true := hdep ⟨7, .data⟩ (by simp) (by rfl) (by decide) W (Below.refl _ W)
      clear hdep hfr
      go_simp
      exact hK _ W (Below.refl _ W) (fun W9 hb => rfl)
    case s9 =>
      intro o ho a W hS hsz hdf hfr hdep K hK
      obtain ⟨tm, df⟩ := a
      have hdf : df = [] := hdf
      subst hdf
      have ho := Option.some.inj ho
      subst ho
      have hsz : tm.size = 142 := hsz
      have t95 : tm.getD 95 undef = .bool true := hdep ⟨8, .data⟩ (by simp) (by rfl) (by decide) W (Below.refl _ W)
      clear hdep hfr
      go_simp
      exact hK _ W (Below.refl _ W) (fun W9 hb => rfl)
    case s10 =>
      intro o ho a W hS hsz hdf hfr hdep K hK
      obtain ⟨tm, df⟩ := a
      have hdf : df = [] := hdf
      subst hdf
      have ho := Option.some.inj ho
      subst ho
      have hsz : tm.size = 142 := hsz
      have t1 : tm.getD 1 undef = .pointer (some ⟨b1, 0, none⟩) := hfr 1 (by intro j hj; unfold AwD; split <;> omega)
      have t96 : tm.getD 96 undef = .bool true := hdep ⟨9, .guard⟩ (by simp) (by rfl) (by decide) W (Below.refl _ W)
      have u96 : tm[96]'(by omega) = .bool true := getq t96 (by omega)
      have c0 := (HC1.out W hS).c0
      have c1 := (HC1.out W hS).c1
      have c2 := (HC1.out W hS).c2
      clear hdep hfr
      go_simp
      exact hK _ W (Below.refl _ W) (fun W9 hb => rfl)
    case s11 =>
      intro o ho a W hS hsz hdf hfr hdep K hK
      obtain ⟨tm, df⟩ := a
      have hdf : df = [] := hdf
      subst hdf
      have ho := Option.some.inj ho
      subst ho
      have hsz : tm.size = 142 := hsz
      have t97 : tm.getD 97 undef = .agg #[.int .i64 3, .slice P1 1 p1, .slice P2 2 p2] := hdep ⟨10, .data⟩ (by simp) (by rfl) (by decide) W (Below.refl _ W)
      have t96 : tm.getD 96 undef = .bool true := hdep ⟨9, .guard⟩ (by simp) (by rfl) (by decide) W (Below.refl _ W)
      have u96 : tm[96]'(by omega) = .bool true := getq t96 (by omega)
      clear hdep hfr
      go_simp
      have hq := pGroup_any exM _ 3 W (HMW.out W hS) (by decide)
      rw [ex_grp.1] at hq
      refine hq.mono ?_
      rintro e W9 ⟨A, c, rfl, hr, hb⟩
      exact hK _ W9 hb (fun W8 hc => ⟨A, c, rfl, (hr.below hc).more hc.size⟩)
    case s12 =>
      intro o ho a W hS hsz hdf hfr hdep K hK
      obtain ⟨tm, df⟩ := a
      have hdf : df = [] := hdf
      subst hdf
      have ho := Option.some.inj ho
      subst ho
      have hsz : tm.size = 142 := hsz
      have t96 : tm.getD 96 undef = .bool true := hdep ⟨9, .guard⟩ (by simp) (by rfl) (by decide) W (Below.refl _ W)
      have u96 : tm[96]'(by omega) = .bool true := getq t96 (by omega)
      clear hdep hfr
      go_simp
      exact hK _ _ ((Below.refl _ W).alloc (Nat.le_refl _) _) (fun W9 hb => ⟨W.heap.size, rfl, (hb.block _ (by simp)).trans (heap_alloc_new W _)⟩)
    case s13 =>
      intro o ho a W hS hsz hdf hfr hdep K hK
      obtain ⟨tm, df⟩ := a
      have hdf : df = [] := hdf
      subst hdf
      have ho := Option.some.inj ho
      subst ho
      have hsz : tm.size = 142 := hsz
      obtain ⟨A11, q11, t98, r11⟩ : ∃ A c, tm.getD 98 undef = .slice A 3 c ∧ Reads W W.heap.size 1 A 3 (us [3, 7, 6]) := hdep ⟨11, .data⟩ (by simp) (by rfl) (by decide) W (Below.refl _ W)
      obtain ⟨g12, t99, r12⟩ : ∃ g, tm.getD 99 undef = .slice (some ⟨g, 0, none⟩) 3 3 ∧ HoldsU W g [3, 7, 6] := hdep ⟨12, .data⟩ (by simp) (by rfl) (by decide) W (Below.refl _ W)
      have t96 : tm.getD 96 undef = .bool true := hdep ⟨9, .guard⟩ (by simp) (by rfl) (by decide) W (Below.refl _ W)
      have u96 : tm[96]'(by omega) = .bool true := getq t96 (by omega)
      clear hdep hfr
      go_simp
      have hq := rSameSets_any [3, 7, 6] [3, 7, 6] A11 _ 3 3 q11 3 _ W r11 r12.reads (by unfold maxLen; decide) (by unfold maxLen; decide)
      rw [decide_eq_true rfl] at hq
      refine hq.mono ?_
      rintro e W9 ⟨rfl, q, rfl⟩
      exact hK _ _ (below_drewN (Below.refl _ W) q) (fun W8 hc => rfl)
    case s14 =>
      intro o ho a W hS hsz hdf hfr hdep K hK
      obtain ⟨tm, df⟩ := a
      have hdf : df = [] := hdf
      subst hdf
      have ho := Option.some.inj ho
      subst ho
      have hsz : tm.size = 142 := hsz
      have t96 : tm.getD 96 undef = .bool true := hdep ⟨9, .data⟩ (by simp) (by rfl) (by decide) W (Below.refl _ W)
      have t100 : tm.getD 100 undef = .bool true := hdep ⟨13, .data⟩ (by simp) (by rfl) (by decide) W (Below.refl _ W)
      clear hdep hfr
      go_simp
      exact hK _ W (Below.refl _ W) (fun W9 hb => rfl)
    case s15 =>
      intro o ho a W hS hsz hdf hfr hdep K hK
      obtain ⟨tm, df⟩ := a
      have hdf : df = [] := hdf
      subst hdf
      have ho := Option.some.inj ho
      subst ho
      have hsz : tm.size = 142 := hsz
      have t101 : tm.getD 101 undef = .bool true := hdep ⟨14, .data⟩ (by simp) (by rfl) (by decide) W (Below.refl _ W)
      clear hdep hfr
      go_simp
      exact hK _ W (Below.refl _ W) (fun W9 hb => rfl)
    case s16 =>
      intro o ho a W hS hsz hdf hfr hdep K hK
      obtain ⟨tm, df⟩ := a
      have hdf : df = [] := hdf
      subst hdf
      have ho := Option.some.inj ho
      subst ho
      have hsz : tm.size = 142 := hsz
      have t1 : tm.getD 1 undef = .pointer (some ⟨b1, 0, none⟩) := hfr 1 (by intro j hj; unfold AwD; split <;> omega)
      have t102 : tm.getD 102 undef = .bool true := hdep ⟨15, .guard⟩ (by simp) (by rfl) (by decide) W (Below.refl _ W)
      have u102 : tm[102]'(by omega) = .bool true := getq t102 (by omega)
      have c0 := (HC1.out W hS).c0
      have c1 := (HC1.out W hS).c1
      have c2 := (HC1.out W hS).c2
      clear hdep hfr
      go_simp
      exact hK _ W (Below.refl _ W) (fun W9 hb => rfl)
    case s17 =>
      intro o ho a W hS hsz hdf hfr hdep K hK
      obtain ⟨tm, df⟩ := a
      have hdf : df = [] := hdf
      subst hdf
      have ho := Option.some.inj ho
      subst ho
      have hsz : tm.size = 142 := hsz
      have t103 : tm.getD 103 undef = .agg #[.int .i64 3, .slice P1 1 p1, .slice P2 2 p2] := hdep ⟨16, .data⟩ (by simp) (by rfl) (by decide) W (Below.refl _ W)
      have t102 : tm.getD 102 undef = .bool true := hdep ⟨15, .guard⟩ (by simp) (by rfl) (by decide) W (Below.refl _ W)
      have u102 : tm[102]'(by omega) = .bool true := getq t102 (by omega)
      clear hdep hfr
      go_simp
      have hq := pMeet_any exM _ 3 W (HMW.out W hS) (by decide)
      rw [ex_grp.2] at hq
      refine hq.mono ?_
      rintro e W9 ⟨A, c, rfl, hr, hb⟩
      exact hK _ W9 hb (fun W8 hc => ⟨A, c, rfl, (hr.below hc).more hc.size⟩)
    case s18 =>
      intro o ho a W hS hsz hdf hfr hdep K hK
      obtain ⟨tm, df⟩ := a
      have hdf : df = [] := hdf
      subst hdf
      have ho := Option.some.inj ho
      subst ho
      have hsz : tm.size = 142 := hsz
      have t102 : tm.getD 102 undef = .bool true := hdep ⟨15, .guard⟩ (by simp) (by rfl) (by decide) W (Below.refl _ W)
      have u102 : tm[102]'(by omega) = .bool true := getq t102 (by omega)
      clear hdep hfr
      go_simp
      exact hK _ _ ((Below.refl _ W).alloc (Nat.le_refl _) _) (fun W9 hb => ⟨W.heap.size, rfl, (hb.block _ (by simp)).trans (heap_alloc_new W _)⟩)
    case s19 =>
      intro o ho a W hS hsz hdf hfr hdep K hK
      obtain ⟨tm, df⟩ := a
      have hdf : df = [] := hdf
      subst hdf
      have ho := Option.some.inj ho
      subst ho
      have hsz : tm.size = 142 := hsz
      obtain ⟨A17, q17, t104, r17⟩ : ∃ A c, tm.getD 104 undef = .slice A 3 c ∧ Reads W W.heap.size 1 A 3 (us [1, 2, 4]) := hdep ⟨17, .data⟩ (by simp) (by rfl) (by decide) W (Below.refl _ W)
      obtain ⟨g18, t105, r18⟩ : ∃ g, tm.getD 105 undef = .slice (some ⟨g, 0, none⟩) 3 3 ∧ HoldsU W g [1, 2, 4] := hdep ⟨18, .data⟩ (by simp) (by rfl) (by decide) W (Below.refl _ W)
      have t102 : tm.getD 102 undef = .bool true := hdep ⟨15, .guard⟩ (by simp) (by rfl) (by decide) W (Below.refl _ W)
      have u102 : tm[102]'(by omega) = .bool true := getq t102 (by omega)
      clear hdep hfr
      go_simp
      have hq := rSameSets_any [1, 2, 4] [1, 2, 4] A17 _ 3 3 q17 3 _ W r17 r18.reads (by unfold maxLen; decide) (by unfold maxLen; decide)
      rw [decide_eq_true rfl] at hq
      refine hq.mono ?_
      rintro e W9 ⟨rfl, q, rfl⟩
      exact hK _ _ (below_drewN (Below.refl _ W) q) (fun W8 hc => rfl)
    case s20 =>
      intro o ho a W hS hsz hdf hfr hdep K hK
      obtain ⟨tm, df⟩ := a
      have hdf : df = [] := hdf
      subst hdf
      have ho := Option.some.inj ho
      subst ho
      have hsz : tm.size = 142 := hsz
      have t102 : tm.getD 102 undef = .bool true := hdep ⟨15, .data⟩ (by simp) (by rfl) (by decide) W (Below.refl _ W)
      have t106 : tm.getD 106 undef = .bool true := hdep ⟨19, .data⟩ (by simp) (by rfl) (by decide) W (Below.refl _ W)
      clear hdep hfr
      go_simp
      exact hK _ W (Below.refl _ W) (fun W9 hb => rfl)
    case s21 =>
      intro o ho a W hS hsz hdf hfr hdep K hK
      obtain ⟨tm, df⟩ := a
      have hdf : df = [] := hdf
      subst hdf
      have ho := Option.some.inj ho
      subst ho
      have hsz : tm.size = 142 := hsz
      have t107 : tm.getD 107 undef = .bool true := hdep ⟨20, .data⟩ (by simp) (by rfl) (by decide) W (Below.refl _ W)
      clear hdep hfr
      go_simp
      exact hK _ W (Below.refl _ W) (fun W9 hb => rfl)
    case s22 =>
      intro o ho a W hS hsz hdf hfr hdep K hK
      obtain ⟨tm, df⟩ := a
      have hdf : df = [] := hdf
      subst hdf
      have ho := Option.some.inj ho
      subst ho
      have hsz : tm.size = 142 := hsz
      have t9 : tm.getD 9 undef = .pointer (some ⟨bn, 0, none⟩) := hfr 9 (by intro j hj; unfold AwD; split <;> omega)
      have t108 : tm.getD 108 undef = .bool true := hdep ⟨21, .guard⟩ (by simp) (by rfl) (by decide) W (Below.refl _ W)
      have u108 : tm[108]'(by omega) = .bool true := getq t108 (by omega)
      have c0 := (HC2.out W hS).c0
      have c1 := (HC2.out W hS).c1
      have c2 := (HC2.out W hS).c2
      clear hdep hfr
      go_simp
      exact hK _ W (Below.refl _ W) (fun W9 hb => rfl)
    case s23 =>
      intro o ho a W hS hsz hdf hfr hdep K hK
      obtain ⟨tm, df⟩ := a
      have hdf : df = [] := hdf
      subst hdf
      have ho := Option.some.inj ho
      subst ho
      have hsz : tm.size = 142 := hsz
      have t108 : tm.getD 108 undef = .bool true := hdep ⟨21, .guard⟩ (by simp) (by rfl) (by decide) W (Below.refl _ W)
      have u108 : tm[108]'(by omega) = .bool true := getq t108 (by omega)
      clear hdep hfr
      go_simp
      exact hK _ _ ((Below.refl _ W).alloc (Nat.le_refl _) _) (fun W9 hb => ⟨W.heap.size, rfl, (hb.block _ (by simp)).trans (heap_alloc_new W _)⟩)
    case s24 =>
      intro o ho a W hS hsz hdf hfr hdep K hK
      obtain ⟨tm, df⟩ := a
      have hdf : df = [] := hdf
      subst hdf
      have ho := Option.some.inj ho
      subst ho
      have hsz : tm.size = 142 := hsz
      have t108 : tm.getD 108 undef = .bool true := hdep ⟨21, .guard⟩ (by simp) (by rfl) (by decide) W (Below.refl _ W)
      have u108 : tm[108]'(by omega) = .bool true := getq t108 (by omega)
      clear hdep hfr
      go_simp
      exact hK _ _ ((Below.refl _ W).alloc (Nat.le_refl _) _) (fun W9 hb => ⟨W.heap.size, rfl, (hb.block _ (by simp)).trans (heap_alloc_new W _)⟩)
    case s25 =>
      intro o ho a W hS hsz hdf hfr hdep K hK
      obtain ⟨tm, df⟩ := a
      have hdf : df = [] := hdf
      subst hdf
      have ho := Option.some.inj ho
      subst ho
      have hsz : tm.size = 142 := hsz
      have t108 : tm.getD 108 undef = .bool true := hdep ⟨21, .guard⟩ (by simp) (by rfl) (by decide) W (Below.refl _ W)
      have u108 : tm[108]'(by omega) = .bool true := getq t108 (by omega)
      clear hdep hfr
      go_simp
      exact hK _ _ ((Below.refl _ W).alloc (Nat.le_refl _) _) (fun W9 hb => ⟨W.heap.size, rfl, (hb.block _ (by simp)).trans (heap_alloc_new W _)⟩)
    case s26 =>
      intro o ho a W hS hsz hdf hfr hdep K hK
      obtain ⟨tm, df⟩ := a
      have hdf : df = [] := hdf
      subst hdf
      have ho := Option.some.inj ho
      subst ho
      have hsz : tm.size = 142 := hsz
      obtain ⟨g24, t111, r24⟩ : ∃ g, tm.getD 111 undef = .slice (some ⟨g, 0, none⟩) 3 3 ∧ HoldsU W g [1, 6, 6] := hdep ⟨24, .data⟩ (by simp) (by rfl) (by decide) W (Below.refl _ W)
      obtain ⟨g25, t112, r25⟩ : ∃ g, tm.getD 112 undef = .slice (some ⟨g, 0, none⟩) 3 3 ∧ HoldsU W g [3, 3, 4] := hdep ⟨25, .data⟩ (by simp) (by rfl) (by decide) W (Below.refl _ W)
      have t108 : tm.getD 108 undef = .bool true := hdep ⟨21, .guard⟩ (by simp) (by rfl) (by decide) W (Below.refl _ W)
      have u108 : tm[108]'(by omega) = .bool true := getq t108 (by omega)
      have w111 : tm[111]'(by omega) = .slice (some ⟨g24, 0, none⟩) 3 3 := getq t111 (by omega)
      have w112 : tm[112]'(by omega) = .slice (some ⟨g25, 0, none⟩) 3 3 := getq t112 (by omega)
      clear hdep hfr
      go_simp
      exact hK _ _ ((Below.refl _ W).alloc (Nat.le_refl _) _) (fun W9 hb => ⟨W.heap.size, g24, g25, rfl, (hb.block _ (by simp)).trans (heap_alloc_new W _), (r24.below ((Below.refl _ W).alloc (Nat.le_refl _) _) r24.lt).below hb (by simp; have := r24.lt; omega), (r25.below ((Below.refl _ W).alloc (Nat.le_refl _) _) r25.lt).below hb (by simp; have := r25.lt; omega)⟩)
    case s27 =>
      intro o ho a W hS hsz hdf hfr hdep K hK
      obtain ⟨tm, df⟩ := a
      have hdf : df = [] := hdf
      subst hdf
      have ho := Option.some.inj ho
      subst ho
      have hsz : tm.size = 142 := hsz
      obtain ⟨g23, t110, r23⟩ : ∃ g, tm.getD 110 undef = .slice (some ⟨g, 0, none⟩) 1 1 ∧ HoldsU W g [6] := hdep ⟨23, .data⟩ (by simp) (by rfl) (by decide) W (Below.refl _ W)
      obtain ⟨g26, h2, h3, t113, r26, r24, r25⟩ : ∃ g g2 g3, tm.getD 113 undef = .slice (some ⟨g, 0, none⟩) 2 2 ∧ HoldsV W g [.slice (some ⟨g2, 0, none⟩) 3 3, .slice (some ⟨g3, 0, none⟩) 3 3] ∧ HoldsU W g2 [1, 6, 6] ∧ HoldsU W g3 [3, 3, 4] := hdep ⟨26, .data⟩ (by simp) (by rfl) (by decide) W (Below.refl _ W)
      have t108 : tm.getD 108 undef = .bool true := hdep ⟨21, .guard⟩ (by simp) (by rfl) (by decide) W (Below.refl _ W)
      have u108 : tm[108]'(by omega) = .bool true := getq t108 (by omega)
      have w110 : tm[110]'(by omega) = .slice (some ⟨g23, 0, none⟩) 1 1 := getq t110 (by omega)
      have w113 : tm[113]'(by omega) = .slice (some ⟨g26, 0, none⟩) 2 2 := getq t113 (by omega)
      clear hdep hfr
      have rM := MoR.lit (n := 3) (val := [6]) (r1 := [1, 6, 6]) (r2 := [3, 3, 4]) r23 r24 r25 r26 (by decide) (by decide) (words_of (by decide)) (words_of (by decide)) (words_of (by decide))
      go_simp
      exact hK _ W (Below.refl _ W) (fun W9 hb => ⟨g23, g26, rfl, rM.below hb hb.size⟩)
    case s28 =>
      intro o ho a W hS hsz hdf hfr hdep K hK
      obtain ⟨tm, df⟩ := a
      have hdf : df = [] := hdf
      subst hdf
      have ho := Option.some.inj ho
      subst ho
      have hsz : tm.size = 142 := hsz
      have t109 : tm.getD 109 undef = .agg #[.int .i64 3, .slice R1 1 r1, .slice R2 2 r2] := hdep ⟨22, .data⟩ (by simp) (by rfl) (by decide) W (Below.refl _ W)
      obtain ⟨f1, f2, t114, r27⟩ : ∃ g1 g, tm.getD 114 undef = .agg #[.int .i64 3, .slice (some ⟨g1, 0, none⟩) 1 1, .slice (some ⟨g, 0, none⟩) 2 2] ∧ MoR W W.heap.size (tm.getD 114 undef) ⟨3, [6], [[1, 6, 6], [3, 3, 4]]⟩ := hdep ⟨27, .data⟩ (by simp) (by rfl) (by decide) W (Below.refl _ W)
      have t108 : tm.getD 108 undef = .bool true := hdep ⟨21, .guard⟩ (by simp) (by rfl) (by decide) W (Below.refl _ W)
      have u108 : tm[108]'(by omega) = .bool true := getq t108 (by omega)
      clear hdep hfr
      go_simp
      rw [t114] at r27
      have hq := rSame_any ⟨3, [6], [[1, 6, 6], [3, 3, 4]]⟩ ⟨3, [6], [[1, 6, 6], [3, 3, 4]]⟩ _ _ W (HNW.out W hS) r27
      rw [show decide ((⟨3, [6], [[1, 6, 6], [3, 3, 4]]⟩ : Mo) = ⟨3, [6], [[1, 6, 6], [3, 3, 4]]⟩) = true from decide_eq_true rfl] at hq
      refine hq.mono ?_
      rintro e W9 ⟨rfl, hb⟩
      exact hK _ W9 hb (fun W8 hc => rfl)
    case s29 =>
      intro o ho a W hS hsz hdf hfr hdep K hK
      obtain ⟨tm, df⟩ := a
      have hdf : df = [] := hdf
      subst hdf
      have ho := Option.some.inj ho
      subst ho
      have hsz : tm.size = 142 := hsz
      have t108 : tm.getD 108 undef = .bool true := hdep ⟨21, .data⟩ (by simp) (by rfl) (by decide) W (Below.refl _ W)
      have t115 : tm.getD 115 undef = .bool true := hdep ⟨28, .data⟩ (by simp) (by rfl) (by decide) W (Below.refl _ W)
      clear hdep hfr
      go_simp
      exact hK _ W (Below.refl _ W) (fun W9 hb => rfl)
    case s30 =>
      intro o ho a W hS hsz hdf hfr hdep K hK
      obtain ⟨tm, df⟩ := a
      have hdf : df = [] := hdf
      subst hdf
      have ho := Option.some.inj ho
      subst ho
      have hsz : tm.size = 142 := hsz
      have t116 : tm.getD 116 undef = .bool true := hdep ⟨29, .data⟩ (by simp) (by rfl) (by decide) W (Below.refl _ W)
      clear hdep hfr
      go_simp
      exact hK _ W (Below.refl _ W) (fun W9 hb => rfl)
    case s31 =>
      intro o ho a W hS hsz hdf hfr hdep K hK
      obtain ⟨tm, df⟩ := a
      have hdf : df = [] := hdf
      subst hdf
      have ho := Option.some.inj ho
      subst ho
      have hsz : tm.size = 142 := hsz
      have t11 : tm.getD 11 undef = .pointer (some ⟨bu, 0, none⟩) := hfr 11 (by intro j hj; unfold AwD; split <;> omega)
      have t117 : tm.getD 117 undef = .bool true := hdep ⟨30, .guard⟩ (by simp) (by rfl) (by decide) W (Below.refl _ W)
      have u117 : tm[117]'(by omega) = .bool true := getq t117 (by omega)
      clear hdep hfr
      go_simp
      exact hK _ W (Below.refl _ W) (fun W9 hb => rfl)
    case s32 =>
      intro o ho a W hS hsz hdf hfr hdep K hK
      obtain ⟨tm, df⟩ := a
      have hdf : df = [] := hdf
      subst hdf
      have ho := Option.some.inj ho
      subst ho
      have hsz : tm.size = 142 := hsz
      have t118 : tm.getD 118 undef = .pointer (some ⟨bu, 0, none⟩) := hdep ⟨31, .data⟩ (by simp) (by rfl) (by decide) W (Below.refl _ W)
      have t117 : tm.getD 117 undef = .bool true := hdep ⟨30, .guard⟩ (by simp) (by rfl) (by decide) W (Below.refl _ W)
      have u117 : tm[117]'(by omega) = .bool true := getq t117 (by omega)
      have c0 := (HC3.out W hS).c0
      clear hdep hfr
      go_simp
      exact hK _ W (Below.refl _ W) (fun W9 hb => rfl)
    case s33 =>
      intro o ho a W hS hsz hdf hfr hdep K hK
      obtain ⟨tm, df⟩ := a
      have hdf : df = [] := hdf
      subst hdf
      have ho := Option.some.inj ho
      subst ho
      have hsz : tm.size = 142 := hsz
      have t119 : tm.getD 119 undef = .int .i64 6 := hdep ⟨32, .data⟩ (by simp) (by rfl) (by decide) W (Below.refl _ W)
      have t117 : tm.getD 117 undef = .bool true := hdep ⟨30, .guard⟩ (by simp) (by rfl) (by decide) W (Below.refl _ W)
      have u117 : tm[117]'(by omega) = .bool true := getq t117 (by omega)
      clear hdep hfr
      go_simp
      exact hK _ W (Below.refl _ W) (fun W9 hb => rfl)
    case s34 =>
      intro o ho a W hS hsz hdf hfr hdep K hK
      obtain ⟨tm, df⟩ := a
      have hdf : df = [] := hdf
      subst hdf
      have ho := Option.some.inj ho
      subst ho
      have hsz : tm.size = 142 := hsz
      have t117 : tm.getD 117 undef = .bool true := hdep ⟨30, .data⟩ (by simp) (by rfl) (by decide) W (Below.refl _ W)
      have t120 : tm.getD 120 undef = .bool true := hdep ⟨33, .data⟩ (by simp) (by rfl) (by decide) W (Below.refl _ W)
      clear hdep hfr
      go_simp
      exact hK _ W (Below.refl _ W) (fun W9 hb => rfl)
    case s35 =>
      intro o ho a W hS hsz hdf hfr hdep K hK
      obtain ⟨tm, df⟩ := a
      have hdf : df = [] := hdf
      subst hdf
      have ho := Option.some.inj ho
      subst ho
      have hsz : tm.size = 142 := hsz
      have t121 : tm.getD 121 undef = .bool true := hdep ⟨34, .data⟩ (by simp) (by rfl) (by decide) W (Below.refl _ W)
      clear hdep hfr
      go_simp
      exact hK _ W (Below.refl _ W) (fun W9 hb => rfl)
    case s36 =>
      intro o ho a W hS hsz hdf hfr hdep K hK
      obtain ⟨tm, df⟩ := a
      have hdf : df = [] := hdf
      subst hdf
      have ho := Option.some.inj ho
      subst ho
      have hsz : tm.size = 142 := hsz
      have t1 : tm.getD 1 undef = .pointer (some ⟨b1, 0, none⟩) := hfr 1 (by intro j hj; unfold AwD; split <;> omega)
      have t122 : tm.getD 122 undef = .bool true := hdep ⟨35, .guard⟩ (by simp) (by rfl) (by decide) W (Below.refl _ W)
      have u122 : tm[122]'(by omega) = .bool true := getq t122 (by omega)
      have c0 := (HC1.out W hS).c0
      have c1 := (HC1.out W hS).c1
      have c2 := (HC1.out W hS).c2
      clear hdep hfr
      go_simp
      exact hK _ W (Below.refl _ W) (fun W9 hb => rfl)
    case s37 =>
      intro o ho a W hS hsz hdf hfr hdep K hK
      obtain ⟨tm, df⟩ := a
      have hdf : df = [] := hdf
      subst hdf
      have ho := Option.some.inj ho
      subst ho
      have hsz : tm.size = 142 := hsz
      have t123 : tm.getD 123 undef = .agg #[.int .i64 3, .slice P1 1 p1, .slice P2 2 p2] := hdep ⟨36, .data⟩ (by simp) (by rfl) (by decide) W (Below.refl _ W)
      have t122 : tm.getD 122 undef = .bool true := hdep ⟨35, .guard⟩ (by simp) (by rfl) (by decide) W (Below.refl _ W)
      have u122 : tm[122]'(by omega) = .bool true := getq t122 (by omega)
      clear hdep hfr
      go_simp
      have hq := pFacts_any exM _ 2 W (HMW.out W hS)
      rw [ex_fact.1] at hq
      refine hq.mono ?_
      rintro e W9 ⟨rfl, hb⟩
      exact hK _ W9 hb (fun W8 hc => rfl)
    case s38 =>
      intro o ho a W hS hsz hdf hfr hdep K hK
      obtain ⟨tm, df⟩ := a
      have hdf : df = [] := hdf
      subst hdf
      have ho := Option.some.inj ho
      subst ho
      have hsz : tm.size = 142 := hsz
      have t124 : tm.getD 124 undef = .int .i64 0 := hdep ⟨37, .data⟩ (by simp) (by rfl) (by decide) W (Below.refl _ W)
      have t122 : tm.getD 122 undef = .bool true := hdep ⟨35, .guard⟩ (by simp) (by rfl) (by decide) W (Below.refl _ W)
      have u122 : tm[122]'(by omega) = .bool true := getq t122 (by omega)
      clear hdep hfr
      go_simp
      exact hK _ W (Below.refl _ W) (fun W9 hb => rfl)
    case s39 =>
      intro o ho a W hS hsz hdf hfr hdep K hK
      obtain ⟨tm, df⟩ := a
      have hdf : df = [] := hdf
      subst hdf
      have ho := Option.some.inj ho
      subst ho
      have hsz : tm.size = 142 := hsz
      have t122 : tm.getD 122 undef = .bool true := hdep ⟨35, .data⟩ (by simp) (by rfl) (by decide) W (Below.refl _ W)
      have t125 : tm.getD 125 undef = .bool true := hdep ⟨38, .data⟩ (by simp) (by rfl) (by decide) W (Below.refl _ W)
      clear hdep hfr
      go_simp
      exact hK _ W (Below.refl _ W) (fun W9 hb => rfl)
    case s40 =>
      intro o ho a W hS hsz hdf hfr hdep K hK
      obtain ⟨tm, df⟩ := a
      have hdf : df = [] := hdf
      subst hdf
      have ho := Option.some.inj ho
      subst ho
      have hsz : tm.size = 142 := hsz
      have t126 : tm.getD 126 undef = .bool true := hdep ⟨39, .data⟩ (by simp) (by rfl) (by decide) W (Below.refl _ W)
      clear hdep hfr
      go_simp
      exact hK _ W (Below.refl _ W) (fun W9 hb => rfl)
    case s41 =>
      intro o ho a W hS hsz hdf hfr hdep K hK
      obtain ⟨tm, df⟩ := a
      have hdf : df = [] := hdf
      subst hdf
      have ho := Option.some.inj ho
      subst ho
      have hsz : tm.size = 142 := hsz
      have t1 : tm.getD 1 undef = .pointer (some ⟨b1, 0, none⟩) := hfr 1 (by intro j hj; unfold AwD; split <;> omega)
      have t127 : tm.getD 127 undef = .bool true := hdep ⟨40, .guard⟩ (by simp) (by rfl) (by decide) W (Below.refl _ W)
      have u127 : tm[127]'(by omega) = .bool true := getq t127 (by omega)
      have c0 := (HC1.out W hS).c0
      have c1 := (HC1.out W hS).c1
      have c2 := (HC1.out W hS).c2
      clear hdep hfr
      go_simp
      exact hK _ W (Below.refl _ W) (fun W9 hb => rfl)
    case s42 =>
      intro o ho a W hS hsz hdf hfr hdep K hK
      obtain ⟨tm, df⟩ := a
      have hdf : df = [] := hdf
      subst hdf
      have ho := Option.some.inj ho
      subst ho
      have hsz : tm.size = 142 := hsz
      have t128 : tm.getD 128 undef = .agg #[.int .i64 3, .slice P1 1 p1, .slice P2 2 p2] := hdep ⟨41, .data⟩ (by simp) (by rfl) (by decide) W (Below.refl _ W)
      have t127 : tm.getD 127 undef = .bool true := hdep ⟨40, .guard⟩ (by simp) (by rfl) (by decide) W (Below.refl _ W)
      have u127 : tm[127]'(by omega) = .bool true := getq t127 (by omega)
      clear hdep hfr
      go_simp
      have hq := pFacts_any exM _ 1 W (HMW.out W hS)
      rw [ex_fact.2.1] at hq
      refine hq.mono ?_
      rintro e W9 ⟨rfl, hb⟩
      exact hK _ W9 hb (fun W8 hc => rfl)
    case s43 =>
      intro o ho a W hS hsz hdf hfr hdep K hK
      obtain ⟨tm, df⟩ := a
      have hdf : df = [] := hdf
      subst hdf
      have ho := Option.some.inj ho
      subst ho
      have hsz : tm.size = 142 := hsz
      have t129 : tm.getD 129 undef = .int .i64 1 := hdep ⟨42, .data⟩ (by simp) (by rfl) (by decide) W (Below.refl _ W)
      have t127 : tm.getD 127 undef = .bool true := hdep ⟨40, .guard⟩ (by simp) (by rfl) (by decide) W (Below.refl _ W)
      have u127 : tm[127]'(by omega) = .bool true := getq t127 (by omega)
      clear hdep hfr
      go_simp
      exact hK _ W (Below.refl _ W) (fun W9 hb => rfl)
    case s44 =>
      intro o ho a W hS hsz hdf hfr hdep K hK
      obtain ⟨tm, df⟩ := a
      have hdf : df = [] := hdf
      subst hdf
      have ho := Option.some.inj ho
      subst ho
      have hsz : tm.size = 142 := hsz
      have t127 : tm.getD 127 undef = .bool true := hdep ⟨40, .data⟩ (by simp) (by rfl) (by decide) W (Below.refl _ W)
      have t130 : tm.getD 130 undef = .bool true := hdep ⟨43, .data⟩ (by simp) (by rfl) (by decide) W (Below.refl _ W)
      clear hdep hfr
      go_simp
      exact hK _ W (Below.refl _ W) (fun W9 hb => rfl)
    case s45 =>
      intro o ho a W hS hsz hdf hfr hdep K hK
      obtain ⟨tm, df⟩ := a
      have hdf : df = [] := hdf
      subst hdf
      have ho := Option.some.inj ho
      subst ho
      have hsz : tm.size = 142 := hsz
      have t131 : tm.getD 131 undef = .bool true := hdep ⟨44, .data⟩ (by simp) (by rfl) (by decide) W (Below.refl _ W)
      clear hdep hfr
      go_simp
      exact hK _ W (Below.refl _ W) (fun W9 hb => rfl)
    case s46 =>
      intro o ho a W hS hsz hdf hfr hdep K hK
      obtain ⟨tm, df⟩ := a
      have hdf : df = [] := hdf
      subst hdf
      have ho := Option.some.inj ho
      subst ho
      have hsz : tm.size = 142 := hsz
      have t1 : tm.getD 1 undef = .pointer (some ⟨b1, 0, none⟩) := hfr 1 (by intro j hj; unfold AwD; split <;> omega)
      have t132 : tm.getD 132 undef = .bool true := hdep ⟨45, .guard⟩ (by simp) (by rfl) (by decide) W (Below.refl _ W)
      have u132 : tm[132]'(by omega) = .bool true := getq t132 (by omega)
      have c0 := (HC1.out W hS).c0
      have c1 := (HC1.out W hS).c1
      have c2 := (HC1.out W hS).c2
      clear hdep hfr
      go_simp
      exact hK _ W (Below.refl _ W) (fun W9 hb => rfl)
    case s47 =>
      intro o ho a W hS hsz hdf hfr hdep K hK
      obtain ⟨tm, df⟩ := a
      have hdf : df = [] := hdf
      subst hdf
      have ho := Option.some.inj ho
      subst ho
      have hsz : tm.size = 142 := hsz
      have t133 : tm.getD 133 undef = .agg #[.int .i64 3, .slice P1 1 p1, .slice P2 2 p2] := hdep ⟨46, .data⟩ (by simp) (by rfl) (by decide) W (Below.refl _ W)
      have t132 : tm.getD 132 undef = .bool true := hdep ⟨45, .guard⟩ (by simp) (by rfl) (by decide) W (Below.refl _ W)
      have u132 : tm[132]'(by omega) = .bool true := getq t132 (by omega)
      clear hdep hfr
      go_simp
      have hq := pCheck_any exM _ W (HMW.out W hS)
      rw [ex_fact.2.2] at hq
      refine hq.mono ?_
      rintro e W9 ⟨rfl, hb⟩
      exact hK _ W9 hb (fun W8 hc => rfl)
    case s48 =>
      intro o ho a W hS hsz hdf hfr hdep K hK
      obtain ⟨tm, df⟩ := a
      have hdf : df = [] := hdf
      subst hdf
      have ho := Option.some.inj ho
      subst ho
      have hsz : tm.size = 142 := hsz
      have t134 : tm.getD 134 undef = .int .i64 0 := hdep ⟨47, .data⟩ (by simp) (by rfl) (by decide) W (Below.refl _ W)
      have t132 : tm.getD 132 undef = .bool true := hdep ⟨45, .guard⟩ (by simp) (by rfl) (by decide) W (Below.refl _ W)
      have u132 : tm[132]'(by omega) = .bool true := getq t132 (by omega)
      clear hdep hfr
      go_simp
      exact hK _ W (Below.refl _ W) (fun W9 hb => rfl)
    case s49 =>
      intro o ho a W hS hsz hdf hfr hdep K hK
      obtain ⟨tm, df⟩ := a
      have hdf : df = [] := hdf
      subst hdf
      have ho := Option.some.inj ho
      subst ho
      have hsz : tm.size = 142 := hsz
      have t132 : tm.getD 132 undef = .bool true := hdep ⟨45, .data⟩ (by simp) (by rfl) (by decide) W (Below.refl _ W)
      have t135 : tm.getD 135 undef = .bool true := hdep ⟨48, .data⟩ (by simp) (by rfl) (by decide) W (Below.refl _ W)
      clear hdep hfr
      go_simp
      exact hK _ W (Below.refl _ W) (fun W9 hb => rfl)
    case s50 =>
      intro o ho a W hS hsz hdf hfr hdep K hK
      obtain ⟨tm, df⟩ := a
      have hdf : df = [] := hdf
      subst hdf
      have ho := Option.some.inj ho
      subst ho
      have hsz : tm.size = 142 := hsz
      have t136 : tm.getD 136 undef = .bool true := hdep ⟨49, .data⟩ (by simp) (by rfl) (by decide) W (Below.refl _ W)
      clear hdep hfr
      go_simp
      exact hK _ W (Below.refl _ W) (fun W9 hb => rfl)
    case s51 =>
      intro o ho a W hS hsz hdf hfr hdep K hK
      obtain ⟨tm, df⟩ := a
      have hdf : df = [] := hdf
      subst hdf
      have ho := Option.some.inj ho
      subst ho
      have hsz : tm.size = 142 := hsz
      have t1 : tm.getD 1 undef = .pointer (some ⟨b1, 0, none⟩) := hfr 1 (by intro j hj; unfold AwD; split <;> omega)
      have t137 : tm.getD 137 undef = .bool true := hdep ⟨50, .guard⟩ (by simp) (by rfl) (by decide) W (Below.refl _ W)
      have u137 : tm[137]'(by omega) = .bool true := getq t137 (by omega)
      have c0 := (HC1.out W hS).c0
      have c1 := (HC1.out W hS).c1
      have c2 := (HC1.out W hS).c2
      clear hdep hfr
      go_simp
      exact hK _ W (Below.refl _ W) (fun W9 hb => rfl)
    case s52 =>
      intro o ho a W hS hsz hdf hfr hdep K hK
      obtain ⟨tm, df⟩ := a
      have hdf : df = [] := hdf
      subst hdf
      have ho := Option.some.inj ho
      subst ho
      have hsz : tm.size = 142 := hsz
      have t137 : tm.getD 137 undef = .bool true := hdep ⟨50, .guard⟩ (by simp) (by rfl) (by decide) W (Below.refl _ W)
      have u137 : tm[137]'(by omega) = .bool true := getq t137 (by omega)
      clear hdep hfr
      go_simp
      refine (example_any W).mono ?_
      rintro e W9 ⟨v, rfl, hm, hb⟩
      exact hK _ W9 hb (fun W8 hc => hm.below hc hc.size)
    case s53 =>
      intro o ho a W hS hsz hdf hfr hdep K hK
      obtain ⟨tm, df⟩ := a
      have hdf : df = [] := hdf
      subst hdf
      have ho := Option.some.inj ho
      subst ho
      have hsz : tm.size = 142 := hsz
      have t138 : tm.getD 138 undef = .agg #[.int .i64 3, .slice P1 1 p1, .slice P2 2 p2] := hdep ⟨51, .data⟩ (by simp) (by rfl) (by decide) W (Below.refl _ W)
      obtain ⟨ve, t139, r52⟩ : ∃ ve, tm.getD 139 undef = ve ∧ MoR W W.heap.size ve exM := ⟨_, rfl, hdep ⟨52, .data⟩ (by simp) (by rfl) (by decide) W (Below.refl _ W)⟩
      have t137 : tm.getD 137 undef = .bool true := hdep ⟨50, .guard⟩ (by simp) (by rfl) (by decide) W (Below.refl _ W)
      have u137 : tm[137]'(by omega) = .bool true := getq t137 (by omega)
      clear hdep hfr
      go_simp
      have hq := pSame_any exM exM _ ve W (HMW.out W hS) r52
      rw [show decide (exM = exM) = true from decide_eq_true rfl] at hq
      refine hq.mono ?_
      rintro e W9 ⟨rfl, hb⟩
      exact hK _ W9 hb (fun W8 hc => rfl)
    case s54 =>
      intro o ho a W hS hsz hdf hfr hdep K hK
      obtain ⟨tm, df⟩ := a
      have hdf : df = [] := hdf
      subst hdf
      have ho := Option.some.inj ho
      subst ho
      have hsz : tm.size = 142 := hsz
      have t137 : tm.getD 137 undef = .bool true := hdep ⟨50, .data⟩ (by simp) (by rfl) (by decide) W (Below.refl _ W)
      have t140 : tm.getD 140 undef = .bool true := hdep ⟨53, .data⟩ (by simp) (by rfl) (by decide) W (Below.refl _ W)
      clear hdep hfr
      go_simp
      exact hK _ W (Below.refl _ W) (fun W9 hb => rfl)
    case s55 =>
      intro o ho a W hS hsz hdf hfr hdep K hK
      obtain ⟨tm, df⟩ := a
      have hdf : df = [] := hdf
      subst hdf
      have ho := Option.some.inj ho
      subst ho
      have hsz : tm.size = 142 := hsz
      have t141 : tm.getD 141 undef = .bool true := hdep ⟨54, .data⟩ (by simp) (by rfl) (by decide) W (Below.refl _ W)
      clear hdep hfr
      go_simp
      exact hK _ W (Below.refl _ W) (fun W9 hb => rfl)
  case fin =>
    intro a W hS hsz hdf hfr hv
    obtain ⟨tm, df⟩ := a
    have hdf : df = [] := hdf
    subst hdf
    have hsz : tm.size = 142 := hsz
    have t0 : tm.getD 0 undef = .bool true := hv 55 (by omega)
    clear hv hfr
    go_wp2
    go_ret
    exact ⟨congrArg Ending.returned t0, HB.out.trans (hS.mono HB.out.size)⟩
end Go.Proofs.YtofclgapgjcflaaDoor
