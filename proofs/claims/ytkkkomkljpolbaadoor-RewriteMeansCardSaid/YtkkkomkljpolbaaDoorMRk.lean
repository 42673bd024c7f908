/- Layer 6: texts joined: Gq Gr Gs. -/
import Derived.Test.YtkkkomkljpolbaaDoorMRi
import Derived.Test.YtkkkomkljpolbaaDoorMRj
import Derived.Test.YtkkkomkljpolbaaDoorCards
import Derived.Test.YtkkkomkljpolbaaDoorTie
import Derived.ProofKit
import Derived.OpenShut
import Derived.LaidMore
import Derived.Lay
import Derived.Lib.LaidU8
import Derived.Lib.SmallJoins
import Derived.SliceStrings
import Derived.Shelf.Vars
import Derived.Deep.DeepHandedRow
import Derived.Deep.DeepWitnessRowRef
import Derived.SevenTiedAt
import Derived.Deep.Slices
import Derived.Deep.Fields
import Derived.ChangeSame
/- Layer 8: the examples of awake. -/
namespace Go.Proofs.Ws
open Go
def eN8 : List Nd := [⟨3, 0, 0, 0, 0, 0⟩, ⟨3, 1, 0, 0, 0, 0⟩, ⟨9, 1, 0, 0, 1, 0⟩, ⟨7, 0, 0, 0, 0, 2⟩, ⟨4, 0, 0, 0, 3, 0⟩]
def eS8 : List Nd := [⟨3, 0, 0, 0, 0, 0⟩, ⟨7, 0, 0, 0, 0, 0⟩, ⟨9, 0, 0, 0, 1, 0⟩, ⟨3, 1, 0, 0, 0, 0⟩, ⟨6, 0, 0, 0, 2, 3⟩]
def eF8 : List Nd := [⟨3, 0, 0, 0, 0, 0⟩, ⟨3, 1, 0, 0, 0, 0⟩, ⟨5, 0, 0, 0, 0, 1⟩]
def eM8 : List Nd := [⟨3, 0, 0, 0, 0, 0⟩, ⟨4, 0, 0, 0, 0, 0⟩]
def eA8 : List Nd := [⟨3, 0, 0, 0, 0, 0⟩, ⟨3, 1, 0, 0, 0, 0⟩, ⟨4, 0, 0, 0, 1, 0⟩, ⟨10, 1, 0, 0, 2, 0⟩, ⟨5, 0, 0, 0, 0, 3⟩]
def eT8 : List Nd := [⟨1, 0, 0, 0, 0, 0⟩]
def eR8 : List Nd := [⟨3, 1, 0, 0, 0, 0⟩, ⟨3, 0, 0, 0, 0, 0⟩, ⟨5, 0, 0, 0, 0, 1⟩]
def eP8 : List Nd := [⟨3, 0, 0, 0, 0, 0⟩]
def eQ8 : List Nd := [⟨3, 1, 0, 0, 0, 0⟩]
end Go.Proofs.Ws
namespace Go.Proofs.YtkkkomkljpolbaaDoor
open Go.RowKit Go.Proofs.Ws Go.Maps
set_option maxRecDepth 100000
theorem ev8_0 : mapF (fun t => (nfT t).1) eN8 = eA8 := by decide +kernel
theorem ev8_1 : mapE (fun t => (nfT t).1) eN8 = 0 := by decide +kernel
theorem ev8_2 : mapF (mapT simT) eS8 = eT8 := by decide +kernel
theorem ev8_3 : mapE (mapT simT) eS8 = 0 := by decide +kernel
theorem ev8_4 : subFF eF8 [eQ8, eP8] = eR8 := by decide +kernel
theorem ev8_5 : subEE eF8 [eQ8, eP8] = 0 := by decide +kernel
theorem ev8_6 : fErr eM8 = 0 := by decide +kernel
theorem ev8_7 : closN [] (subsF eM8) = [eP8, eM8] := by decide +kernel
theorem ev8_8 : mapF negT eM8 = eP8 := by decide +kernel
theorem ev8_9 : mapE negT eM8 = 0 := by decide +kernel
theorem ev8_10 : oneF ⟨3, 0, 0, 0, 0, 0⟩ = eP8 := by decide +kernel
theorem ev8_11 : oneF ⟨3, 1, 0, 0, 0, 0⟩ = eQ8 := by decide +kernel
theorem ev8_12 : unaryF ⟨4, 0, 0, 0, 0, 0⟩ eQ8 = [⟨3, 1, 0, 0, 0, 0⟩, ⟨4, 0, 0, 0, 0, 0⟩] := by decide +kernel
theorem ev8_13 : unaryF ⟨4, 0, 0, 0, 0, 0⟩ eP8 = eM8 := by decide +kernel
theorem ev8_14 : unaryF ⟨10, 1, 0, 0, 0, 0⟩ [⟨3, 1, 0, 0, 0, 0⟩, ⟨4, 0, 0, 0, 0, 0⟩] = [⟨3, 1, 0, 0, 0, 0⟩, ⟨4, 0, 0, 0, 0, 0⟩, ⟨10, 1, 0, 0, 1, 0⟩] := by decide +kernel
theorem ev8_15 : buildF ⟨5, 0, 0, 0, 0, 0⟩ [eP8, [⟨3, 1, 0, 0, 0, 0⟩, ⟨4, 0, 0, 0, 0, 0⟩, ⟨10, 1, 0, 0, 1, 0⟩]] = eA8 := by decide +kernel
theorem ev8_16 : buildF ⟨5, 0, 0, 0, 0, 0⟩ [eQ8, eP8] = eR8 := by decide +kernel
theorem ev8_17 : buildF ⟨1, 0, 0, 0, 0, 0⟩ [] = eT8 := by decide +kernel
theorem nds_eN8 : nds eN8 = [.int .i64 3, .int .i64 0, .int .i64 0, .int .i64 0, .int .i64 0, .int .i64 0, .int .i64 3, .int .i64 1, .int .i64 0, .int .i64 0, .int .i64 0, .int .i64 0, .int .i64 9, .int .i64 1, .int .i64 0, .int .i64 0, .int .i64 1, .int .i64 0, .int .i64 7, .int .i64 0, .int .i64 0, .int .i64 0, .int .i64 0, .int .i64 2, .int .i64 4, .int .i64 0, .int .i64 0, .int .i64 0, .int .i64 3, .int .i64 0] := rfl
theorem nds_eS8 : nds eS8 = [.int .i64 3, .int .i64 0, .int .i64 0, .int .i64 0, .int .i64 0, .int .i64 0, .int .i64 7, .int .i64 0, .int .i64 0, .int .i64 0, .int .i64 0, .int .i64 0, .int .i64 9, .int .i64 0, .int .i64 0, .int .i64 0, .int .i64 1, .int .i64 0, .int .i64 3, .int .i64 1, .int .i64 0, .int .i64 0, .int .i64 0, .int .i64 0, .int .i64 6, .int .i64 0, .int .i64 0, .int .i64 0, .int .i64 2, .int .i64 3] := rfl
theorem nds_eF8 : nds eF8 = [.int .i64 3, .int .i64 0, .int .i64 0, .int .i64 0, .int .i64 0, .int .i64 0, .int .i64 3, .int .i64 1, .int .i64 0, .int .i64 0, .int .i64 0, .int .i64 0, .int .i64 5, .int .i64 0, .int .i64 0, .int .i64 0, .int .i64 0, .int .i64 1] := rfl
theorem nds_eM8 : nds eM8 = [.int .i64 3, .int .i64 0, .int .i64 0, .int .i64 0, .int .i64 0, .int .i64 0, .int .i64 4, .int .i64 0, .int .i64 0, .int .i64 0, .int .i64 0, .int .i64 0] := rfl
theorem nds_eP8 : nds eP8 = [.int .i64 3, .int .i64 0, .int .i64 0, .int .i64 0, .int .i64 0, .int .i64 0] := rfl
theorem nds_eQ8 : nds eQ8 = [.int .i64 3, .int .i64 1, .int .i64 0, .int .i64 0, .int .i64 0, .int .i64 0] := rfl
theorem reads8 (W : World) (l : List Nd) (t : TypeId) : Reads (W.alloc (.cells (nds l).toArray t)) (W.alloc (.cells (nds l).toArray t)).heap.size 6 (some ⟨W.heap.size, 0, none⟩) l.length (nds l) := by
  refine ⟨nds_length l, fun _ => ⟨_, rfl, by simp, fun j u hj => ?_⟩⟩
  have hh := heap_alloc_new W (.cells (nds l).toArray t)
  rw [addr_zero, Lib.cell_of_heap hh, ← hj]
  simp
theorem bel8 (W : World) (o : Obj) : Below W.heap.size W (W.alloc o) := (Below.refl _ W).alloc (Nat.le_refl _) o
theorem ex8_any (w : World) : Calls Tryd.prog 51 #[] w fun e w' => e = .returned (.slice (some ⟨w.heap.size, 0, none⟩) 5 5) ∧ Hid (Reads w' w'.heap.size 6 (some ⟨w.heap.size, 0, none⟩) 5 (nds eN8)) ∧ Hid (Below w.heap.size w w') := by
  have hR := Lib.hid (reads8 w eN8 62)
  have HB := Lib.hid (bel8 w (.cells (nds eN8).toArray 62))
  rw [nds_eN8] at hR HB ⊢
  go_enter Tryd.func51, Tryd.ntmps51
  go_wp2
  go_ret
  exact ⟨rfl, hR, HB⟩
theorem sub8 (W : World) : Reads ((((W.alloc (.cells (nds eF8).toArray 62)).alloc (.cells (nds eQ8).toArray 62)).alloc (.cells (nds eP8).toArray 62)).alloc (.cells #[.slice (some ⟨W.heap.size + 1, 0, none⟩) 1 1, .slice (some ⟨W.heap.size + 1 + 1, 0, none⟩) 1 1] 22)) ((((W.alloc (.cells (nds eF8).toArray 62)).alloc (.cells (nds eQ8).toArray 62)).alloc (.cells (nds eP8).toArray 62)).alloc (.cells #[.slice (some ⟨W.heap.size + 1, 0, none⟩) 1 1, .slice (some ⟨W.heap.size + 1 + 1, 0, none⟩) 1 1] 22)).heap.size 6 (some ⟨W.heap.size, 0, none⟩) 3 (nds eF8) ∧
    LsR ((((W.alloc (.cells (nds eF8).toArray 62)).alloc (.cells (nds eQ8).toArray 62)).alloc (.cells (nds eP8).toArray 62)).alloc (.cells #[.slice (some ⟨W.heap.size + 1, 0, none⟩) 1 1, .slice (some ⟨W.heap.size + 1 + 1, 0, none⟩) 1 1] 22)) ((((W.alloc (.cells (nds eF8).toArray 62)).alloc (.cells (nds eQ8).toArray 62)).alloc (.cells (nds eP8).toArray 62)).alloc (.cells #[.slice (some ⟨W.heap.size + 1, 0, none⟩) 1 1, .slice (some ⟨W.heap.size + 1 + 1, 0, none⟩) 1 1] 22)).heap.size (some ⟨W.heap.size + 1 + 1 + 1, 0, none⟩) 2 [eQ8, eP8] ∧
    Below W.heap.size W ((((W.alloc (.cells (nds eF8).toArray 62)).alloc (.cells (nds eQ8).toArray 62)).alloc (.cells (nds eP8).toArray 62)).alloc (.cells #[.slice (some ⟨W.heap.size + 1, 0, none⟩) 1 1, .slice (some ⟨W.heap.size + 1 + 1, 0, none⟩) 1 1] 22)) := by
  have r1 := reads8 W eF8 62
  have b1 := bel8 W (.cells (nds eF8).toArray 62)
  have s1 : (W.alloc (.cells (nds eF8).toArray 62)).heap.size = W.heap.size + 1 := by simp
  generalize W.alloc (.cells (nds eF8).toArray 62) = W1 at *
  have r2 := reads8 W1 eQ8 62
  have b2 := bel8 W1 (.cells (nds eQ8).toArray 62)
  have s2 : (W1.alloc (.cells (nds eQ8).toArray 62)).heap.size = W.heap.size + 1 + 1 := by simp [s1]
  generalize W1.alloc (.cells (nds eQ8).toArray 62) = W2 at *
  have r3 := reads8 W2 eP8 62
  have b3 := bel8 W2 (.cells (nds eP8).toArray 62)
  have s3 : (W2.alloc (.cells (nds eP8).toArray 62)).heap.size = W.heap.size + 1 + 1 + 1 := by simp [s2]
  generalize W2.alloc (.cells (nds eP8).toArray 62) = W3 at *
  have hh := heap_alloc_new W3 (.cells #[.slice (some ⟨W.heap.size + 1, 0, none⟩) 1 1, .slice (some ⟨W.heap.size + 1 + 1, 0, none⟩) 1 1] 22)
  have b4 := bel8 W3 (.cells #[.slice (some ⟨W.heap.size + 1, 0, none⟩) 1 1, .slice (some ⟨W.heap.size + 1 + 1, 0, none⟩) 1 1] 22)
  have s4 : (W3.alloc (.cells #[.slice (some ⟨W.heap.size + 1, 0, none⟩) 1 1, .slice (some ⟨W.heap.size + 1 + 1, 0, none⟩) 1 1] 22)).heap.size = W.heap.size + 1 + 1 + 1 + 1 := by simp [s3]
  generalize W3.alloc (.cells #[.slice (some ⟨W.heap.size + 1, 0, none⟩) 1 1, .slice (some ⟨W.heap.size + 1 + 1, 0, none⟩) 1 1] 22) = W4 at *
  rw [s1] at r2
  rw [s2] at r3
  rw [s3] at hh
  have c := Lib.cell_of_heap hh
  have r14 := ((((r1.below b2).more b2.size).below b3).more b3.size).below b4
  have r24 := (((r2.below b3).more b3.size).below b4).more b4.size
  have r34 := (r3.below b4).more b4.size
  refine ⟨r14.more b4.size, ⟨rfl, [.slice (some ⟨W.heap.size + 1, 0, none⟩) 1 1, .slice (some ⟨W.heap.size + 1 + 1, 0, none⟩) 1 1], ⟨rfl, fun _ => ⟨_, rfl, by show W.heap.size + 1 + 1 + 1 < _; omega, fun j u hj => ?_⟩⟩, fun j hj => ?_⟩, ((b1.trans (b2.mono (by omega))).trans (b3.mono (by omega))).trans (b4.mono (by omega))⟩
  · rw [addr0, c, ← hj]
    simp
  · match j, hj with
    | 0, _ => exact ⟨_, 1, rfl, r24, by show 1 ≤ maxLen; unfold maxLen; omega⟩
    | 1, _ => exact ⟨_, 1, rfl, r34, by show 1 ≤ maxLen; unfold maxLen; omega⟩
end Go.Proofs.YtkkkomkljpolbaaDoor
/- Layer 8: awake. -/
namespace Go.Proofs.YtkkkomkljpolbaaDoor
open Go.RowKit Go.Proofs.Ws Go.Maps
set_option maxRecDepth 100000
theorem up8 {W W' : World} {size n : Nat} {A : Option Addr} {xs : List Value} (h : Reads W W.heap.size size A n xs) (hb : Below W.heap.size W W') : Reads W' W'.heap.size size A n xs := (h.below hb).more hb.size
set_option maxHeartbeats 16000000 in
theorem awake8_any (w : World) (hE : EnvR w w.heap.size) : Calls Tryd.prog 15 #[] w fun e w' => e = .returned (.bool true) ∧ Below w.heap.size w w' := by
  have HE := Lib.hid hE
  clear hE
  go_enter Tryd.func15, Tryd.ntmps15
  go_wp2_with fail
  refine (ex8_any w).mono ?_
  rintro e w1 ⟨rfl, hr1, hb1⟩
  go_wp2_with fail
  refine (pNnf_any eN8 _ 5 5 w1 ((HE.out.below hb1.out).up hb1.out.size) hr1.out (by unfold maxLen; omega)).mono ?_
  rintro e w2 ⟨A2, c2, rfl, hr2, hb2⟩
  rw [ev8_0] at hr2
  rw [ev8_0, ev8_1]
  have HR2 := Lib.hid hr2
  have HB2 := Lib.hid (hb1.out.trans (hb2.mono hb1.out.size))
  clear hr2 hb2 hr1 hb1
  go_wp2_with fail
  have rS := reads8 w2 eS8 62
  have bS := bel8 w2 (.cells (nds eS8).toArray 62)
  have qS := nds_eS8
  rw [qS] at rS bS
  generalize w2.alloc (.cells [.int .i64 3, .int .i64 0, .int .i64 0, .int .i64 0, .int .i64 0, .int .i64 0, .int .i64 7, .int .i64 0, .int .i64 0, .int .i64 0, .int .i64 0, .int .i64 0, .int .i64 9, .int .i64 0, .int .i64 0, .int .i64 0, .int .i64 1, .int .i64 0, .int .i64 3, .int .i64 1, .int .i64 0, .int .i64 0, .int .i64 0, .int .i64 0, .int .i64 6, .int .i64 0, .int .i64 0, .int .i64 0, .int .i64 2, .int .i64 3].toArray 62) = w3 at *
  have HB3 := Lib.hid (HB2.out.trans (bS.mono HB2.out.size))
  rw [← qS] at rS
  refine (pSimp_any eS8 _ 5 5 w3 ((HE.out.below HB3.out).up HB3.out.size) rS (by unfold maxLen; omega)).mono ?_
  rintro e w4 ⟨A4, c4, rfl, hr4, hb4⟩
  rw [ev8_2] at hr4
  rw [ev8_2, ev8_3]
  have HR4 := Lib.hid hr4
  have HR2b := Lib.hid ((((HR2.out.below bS).more bS.size).below hb4).more hb4.size)
  have HB4 := Lib.hid (HB3.out.trans (hb4.mono HB3.out.size))
  clear hr4 hb4 rS bS qS HR2 HB2 HB3
  go_wp2_with fail
  obtain ⟨rF, lF, bF⟩ := sub8 w4
  rw [nds_eF8, nds_eQ8, nds_eP8] at rF bF lF
  generalize (((w4.alloc (.cells [.int .i64 3, .int .i64 0, .int .i64 0, .int .i64 0, .int .i64 0, .int .i64 0, .int .i64 3, .int .i64 1, .int .i64 0, .int .i64 0, .int .i64 0, .int .i64 0, .int .i64 5, .int .i64 0, .int .i64 0, .int .i64 0, .int .i64 0, .int .i64 1].toArray 62)).alloc (.cells [.int .i64 3, .int .i64 1, .int .i64 0, .int .i64 0, .int .i64 0, .int .i64 0].toArray 62)).alloc (.cells [.int .i64 3, .int .i64 0, .int .i64 0, .int .i64 0, .int .i64 0, .int .i64 0].toArray 62)).alloc (.cells #[.slice (some ⟨w4.heap.size + 1, 0, none⟩) 1 1, .slice (some ⟨w4.heap.size + 1 + 1, 0, none⟩) 1 1] 22) = w5 at *
  rw [← nds_eF8] at rF
  have HB5 := Lib.hid (HB4.out.trans (bF.mono HB4.out.size))
  refine (pSubst_any eF8 _ 3 3 [eQ8, eP8] _ 2 2 w5 ((HE.out.below HB5.out).up HB5.out.size) rF (by unfold maxLen; omega) lF (by omega)).mono ?_
  rintro e w6 ⟨A6, c6, rfl, hr6, hb6⟩
  rw [ev8_4] at hr6
  rw [ev8_4, ev8_5]
  have HR6 := Lib.hid hr6
  have HR2c := Lib.hid (up8 (up8 HR2b.out bF) hb6)
  have HR4c := Lib.hid (up8 (up8 HR4.out bF) hb6)
  have HB6 := Lib.hid (HB5.out.trans (hb6.mono HB5.out.size))
  clear hr6 hb6 rF lF bF HR2b HR4 HB4 HB5
  go_wp2_with fail
  have rS := reads8 w6 eM8 62
  have bS := bel8 w6 (.cells (nds eM8).toArray 62)
  have qS := nds_eM8
  rw [qS] at rS bS
  generalize w6.alloc (.cells [.int .i64 3, .int .i64 0, .int .i64 0, .int .i64 0, .int .i64 0, .int .i64 0, .int .i64 4, .int .i64 0, .int .i64 0, .int .i64 0, .int .i64 0, .int .i64 0].toArray 62) = w7 at *
  have HB7 := Lib.hid (HB6.out.trans (bS.mono HB6.out.size))
  rw [← qS] at rS
  refine (pClosure_any eM8 _ 2 2 w7 ((HE.out.below HB7.out).up HB7.out.size) rS (by unfold maxLen; omega) (fun _ => by decide)).mono ?_
  rintro e w8 ⟨v8, rfl, hL8, hb8⟩
  rw [ev8_6, if_pos rfl, ev8_7] at hL8
  rw [ev8_6]
  have HR6d := Lib.hid (up8 (up8 HR6.out bS) hb8)
  have HR2d := Lib.hid (up8 (up8 HR2c.out bS) hb8)
  have HR4d := Lib.hid (up8 (up8 HR4c.out bS) hb8)
  have HB8 := Lib.hid (HB7.out.trans (hb8.mono HB7.out.size))
  have HL8 := Lib.hid hL8
  obtain ⟨Av, cv, rfl, _⟩ := hL8.slice
  rw [show ([eP8, eM8] : List (List Nd)).length = 2 from rfl] at *
  clear hL8 hb8 rS bS qS HR6 HR2c HR4c HB6 HB7
  go_wp2_with fail
  have rS := reads8 w8 eM8 62
  have bS := bel8 w8 (.cells (nds eM8).toArray 62)
  have qS := nds_eM8
  rw [qS] at rS bS
  generalize w8.alloc (.cells [.int .i64 3, .int .i64 0, .int .i64 0, .int .i64 0, .int .i64 0, .int .i64 0, .int .i64 4, .int .i64 0, .int .i64 0, .int .i64 0, .int .i64 0, .int .i64 0].toArray 62) = w9 at *
  have HB9 := Lib.hid (HB8.out.trans (bS.mono HB8.out.size))
  rw [← qS] at rS
  refine (pNegate_any eM8 _ 2 2 w9 ((HE.out.below HB9.out).up HB9.out.size) rS (by unfold maxLen; omega)).mono ?_
  rintro e w10 ⟨A10, c10, rfl, hr10, hb10⟩
  rw [ev8_8] at hr10
  rw [ev8_8, ev8_9]
  have HR10 := Lib.hid hr10
  have HR6e := Lib.hid (up8 (up8 HR6d.out bS) hb10)
  have HR2e := Lib.hid (up8 (up8 HR2d.out bS) hb10)
  have HR4e := Lib.hid (up8 (up8 HR4d.out bS) hb10)
  have HL10 := Lib.hid ((HL8.out.below bS).below hb10)
  have HB10 := Lib.hid (HB9.out.trans (hb10.mono HB9.out.size))
  clear hr10 hb10 rS bS qS HR6d HR2d HR4d HL8 HB8 HB9
  go_wp2_with fail
  refine (rFact_any 0 w10).mono ?_
  rintro e u1 ⟨B1, d1, rfl, hs1, ha1⟩
  rw [ev8_10] at hs1
  rw [ev8_10]
  have HS1 := Lib.hid hs1
  have HA1 := Lib.hid ha1
  clear hs1 ha1
  go_wp2_with fail
  refine (rFact_any 1 u1).mono ?_
  rintro e u2 ⟨B2, d2, rfl, hs2, ha2⟩
  rw [ev8_11] at hs2
  rw [ev8_11]
  have HS2 := Lib.hid hs2
  have HS1b := Lib.hid (up8 HS1.out ha2)
  have HA2 := Lib.hid (HA1.out.trans (ha2.mono HA1.out.size))
  clear hs2 ha2 HS1 HA1
  go_wp2_with fail
  refine (rNot_any eQ8 B2 eQ8.length d2 u2 HS2.out (by decide)).mono ?_
  rintro e u3 ⟨B3, d3, rfl, hs3, ha3⟩
  rw [ev8_12] at hs3
  rw [ev8_12]
  have HS3 := Lib.hid hs3
  have HS1c := Lib.hid (up8 HS1b.out ha3)
  have HA3 := Lib.hid (HA2.out.trans (ha3.mono HA2.out.size))
  clear hs3 ha3 HS1b HA2 HS2
  go_wp2_with fail
  refine (rPoss_any 1 _ B3 _ d3 u3 HS3.out (by decide)).mono ?_
  rintro e u4 ⟨B4, d4, rfl, hs4, ha4⟩
  rw [ev8_14] at hs4
  rw [ev8_14]
  have HS4 := Lib.hid hs4
  have HS1d := Lib.hid (up8 HS1c.out ha4)
  have HA4 := Lib.hid (HA3.out.trans (ha4.mono HA3.out.size))
  clear hs4 ha4 HS1c HA3 HS3
  go_wp2_with fail
  refine (rAnd_any eP8 _ B1 B4 _ d1 _ d4 u4 HS1d.out (by decide) HS4.out (by decide)).mono ?_
  rintro e u5 ⟨B5, d5, rfl, hs5, ha5⟩
  rw [ev8_15] at hs5
  rw [ev8_15]
  have HS5 := Lib.hid hs5
  have HA5 := Lib.hid (HA4.out.trans (ha5.mono HA4.out.size))
  clear hs5 ha5 HS1d HA4 HS4
  have HR10f := Lib.hid (up8 HR10.out HA5.out)
  have HR6f := Lib.hid (up8 HR6e.out HA5.out)
  have HR2f := Lib.hid (up8 HR2e.out HA5.out)
  have HR4f := Lib.hid (up8 HR4e.out HA5.out)
  have HL11 := Lib.hid (HL10.out.below HA5.out)
  have HB11 := Lib.hid (HB10.out.trans (HA5.out.mono HB10.out.size))
  clear HR10 HR6e HR2e HR4e HL10 HB10 HA5
  obtain ⟨vs, hrow, hit⟩ := HL11.out.row
  obtain ⟨gl, capl, hvl, _, hltl⟩ := hrow.form (by decide)
  have hvl2 : Value.slice Av 2 cv = Value.slice (some ⟨gl, 0, none⟩) 2 capl := hvl
  injection hvl2 with q1 _ q2
  subst q1 q2
  obtain ⟨P0, p0, e0, o0⟩ := hit 0 (by decide)
  obtain ⟨P1, p1, e1, o1⟩ := hit 1 (by decide)
  have hc0 : u5.cell? ⟨gl, 0, none⟩ = some (.slice P0 eP8.length p0) := (hrow.cellAt 0 (by decide)).trans e0
  have hc1 : u5.cell? ⟨gl, 1, none⟩ = some (.slice P1 eM8.length p1) := (hrow.cellAt 1 (by decide)).trans e1
  have HO0 := Lib.hid (show Reads u5 u5.heap.size 6 P0 eP8.length (nds eP8) from Reads.of_own o0)
  have HO1 := Lib.hid (show Reads u5 u5.heap.size 6 P1 eM8.length (nds eM8) from Reads.of_own o1)
  have HSS : Hid (∀ W, Hid (Below u5.heap.size u5 W) → (W.cell? ⟨gl, 0, none⟩ = some (.slice P0 eP8.length p0) ∧ W.cell? ⟨gl, 1, none⟩ = some (.slice P1 eM8.length p1) ∧ Hid (Below u5.heap.size u5 W))) := Lib.hid (fun W h => ⟨(h.out.cell (p := ⟨gl, 0, none⟩) hltl).trans hc0, (h.out.cell (p := ⟨gl, 1, none⟩) hltl).trans hc1, h⟩)
  clear hrow hit hvl e0 e1 o0 o1 hc0 hc1 HL11
  have E1 : Hid (∀ W A' c', Hid (Below u5.heap.size u5 W) → Hid (Reads W W.heap.size 6 A' eA8.length (nds eA8)) → Calls Tryd.prog 18 #[.slice A2 eA8.length c2, .slice A' eA8.length c'] W fun e w' => e = .returned (.bool true) ∧ Hid (Below u5.heap.size u5 w')) := Lib.hid (fun W A' c' h hR => by
    have hq := rEqual_any eA8 eA8 A2 A' eA8.length eA8.length c2 c' W (up8 HR2f.out h.out) hR.out (by decide) (by decide)
    rw [show decide (eA8 = eA8) = true from by decide] at hq
    exact hq.mono (by rintro e w' ⟨rfl, hb⟩; exact ⟨rfl, Lib.hid (h.out.trans (hb.mono h.out.size))⟩))
  have T2 : Hid (∀ W, Hid (Below u5.heap.size u5 W) → Calls Tryd.prog 57 #[] W fun e w' => ∃ A' c', e = .returned (.slice A' eT8.length c') ∧ Hid (Reads w' w'.heap.size 6 A' eT8.length (nds eT8)) ∧ Hid (Below u5.heap.size u5 w') ∧ Hid (Below W.heap.size W w')) := Lib.hid (fun W h => by
    have hq := rTrue_any W
    rw [ev8_17] at hq
    exact hq.mono (by rintro e w' ⟨A', c', rfl, hR, hb⟩; exact ⟨A', c', rfl, Lib.hid hR, Lib.hid (h.out.trans (hb.mono h.out.size)), Lib.hid hb⟩))
  have E2 : Hid (∀ W A' c', Hid (Below u5.heap.size u5 W) → Hid (Reads W W.heap.size 6 A' eT8.length (nds eT8)) → Calls Tryd.prog 18 #[.slice A4 eT8.length c4, .slice A' eT8.length c'] W fun e w' => e = .returned (.bool true) ∧ Hid (Below u5.heap.size u5 w')) := Lib.hid (fun W A' c' h hR => by
    have hq := rEqual_any eT8 eT8 A4 A' eT8.length eT8.length c4 c' W (up8 HR4f.out h.out) hR.out (by decide) (by decide)
    rw [show decide (eT8 = eT8) = true from by decide] at hq
    exact hq.mono (by rintro e w' ⟨rfl, hb⟩; exact ⟨rfl, Lib.hid (h.out.trans (hb.mono h.out.size))⟩))
  have F1 : Hid (∀ W, Hid (Below u5.heap.size u5 W) → Calls Tryd.prog 54 #[.int .i64 1] W fun e w' => ∃ A' c', e = .returned (.slice A' eQ8.length c') ∧ Hid (Reads w' w'.heap.size 6 A' eQ8.length (nds eQ8)) ∧ Hid (Below u5.heap.size u5 w') ∧ Hid (Below W.heap.size W w')) := Lib.hid (fun W h => by
    have hq := rFact_any 1 W
    rw [ev8_11] at hq
    exact hq.mono (by rintro e w' ⟨A', c', rfl, hR, hb⟩; exact ⟨A', c', rfl, Lib.hid hR, Lib.hid (h.out.trans (hb.mono h.out.size)), Lib.hid hb⟩))
  have F0 : Hid (∀ W, Hid (Below u5.heap.size u5 W) → Calls Tryd.prog 54 #[.int .i64 0] W fun e w' => ∃ A' c', e = .returned (.slice A' eP8.length c') ∧ Hid (Reads w' w'.heap.size 6 A' eP8.length (nds eP8)) ∧ Hid (Below u5.heap.size u5 w') ∧ Hid (Below W.heap.size W w')) := Lib.hid (fun W h => by
    have hq := rFact_any 0 W
    rw [ev8_10] at hq
    exact hq.mono (by rintro e w' ⟨A', c', rfl, hR, hb⟩; exact ⟨A', c', rfl, Lib.hid hR, Lib.hid (h.out.trans (hb.mono h.out.size)), Lib.hid hb⟩))
  have AN : Hid (∀ W A1 c1 A2 c2, Hid (Below u5.heap.size u5 W) → Hid (Reads W W.heap.size 6 A1 eQ8.length (nds eQ8)) → Hid (Reads W W.heap.size 6 A2 eP8.length (nds eP8)) → Calls Tryd.prog 53 #[.slice A1 eQ8.length c1, .slice A2 eP8.length c2] W fun e w' => ∃ A' c', e = .returned (.slice A' eR8.length c') ∧ Hid (Reads w' w'.heap.size 6 A' eR8.length (nds eR8)) ∧ Hid (Below u5.heap.size u5 w')) := Lib.hid (fun W A1 c1 A2 c2 h h1 h2 => by
    have hq := rAnd_any eQ8 eP8 A1 A2 _ c1 _ c2 W h1.out (by decide) h2.out (by decide)
    rw [ev8_16] at hq
    exact hq.mono (by rintro e w' ⟨A', c', rfl, hR, hb⟩; exact ⟨A', c', rfl, Lib.hid hR, Lib.hid (h.out.trans (hb.mono h.out.size))⟩))
  have E3 : Hid (∀ W A' c', Hid (Below u5.heap.size u5 W) → Hid (Reads W W.heap.size 6 A' eR8.length (nds eR8)) → Calls Tryd.prog 18 #[.slice A6 eR8.length c6, .slice A' eR8.length c'] W fun e w' => e = .returned (.bool true) ∧ Hid (Below u5.heap.size u5 w')) := Lib.hid (fun W A' c' h hR => by
    have hq := rEqual_any eR8 eR8 A6 A' eR8.length eR8.length c6 c' W (up8 HR6f.out h.out) hR.out (by decide) (by decide)
    rw [show decide (eR8 = eR8) = true from by decide] at hq
    exact hq.mono (by rintro e w' ⟨rfl, hb⟩; exact ⟨rfl, Lib.hid (h.out.trans (hb.mono h.out.size))⟩))
  have E4 : Hid (∀ W A' c', Hid (Below u5.heap.size u5 W) → Hid (Reads W W.heap.size 6 A' eP8.length (nds eP8)) → Calls Tryd.prog 18 #[.slice P0 eP8.length p0, .slice A' eP8.length c'] W fun e w' => e = .returned (.bool true) ∧ Hid (Below u5.heap.size u5 w')) := Lib.hid (fun W A' c' h hR => by
    have hq := rEqual_any eP8 eP8 P0 A' eP8.length eP8.length p0 c' W (up8 HO0.out h.out) hR.out (by decide) (by decide)
    rw [show decide (eP8 = eP8) = true from by decide] at hq
    exact hq.mono (by rintro e w' ⟨rfl, hb⟩; exact ⟨rfl, Lib.hid (h.out.trans (hb.mono h.out.size))⟩))
  have NO : Hid (∀ W A1 c1, Hid (Below u5.heap.size u5 W) → Hid (Reads W W.heap.size 6 A1 eP8.length (nds eP8)) → Calls Tryd.prog 56 #[.slice A1 eP8.length c1] W fun e w' => ∃ A' c', e = .returned (.slice A' eM8.length c') ∧ Hid (Reads w' w'.heap.size 6 A' eM8.length (nds eM8)) ∧ Hid (Below u5.heap.size u5 w')) := Lib.hid (fun W A1 c1 h h1 => by
    have hq := rNot_any eP8 A1 _ c1 W h1.out (by decide)
    rw [ev8_13] at hq
    exact hq.mono (by rintro e w' ⟨A', c', rfl, hR, hb⟩; exact ⟨A', c', rfl, Lib.hid hR, Lib.hid (h.out.trans (hb.mono h.out.size))⟩))
  have E5 : Hid (∀ W A' c', Hid (Below u5.heap.size u5 W) → Hid (Reads W W.heap.size 6 A' eM8.length (nds eM8)) → Calls Tryd.prog 18 #[.slice P1 eM8.length p1, .slice A' eM8.length c'] W fun e w' => e = .returned (.bool true) ∧ Hid (Below u5.heap.size u5 w')) := Lib.hid (fun W A' c' h hR => by
    have hq := rEqual_any eM8 eM8 P1 A' eM8.length eM8.length p1 c' W (up8 HO1.out h.out) hR.out (by decide) (by decide)
    rw [show decide (eM8 = eM8) = true from by decide] at hq
    exact hq.mono (by rintro e w' ⟨rfl, hb⟩; exact ⟨rfl, Lib.hid (h.out.trans (hb.mono h.out.size))⟩))
  have E6 : Hid (∀ W A' c', Hid (Below u5.heap.size u5 W) → Hid (Reads W W.heap.size 6 A' eP8.length (nds eP8)) → Calls Tryd.prog 18 #[.slice A10 eP8.length c10, .slice A' eP8.length c'] W fun e w' => e = .returned (.bool true) ∧ Hid (Below u5.heap.size u5 w')) := Lib.hid (fun W A' c' h hR => by
    have hq := rEqual_any eP8 eP8 A10 A' eP8.length eP8.length c10 c' W (up8 HR10f.out h.out) hR.out (by decide) (by decide)
    rw [show decide (eP8 = eP8) = true from by decide] at hq
    exact hq.mono (by rintro e w' ⟨rfl, hb⟩; exact ⟨rfl, Lib.hid (h.out.trans (hb.mono h.out.size))⟩))
  have HD0 := HSS.out u5.drew (Lib.hid (Below.refl _ u5).drew)
  obtain ⟨hd0, hd1, hd2⟩ := HD0
  have HS5d : Hid (Reads u5.drew u5.drew.heap.size 6 B5 eA8.length (nds eA8)) := Lib.hid HS5.out
  have tokE1 : True := trivial
  have tokT2 : True := trivial
  have tokE2 : True := trivial
  have tokF1 : True := trivial
  have tokF0 : True := trivial
  have tokAN : True := trivial
  have tokE3 : True := trivial
  have tokF0b : True := trivial
  have tokE4 : True := trivial
  have tokF0c : True := trivial
  have tokNO : True := trivial
  have tokE5 : True := trivial
  have tokF0d : True := trivial
  have tokE6 : True := trivial
  go_wp2_with fail
  go_region_held3 (fun W => (W.cell? ⟨gl, 0, none⟩ = some (.slice P0 eP8.length p0) ∧ W.cell? ⟨gl, 1, none⟩ = some (.slice P1 eM8.length p1) ∧ Hid (Below u5.heap.size u5 W))) (first | assumption | (refine ⟨?_, ?_, ?_⟩ <;> assumption) | exact HSS.out _ (by assumption)) (first
    | (have _t := tokE1; go_at_call 18; refine (E1.out _ _ _ (by assumption) HS5d).mono ?_; rintro e W' ⟨rfl, hbq⟩; clear tokE1 _t)
    | (have _t := tokT2; go_at_call 57; refine (T2.out _ (by assumption)).mono ?_; rintro e W' ⟨At, ct, rfl, HRt, hbq, _⟩; clear tokT2 _t)
    | (have _t := tokE2; go_at_call 18; refine (E2.out _ _ _ (by assumption) HRt).mono ?_; rintro e W' ⟨rfl, hbq⟩; clear tokE2 _t)
    | (have _t := tokF1; go_at_call 54; refine (F1.out _ (by assumption)).mono ?_; rintro e W' ⟨Aq, cq, rfl, HRq, hbq, _⟩; clear tokF1 _t)
    | (have _t := tokF0; go_at_call 54; refine (F0.out _ (by assumption)).mono ?_; rintro e W' ⟨Ap, cp, rfl, HRp, hbq, hbp⟩; clear tokF0 _t)
    | (have _t := tokAN; go_at_call 53; refine (AN.out _ _ _ _ _ (by assumption) (Lib.hid (up8 HRq.out hbp.out)) HRp).mono ?_; rintro e W' ⟨An, cn, rfl, HRn, hbq⟩; clear tokAN _t)
    | (have _t := tokE3; go_at_call 18; refine (E3.out _ _ _ (by assumption) HRn).mono ?_; rintro e W' ⟨rfl, hbq⟩; clear tokE3 _t)
    | (have _t := tokF0b; go_at_call 54; refine (F0.out _ (by assumption)).mono ?_; rintro e W' ⟨Ab, cb, rfl, HRb, hbq, _⟩; clear tokF0b _t)
    | (have _t := tokE4; go_at_call 18; refine (E4.out _ _ _ (by assumption) HRb).mono ?_; rintro e W' ⟨rfl, hbq⟩; clear tokE4 _t)
    | (have _t := tokF0c; go_at_call 54; refine (F0.out _ (by assumption)).mono ?_; rintro e W' ⟨Ac, cc, rfl, HRc, hbq, _⟩; clear tokF0c _t)
    | (have _t := tokNO; go_at_call 56; refine (NO.out _ _ _ (by assumption) HRc).mono ?_; rintro e W' ⟨Ao, co, rfl, HRo, hbq⟩; clear tokNO _t)
    | (have _t := tokE5; go_at_call 18; refine (E5.out _ _ _ (by assumption) HRo).mono ?_; rintro e W' ⟨rfl, hbq⟩; clear tokE5 _t)
    | (have _t := tokF0d; go_at_call 54; refine (F0.out _ (by assumption)).mono ?_; rintro e W' ⟨Af, cf, rfl, HRf, hbq, _⟩; clear tokF0d _t)
    | (have _t := tokE6; go_at_call 18; refine (E6.out _ _ _ (by assumption) HRf).mono ?_; rintro e W' ⟨rfl, hbq⟩; clear tokE6 _t))
  all_goals go_wp2
  all_goals go_ret
  all_goals exact ⟨rfl, HB11.out.trans (hbq.out.mono HB11.out.size)⟩
end Go.Proofs.YtkkkomkljpolbaaDoor
/- Layer 8: what the rows list, and what it gives the walks; a list of nodes that came in. -/
namespace Go.Proofs.YtkkkomkljpolbaaDoor.rwl
open Go.ChangeShapes Go.WideShapes Go.ChangeAt Go.RowKit Go.Proofs.Ws Go.Deep
set_option maxRecDepth 100000
def LL8 : List (String × DataW Unit) := Rows.rewriteSimplifyRow.laid
theorem own : ownKnob Tryd.prog.godebug = none := by kernel_rfl
theorem laidOut : laidOutB Tryd.prog = true := by kernel_rfl
theorem lt_of_cell {W : World} (a : Addr) (v : Value) (hv : W.cell? a = some v) : a.block < W.heap.size := by
  rcases Nat.lt_or_ge a.block W.heap.size with h' | h'
  · exact h'
  · simp [World.cell?, Array.getElem?_eq_none h'] at hv
def opsD : List Int := [0, 0, 0, 0, 1, 2, 2, 2, 2, 1, 1, 1, 1, 2, 2, 1, 2, 1, 1, 2, 1, 2]
def dlsD : List Int := [0, 2, 1, 0, 0, 6, 5, 0, 0, 10, 9, 0, 0, 0, 0, 0, 0, 0, 0, 0, 0, 0]
theorem opsD_eq : (Rows.laid_witting_rewrite_operands : DataW Unit) = .agg (opsD.map (fun k => .lit (.int .i64 k))) := by kernel_rfl
theorem dlsD_eq : (Rows.laid_witting_rewrite_duals : DataW Unit) = .agg (dlsD.map (fun k => .lit (.int .i64 k))) := by kernel_rfl
theorem ints_of {W : World} {name : String} {g : Nat} {l : List Int} (hg : Tryd.prog.globalNamed name = some g) (ht : (Tryd.prog.globals[g]?).map (·.type) = some 113) (hl22 : l.length = 22)
    (h : Lib.VarReads Tryd.prog W name (.agg (l.map (fun k => .lit (.int .i64 k))))) : ∀ k, k < 22 → W.cell? ⟨g, k, none⟩ = some (.int .i64 (l.getD k 0)) := by
  obtain ⟨g', t, cs, fuel, p, h1, h2, h3, h4⟩ := h
  obtain rfl := Option.some.inj (hg.symm.trans h1)
  obtain rfl := Option.some.inj (ht.symm.trans h2)
  have hcell := World.var?_cell hg h3
  obtain ⟨xs, m, rfl, hx, hl, hxl, hf⟩ := DataW.trod_array Tryd.underlying113 h4
  have hc : Tryd.prog.cellsOf 3 = 1 := by kernel_rfl
  have hc22 : Tryd.prog.cellsOf 113 = 22 := by kernel_rfl
  rw [hc] at hf
  rw [hc22] at hl
  simp only [Prod.mk.injEq, DataW.agg.injEq] at hx
  intro k hk
  have hfi := hf k hk
  rw [Nat.mul_one, List.drop_eq_getElem_cons (by omega), List.take_succ_cons, List.take_zero, List.getElem?_eq_getElem (by omega)] at hfi
  obtain ⟨z, hz, hz2, _⟩ := DataW.trod_int Tryd.underlying3 hfi
  have hd : (xs.map (·.1))[k]? = some (xs[k]).1 := by rw [List.getElem?_map, List.getElem?_eq_getElem (by omega)]; rfl
  rw [← hx.1, List.getElem?_map, List.getElem?_eq_getElem (by omega)] at hd
  simp only [Option.map_some, Option.some.injEq] at hd
  rw [hz2] at hd
  simp only [DataW.lit.injEq, Lit.int.injEq, true_and] at hd
  have h0 := hcell k
  rw [← Array.getElem?_toList, List.getElem?_eq_getElem (by omega)] at h0
  injection hz with hz
  have e : l.getD k 0 = z := by rw [List.getD_eq_getElem?_getD, List.getElem?_eq_getElem (by omega)]; exact hd
  rw [e, ← hz]
  exact h0
theorem env_of {W : World} (h : laidMetH Tryd.prog LL8 W) : EnvR W W.heap.size := by
  rw [MakeChecks.laidMetH_plain _ _ _ (by kernel_rfl)] at h
  have m1 : ("witting/rewrite.operands", (Rows.laid_witting_rewrite_operands : DataW Unit)) ∈ LL8 := by
    show _ ∈ [("witting/rewrite.operands", Rows.laid_witting_rewrite_operands), ("witting/rewrite.duals", Rows.laid_witting_rewrite_duals)]
    exact .head _
  have m2 : ("witting/rewrite.duals", (Rows.laid_witting_rewrite_duals : DataW Unit)) ∈ LL8 := by
    show _ ∈ [("witting/rewrite.operands", Rows.laid_witting_rewrite_operands), ("witting/rewrite.duals", Rows.laid_witting_rewrite_duals)]
    exact .tail _ (.head _)
  have r1 := Lib.laidMet.reads h m1
  have r2 := Lib.laidMet.reads h m2
  rw [opsD_eq] at r1
  rw [dlsD_eq] at r2
  have c1 := ints_of (g := 1) (by kernel_rfl) (by kernel_rfl) rfl r1
  have c2 := ints_of (g := 2) (by kernel_rfl) (by kernel_rfl) rfl r2
  have e1 : ∀ k : Nat, k < 22 → opsD.getD k 0 = shO (k : Int) := by decide
  have e2 : ∀ k : Nat, k < 22 → dlsD.getD k 0 = dualOf (k : Int) := by decide
  refine ⟨fun k hk => by rw [c1 k hk, e1 k hk], fun k hk => by rw [c2 k hk, e2 k hk], lt_of_cell ⟨1, 0, none⟩ _ (c1 0 (by omega)), lt_of_cell ⟨2, 0, none⟩ _ (c2 0 (by omega))⟩
noncomputable def laidW (os : Os) : World := World.laidAll Tryd.prog os LL8
theorem laidW_os (os : Os) : (laidW os).os = os := World.laidAll_os _ _ _
theorem laid_met (os : Os) (args : Array Value) : laidMet Tryd.prog LL8 ((laidW os).forCall (fun _ _ => 0) ⟨#[], args, []⟩).memory :=
  laidMet_laidAll _ (by kernel_rfl) (by kernel_rfl)
theorem vars_ok (os : Os) (args : Array Value) : ((laidW os).forCall (fun _ _ => 0) ⟨#[], args, []⟩).variablesRefB Tryd.prog = true := by kernel_rfl
theorem heap_ok (os : Os) (args : Array Value) : (((laidW os).forCall (fun _ _ => 0) ⟨#[], args, []⟩).heap.toList.drop Tryd.prog.globals.size).take ((begin Tryd.prog (fun _ _ => 0) default).world.heap.size - Tryd.prog.globals.size) =
      (begin Tryd.prog (fun _ _ => 0) default).world.heap.toList.drop Tryd.prog.globals.size := by kernel_rfl
theorem no_looks : false = Tryd.pinned.checked.prog.looks [] := by kernel_rfl
/-- what the row's opening says of a slice of nodes: it is nil, or its first elements are nodes -/
def NdRow (w : World) (a : Option Addr) (len cap : Nat) (l : List Nd) : Prop :=
  Reads w w.heap.size 6 a len (nds l) ∧ (∀ n ∈ l, NdW n) ∧ len ≤ cap ∧ len ≤ maxLen
section
variable {H : Type} {enc : TypeId × Value → H} {w : World} {base : Nat} {spare : Nat → Bool} {held : Bool}
theorem field_int {n' : Nat} {cs : List Value} {xs : List (DataW H × List MemPlace)} {j : Nat} (hl : cs.length = 6) (hj : j < 6) (hx : j < xs.length)
    (h : DataW.trod enc Tryd.prog w base spare held n' 3 ((cs.drop j).take (Tryd.prog.cellsOf 3)) = xs[j]?) : ∃ z : Int, cs[j]? = some (.int .i64 z) ∧ (Lit.int .i64 z).wf = true := by
  rw [intCells, List.drop_eq_getElem_cons (by omega), List.take_succ_cons, List.take_zero, List.getElem?_eq_getElem hx] at h
  obtain ⟨z, hz, _, hw⟩ := DataW.trod_int Tryd.underlying3 h
  refine ⟨z, ?_, hw⟩
  rw [List.getElem?_eq_getElem (by omega)]
  injection hz with hz
  rw [hz]
set_option maxRecDepth 100000 in
theorem one_node {n' : Nat} {cs : List Value} {x : DataW H × List MemPlace} (h : DataW.trod enc Tryd.prog w base spare held n' 62 cs = some x) : ∃ n : Nd, cs = ndC n ∧ NdW n := by
  obtain ⟨xs, m, _, _, hl, hxl, hf⟩ := DataW.trod_struct Tryd.underlying62 h
  rw [nodeCells] at hl
  have hx6 : xs.length = 6 := hxl
  obtain ⟨z0, c0, w0⟩ := field_int (j := 0) hl (by decide) (by omega) (hf 0 _ rfl)
  obtain ⟨z1, c1, w1⟩ := field_int (j := 1) hl (by decide) (by omega) (hf 1 _ rfl)
  obtain ⟨z2, c2, w2⟩ := field_int (j := 2) hl (by decide) (by omega) (hf 2 _ rfl)
  obtain ⟨z3, c3, w3⟩ := field_int (j := 3) hl (by decide) (by omega) (hf 3 _ rfl)
  obtain ⟨z4, c4, w4⟩ := field_int (j := 4) hl (by decide) (by omega) (hf 4 _ rfl)
  obtain ⟨z5, c5, w5⟩ := field_int (j := 5) hl (by decide) (by omega) (hf 5 _ rfl)
  refine ⟨⟨z0, z1, z2, z3, z4, z5⟩, ?_, ⟨w0, w1, w2, w3, w4, w5⟩⟩
  match cs, hl with
  | [a, b, c, d, e, f], _ =>
    simp at c0 c1 c2 c3 c4 c5
    simp [ndC, c0, c1, c2, c3, c4, c5]
theorem open_nodes {fuel : Nat} {A : Option Addr} {n c : Nat} {x : DataW H × List MemPlace} (h : DataW.trod enc Tryd.prog w base spare held fuel 22 [.slice A n c] = some x) : ∃ l, NdRow w A n c l := by
  rcases open_slice Tryd.underlying22 h with ⟨hcs, _⟩ | ⟨a, len, cap, m, n', D, Pl, hcs, hb, hl, hm, hmm, _, hi⟩
  · simp at hcs
    obtain ⟨rfl, rfl, rfl⟩ := hcs
    exact ⟨[], Reads.none_, fun n hn => absurd hn (by simp), Nat.le_refl _, Nat.zero_le _⟩
  · simp at hcs
    obtain ⟨rfl, rfl, rfl⟩ := hcs
    have hlm : n ≤ m := by rw [hmm]; split <;> omega
    have hex : ∀ i, i < n → ∃ nd : Nd, (∀ j, j < 6 → w.cell? (a.add (i * 6 + j)) = (ndC nd)[j]?) ∧ NdW nd := fun i hin => by
      obtain ⟨cs', h1, h2⟩ := hi i (by omega)
      obtain ⟨nd, hc, hw⟩ := one_node h2
      obtain ⟨_, _, h3⟩ := World.cells?_some h1
      rw [nodeCells] at h3
      refine ⟨nd, fun j hj => ?_, hw⟩
      have := h3 j hj
      rw [add_of_add, hc] at this
      exact this
    obtain ⟨g, hg⟩ : ∃ g : Nat → Nd, ∀ i, i < n → (∀ j, j < 6 → w.cell? (a.add (i * 6 + j)) = (ndC (g i))[j]?) ∧ NdW (g i) :=
      ⟨fun i => if hi : i < n then Classical.choose (hex i hi) else nd0, fun i hin => by dsimp only; rw [dif_pos hin]; exact Classical.choose_spec (hex i hin)⟩
    refine ⟨(List.range n).map g, ⟨by rw [nds_length]; simp, fun h0 => ⟨a, rfl, ?_, fun j u hu => ?_⟩⟩, fun nd hn => ?_, hl, by omega⟩
    · have h1 := (hg 0 h0).1 0 (by decide)
      rw [show (0 : Nat) * 6 + 0 = 0 from rfl] at h1
      rcases Nat.lt_or_ge (a.add 0).block w.heap.size with h' | h'
      · rwa [block_of_add] at h'
      · simp [World.cell?, Array.getElem?_eq_none h', ndC] at h1
    · have hj : j < n * 6 := by
        have := (List.getElem?_eq_some_iff.1 hu).1
        rw [nds_length] at this
        simpa using this
      have hq := nds_at ((List.range n).map g) (j / 6) (j % 6) (by simp; omega) (by omega)
      rw [show j / 6 * 6 + j % 6 = j from by omega] at hq
      have hgd : ((List.range n).map g).getD (j / 6) nd0 = g (j / 6) := by simp [show j / 6 < n by omega]
      rw [hgd] at hq
      rw [hu] at hq
      have h1 := (hg (j / 6) (by omega)).1 (j % 6) (by omega)
      rw [show j / 6 * 6 + j % 6 = j from by omega] at h1
      rw [h1, ← hq]
    · obtain ⟨i, hin, rfl⟩ := List.mem_map.1 hn
      exact (hg i (List.mem_range.1 hin)).2
end
end Go.Proofs.YtkkkomkljpolbaaDoor.rwl
