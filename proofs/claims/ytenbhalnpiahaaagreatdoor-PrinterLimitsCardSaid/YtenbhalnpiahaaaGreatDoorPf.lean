/- Layer 6: texts joined: Xae Xad Xaf. -/
import Derived.Test.YtenbhalnpiahaaaGreatDoorJf
import Derived.Test.YtenbhalnpiahaaaGreatDoorJl
import Derived.Test.YtenbhalnpiahaaaGreatDoorPe
import Derived.Test.YtenbhalnpiahaaaGreatDoorCards
import Derived.Test.YtenbhalnpiahaaaGreatDoorTie
import Derived.ProofKit
import Derived.OpenShut
import Derived.LaidMore
import Derived.Lay
import Derived.Lib.LaidU8
import Derived.Lib.SmallJoins
import Derived.SliceStrings
import Derived.Shelf.Vars
import Derived.Deep.DeepHandedRow
import Derived.Deep.DeepWitnessRowRef
import Derived.SevenTiedAt
import Derived.Deep.Slices
import Derived.Deep.Fields
import Derived.ChangeSame
/- Layer 7: the examples. -/
namespace Go.Proofs.YtenbhalnpiahaaaGreatDoor
open Go.RowKit Go.Proofs.Ws
set_option maxRecDepth 100000 in
set_option maxHeartbeats 4000000 in
theorem kNames_any (w : World) : Calls Tryz.prog 50 #[] w fun e w' => ∃ g0 g1 g2 : Nat, e = .returned (.agg #[.slice (some ⟨g0, 0, none⟩) 2 2, .slice (some ⟨g1, 0, none⟩) 3 3, .slice (some ⟨g2, 0, none⟩) 1 1]) ∧
    SigR w' w'.heap.size (.agg #[.slice (some ⟨g0, 0, none⟩) 2 2, .slice (some ⟨g1, 0, none⟩) 3 3, .slice (some ⟨g2, 0, none⟩) 1 1]) exA exF exX ∧ Below w.heap.size w w' := by
  have Q := Lib.hid (three_at w #[.slice (some ⟨w.heap.size + 1, 0, none⟩) 2 2, .slice (some ⟨w.heap.size + 1 + 1, 0, none⟩) 3 3, .slice (some ⟨w.heap.size + 1 + 1 + 1, 0, none⟩) 1 1] #[.string ⟨#[97]⟩, .string ⟨#[98]⟩] #[.string ⟨#[112]⟩, .string ⟨#[113]⟩, .string ⟨#[114]⟩] #[.string ⟨#[116, 101, 108, 108]⟩] 24 9 9 9)
  go_enter Tryz.func50, Tryz.ntmps50
  go_wp2
  (try simp only [Exit.inBlock, Exit.then])
  refine bodyPost_ret (results_cell_row rfl _ _ w.heap.size _ _ (0, 0) _ rfl Q.out.1 Tryz.underlying24 rfl (by kernel_rfl)) rfl ?_
  obtain ⟨_, r1, r2, r3, hb⟩ := Q.out
  exact ⟨_, _, _, rfl, ⟨_, _, _, _, _, _, _, _, _, rfl, sl_of' (l := exA) r1 rfl (by omega) (by decide), sl_of' (l := exF) r2 rfl (by omega) (by decide), sl_of' (l := exX) r3 rfl (by omega) (by decide)⟩, hb⟩
set_option maxRecDepth 100000 in
set_option maxHeartbeats 4000000 in
theorem kPrints_any (t want : ByteArray) (ht : t.size ≤ maxLen) (h1 : (parseV exA exF exX t).err = 0) (h2 : printV exA exF exX (parseV exA exF exX t).nodes = (want, 0)) (w : World) (hE : EnvP w) :
    Calls Tryz.prog 26 #[.string t, .string want] w fun e w' => e = .returned (.bool true) ∧ Below w.heap.size w w' := by
  have HE : Hid (∀ W, Below w.heap.size w W → EnvP W) := Lib.hid (fun W h => hE.below h)
  have HB := Lib.hid (Below.refl w.heap.size w)
  have HP := Lib.hid (fun a0 n0 c0 a1 n1 c1 a2 n2 c2 W (hS : SigR W W.heap.size (.agg #[.slice a0 n0 c0, .slice a1 n1 c1, .slice a2 n2 c2]) exA exF exX) (hE : EnvS W) => kParse_own a0 n0 c0 a1 n1 c1 a2 n2 c2 exA exF exX t W hS hE ht)
  have HQ := Lib.hid (fun a0 n0 c0 a1 n1 c1 a2 n2 c2 af nf cf W (hS : SigR W W.heap.size (.agg #[.slice a0 n0 c0, .slice a1 n1 c1, .slice a2 n2 c2]) exA exF exX) (hE : EnvP W) hR hm => pPrint_any a0 n0 c0 a1 n1 c1 a2 n2 c2 exA exF exX (parseV exA exF exX t).nodes af nf cf W hS hE hR hm)
  have hq : (want.toList == want.toList) = true := beq_self_eq_true _
  rw [h1] at HP
  rw [h2] at HQ
  have hln : (parseV exA exF exX t).nodes.length ≤ maxLen := by
    have h4 := (fErr_ok (parse_named h1).2.1).2.1
    unfold maxLen; omega
  generalize (parseV exA exF exX t).nodes = l at *
  generalize (parseV exA exF exX t).pos = po at *
  clear hE h1 h2
  go_enter Tryz.func26, Tryz.ntmps26
  go_wp2_with fail
  refine (kNames_any _).mono ?_
  rintro e v1 ⟨g0, g1, g2, rfl, hS, hb⟩
  replace HB := Lib.hid (HB.out.trans (hb.mono HB.out.size))
  have HS := Lib.hid hS
  clear hS hb
  go_wp2_with fail
  refine (HP.out _ _ _ _ _ _ _ _ _ _ HS.out (HE.out _ HB.out).1).mono ?_
  rintro e u1 ⟨A1, c1, rfl, hO, hb⟩
  replace HB := Lib.hid (HB.out.trans (hb.mono HB.out.size))
  have HR := Lib.hid (Reads.of_own hO)
  clear hO hb HS HP
  go_wp2_with fail
  refine (kNames_any _).mono ?_
  rintro e v2 ⟨g3, g4, g5, rfl, hS, hb⟩
  have HR2 := Lib.hid ((HR.out.below hb).more hb.size)
  replace HB := Lib.hid (HB.out.trans (hb.mono HB.out.size))
  have HS := Lib.hid hS
  clear hS hb HR
  go_wp2_with fail
  refine (HQ.out _ _ _ _ _ _ _ _ _ _ _ _ _ HS.out (HE.out _ HB.out) HR2.out hln).mono ?_
  rintro e u2 ⟨rfl, hb⟩
  replace HB := Lib.hid (HB.out.trans (hb.mono HB.out.size))
  clear hb HQ HS HR2
  go_wp2
  go_ret
  exact ⟨by first | rfl | simp [hq], HB.out⟩
theorem pe0 : (parseV exA exF exX ⟨#[40, 40, 112, 32, 38, 32, 113, 41, 32, 38, 32, 40, 114, 41, 41]⟩).err = 0 := by decide +kernel
theorem pv0 : printV exA exF exX (parseV exA exF exX ⟨#[40, 40, 112, 32, 38, 32, 113, 41, 32, 38, 32, 40, 114, 41, 41]⟩).nodes = (⟨#[112, 32, 38, 32, 113, 32, 38, 32, 114]⟩, 0) := by decide +kernel
theorem pe1 : (parseV exA exF exX ⟨#[112, 32, 38, 32, 40, 113, 32, 38, 32, 114, 41]⟩).err = 0 := by decide +kernel
theorem pv1 : printV exA exF exX (parseV exA exF exX ⟨#[112, 32, 38, 32, 40, 113, 32, 38, 32, 114, 41]⟩).nodes = (⟨#[112, 32, 38, 32, 40, 113, 32, 38, 32, 114, 41]⟩, 0) := by decide +kernel
theorem pe2 : (parseV exA exF exX ⟨#[40, 112, 32, 45, 62, 32, 113, 41, 32, 45, 62, 32, 40, 113, 32, 45, 62, 32, 114, 41]⟩).err = 0 := by decide +kernel
theorem pv2 : printV exA exF exX (parseV exA exF exX ⟨#[40, 112, 32, 45, 62, 32, 113, 41, 32, 45, 62, 32, 40, 113, 32, 45, 62, 32, 114, 41]⟩).nodes = (⟨#[40, 112, 32, 45, 62, 32, 113, 41, 32, 45, 62, 32, 113, 32, 45, 62, 32, 114]⟩, 0) := by decide +kernel
theorem pe3 : (parseV exA exF exX ⟨#[126, 40, 75, 91, 97, 93, 40, 112, 32, 124, 32, 113, 41, 41]⟩).err = 0 := by decide +kernel
theorem pv3 : printV exA exF exX (parseV exA exF exX ⟨#[126, 40, 75, 91, 97, 93, 40, 112, 32, 124, 32, 113, 41, 41]⟩).nodes = (⟨#[126, 75, 91, 97, 93, 40, 112, 32, 124, 32, 113, 41]⟩, 0) := by decide +kernel
theorem pe4 : (parseV exA exF exX ⟨#[67, 91, 97, 44, 98, 124, 112, 32, 38, 32, 113, 93, 114]⟩).err = 0 := by decide +kernel
theorem pv4 : printV exA exF exX (parseV exA exF exX ⟨#[67, 91, 97, 44, 98, 124, 112, 32, 38, 32, 113, 93, 114]⟩).nodes = (⟨#[67, 91, 97, 44, 98, 124, 112, 32, 38, 32, 113, 93, 114]⟩, 0) := by decide +kernel
theorem pe5 : (parseV exA exF exX ⟨#[67, 91, 97, 124, 116, 114, 117, 101, 93, 112]⟩).err = 0 := by decide +kernel
theorem pv5 : printV exA exF exX (parseV exA exF exX ⟨#[67, 91, 97, 124, 116, 114, 117, 101, 93, 112]⟩).nodes = (⟨#[67, 91, 97, 93, 112]⟩, 0) := by decide +kernel
theorem pe6 : (parseV exA exF exX ⟨#[91, 33, 112, 93, 40, 113, 32, 60, 45, 62, 32, 114, 41]⟩).err = 0 := by decide +kernel
theorem pv6 : printV exA exF exX (parseV exA exF exX ⟨#[91, 33, 112, 93, 40, 113, 32, 60, 45, 62, 32, 114, 41]⟩).nodes = (⟨#[91, 33, 112, 93, 40, 113, 32, 60, 45, 62, 32, 114, 41]⟩, 0) := by decide +kernel
theorem pe7 : (parseV exA exF exX ⟨#[110, 101, 120, 116, 32, 40, 112, 32, 117, 110, 116, 105, 108, 32, 113, 41]⟩).err = 0 := by decide +kernel
theorem pv7 : printV exA exF exX (parseV exA exF exX ⟨#[110, 101, 120, 116, 32, 40, 112, 32, 117, 110, 116, 105, 108, 32, 113, 41]⟩).nodes = (⟨#[110, 101, 120, 116, 32, 40, 112, 32, 117, 110, 116, 105, 108, 32, 113, 41]⟩, 0) := by decide +kernel
theorem pe8 : (parseV exA exF exX ⟨#[91, 116, 101, 108, 108, 46, 49, 93, 126, 112]⟩).err = 0 := by decide +kernel
theorem pv8 : printV exA exF exX (parseV exA exF exX ⟨#[91, 116, 101, 108, 108, 46, 49, 93, 126, 112]⟩).nodes = (⟨#[91, 116, 101, 108, 108, 46, 49, 93, 126, 112]⟩, 0) := by decide +kernel
set_option maxRecDepth 100000 in
set_option maxHeartbeats 8000000 in
theorem awakeP_any (w : World) (hE : EnvP w) : Calls Tryz.prog 11 #[] w fun e w' => e = .returned (.bool true) ∧ Below w.heap.size w w' := by
  have HE : Hid (∀ W, Below w.heap.size w W → EnvP W) := Lib.hid (fun W h => hE.below h)
  have HB := Lib.hid (Below.refl w.heap.size w)
  clear hE
  go_enter Tryz.func11, Tryz.ntmps11
  go_wp2_with fail
  refine (kPrints_any ⟨#[40, 40, 112, 32, 38, 32, 113, 41, 32, 38, 32, 40, 114, 41, 41]⟩ ⟨#[112, 32, 38, 32, 113, 32, 38, 32, 114]⟩ (by unfold maxLen; decide) pe0 pv0 _ (HE.out _ HB.out)).mono ?_
  rintro e u0 ⟨rfl, hb⟩
  replace HB := Lib.hid (HB.out.trans (hb.mono HB.out.size))
  clear hb
  go_wp2_with fail
  refine (kPrints_any ⟨#[112, 32, 38, 32, 40, 113, 32, 38, 32, 114, 41]⟩ ⟨#[112, 32, 38, 32, 40, 113, 32, 38, 32, 114, 41]⟩ (by unfold maxLen; decide) pe1 pv1 _ (HE.out _ HB.out)).mono ?_
  rintro e u1 ⟨rfl, hb⟩
  replace HB := Lib.hid (HB.out.trans (hb.mono HB.out.size))
  clear hb
  go_wp2_with fail
  refine (kPrints_any ⟨#[40, 112, 32, 45, 62, 32, 113, 41, 32, 45, 62, 32, 40, 113, 32, 45, 62, 32, 114, 41]⟩ ⟨#[40, 112, 32, 45, 62, 32, 113, 41, 32, 45, 62, 32, 113, 32, 45, 62, 32, 114]⟩ (by unfold maxLen; decide) pe2 pv2 _ (HE.out _ HB.out)).mono ?_
  rintro e u2 ⟨rfl, hb⟩
  replace HB := Lib.hid (HB.out.trans (hb.mono HB.out.size))
  clear hb
  go_wp2_with fail
  refine (kPrints_any ⟨#[126, 40, 75, 91, 97, 93, 40, 112, 32, 124, 32, 113, 41, 41]⟩ ⟨#[126, 75, 91, 97, 93, 40, 112, 32, 124, 32, 113, 41]⟩ (by unfold maxLen; decide) pe3 pv3 _ (HE.out _ HB.out)).mono ?_
  rintro e u3 ⟨rfl, hb⟩
  replace HB := Lib.hid (HB.out.trans (hb.mono HB.out.size))
  clear hb
  go_wp2_with fail
  refine (kPrints_any ⟨#[67, 91, 97, 44, 98, 124, 112, 32, 38, 32, 113, 93, 114]⟩ ⟨#[67, 91, 97, 44, 98, 124, 112, 32, 38, 32, 113, 93, 114]⟩ (by unfold maxLen; decide) pe4 pv4 _ (HE.out _ HB.out)).mono ?_
  rintro e u4 ⟨rfl, hb⟩
  replace HB := Lib.hid (HB.out.trans (hb.mono HB.out.size))
  clear hb
  go_wp2_with fail
  refine (kPrints_any ⟨#[67, 91, 97, 124, 116, 114, 117, 101, 93, 112]⟩ ⟨#[67, 91, 97, 93, 112]⟩ (by unfold maxLen; decide) pe5 pv5 _ (HE.out _ HB.out)).mono ?_
  rintro e u5 ⟨rfl, hb⟩
  replace HB := Lib.hid (HB.out.trans (hb.mono HB.out.size))
  clear hb
  go_wp2_with fail
  refine (kPrints_any ⟨#[91, 33, 112, 93, 40, 113, 32, 60, 45, 62, 32, 114, 41]⟩ ⟨#[91, 33, 112, 93, 40, 113, 32, 60, 45, 62, 32, 114, 41]⟩ (by unfold maxLen; decide) pe6 pv6 _ (HE.out _ HB.out)).mono ?_
  rintro e u6 ⟨rfl, hb⟩
  replace HB := Lib.hid (HB.out.trans (hb.mono HB.out.size))
  clear hb
  go_wp2_with fail
  refine (kPrints_any ⟨#[110, 101, 120, 116, 32, 40, 112, 32, 117, 110, 116, 105, 108, 32, 113, 41]⟩ ⟨#[110, 101, 120, 116, 32, 40, 112, 32, 117, 110, 116, 105, 108, 32, 113, 41]⟩ (by unfold maxLen; decide) pe7 pv7 _ (HE.out _ HB.out)).mono ?_
  rintro e u7 ⟨rfl, hb⟩
  replace HB := Lib.hid (HB.out.trans (hb.mono HB.out.size))
  clear hb
  go_wp2_with fail
  refine (kPrints_any ⟨#[91, 116, 101, 108, 108, 46, 49, 93, 126, 112]⟩ ⟨#[91, 116, 101, 108, 108, 46, 49, 93, 126, 112]⟩ (by unfold maxLen; decide) pe8 pv8 _ (HE.out _ HB.out)).mono ?_
  rintro e u8 ⟨rfl, hb⟩
  replace HB := Lib.hid (HB.out.trans (hb.mono HB.out.size))
  clear hb
  go_wp2
  go_ret
  exact ⟨rfl, HB.out⟩
end Go.Proofs.YtenbhalnpiahaaaGreatDoor
/- Layer 7: what the rows list, and what it gives the walks; a signature that came in; a world for the witness. -/
namespace Go.Proofs.YtenbhalnpiahaaaGreatDoor.prn
open Go.ChangeShapes Go.WideShapes Go.ChangeAt Go.RowKit Go.Proofs.Ws
def LL : List (String × DataW Unit) := Rows.printerPrintsRow.laid
theorem own : ownKnob Tryz.prog.godebug = none := by kernel_rfl
theorem laidOut : laidOutB Tryz.prog = true := by kernel_rfl
theorem lt_of_cell {W : World} (a : Addr) (v : Value) (hv : W.cell? a = some v) : a.block < W.heap.size := by
  rcases Nat.lt_or_ge a.block W.heap.size with h' | h'
  · exact h'
  · simp [World.cell?, Array.getElem?_eq_none h'] at hv
theorem strs_inj : ∀ {l m : List ByteArray}, (Go.ChangeShapes.strs l : List (DataW Unit)) = Go.ChangeShapes.strs m → l = m
  | [], [], _ => rfl
  | [], _ :: _, h => by simp [Go.ChangeShapes.strs] at h
  | _ :: _, [], h => by simp [Go.ChangeShapes.strs] at h
  | x :: l, y :: m, h => by
    simp only [Go.ChangeShapes.strs, List.map_cons, List.cons.injEq, DataW.lit.injEq, Lit.string.injEq] at h
    have e : x = y := ByteArray.ext (Array.toList_inj.1 h.1)
    rw [e, strs_inj (l := l) (m := m) h.2]
/-- what a slice of strings that came in leads to -/
def SL0 (w : World) (a : Option Addr) (n c : Nat) (l : List ByteArray) : Prop :=
  Reads w w.heap.size 1 a n (ss l) ∧ (a = none → n = 0 ∧ c = 0) ∧ n ≤ maxLen ∧ (∀ x ∈ l, x.size ≤ maxLen) ∧ n ≤ c ∧ c ≤ 9223372036854775807
theorem SL0.small {w : World} {a : Option Addr} {n c : Nat} {l : List ByteArray} (h : SL0 w a n c l) (hn : n ≤ 20) : SL w w.heap.size a n c l := ⟨h.1, h.2.1, hn, h.2.2.2.1, h.2.2.2.2⟩
theorem SL0.wide {w : World} {a : Option Addr} {n c : Nat} {l : List ByteArray} (h : SL0 w a n c l) : SLw w w.heap.size a n c l := ⟨h.1, h.2.2.2.1, h.2.2.1⟩
theorem open_strl {H : Type} {enc : TypeId × Value → H} {W : World} {held : Bool} {fuel : Nat} {v : Value} {y : DataW H × List MemPlace}
    (h : DataW.trod enc Tryz.prog W 0 (fun _ => true) held fuel 22 [v] = some y) : ∃ a n c l, v = .slice a n c ∧ SL0 W a n c l ∧ (y.1 = .nil ∨ ∃ r : List (DataW H), y.1 = .slice (Go.ChangeShapes.strs l) r ∧ (r = [] → c = n)) := by
  rcases open_strings Tryz.underlying22 Tryz.underlying9 (by kernel_rfl) h with ⟨hcs, hx⟩ | ⟨a, len, cap, sl, hcs, _, hl, hm, hz, hx, hcell, hsz⟩
  · simp at hcs
    subst hcs
    exact ⟨none, 0, 0, [], rfl, ⟨Reads.none_, fun _ => ⟨rfl, rfl⟩, Nat.zero_le _, by simp, Nat.le_refl _, by omega⟩, .inl (by rw [hx])⟩
  · simp at hcs
    subst hcs
    simp only [if_true] at hz
    refine ⟨some a, len, cap, sl.take len, rfl, ⟨⟨by rw [ss_length]; simp; omega, fun h0 => ⟨a, rfl, ?_, fun j u hu => ?_⟩⟩, (fun e => by cases e), by omega, fun x hx => hsz x (List.mem_of_mem_take hx), hl, by unfold maxLen at hm; omega⟩, .inr ⟨_, by rw [hx], fun hr => ?_⟩⟩
    · have := lt_of_cell _ _ (hcell 0 (by omega))
      rwa [block_of_add] at this
    · unfold ss at hu
      rw [List.getElem?_map, List.getElem?_take] at hu
      split at hu
      · rename_i hj
        have hjz : j < sl.length := by omega
        rw [List.getElem?_eq_getElem hjz] at hu
        simp at hu
        subst hu
        rw [hcell j hjz, List.getD_eq_getElem?_getD, List.getElem?_eq_getElem hjz]
        rfl
      · cases hu
    · have := congrArg List.length hr
      simp [Go.ChangeShapes.strs] at this
      omega
theorem lst_of {W : World} {name : String} {g : Nat} {l : List ByteArray} (hg : Tryz.prog.globalNamed name = some g) (ht : (Tryz.prog.globals[g]?).map (·.type) = some 22)
    (h : Lib.VarReads Tryz.prog W name (.slice (Go.ChangeShapes.strs l) [])) : Lst W g l := by
  obtain ⟨g', t, cs, fuel, p, h1, h2, h3, h4⟩ := h
  obtain rfl := Option.some.inj (hg.symm.trans h1)
  obtain rfl := Option.some.inj (ht.symm.trans h2)
  have hcell := World.var?_cell hg h3
  obtain ⟨v, hv⟩ : ∃ v, cs.toList = [v] := by
    rcases open_strings Tryz.underlying22 Tryz.underlying9 (by kernel_rfl) h4 with ⟨hcs, _⟩ | ⟨a, len, cap, sl, hcs, _⟩
    · exact ⟨_, hcs⟩
    · exact ⟨_, hcs⟩
  rw [hv] at h4
  have h0 := hcell 0
  rw [← Array.getElem?_toList, hv] at h0
  obtain ⟨a, n, c, l', rfl, hS, hy⟩ := open_strl h4
  rcases hy with hy | ⟨r, hy, hr⟩
  · cases hy
  · injection hy with e1 e2
    have e := strs_inj e1
    subst e
    have hl := hS.1.str_len
    refine ⟨lt_of_cell _ _ h0, a, c, by rw [hl]; exact h0, by rw [hl]; exact hS.2.2.2.2.1, hS.2.2.2.2.2, by rw [hl]; exact hS.1⟩
set_option maxRecDepth 100000 in
theorem cell5 {W : World} {fuel : Nat} {l : List Value} {d : DataW Unit} {q : List MemPlace} (h : DataW.trod (fun _ => ()) Tryz.prog W 0 (fun _ => true) false fuel 79 l = some (d, q)) :
    ∃ (k a b c : Int) (s : ByteArray), l = [.int .i64 k, .string s, .int .i64 a, .int .i64 b, .int .i64 c] ∧ d = .agg [.lit (.int .i64 k), .lit (.string s.data.toList), .lit (.int .i64 a), .lit (.int .i64 b), .lit (.int .i64 c)] := by
  obtain ⟨xs, n, rfl, hx, hl, hxl, hf⟩ := DataW.trod_struct Tryz.underlying79 h
  have hc : Tryz.prog.cellsOf 79 = 5 := by kernel_rfl
  have ci : Tryz.prog.cellsOf 3 = 1 := by kernel_rfl
  have cs : Tryz.prog.cellsOf 9 = 1 := by kernel_rfl
  rw [hc] at hl
  obtain ⟨v0, v1, v2, v3, v4, rfl⟩ : ∃ v0 v1 v2 v3 v4, l = [v0, v1, v2, v3, v4] := by
    match l, hl with
    | [v0, v1, v2, v3, v4], _ => exact ⟨_, _, _, _, _, rfl⟩
  have f0 : DataW.trod (fun _ => ()) Tryz.prog W 0 (fun _ => true) false n 3 (([v0, v1, v2, v3, v4].drop 0).take (Tryz.prog.cellsOf 3)) = xs[0]? := hf 0 _ rfl
  have f1 : DataW.trod (fun _ => ()) Tryz.prog W 0 (fun _ => true) false n 9 (([v0, v1, v2, v3, v4].drop 1).take (Tryz.prog.cellsOf 9)) = xs[1]? := hf 1 _ rfl
  have f2 : DataW.trod (fun _ => ()) Tryz.prog W 0 (fun _ => true) false n 3 (([v0, v1, v2, v3, v4].drop 2).take (Tryz.prog.cellsOf 3)) = xs[2]? := hf 2 _ rfl
  have f3 : DataW.trod (fun _ => ()) Tryz.prog W 0 (fun _ => true) false n 3 (([v0, v1, v2, v3, v4].drop 3).take (Tryz.prog.cellsOf 3)) = xs[3]? := hf 3 _ rfl
  have f4 : DataW.trod (fun _ => ()) Tryz.prog W 0 (fun _ => true) false n 3 (([v0, v1, v2, v3, v4].drop 4).take (Tryz.prog.cellsOf 3)) = xs[4]? := hf 4 _ rfl
  rw [ci] at f0 f2 f3 f4
  rw [cs] at f1
  have hxl5 : xs.length = 5 := hxl
  obtain ⟨y0, y1, y2, y3, y4, rfl⟩ : ∃ y0 y1 y2 y3 y4, xs = [y0, y1, y2, y3, y4] := by
    match xs, hxl5 with
    | [y0, y1, y2, y3, y4], _ => exact ⟨_, _, _, _, _, rfl⟩
  obtain ⟨k, e0, z0, _⟩ := DataW.trod_int Tryz.underlying3 f0
  obtain ⟨s, e1, z1, _⟩ := DataW.trod_string Tryz.underlying9 f1
  obtain ⟨a, e2, z2, _⟩ := DataW.trod_int Tryz.underlying3 f2
  obtain ⟨b, e3, z3, _⟩ := DataW.trod_int Tryz.underlying3 f3
  obtain ⟨c, e4, z4, _⟩ := DataW.trod_int Tryz.underlying3 f4
  simp at e0 e1 e2 e3 e4
  subst e0 e1 e2 e3 e4 z0 z1 z2 z3 z4
  refine ⟨k, a, b, c, s, rfl, ?_⟩
  simp only [Prod.mk.injEq, List.map_cons, List.map_nil] at hx
  exact hx.1
def layD : List (Int × ByteArray × Int × Int × Int) := [(0, ⟨#[]⟩, 0, 0, 0), (0, ⟨#[116, 114, 117, 101]⟩, 5, 0, 0), (0, ⟨#[102, 97, 108, 115, 101]⟩, 5, 0, 0), (1, ⟨#[]⟩, 5, 0, 0), (2, ⟨#[126]⟩, 5, 5, 0), (3, ⟨#[38]⟩, 4, 4, 5), (3, ⟨#[124]⟩, 3, 3, 4), (3, ⟨#[45, 62]⟩, 1, 2, 1), (3, ⟨#[60, 45, 62]⟩, 0, 0, 1), (4, ⟨#[75]⟩, 5, 5, 0), (4, ⟨#[77]⟩, 5, 5, 0), (4, ⟨#[69]⟩, 5, 5, 0), (4, ⟨#[68]⟩, 5, 5, 0), (5, ⟨#[67]⟩, 5, 0, 5), (5, ⟨#[66]⟩, 5, 0, 5), (4, ⟨#[83]⟩, 5, 5, 0), (6, ⟨#[33]⟩, 5, 0, 5), (7, ⟨#[46]⟩, 5, 5, 0), (2, ⟨#[110, 101, 120, 116, 32]⟩, 5, 5, 0), (3, ⟨#[117, 110, 116, 105, 108]⟩, 2, 3, 2), (2, ⟨#[112, 114, 101, 118, 32]⟩, 5, 5, 0), (3, ⟨#[115, 105, 110, 99, 101]⟩, 2, 3, 2)]
theorem layD_eq : (Rows.laid_witting_printer_layouts : DataW Unit) = .agg (layD.map (fun r => .agg [.lit (.int .i64 r.1), .lit (.string r.2.1.data.toList), .lit (.int .i64 r.2.2.1), .lit (.int .i64 r.2.2.2.1), .lit (.int .i64 r.2.2.2.2)])) := by kernel_rfl
theorem layV_eq : layV = layD.flatMap (fun r => [.int .i64 r.1, .string r.2.1, .int .i64 r.2.2.1, .int .i64 r.2.2.2.1, .int .i64 r.2.2.2.2]) := by kernel_rfl
theorem flat5 {α β : Type} (g : α → List β) (h5 : ∀ a, (g a).length = 5) : ∀ (l : List α) (i j : Nat), j < 5 → (l.flatMap g)[i * 5 + j]? = (l[i]?).bind (fun a => (g a)[j]?)
  | [], i, j, _ => by simp
  | a :: l, 0, j, hj => by
    rw [List.flatMap_cons, Nat.zero_mul, Nat.zero_add, List.getElem?_append_left (by rw [h5]; exact hj)]
    rfl
  | a :: l, i + 1, j, hj => by
    rw [List.flatMap_cons, List.getElem?_append_right (by rw [h5]; omega), h5, show (i + 1) * 5 + j - 5 = i * 5 + j by omega, flat5 g h5 l i j hj]
    rfl
theorem lay_of {W : World} (h : Lib.VarReads Tryz.prog W "witting/printer.layouts" (Rows.laid_witting_printer_layouts : DataW Unit)) : LayW W := by
  obtain ⟨g', t, cs, fuel, p, h1, h2, h3, h4⟩ := h
  have hg : Tryz.prog.globalNamed "witting/printer.layouts" = some 0 := by kernel_rfl
  have ht : (Tryz.prog.globals[0]?).map (·.type) = some 80 := by kernel_rfl
  obtain rfl := Option.some.inj (hg.symm.trans h1)
  obtain rfl := Option.some.inj (ht.symm.trans h2)
  have hcell := World.var?_cell hg h3
  have hc : Tryz.prog.cellsOf 79 = 5 := by kernel_rfl
  obtain ⟨xs, m, rfl, hx, hl, hxl, hf⟩ := DataW.trod_array Tryz.underlying80 h4
  rw [hc] at hf
  rw [layD_eq] at hx
  simp only [Prod.mk.injEq, DataW.agg.injEq] at hx
  have hall : ∀ (j : Nat) (v : Value), layV[j]? = some v → cs.toList[j]? = some v := by
    intro j v hj
    rw [layV_eq, show j = (j / 5) * 5 + j % 5 by omega, flat5 _ (fun _ => rfl) _ _ _ (by omega)] at hj
    obtain ⟨r, hr, hrj⟩ := Option.bind_eq_some_iff.1 hj
    have hi22 : j / 5 < 22 := by
      have := (List.getElem?_eq_some_iff.1 hr).1
      exact this
    have hfi := hf (j / 5) hi22
    obtain ⟨y, hy⟩ : ∃ y, xs[j / 5]? = some y := ⟨_, List.getElem?_eq_getElem (by omega)⟩
    rw [hy] at hfi
    obtain ⟨d, q⟩ := y
    obtain ⟨k, a, b, c, s, e1, e2⟩ := cell5 hfi
    have hd : (xs.map (·.1))[j / 5]? = some d := by rw [List.getElem?_map, hy]; rfl
    rw [← hx.1, List.getElem?_map, hr] at hd
    simp only [Option.map_some, Option.some.injEq] at hd
    rw [e2] at hd
    simp only [DataW.agg.injEq, List.cons.injEq, DataW.lit.injEq, Lit.int.injEq, Lit.string.injEq, true_and, and_true] at hd
    obtain ⟨rfl, hs, rfl, rfl, rfl⟩ := hd
    have hs2 : r.2.1 = s := ByteArray.ext (Array.toList_inj.1 hs)
    subst hs2
    have h6 : ((cs.toList.drop (j / 5 * 5)).take 5)[j % 5]? = some v := by rw [e1]; exact hrj
    rw [List.getElem?_take, if_pos (by omega), List.getElem?_drop] at h6
    rwa [show j / 5 * 5 + j % 5 = j by omega] at h6
  have hcell2 : ∀ (j : Nat) (v : Value), layV[j]? = some v → W.cell? ⟨0, j, none⟩ = some v := fun j v hj => by
    have h5 := hcell j
    rw [← Array.getElem?_toList, hall j v hj] at h5
    exact h5
  exact ⟨lt_of_cell ⟨0, 0, none⟩ _ (hcell2 0 _ rfl), hcell2⟩
theorem env_of {W : World} (h : laidMetH Tryz.prog LL W) (hs : W.ShapedOpen Tryz.prog) : EnvP W := by
  rw [MakeChecks.laidMetH_plain _ _ _ (by kernel_rfl)] at h
  have hm : ∃ m, W.cell? ⟨2, 0, none⟩ = some (.int .i64 m) :=
    cell_of_shapedOpen_int (zero := #[.int .i64 0]) (t := 3) hs (of_decide_eq_true (by kernel_rfl)) (by kernel_rfl) (by kernel_rfl) (by kernel_rfl) (by kernel_rfl) Tryz.underlying3
  have m1 : ("witting/signature.reserved", (.slice (Go.ChangeShapes.strs resW) [] : DataW Unit)) ∈ LL := by
    show _ ∈ [("math/bits.deBruijn32tab", Rows.laid_math_bits_deBruijn32tab), ("math/bits.deBruijn64tab", Rows.laid_math_bits_deBruijn64tab), ("internal/strconv.uint64pow10", Rows.laid_internal_strconv_uint64pow10), ("witting/signature.reserved", Rows.laid_witting_signature_reserved), ("witting/printer.layouts", Rows.laid_witting_printer_layouts)]
    exact .tail _ (.tail _ (.tail _ (.head _)))
  have m2 : ("witting/printer.layouts", (Rows.laid_witting_printer_layouts : DataW Unit)) ∈ LL := by
    show _ ∈ [("math/bits.deBruijn32tab", Rows.laid_math_bits_deBruijn32tab), ("math/bits.deBruijn64tab", Rows.laid_math_bits_deBruijn64tab), ("internal/strconv.uint64pow10", Rows.laid_internal_strconv_uint64pow10), ("witting/signature.reserved", Rows.laid_witting_signature_reserved), ("witting/printer.layouts", Rows.laid_witting_printer_layouts)]
    exact .tail _ (.tail _ (.tail _ (.tail _ (.head _))))
  refine ⟨⟨lst_of (by kernel_rfl) (by kernel_rfl) (Lib.laidMet.reads h m1), hm, ?_⟩, lay_of (Lib.laidMet.reads h m2)⟩
  obtain ⟨m, hm⟩ := hm
  exact lt_of_cell ⟨2, 0, none⟩ _ hm
set_option maxRecDepth 100000 in
theorem open_sig {H : Type} {enc : TypeId × Value → H} {W : World} {held : Bool} {r : Reach} {b0 : Nat} {v : Value} {d : DataW H} {p : List MemPlace} (hv : Value.okWide Tryz.prog W r b0 24 v)
    (h : DataW.Trod enc Tryz.prog W 0 (fun _ => true) held 24 v d p) :
    ∃ a0 n0 c0 a1 n1 c1 a2 n2 c2 A F X, v = sv a0 n0 c0 a1 n1 c1 a2 n2 c2 ∧ SL0 W a0 n0 c0 A ∧ SL0 W a1 n1 c1 F ∧ SL0 W a2 n2 c2 X := by
  obtain ⟨v0, v1, v2, y0, y1, y2, n, rfl, _, _, h0, h1, h2⟩ := Go.Joins.open_agg3 Tryz.underlying24 (by kernel_rfl) (by kernel_rfl) hv h
  obtain ⟨a0, n0, c0, A, rfl, s0, _⟩ := open_strl h0
  obtain ⟨a1, n1, c1, F, rfl, s1, _⟩ := open_strl h1
  obtain ⟨a2, n2, c2, X, rfl, s2, _⟩ := open_strl h2
  exact ⟨a0, n0, c0, a1, n1, c1, a2, n2, c2, A, F, X, rfl, s0, s1, s2⟩
noncomputable def laidW (os : Os) : World := World.laidAll Tryz.prog os LL
theorem laidW_os (os : Os) : (laidW os).os = os := World.laidAll_os _ _ _
theorem laid_met (os : Os) (args : Array Value) : laidMet Tryz.prog LL ((laidW os).forCall (fun _ _ => 0) ⟨#[], args, []⟩).memory :=
  laidMet_laidAll _ (by kernel_rfl) (by kernel_rfl)
theorem vars_ok (os : Os) (args : Array Value) : ((laidW os).forCall (fun _ _ => 0) ⟨#[], args, []⟩).variablesRefB Tryz.prog = true := by kernel_rfl
theorem heap_ok (os : Os) (args : Array Value) : (((laidW os).forCall (fun _ _ => 0) ⟨#[], args, []⟩).heap.toList.drop Tryz.prog.globals.size).take ((begin Tryz.prog (fun _ _ => 0) default).world.heap.size - Tryz.prog.globals.size) =
      (begin Tryz.prog (fun _ _ => 0) default).world.heap.toList.drop Tryz.prog.globals.size := by kernel_rfl
theorem no_looks : false = Tryz.pinned.checked.prog.looks [] := by kernel_rfl
end Go.Proofs.YtenbhalnpiahaaaGreatDoor.prn
/- Layer 7: a list of nodes that came in. -/
namespace Go.Proofs.YtenbhalnpiahaaaGreatDoor.prn
open Go.ChangeShapes Go.WideShapes Go.ChangeAt Go.RowKit Go.Proofs.Ws Go.Deep
/-- what the row's opening says of a slice of nodes: it is nil, or its first elements are nodes -/
def NdRow (w : World) (a : Option Addr) (len cap : Nat) (l : List Nd) : Prop :=
  Reads w w.heap.size 6 a len (nds l) ∧ (∀ n ∈ l, NdW n) ∧ len ≤ cap ∧ len ≤ maxLen
section
variable {H : Type} {enc : TypeId × Value → H} {w : World} {base : Nat} {spare : Nat → Bool} {held : Bool}
theorem field_int {n' : Nat} {cs : List Value} {xs : List (DataW H × List MemPlace)} {j : Nat} (hl : cs.length = 6) (hj : j < 6) (hx : j < xs.length)
    (h : DataW.trod enc Tryz.prog w base spare held n' 3 ((cs.drop j).take (Tryz.prog.cellsOf 3)) = xs[j]?) : ∃ z : Int, cs[j]? = some (.int .i64 z) ∧ (Lit.int .i64 z).wf = true := by
  rw [intCells, List.drop_eq_getElem_cons (by omega), List.take_succ_cons, List.take_zero, List.getElem?_eq_getElem hx] at h
  obtain ⟨z, hz, _, hw⟩ := DataW.trod_int Tryz.underlying3 h
  refine ⟨z, ?_, hw⟩
  rw [List.getElem?_eq_getElem (by omega)]
  injection hz with hz
  rw [hz]
set_option maxRecDepth 100000 in
theorem one_node {n' : Nat} {cs : List Value} {x : DataW H × List MemPlace} (h : DataW.trod enc Tryz.prog w base spare held n' 65 cs = some x) : ∃ n : Nd, cs = ndC n ∧ NdW n := by
  obtain ⟨xs, m, _, _, hl, hxl, hf⟩ := DataW.trod_struct Tryz.underlying65 h
  rw [nodeCells] at hl
  have hx6 : xs.length = 6 := hxl
  obtain ⟨z0, c0, w0⟩ := field_int (j := 0) hl (by decide) (by omega) (hf 0 _ rfl)
  obtain ⟨z1, c1, w1⟩ := field_int (j := 1) hl (by decide) (by omega) (hf 1 _ rfl)
  obtain ⟨z2, c2, w2⟩ := field_int (j := 2) hl (by decide) (by omega) (hf 2 _ rfl)
  obtain ⟨z3, c3, w3⟩ := field_int (j := 3) hl (by decide) (by omega) (hf 3 _ rfl)
  obtain ⟨z4, c4, w4⟩ := field_int (j := 4) hl (by decide) (by omega) (hf 4 _ rfl)
  obtain ⟨z5, c5, w5⟩ := field_int (j := 5) hl (by decide) (by omega) (hf 5 _ rfl)
  refine ⟨⟨z0, z1, z2, z3, z4, z5⟩, ?_, ⟨w0, w1, w2, w3, w4, w5⟩⟩
  match cs, hl with
  | [a, b, c, d, e, f], _ =>
    simp at c0 c1 c2 c3 c4 c5
    simp [ndC, c0, c1, c2, c3, c4, c5]
theorem open_nodes {fuel : Nat} {A : Option Addr} {n c : Nat} {x : DataW H × List MemPlace} (h : DataW.trod enc Tryz.prog w base spare held fuel 25 [.slice A n c] = some x) : ∃ l, NdRow w A n c l := by
  rcases open_slice Tryz.underlying25 h with ⟨hcs, _⟩ | ⟨a, len, cap, m, n', D, Pl, hcs, hb, hl, hm, hmm, _, hi⟩
  · simp at hcs
    obtain ⟨rfl, rfl, rfl⟩ := hcs
    exact ⟨[], Reads.none_, fun n hn => absurd hn (by simp), Nat.le_refl _, Nat.zero_le _⟩
  · simp at hcs
    obtain ⟨rfl, rfl, rfl⟩ := hcs
    have hlm : n ≤ m := by rw [hmm]; split <;> omega
    have hex : ∀ i, i < n → ∃ nd : Nd, (∀ j, j < 6 → w.cell? (a.add (i * 6 + j)) = (ndC nd)[j]?) ∧ NdW nd := fun i hin => by
      obtain ⟨cs', h1, h2⟩ := hi i (by omega)
      obtain ⟨nd, hc, hw⟩ := one_node h2
      obtain ⟨_, _, h3⟩ := World.cells?_some h1
      rw [nodeCells] at h3
      refine ⟨nd, fun j hj => ?_, hw⟩
      have := h3 j hj
      rw [add_of_add, hc] at this
      exact this
    obtain ⟨g, hg⟩ : ∃ g : Nat → Nd, ∀ i, i < n → (∀ j, j < 6 → w.cell? (a.add (i * 6 + j)) = (ndC (g i))[j]?) ∧ NdW (g i) :=
      ⟨fun i => if hi : i < n then Classical.choose (hex i hi) else nd0, fun i hin => by dsimp only; rw [dif_pos hin]; exact Classical.choose_spec (hex i hin)⟩
    refine ⟨(List.range n).map g, ⟨by rw [nds_length]; simp, fun h0 => ⟨a, rfl, ?_, fun j u hu => ?_⟩⟩, fun nd hn => ?_, hl, by omega⟩
    · have h1 := (hg 0 h0).1 0 (by decide)
      rw [show (0 : Nat) * 6 + 0 = 0 from rfl] at h1
      rcases Nat.lt_or_ge (a.add 0).block w.heap.size with h' | h'
      · rwa [block_of_add] at h'
      · simp [World.cell?, Array.getElem?_eq_none h', ndC] at h1
    · have hj : j < n * 6 := by
        have := (List.getElem?_eq_some_iff.1 hu).1
        rw [nds_length] at this
        simpa using this
      have hq := nds_at ((List.range n).map g) (j / 6) (j % 6) (by simp; omega) (by omega)
      rw [show j / 6 * 6 + j % 6 = j from by omega] at hq
      have hgd : ((List.range n).map g).getD (j / 6) nd0 = g (j / 6) := by simp [show j / 6 < n by omega]
      rw [hgd] at hq
      rw [hu] at hq
      have h1 := (hg (j / 6) (by omega)).1 (j % 6) (by omega)
      rw [show j / 6 * 6 + j % 6 = j from by omega] at h1
      rw [h1, ← hq]
    · obtain ⟨i, hin, rfl⟩ := List.mem_map.1 hn
      exact (hg i (List.mem_range.1 hin)).2
end
end Go.Proofs.YtenbhalnpiahaaaGreatDoor.prn
