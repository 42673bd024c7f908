/- Layer 4: the reserved words, on both sides; a signature in memory; all names of a signature. -/
import Derived.Test.YtichhbnpdhfimaaDoorSc
namespace Go.Proofs.YtichhbnpdhfimaaDoor
open Go.RowKit Go.Proofs.Ws
/-- a package variable holds a list of strings -/
def Lst (w : World) (g : Nat) (l : List ByteArray) : Prop := g < w.heap.size ∧ ∃ A c, w.cell? ⟨g, 0, none⟩ = some (.slice A l.length c) ∧ l.length ≤ c ∧ c ≤ 9223372036854775807 ∧ Reads w w.heap.size 1 A l.length (ss l)
theorem Lst.below {w w' : World} {g : Nat} {l : List ByteArray} (h : Lst w g l) (hb : Below w.heap.size w w') : Lst w' g l := by
  obtain ⟨h1, A, c, h2, h3, h5, h4⟩ := h
  exact ⟨Nat.lt_of_lt_of_le h1 hb.size, A, c, (hb.cell (p := ⟨g, 0, none⟩) h1).trans h2, h3, h5, (h4.below hb).more hb.size⟩
def agW : List ByteArray := [⟨#[97]⟩, ⟨#[98]⟩, ⟨#[99]⟩, ⟨#[100]⟩]
def faW : List ByteArray := [⟨#[112]⟩, ⟨#[113]⟩, ⟨#[114]⟩, ⟨#[115]⟩, ⟨#[116]⟩, ⟨#[117]⟩, ⟨#[118]⟩, ⟨#[119]⟩]
def acW : List ByteArray := [⟨#[97, 99, 116, 48]⟩, ⟨#[97, 99, 116, 49]⟩, ⟨#[97, 99, 116, 50]⟩, ⟨#[97, 99, 116, 51]⟩, ⟨#[97, 99, 116, 52]⟩, ⟨#[97, 99, 116, 53]⟩, ⟨#[97, 99, 116, 54]⟩, ⟨#[97, 99, 116, 55]⟩]
/-- what the calls ask of the world -/
def EnvS (w : World) : Prop := Lst w 1 resW ∧ Lst w 2 agW ∧ Lst w 3 faW ∧ Lst w 4 acW ∧ (∃ m, w.cell? ⟨6, 0, none⟩ = some (.int .i64 m)) ∧ 6 < w.heap.size
theorem EnvS.below {w w' : World} (h : EnvS w) (hb : Below w.heap.size w w') : EnvS w' := by
  obtain ⟨h1, h2, h3, h4, ⟨m, h5⟩, h6⟩ := h
  exact ⟨h1.below hb, h2.below hb, h3.below hb, h4.below hb, ⟨m, (hb.cell (p := ⟨6, 0, none⟩) h6).trans h5⟩, Nat.lt_of_lt_of_le h6 hb.size⟩
theorem pReserved_any (x : ByteArray) (w : World) (hE : EnvS w) :
    Calls Tryd.prog 31 #[.string x] w fun e w' => e = .returned (.bool (resV x)) ∧ w = w' := by
  obtain ⟨⟨_, A, c, hc, _, _, hR⟩, _⟩ := hE
  have HX := Lib.hid (pContains_any resW x A resW.length c _ w hR (by unfold maxLen; decide))
  have HB : Hid (resV x = Lib.containsS resW x) := Lib.hid rfl
  generalize Lib.containsS resW x = b at *
  clear hR
  generalize resW.length = n at *
  go_enter Tryd.func31, Tryd.ntmps31
  go_wp2_with fail
  refine (HX.out).mono ?_
  rintro e w' ⟨rfl, rfl⟩
  go_wp2
  go_ret
  exact ⟨ret_bool HB.out.symm, rfl⟩
theorem res_yes {x : ByteArray} (h : x ∈ resW) : resV x = true := (Lib.containsS_iff _ _).2 h
set_option maxRecDepth 100000 in
set_option maxHeartbeats 2000000 in
theorem pRefReserved_any (x : ByteArray) (w : World) :
    Calls Tryd.prog 32 #[.string x] w fun e w' => e = .returned (.bool (resV x)) ∧ w = w' := by
  have HK : Hid (resV x = true ↔ x.toList = [116, 114, 117, 101] ∨ x.toList = [102, 97, 108, 115, 101] ∨ x.toList = [110, 101, 120, 116] ∨ x.toList = [112, 114, 101, 118] ∨ x.toList = [117, 110, 116, 105, 108] ∨ x.toList = [115, 105, 110, 99, 101] ∨ x.toList = [100, 111]) := Lib.hid (by
    have e : ∀ l : List UInt8, x = ⟨l.toArray⟩ ↔ x.toList = l := fun l => by
      rw [← Lib.bytes_beq_iff, beq_iff_eq, Lib.toList_data ⟨l.toArray⟩]
    unfold resV
    rw [Lib.containsS_iff]
    have e0 : resW = [⟨([116, 114, 117, 101] : List UInt8).toArray⟩, ⟨([102, 97, 108, 115, 101] : List UInt8).toArray⟩, ⟨([110, 101, 120, 116] : List UInt8).toArray⟩, ⟨([112, 114, 101, 118] : List UInt8).toArray⟩, ⟨([117, 110, 116, 105, 108] : List UInt8).toArray⟩, ⟨([115, 105, 110, 99, 101] : List UInt8).toArray⟩, ⟨([100, 111] : List UInt8).toArray⟩] := rfl
    rw [e0]
    simp only [List.mem_cons, List.not_mem_nil, or_false, e])
  by_cases h0 : x.toList = [116, 114, 117, 101]
  · skip
    have HB : Hid (resV x = true) := Lib.hid (HK.out.2 (by simp [h0]))
    clear HK
    go_enter Tryd.func32, Tryd.ntmps32
    go_wp2
    go_ret
    exact ⟨ret_bool HB.out.symm, rfl⟩
  by_cases h1 : x.toList = [102, 97, 108, 115, 101]
  · skip
    have HB : Hid (resV x = true) := Lib.hid (HK.out.2 (by simp [h1]))
    clear HK
    go_enter Tryd.func32, Tryd.ntmps32
    go_wp2
    go_ret
    exact ⟨ret_bool HB.out.symm, rfl⟩
  by_cases h2 : x.toList = [110, 101, 120, 116]
  · skip
    have HB : Hid (resV x = true) := Lib.hid (HK.out.2 (by simp [h2]))
    clear HK
    go_enter Tryd.func32, Tryd.ntmps32
    go_wp2
    go_ret
    exact ⟨ret_bool HB.out.symm, rfl⟩
  by_cases h3 : x.toList = [112, 114, 101, 118]
  · skip
    have HB : Hid (resV x = true) := Lib.hid (HK.out.2 (by simp [h3]))
    clear HK
    go_enter Tryd.func32, Tryd.ntmps32
    go_wp2
    go_ret
    exact ⟨ret_bool HB.out.symm, rfl⟩
  by_cases h4 : x.toList = [117, 110, 116, 105, 108]
  · skip
    have HB : Hid (resV x = true) := Lib.hid (HK.out.2 (by simp [h4]))
    clear HK
    go_enter Tryd.func32, Tryd.ntmps32
    go_wp2
    go_ret
    exact ⟨ret_bool HB.out.symm, rfl⟩
  by_cases h5 : x.toList = [115, 105, 110, 99, 101]
  · skip
    have HB : Hid (resV x = true) := Lib.hid (HK.out.2 (by simp [h5]))
    clear HK
    go_enter Tryd.func32, Tryd.ntmps32
    go_wp2
    go_ret
    exact ⟨ret_bool HB.out.symm, rfl⟩
  by_cases h6 : x.toList = [100, 111]
  · skip
    have HB : Hid (resV x = true) := Lib.hid (HK.out.2 (by simp [h6]))
    clear HK
    go_enter Tryd.func32, Tryd.ntmps32
    go_wp2
    go_ret
    exact ⟨ret_bool HB.out.symm, rfl⟩
  have HB : Hid (resV x = false) := Lib.hid ((by cases hr : resV x with | false => rfl | true => exact absurd (HK.out.1 hr) (by simp [h0, h1, h2, h3, h4, h5, h6])))
  clear HK
  go_enter Tryd.func32, Tryd.ntmps32
  go_wp2
  go_ret
  exact ⟨ret_bool (by rw [HB.out]; simp [h0, h1, h2, h3, h4, h5, h6]), rfl⟩
/-- a list of strings that a slice leads to -/
def SL (w : World) (B : Nat) (a : Option Addr) (n c : Nat) (l : List ByteArray) : Prop :=
  Reads w B 1 a n (ss l) ∧ (a = none → n = 0 ∧ c = 0) ∧ n ≤ 20 ∧ (∀ x ∈ l, x.size ≤ maxLen) ∧ n ≤ c ∧ c ≤ 9223372036854775807
theorem SL.below {w w' : World} {B n c : Nat} {a : Option Addr} {l : List ByteArray} (h : SL w B a n c l) (hb : Below B w w') : SL w' B a n c l := ⟨h.1.below hb, h.2⟩
theorem SL.more {w : World} {B B' n c : Nat} {a : Option Addr} {l : List ByteArray} (h : SL w B a n c l) (hB : B ≤ B') : SL w B' a n c l := ⟨h.1.more hB, h.2⟩
theorem SL.at_ {w : World} {B n c : Nat} {a : Option Addr} {l : List ByteArray} (h : SL w B a n c l) {k : Nat} (hk : k < n) :
    ∃ ad, a = some ad ∧ ad.block < B ∧ w.cell? (ad.add k) = some (.string (l.getD k ByteArray.empty)) ∧ (l.getD k ByteArray.empty).size ≤ maxLen := by
  obtain ⟨ad, h1, h2, h3⟩ := h.1.str_at hk
  refine ⟨ad, h1, h2, h3, ?_⟩
  have hl := h.1.str_len
  rw [List.getD_eq_getElem?_getD, List.getElem?_eq_getElem (by omega)]
  exact h.2.2.2.1 _ (List.getElem_mem _)
def sv (a0 : Option Addr) (n0 c0 : Nat) (a1 : Option Addr) (n1 c1 : Nat) (a2 : Option Addr) (n2 c2 : Nat) : Value := .agg #[.slice a0 n0 c0, .slice a1 n1 c1, .slice a2 n2 c2]
/-- a signature's three lists -/
def SigR (w : World) (B : Nat) (v : Value) (A F X : List ByteArray) : Prop :=
  ∃ a0 n0 c0 a1 n1 c1 a2 n2 c2, v = sv a0 n0 c0 a1 n1 c1 a2 n2 c2 ∧ SL w B a0 n0 c0 A ∧ SL w B a1 n1 c1 F ∧ SL w B a2 n2 c2 X
theorem SigR.below {w w' : World} {B : Nat} {v : Value} {A F X : List ByteArray} (h : SigR w B v A F X) (hb : Below B w w') : SigR w' B v A F X := by
  obtain ⟨a0, n0, c0, a1, n1, c1, a2, n2, c2, rfl, h0, h1, h2⟩ := h
  exact ⟨a0, n0, c0, a1, n1, c1, a2, n2, c2, rfl, h0.below hb, h1.below hb, h2.below hb⟩
theorem SigR.more {w : World} {B B' : Nat} {v : Value} {A F X : List ByteArray} (h : SigR w B v A F X) (hB : B ≤ B') : SigR w B' v A F X := by
  obtain ⟨a0, n0, c0, a1, n1, c1, a2, n2, c2, rfl, h0, h1, h2⟩ := h
  exact ⟨a0, n0, c0, a1, n1, c1, a2, n2, c2, rfl, h0.more hB, h1.more hB, h2.more hB⟩
/-- in a world that is further on -/
theorem SigR.on {w w' : World} {v : Value} {A F X : List ByteArray} (h : SigR w w.heap.size v A F X) (hb : Below w.heap.size w w') : SigR w' w'.heap.size v A F X := (h.below hb).more hb.size
end Go.Proofs.YtichhbnpdhfimaaDoor
