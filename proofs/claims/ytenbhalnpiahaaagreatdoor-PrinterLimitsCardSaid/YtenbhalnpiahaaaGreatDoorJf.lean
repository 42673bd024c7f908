/- Layer 6: texts joined: Sd Se Sf Sg Sh Kr Ks Ud. -/
import Derived.Test.YtenbhalnpiahaaaGreatDoorJb
import Derived.Test.YtenbhalnpiahaaaGreatDoorJe
import Derived.Maps.OwnSet
import Derived.Maps.OwnOps
import Derived.Maps.Views
/- Layer 4: the reserved words, on both sides; a signature in memory; all names of a signature. -/
namespace Go.Proofs.YtenbhalnpiahaaaGreatDoor
open Go.RowKit Go.Proofs.Ws
/-- a package variable holds a list of strings -/
def Lst (w : World) (g : Nat) (l : List ByteArray) : Prop := g < w.heap.size ∧ ∃ A c, w.cell? ⟨g, 0, none⟩ = some (.slice A l.length c) ∧ l.length ≤ c ∧ c ≤ 9223372036854775807 ∧ Reads w w.heap.size 1 A l.length (ss l)
theorem Lst.below {w w' : World} {g : Nat} {l : List ByteArray} (h : Lst w g l) (hb : Below w.heap.size w w') : Lst w' g l := by
  obtain ⟨h1, A, c, h2, h3, h5, h4⟩ := h
  exact ⟨Nat.lt_of_lt_of_le h1 hb.size, A, c, (hb.cell (p := ⟨g, 0, none⟩) h1).trans h2, h3, h5, (h4.below hb).more hb.size⟩
/-- what the calls ask of the world -/
def EnvS (w : World) : Prop := Lst w 1 resW ∧ (∃ m, w.cell? ⟨2, 0, none⟩ = some (.int .i64 m)) ∧ 2 < w.heap.size
theorem EnvS.below {w w' : World} (h : EnvS w) (hb : Below w.heap.size w w') : EnvS w' := by
  obtain ⟨h1, ⟨m, h5⟩, h6⟩ := h
  exact ⟨h1.below hb, ⟨m, (hb.cell (p := ⟨2, 0, none⟩) h6).trans h5⟩, Nat.lt_of_lt_of_le h6 hb.size⟩
theorem pReserved_any (x : ByteArray) (w : World) (hE : EnvS w) :
    Calls Tryz.prog 53 #[.string x] w fun e w' => e = .returned (.bool (resV x)) ∧ w = w' := by
  obtain ⟨⟨_, A, c, hc, _, _, hR⟩, _⟩ := hE
  have HX := Lib.hid (pContains_any resW x A resW.length c _ w hR (by unfold maxLen; decide))
  have HB : Hid (resV x = Lib.containsS resW x) := Lib.hid rfl
  generalize Lib.containsS resW x = b at *
  clear hR
  generalize resW.length = n at *
  go_enter Tryz.func53, Tryz.ntmps53
  go_wp2_with fail
  refine (HX.out).mono ?_
  rintro e w' ⟨rfl, rfl⟩
  go_wp2
  go_ret
  exact ⟨ret_bool HB.out.symm, rfl⟩
set_option maxRecDepth 100000 in
set_option maxHeartbeats 2000000 in
theorem pRefReserved_any (x : ByteArray) (w : World) :
    Calls Tryz.prog 63 #[.string x] w fun e w' => e = .returned (.bool (resV x)) ∧ w = w' := by
  have HK : Hid (resV x = true ↔ x.toList = [116, 114, 117, 101] ∨ x.toList = [102, 97, 108, 115, 101] ∨ x.toList = [110, 101, 120, 116] ∨ x.toList = [112, 114, 101, 118] ∨ x.toList = [117, 110, 116, 105, 108] ∨ x.toList = [115, 105, 110, 99, 101] ∨ x.toList = [100, 111]) := Lib.hid (by
    have e : ∀ l : List UInt8, x = ⟨l.toArray⟩ ↔ x.toList = l := fun l => by
      rw [← Lib.bytes_beq_iff, beq_iff_eq, Lib.toList_data ⟨l.toArray⟩]
    unfold resV
    rw [Lib.containsS_iff]
    have e0 : resW = [⟨([116, 114, 117, 101] : List UInt8).toArray⟩, ⟨([102, 97, 108, 115, 101] : List UInt8).toArray⟩, ⟨([110, 101, 120, 116] : List UInt8).toArray⟩, ⟨([112, 114, 101, 118] : List UInt8).toArray⟩, ⟨([117, 110, 116, 105, 108] : List UInt8).toArray⟩, ⟨([115, 105, 110, 99, 101] : List UInt8).toArray⟩, ⟨([100, 111] : List UInt8).toArray⟩] := rfl
    rw [e0]
    simp only [List.mem_cons, List.not_mem_nil, or_false, e])
  by_cases h0 : x.toList = [116, 114, 117, 101]
  · skip
    have HB : Hid (resV x = true) := Lib.hid (HK.out.2 (by simp [h0]))
    clear HK
    go_enter Tryz.func63, Tryz.ntmps63
    go_wp2
    go_ret
    exact ⟨ret_bool HB.out.symm, rfl⟩
  by_cases h1 : x.toList = [102, 97, 108, 115, 101]
  · skip
    have HB : Hid (resV x = true) := Lib.hid (HK.out.2 (by simp [h1]))
    clear HK
    go_enter Tryz.func63, Tryz.ntmps63
    go_wp2
    go_ret
    exact ⟨ret_bool HB.out.symm, rfl⟩
  by_cases h2 : x.toList = [110, 101, 120, 116]
  · skip
    have HB : Hid (resV x = true) := Lib.hid (HK.out.2 (by simp [h2]))
    clear HK
    go_enter Tryz.func63, Tryz.ntmps63
    go_wp2
    go_ret
    exact ⟨ret_bool HB.out.symm, rfl⟩
  by_cases h3 : x.toList = [112, 114, 101, 118]
  · skip
    have HB : Hid (resV x = true) := Lib.hid (HK.out.2 (by simp [h3]))
    clear HK
    go_enter Tryz.func63, Tryz.ntmps63
    go_wp2
    go_ret
    exact ⟨ret_bool HB.out.symm, rfl⟩
  by_cases h4 : x.toList = [117, 110, 116, 105, 108]
  · skip
    have HB : Hid (resV x = true) := Lib.hid (HK.out.2 (by simp [h4]))
    clear HK
    go_enter Tryz.func63, Tryz.ntmps63
    go_wp2
    go_ret
    exact ⟨ret_bool HB.out.symm, rfl⟩
  by_cases h5 : x.toList = [115, 105, 110, 99, 101]
  · skip
    have HB : Hid (resV x = true) := Lib.hid (HK.out.2 (by simp [h5]))
    clear HK
    go_enter Tryz.func63, Tryz.ntmps63
    go_wp2
    go_ret
    exact ⟨ret_bool HB.out.symm, rfl⟩
  by_cases h6 : x.toList = [100, 111]
  · skip
    have HB : Hid (resV x = true) := Lib.hid (HK.out.2 (by simp [h6]))
    clear HK
    go_enter Tryz.func63, Tryz.ntmps63
    go_wp2
    go_ret
    exact ⟨ret_bool HB.out.symm, rfl⟩
  have HB : Hid (resV x = false) := Lib.hid ((by cases hr : resV x with | false => rfl | true => exact absurd (HK.out.1 hr) (by simp [h0, h1, h2, h3, h4, h5, h6])))
  clear HK
  go_enter Tryz.func63, Tryz.ntmps63
  go_wp2
  go_ret
  exact ⟨ret_bool (by rw [HB.out]; simp [h0, h1, h2, h3, h4, h5, h6]), rfl⟩
/-- a list of strings that a slice leads to -/
def SL (w : World) (B : Nat) (a : Option Addr) (n c : Nat) (l : List ByteArray) : Prop :=
  Reads w B 1 a n (ss l) ∧ (a = none → n = 0 ∧ c = 0) ∧ n ≤ 20 ∧ (∀ x ∈ l, x.size ≤ maxLen) ∧ n ≤ c ∧ c ≤ 9223372036854775807
theorem SL.below {w w' : World} {B n c : Nat} {a : Option Addr} {l : List ByteArray} (h : SL w B a n c l) (hb : Below B w w') : SL w' B a n c l := ⟨h.1.below hb, h.2⟩
theorem SL.more {w : World} {B B' n c : Nat} {a : Option Addr} {l : List ByteArray} (h : SL w B a n c l) (hB : B ≤ B') : SL w B' a n c l := ⟨h.1.more hB, h.2⟩
theorem SL.at_ {w : World} {B n c : Nat} {a : Option Addr} {l : List ByteArray} (h : SL w B a n c l) {k : Nat} (hk : k < n) :
    ∃ ad, a = some ad ∧ ad.block < B ∧ w.cell? (ad.add k) = some (.string (l.getD k ByteArray.empty)) ∧ (l.getD k ByteArray.empty).size ≤ maxLen := by
  obtain ⟨ad, h1, h2, h3⟩ := h.1.str_at hk
  refine ⟨ad, h1, h2, h3, ?_⟩
  have hl := h.1.str_len
  rw [List.getD_eq_getElem?_getD, List.getElem?_eq_getElem (by omega)]
  exact h.2.2.2.1 _ (List.getElem_mem _)
def sv (a0 : Option Addr) (n0 c0 : Nat) (a1 : Option Addr) (n1 c1 : Nat) (a2 : Option Addr) (n2 c2 : Nat) : Value := .agg #[.slice a0 n0 c0, .slice a1 n1 c1, .slice a2 n2 c2]
/-- a signature's three lists -/
def SigR (w : World) (B : Nat) (v : Value) (A F X : List ByteArray) : Prop :=
  ∃ a0 n0 c0 a1 n1 c1 a2 n2 c2, v = sv a0 n0 c0 a1 n1 c1 a2 n2 c2 ∧ SL w B a0 n0 c0 A ∧ SL w B a1 n1 c1 F ∧ SL w B a2 n2 c2 X
theorem SigR.below {w w' : World} {B : Nat} {v : Value} {A F X : List ByteArray} (h : SigR w B v A F X) (hb : Below B w w') : SigR w' B v A F X := by
  obtain ⟨a0, n0, c0, a1, n1, c1, a2, n2, c2, rfl, h0, h1, h2⟩ := h
  exact ⟨a0, n0, c0, a1, n1, c1, a2, n2, c2, rfl, h0.below hb, h1.below hb, h2.below hb⟩
theorem SigR.more {w : World} {B B' : Nat} {v : Value} {A F X : List ByteArray} (h : SigR w B v A F X) (hB : B ≤ B') : SigR w B' v A F X := by
  obtain ⟨a0, n0, c0, a1, n1, c1, a2, n2, c2, rfl, h0, h1, h2⟩ := h
  exact ⟨a0, n0, c0, a1, n1, c1, a2, n2, c2, rfl, h0.more hB, h1.more hB, h2.more hB⟩
/-- in a world that is further on -/
theorem SigR.on {w w' : World} {v : Value} {A F X : List ByteArray} (h : SigR w w.heap.size v A F X) (hb : Below w.heap.size w w') : SigR w' w'.heap.size v A F X := (h.below hb).more hb.size
end Go.Proofs.YtenbhalnpiahaaaGreatDoor
/- Layer 4: the program's check of a signature. -/
namespace Go.Proofs.YtenbhalnpiahaaaGreatDoor
open Go.RowKit Go.Proofs.Ws
def sel3 {α : Type} (x y z : α) : Nat → α
  | 0 => x
  | 1 => y
  | _ => z
theorem catK_three (A F X : List ByteArray) : catK (sel3 A F X) 3 = A ++ (F ++ X) := by simp [catK, sel3]
theorem Reads.strTake {w : World} {B n k : Nat} {A : Option Addr} {l : List ByteArray} (h : Reads w B 1 A n (ss l)) (hk : k ≤ n) : Reads w B 1 A k (ss (l.take k)) := by
  have hl := h.str_len
  refine ⟨by rw [ss_length]; simp; omega, fun h0 => ?_⟩
  obtain ⟨ad, hA, hb, hc⟩ := h.2 (by omega)
  refine ⟨ad, hA, hb, fun j u hu => hc j u ?_⟩
  unfold ss at hu ⊢
  rw [List.map_take, List.getElem?_take] at hu
  split at hu
  · exact hu
  · cases hu
theorem ck_step {L : List ByteArray} {k : Nat} (hk : k < L.length) (hI : ckFrom (L.take k) (L.drop k) = ckFrom [] L) :
    (nameV (L.getD k ByteArray.empty) = false → ckFrom [] L = 3) ∧ (nameV (L.getD k ByteArray.empty) = true → (resV (L.getD k ByteArray.empty) = true ∨ Lib.containsS (L.take k) (L.getD k ByteArray.empty) = true) → ckFrom [] L = 5) ∧
    (nameV (L.getD k ByteArray.empty) = true → resV (L.getD k ByteArray.empty) = false → Lib.containsS (L.take k) (L.getD k ByteArray.empty) = false → ckFrom (L.take (k + 1)) (L.drop (k + 1)) = ckFrom [] L) := by
  have hd : L.drop k = L.getD k ByteArray.empty :: L.drop (k + 1) := by
    rw [List.getD_eq_getElem?_getD, List.getElem?_eq_getElem hk, List.drop_eq_getElem_cons hk]; rfl
  have ht : L.take (k + 1) = L.take k ++ [L.getD k ByteArray.empty] := by
    rw [List.take_add_one, List.getD_eq_getElem?_getD, List.getElem?_eq_getElem hk]; rfl
  rw [hd, ckFrom, ← ht] at hI
  refine ⟨fun h => ?_, fun h h' => ?_, fun h h' h'' => ?_⟩
  · rw [if_pos h] at hI; exact hI.symm
  · rw [if_neg (by rw [h]; decide), if_pos h'] at hI; exact hI.symm
  · rw [if_neg (by rw [h]; decide), if_neg (by rw [h', h'']; decide)] at hI; exact hI
theorem srcs3 {w : World} {v0 : Value} {a0 a1 a2 : Option Addr} {n0 n1 n2 c0 c1 c2 : Nat} {A F X : List ByteArray} (h0 : SL w w.heap.size a0 n0 c0 A) (h1 : SL w w.heap.size a1 n1 c1 F) (h2 : SL w w.heap.size a2 n2 c2 X) (T T' : TypeId) :
    Srcs ((w.alloc (.cells #[v0, .slice a1 n1 c1, .slice a2 n2 c2] T)).alloc (.cells #[.slice a0 n0 c0, .slice a1 n1 c1, .slice a2 n2 c2] T')) ((w.alloc (.cells #[v0, .slice a1 n1 c1, .slice a2 n2 c2] T)).alloc (.cells #[.slice a0 n0 c0, .slice a1 n1 c1, .slice a2 n2 c2] T')).heap.size (w.heap.size + 1) 3 (sel3 a0 a1 a2) (sel3 n0 n1 n2) (sel3 c0 c1 c2) (sel3 A F X) := by
  have hb : Below w.heap.size w ((w.alloc (.cells #[v0, .slice a1 n1 c1, .slice a2 n2 c2] T)).alloc (.cells #[.slice a0 n0 c0, .slice a1 n1 c1, .slice a2 n2 c2] T')) := ((Below.refl _ w).alloc (Nat.le_refl _) _).alloc (by simp) _
  have hh : ((w.alloc (.cells #[v0, .slice a1 n1 c1, .slice a2 n2 c2] T)).alloc (.cells #[.slice a0 n0 c0, .slice a1 n1 c1, .slice a2 n2 c2] T')).heap[w.heap.size + 1]? = some (.cells #[.slice a0 n0 c0, .slice a1 n1 c1, .slice a2 n2 c2] T' (0, 0)) := by
    have := heap_alloc_new (w.alloc (.cells #[v0, .slice a1 n1 c1, .slice a2 n2 c2] T)) (.cells #[.slice a0 n0 c0, .slice a1 n1 c1, .slice a2 n2 c2] T')
    simpa using this
  have more : ∀ {a : Option Addr} {n c : Nat} {l : List ByteArray}, SL w w.heap.size a n c l → Reads ((w.alloc (.cells #[v0, .slice a1 n1 c1, .slice a2 n2 c2] T)).alloc (.cells #[.slice a0 n0 c0, .slice a1 n1 c1, .slice a2 n2 c2] T')) ((w.alloc (.cells #[v0, .slice a1 n1 c1, .slice a2 n2 c2] T)).alloc (.cells #[.slice a0 n0 c0, .slice a1 n1 c1, .slice a2 n2 c2] T')).heap.size 1 a n (ss l) := fun h => ((h.below hb).more hb.size).1
  intro k hk
  match k, hk with
  | 0, _ => exact ⟨by rw [Lib.cell_of_heap hh]; rfl, more h0, h0.2.1, by have := h0.2.2.1; simp only [sel3]; omega⟩
  | 1, _ => exact ⟨by rw [Lib.cell_of_heap hh]; rfl, more h1, h1.2.1, by have := h1.2.2.1; simp only [sel3]; omega⟩
  | 2, _ => exact ⟨by rw [Lib.cell_of_heap hh]; rfl, more h2, h2.2.1, by have := h2.2.2.1; simp only [sel3]; omega⟩
  | k + 3, h => omega
set_option maxRecDepth 100000 in
set_option maxHeartbeats 4000000 in
theorem pSigCheck_any (v : Value) (A F X : List ByteArray) (w : World) (hS : SigR w w.heap.size v A F X) (hE : EnvS w) :
    Calls Tryz.prog 27 #[v] w fun e w' => e = .returned (.int .i64 (sigErr A F X)) ∧ Below w.heap.size w w' := by
  obtain ⟨a0, n0, c0, a1, n1, c1, a2, n2, c2, rfl, h0, h1, h2⟩ := hS
  unfold sv
  have l0 := h0.1.str_len
  have l1 := h1.1.str_len
  have l2 := h2.1.str_len
  have m0 := h0.2.2.1
  have m1 := h1.2.2.1
  have m2 := h2.2.2.1
  by_cases b0 : 4 < n0
  · have HV : Hid (sigErr A F X = 8) := Lib.hid (by unfold sigErr; rw [if_neg (by omega)])
    have d0 : decide ((4 : Int) < (n0 : Int)) = true := by simp; omega
    clear h0 h1 h2 l0 l1 l2
    go_enter Tryz.func27, Tryz.ntmps27
    go_wp2
    go_ret
    exact ⟨ret_i64 HV.out.symm, (Below.refl _ w).alloc (Nat.le_refl _) _⟩
  · by_cases b1 : 8 < n1
    · have HV : Hid (sigErr A F X = 8) := Lib.hid (by unfold sigErr; rw [if_neg (by omega)])
      have d0 : decide ((4 : Int) < (n0 : Int)) = false := by simp; omega
      have d1 : decide ((8 : Int) < (n1 : Int)) = true := by simp; omega
      clear h0 h1 h2 l0 l1 l2
      go_enter Tryz.func27, Tryz.ntmps27
      go_wp2
      go_ret
      exact ⟨ret_i64 HV.out.symm, (Below.refl _ w).alloc (Nat.le_refl _) _⟩
    · by_cases b2 : 8 < n2
      · have HV : Hid (sigErr A F X = 8) := Lib.hid (by unfold sigErr; rw [if_neg (by omega)])
        have d0 : decide ((4 : Int) < (n0 : Int)) = false := by simp; omega
        have d1 : decide ((8 : Int) < (n1 : Int)) = false := by simp; omega
        have d2 : decide ((8 : Int) < (n2 : Int)) = true := by simp; omega
        clear h0 h1 h2 l0 l1 l2
        go_enter Tryz.func27, Tryz.ntmps27
        go_wp2
        go_ret
        exact ⟨ret_i64 HV.out.symm, (Below.refl _ w).alloc (Nat.le_refl _) _⟩
      · obtain ⟨L, hL⟩ : ∃ L, L = A ++ (F ++ X) := ⟨_, rfl⟩
        have HV : Hid (sigErr A F X = ckFrom [] L) := Lib.hid (by unfold sigErr; rw [if_pos (by omega), hL])
        have HSZ : Hid (∀ x ∈ L, x.size ≤ maxLen) := Lib.hid (fun x hx => by
          rw [hL] at hx
          rcases List.mem_append.1 hx with hx | hx
          · exact h0.2.2.2.1 x hx
          · rcases List.mem_append.1 hx with hx | hx
            · exact h1.2.2.2.1 x hx
            · exact h2.2.2.2.1 x hx)
        have d0 : decide ((4 : Int) < (n0 : Int)) = false := by simp; omega
        have d1 : decide ((8 : Int) < (n1 : Int)) = false := by simp; omega
        have d2 : decide ((8 : Int) < (n2 : Int)) = false := by simp; omega
        have HC := Lib.hid (fun T T' => pConcat_any (w.heap.size + 1) 3 _ _ _ _ _ (by simp) (by omega) (srcs3 (v0 := .slice a0 n0 c0) h0 h1 h2 T T'))
        have HLL : Hid (L.length ≤ 60) := Lib.hid (by rw [hL]; simp; omega)
        have HE := Lib.hid hE
        rw [catK_three, ← hL] at HC
        clear h0 h1 h2 l0 l1 l2 hL hE
        go_enter Tryz.func27, Tryz.ntmps27
        go_wp2_with fail
        refine ((HC.out _ _)).mono ?_
        rintro e w1 ⟨A1, C1, rfl, hn1, hc1, hR1, hb1⟩
        have HB1 : Hid (Below w.heap.size w w1) := Lib.hid ((((Below.refl _ w).alloc (Nat.le_refl _) _).alloc (by simp) _).trans (hb1.mono (by simp; omega)))
        have HR1 := Lib.hid hR1
        have hLL := HLL.out
        clear hb1 HC hR1
        generalize hN : L.length = N at *
        have HNL := Lib.hid hN
        clear hN
        go_wp2
        go_loopw [32] (fun i wr => ∃ k : Nat, k ≤ N ∧ i = .int .i64 k ∧ Hid (ckFrom (L.take k) (L.drop k) = ckFrom [] L) ∧ w1 = wr) (fun i _ => N - (intOf i).toNat)
        case atStart => exact ⟨0, Nat.zero_le _, rfl, Lib.hid (by rw [List.take_zero, List.drop_zero]), rfl⟩
        case round =>
          obtain ⟨k, hk, rfl, HI, rfl⟩ := hrel
          by_cases hlt : k < N
          · obtain ⟨ad, hA1, hbb, hc⟩ := HR1.out.str_at hlt
            subst hA1
            have HST := Lib.hid (ck_step (L := L) (k := k) (by rw [HNL.out]; exact hlt) HI.out)
            have hsz : (L.getD k ByteArray.empty).size ≤ maxLen := by
              rw [List.getD_eq_getElem?_getD, List.getElem?_eq_getElem (by rw [HNL.out]; exact hlt)]
              exact HSZ.out _ (List.getElem_mem _)
            have HNM := Lib.hid (fun W => pIsName_any (L.getD k ByteArray.empty) W hsz)
            have HRS := Lib.hid (fun W (hW : EnvS W) => pReserved_any (L.getD k ByteArray.empty) W hW)
            have HCN := Lib.hid (pContains_any (L.take k) (L.getD k ByteArray.empty) (some ad) k C1 _ w1 (HR1.out.strTake (k := k) hk) (by unfold maxLen; omega))
            have HE1 := Lib.hid (HE.out.below HB1.out)
            generalize L.getD k ByteArray.empty = x at *
            cases hn : nameV x with
            | false =>
              have HF := Lib.hid (HST.out.1 hn)
              rw [hn] at HNM
              clear hn HST HI
              go_wp2_with fail
              refine (HNM.out _).mono ?_
              rintro e w2 ⟨rfl, rfl⟩
              go_wp2
              go_ret
              exact ⟨ret_i64 (by rw [HV.out, HF.out]), HB1.out⟩
            | true =>
              rw [hn] at HNM
              cases hr : resV x with
              | true =>
                have HF := Lib.hid (HST.out.2.1 hn (.inl hr))
                rw [hr] at HRS
                clear hn hr HST HI
                go_wp2_with (first | (go_at_call 52; refine (HNM.out _).mono ?_; rintro e w2 ⟨rfl, rfl⟩) | (go_at_call 53; refine (HRS.out _ HE1.out).mono ?_; rintro e w2 ⟨rfl, rfl⟩))
                go_ret
                exact ⟨ret_i64 (by rw [HV.out, HF.out]), HB1.out⟩
              | false =>
                rw [hr] at HRS
                cases hcn : Lib.containsS (L.take k) x with
                | true =>
                  have HF := Lib.hid (HST.out.2.1 hn (.inr hcn))
                  rw [hcn] at HCN
                  clear hn hr hcn HST HI
                  go_wp2_with (first | (go_at_call 52; refine (HNM.out _).mono ?_; rintro e w2 ⟨rfl, rfl⟩) | (go_at_call 53; refine (HRS.out _ HE1.out).mono ?_; rintro e w2 ⟨rfl, rfl⟩) | (go_at_call 54; refine (HCN.out).mono ?_; rintro e w2 ⟨rfl, rfl⟩))
                  go_ret
                  exact ⟨ret_i64 (by rw [HV.out, HF.out]), HB1.out⟩
                | false =>
                  have HF := Lib.hid (HST.out.2.2 hn hr hcn)
                  rw [hcn] at HCN
                  clear hn hr hcn HST HI
                  go_wp2_with (first | (go_at_call 52; refine (HNM.out _).mono ?_; rintro e w2 ⟨rfl, rfl⟩) | (go_at_call 53; refine (HRS.out _ HE1.out).mono ?_; rintro e w2 ⟨rfl, rfl⟩) | (go_at_call 54; refine (HCN.out).mono ?_; rintro e w2 ⟨rfl, rfl⟩))
                  go_roundw
                  case rel => exact ⟨k + 1, by omega, by go_num, HF, by first | rfl | trivial⟩
                  case measure => simp [intOf]; omega
          · have hkn : N = k := by omega
            subst hkn
            have HF : Hid (ckFrom [] L = 0) := Lib.hid (by
              have := HI.out
              rw [← HNL.out, List.drop_length, ckFrom] at this
              exact this.symm)
            clear HI
            go_wp2
            go_ret
            exact ⟨ret_i64 (by rw [HV.out, HF.out]), HB1.out⟩
end Go.Proofs.YtenbhalnpiahaaaGreatDoor
/- Layer 4: all names of a signature, and its check, by the reference. -/
namespace Go.Proofs.YtenbhalnpiahaaaGreatDoor
open Go.RowKit Go.Proofs.Ws
theorem ss_take (P l : List ByteArray) (k : Nat) (hk : k < l.length) : ss (P ++ l.take (k + 1)) = ss (P ++ l.take k) ++ [.string (l.getD k ByteArray.empty)] := by
  have e : l.take (k + 1) = l.take k ++ [l.getD k ByteArray.empty] := by
    rw [List.take_add_one, List.getD_eq_getElem?_getD, List.getElem?_eq_getElem hk]; rfl
  rw [e, ← List.append_assoc, ss_append]
  rfl
set_option maxRecDepth 100000 in
set_option maxHeartbeats 4000000 in
theorem pRefAll_any (v : Value) (A F X : List ByteArray) (w : World) (hS : SigR w w.heap.size v A F X) :
    Calls Tryz.prog 61 #[v] w fun e w' => ∃ A' c', e = .returned (.slice A' (A ++ (F ++ X)).length c') ∧ Reads w' w'.heap.size 1 A' (A ++ (F ++ X)).length (ss (A ++ (F ++ X))) ∧ Below w.heap.size w w' := by
  obtain ⟨a0, n0, c0, a1, n1, c1, a2, n2, c2, rfl, h0, h1, h2⟩ := hS
  unfold sv
  have H0 := Lib.hid h0
  have H1 := Lib.hid h1
  have H2 := Lib.hid h2
  have HPL0 : Hid (([] : List ByteArray).length ≤ 100) := Lib.hid (by simp)
  have HPL1 : Hid (A.length ≤ 100) := Lib.hid (by have := h0.1.str_len; have := h0.2.2.1; omega)
  have HPL2 : Hid ((A ++ F).length ≤ 100) := Lib.hid (by have := h0.1.str_len; have := h0.2.2.1; have := h1.1.str_len; have := h1.2.2.1; rw [List.length_append]; omega)
  obtain ⟨i0, hi, hz0, hz1, hz2⟩ := info_parts Tryz.infoS
  obtain ⟨w0, hw0⟩ : ∃ w0, w0 = w.alloc (.cells #[.slice a0 n0 c0, .slice a1 n1 c1, .slice a2 n2 c2] 24) := ⟨_, rfl⟩
  have HBW : Hid (Below w.heap.size w w0) := Lib.hid (by rw [hw0]; exact (Below.refl _ w).alloc (Nat.le_refl _) _)
  have HW0 : Hid (w0.heap.size = w.heap.size + 1) := Lib.hid (by rw [hw0]; simp)
  have HBX : Hid (∀ wr, Below (w.heap.size + 1) w0 wr → wr.cell? ⟨w.heap.size, 0, none⟩ = some (.slice a0 n0 c0) ∧ wr.cell? ⟨w.heap.size, 1, none⟩ = some (.slice a1 n1 c1) ∧ wr.cell? ⟨w.heap.size, 2, none⟩ = some (.slice a2 n2 c2)) := Lib.hid (fun wr hb => by
    have hh := heap_alloc_new w (.cells #[.slice a0 n0 c0, .slice a1 n1 c1, .slice a2 n2 c2] 24)
    rw [← hw0] at hh
    refine ⟨(hb.cell (p := ⟨w.heap.size, 0, none⟩) (by simp)).trans ?_, (hb.cell (p := ⟨w.heap.size, 1, none⟩) (by simp)).trans ?_, (hb.cell (p := ⟨w.heap.size, 2, none⟩) (by simp)).trans ?_⟩ <;> (rw [Lib.cell_of_heap hh]; rfl))
  clear h0 h1 h2
  go_enter Tryz.func61, Tryz.ntmps61
  go_wp2_with (simp only [← hw0])
  go_loopw [3, 4] (fun v i wr => ∃ (k q : Nat) (xs : List Value), k ≤ n0 ∧ i = .int .i64 k ∧ Hid (q = (([] : List ByteArray)).length + k ∧ xs = ss (([] : List ByteArray) ++ A.take k)) ∧ wr.ownsRow (w.heap.size + 1) 9 1 v q xs ∧ Below (w.heap.size + 1) w0 wr) (fun _ i _ => n0 - (intOf i).toNat)
  case atStart => exact ⟨0, 0, [], Nat.zero_le _, rfl, Lib.hid ⟨rfl, rfl⟩, World.ownsRow_nil _ _ _ _, Below.refl _ _⟩
  case round =>
    skip
    obtain ⟨k, q, xs, hk, rfl, HO, hown, hb⟩ := hrel
    have hcb := (HBX.out wr hb).1
    have hsz : w.heap.size + 1 ≤ wr.heap.size := by have := hb.size; have := HW0.out; omega
    by_cases hlt : k < n0
    · obtain ⟨ad, hA, hbb, hc0, _⟩ := H0.out.at_ hlt
      subst hA
      have hc := (hb.cell (p := ad.add k) (by rw [block_of_add]; omega)).trans ((HBW.out.cell (p := ad.add k) (by rw [block_of_add]; exact hbb)).trans hc0)
      have HX : Hid (q + 1 = (([] : List ByteArray)).length + (k + 1) ∧ xs ++ [.string (A.getD k ByteArray.empty)] = ss (([] : List ByteArray) ++ A.take (k + 1))) := Lib.hid ⟨by have := HO.out.1; omega, by rw [HO.out.2]; exact (ss_take _ _ _ (by rw [H0.out.1.str_len]; exact hlt)).symm⟩
      generalize A.getD k ByteArray.empty = x at *
      have hq : q ≤ 120 := by have := HO.out.1; have := HPL0.out; have := H0.out.2.2.1; omega
      have hm : n0 ≤ 20 := H0.out.2.2.1
      clear hc0 hbb HO
      go_wp2_with (at_builtin; refine wpList_append_own _ rfl _ _ 22 rfl (w.heap.size + 1) 9 i0 (.string ByteArray.empty) 1 16 Tryz.underlying22 hi hz0 hz1 hz2 rfl (by decide) _ _ _ rfl (hown.alloc _) ⟨wr.heap.size, 0, none⟩ 1 1 [.string x] rfl rfl ?c1 ?c2 ?c3 ?c4 ?c5 ?_)
      case c1 =>
        intro j u hj
        match j, hj with
        | 0, hj => simp at hj; subst hj; simp [Addr.add]
      case c2 => intro u hu; simp at hu; subst hu; rfl
      case c3 => unfold maxLen; omega
      case c4 => omega
      case c5 => simp; omega
      intro v' w3 hown' hgrow _
      have hb3 : Below (w.heap.size + 1) w0 w3 := (hb.alloc hsz _).grown hgrow (by simp; omega) (fun j hj => ((hown.alloc (.cells #[.string x] 9)).lt j hj).1)
      clear hgrow hown hb
      go_wp2
      go_roundw
      case rel => exact ⟨k + 1, q + 1, _, by omega, by go_num, HX, hown', hb3⟩
      case measure => simp [intOf]; omega
    · have hkn : n0 = k := by omega
      subst hkn
      have HE0 : Hid (q = (([] : List ByteArray) ++ A).length ∧ xs = ss (([] : List ByteArray) ++ A)) := Lib.hid (by
        have hl := H0.out.1.str_len
        have h1 := HO.out.1
        have h2 := HO.out.2
        rw [← hl, List.take_length] at h2
        exact ⟨by rw [List.length_append]; omega, h2⟩)
      clear HO
      go_wp2
      go_loopw [3, 5] (fun v i wr => ∃ (k q : Nat) (xs : List Value), k ≤ n1 ∧ i = .int .i64 k ∧ Hid (q = (A).length + k ∧ xs = ss (A ++ F.take k)) ∧ wr.ownsRow (w.heap.size + 1) 9 1 v q xs ∧ Below (w.heap.size + 1) w0 wr) (fun _ i _ => n1 - (intOf i).toNat)
      case atStart => exact ⟨0, q, xs, Nat.zero_le _, rfl, Lib.hid ⟨HE0.out.1, by rw [List.take_zero, List.append_nil]; exact HE0.out.2⟩, hown, hb⟩
      case round =>
        clear hown hb
        obtain ⟨k, q, xs, hk, rfl, HO, hown, hb⟩ := hrel
        have hcb := (HBX.out wr hb).2.1
        have hsz : w.heap.size + 1 ≤ wr.heap.size := by have := hb.size; have := HW0.out; omega
        by_cases hlt : k < n1
        · obtain ⟨ad, hA, hbb, hc0, _⟩ := H1.out.at_ hlt
          subst hA
          have hc := (hb.cell (p := ad.add k) (by rw [block_of_add]; omega)).trans ((HBW.out.cell (p := ad.add k) (by rw [block_of_add]; exact hbb)).trans hc0)
          have HX : Hid (q + 1 = (A).length + (k + 1) ∧ xs ++ [.string (F.getD k ByteArray.empty)] = ss (A ++ F.take (k + 1))) := Lib.hid ⟨by have := HO.out.1; omega, by rw [HO.out.2]; exact (ss_take _ _ _ (by rw [H1.out.1.str_len]; exact hlt)).symm⟩
          generalize F.getD k ByteArray.empty = x at *
          have hq : q ≤ 120 := by have := HO.out.1; have := HPL1.out; have := H1.out.2.2.1; omega
          have hm : n1 ≤ 20 := H1.out.2.2.1
          clear hc0 hbb HO
          go_wp2_with (at_builtin; refine wpList_append_own _ rfl _ _ 22 rfl (w.heap.size + 1) 9 i0 (.string ByteArray.empty) 1 16 Tryz.underlying22 hi hz0 hz1 hz2 rfl (by decide) _ _ _ rfl (hown.alloc _) ⟨wr.heap.size, 0, none⟩ 1 1 [.string x] rfl rfl ?c1 ?c2 ?c3 ?c4 ?c5 ?_)
          case c1 =>
            intro j u hj
            match j, hj with
            | 0, hj => simp at hj; subst hj; simp [Addr.add]
          case c2 => intro u hu; simp at hu; subst hu; rfl
          case c3 => unfold maxLen; omega
          case c4 => omega
          case c5 => simp; omega
          intro v' w3 hown' hgrow _
          have hb3 : Below (w.heap.size + 1) w0 w3 := (hb.alloc hsz _).grown hgrow (by simp; omega) (fun j hj => ((hown.alloc (.cells #[.string x] 9)).lt j hj).1)
          clear hgrow hown hb
          go_wp2
          go_roundw
          case rel => exact ⟨k + 1, q + 1, _, by omega, by go_num, HX, hown', hb3⟩
          case measure => simp [intOf]; omega
        · have hkn : n1 = k := by omega
          subst hkn
          have HE1 : Hid (q = (A ++ F).length ∧ xs = ss (A ++ F)) := Lib.hid (by
            have hl := H1.out.1.str_len
            have h1 := HO.out.1
            have h2 := HO.out.2
            rw [← hl, List.take_length] at h2
            exact ⟨by rw [List.length_append]; omega, h2⟩)
          clear HO
          go_wp2
          go_loopw [3, 6] (fun v i wr => ∃ (k q : Nat) (xs : List Value), k ≤ n2 ∧ i = .int .i64 k ∧ Hid (q = ((A ++ F)).length + k ∧ xs = ss ((A ++ F) ++ X.take k)) ∧ wr.ownsRow (w.heap.size + 1) 9 1 v q xs ∧ Below (w.heap.size + 1) w0 wr) (fun _ i _ => n2 - (intOf i).toNat)
          case atStart => exact ⟨0, q, xs, Nat.zero_le _, rfl, Lib.hid ⟨HE1.out.1, by rw [List.take_zero, List.append_nil]; exact HE1.out.2⟩, hown, hb⟩
          case round =>
            clear hown hb
            obtain ⟨k, q, xs, hk, rfl, HO, hown, hb⟩ := hrel
            have hcb := (HBX.out wr hb).2.2
            have hsz : w.heap.size + 1 ≤ wr.heap.size := by have := hb.size; have := HW0.out; omega
            by_cases hlt : k < n2
            · obtain ⟨ad, hA, hbb, hc0, _⟩ := H2.out.at_ hlt
              subst hA
              have hc := (hb.cell (p := ad.add k) (by rw [block_of_add]; omega)).trans ((HBW.out.cell (p := ad.add k) (by rw [block_of_add]; exact hbb)).trans hc0)
              have HX : Hid (q + 1 = ((A ++ F)).length + (k + 1) ∧ xs ++ [.string (X.getD k ByteArray.empty)] = ss ((A ++ F) ++ X.take (k + 1))) := Lib.hid ⟨by have := HO.out.1; omega, by rw [HO.out.2]; exact (ss_take _ _ _ (by rw [H2.out.1.str_len]; exact hlt)).symm⟩
              generalize X.getD k ByteArray.empty = x at *
              have hq : q ≤ 120 := by have := HO.out.1; have := HPL2.out; have := H2.out.2.2.1; omega
              have hm : n2 ≤ 20 := H2.out.2.2.1
              clear hc0 hbb HO
              go_wp2_with (at_builtin; refine wpList_append_own _ rfl _ _ 22 rfl (w.heap.size + 1) 9 i0 (.string ByteArray.empty) 1 16 Tryz.underlying22 hi hz0 hz1 hz2 rfl (by decide) _ _ _ rfl (hown.alloc _) ⟨wr.heap.size, 0, none⟩ 1 1 [.string x] rfl rfl ?c1 ?c2 ?c3 ?c4 ?c5 ?_)
              case c1 =>
                intro j u hj
                match j, hj with
                | 0, hj => simp at hj; subst hj; simp [Addr.add]
              case c2 => intro u hu; simp at hu; subst hu; rfl
              case c3 => unfold maxLen; omega
              case c4 => omega
              case c5 => simp; omega
              intro v' w3 hown' hgrow _
              have hb3 : Below (w.heap.size + 1) w0 w3 := (hb.alloc hsz _).grown hgrow (by simp; omega) (fun j hj => ((hown.alloc (.cells #[.string x] 9)).lt j hj).1)
              clear hgrow hown hb
              go_wp2
              go_roundw
              case rel => exact ⟨k + 1, q + 1, _, by omega, by go_num, HX, hown', hb3⟩
              case measure => simp [intOf]; omega
            · have hkn : n2 = k := by omega
              subst hkn
              have HE2 : Hid (q = ((A ++ F) ++ X).length ∧ xs = ss ((A ++ F) ++ X)) := Lib.hid (by
                have hl := H2.out.1.str_len
                have h1 := HO.out.1
                have h2 := HO.out.2
                rw [← hl, List.take_length] at h2
                exact ⟨by rw [List.length_append]; omega, h2⟩)
              clear HO
              obtain ⟨A', c', rfl, hnc, hcm, _, hRd⟩ := own_reads2 hown
              have HRD := Lib.hid hRd
              have HB : Hid (Below w.heap.size w wr) := Lib.hid (HBW.out.trans (hb.mono (by omega)))
              clear hRd hown hb
              go_wp2
              go_ret
              obtain ⟨rfl, rfl⟩ := HE2.out
              have e := List.append_assoc A F X
              exact ⟨A', c', by first | (rw [← e]; done) | simp, by rw [← e]; exact HRD.out, HB.out⟩
end Go.Proofs.YtenbhalnpiahaaaGreatDoor
/- Layer 4: the reference's check of a signature. -/
namespace Go.Proofs.YtenbhalnpiahaaaGreatDoor
open Go.RowKit Go.Proofs.Ws
theorem idx_contains {L : List ByteArray} {k : Nat} (hk : k < L.length) : decide (Lib.idxOfS L (L.getD k ByteArray.empty) < (k : Int)) = Lib.containsS (L.take k) (L.getD k ByteArray.empty) := by
  have h := idx_lt_take hk
  cases hc : Lib.containsS (L.take k) (L.getD k ByteArray.empty)
  · rw [decide_eq_false_iff_not, h, ← Lib.containsS_iff, hc]; decide
  · rw [decide_eq_true_eq, h, ← Lib.containsS_iff, hc]
set_option maxRecDepth 100000 in
set_option maxHeartbeats 4000000 in
theorem pRefSigCheck_any (v : Value) (A F X : List ByteArray) (w : World) (hS : SigR w w.heap.size v A F X) :
    Calls Tryz.prog 32 #[v] w fun e w' => e = .returned (.int .i64 (sigErr A F X)) ∧ Below w.heap.size w w' := by
  have HS := Lib.hid hS
  obtain ⟨a0, n0, c0, a1, n1, c1, a2, n2, c2, rfl, h0, h1, h2⟩ := hS
  unfold sv at HS ⊢
  have l0 := h0.1.str_len
  have l1 := h1.1.str_len
  have l2 := h2.1.str_len
  have m0 := h0.2.2.1
  have m1 := h1.2.2.1
  have m2 := h2.2.2.1
  by_cases b0 : 4 < n0
  · have HV : Hid (sigErr A F X = 8) := Lib.hid (by unfold sigErr; rw [if_neg (by omega)])
    have d0 : decide ((4 : Int) < (n0 : Int)) = true := by simp; omega
    clear h0 h1 h2 l0 l1 l2
    go_enter Tryz.func32, Tryz.ntmps32
    go_wp2
    go_ret
    exact ⟨ret_i64 HV.out.symm, (Below.refl _ w).alloc (Nat.le_refl _) _⟩
  · by_cases b1 : 8 < n1
    · have HV : Hid (sigErr A F X = 8) := Lib.hid (by unfold sigErr; rw [if_neg (by omega)])
      have d0 : decide ((4 : Int) < (n0 : Int)) = false := by simp; omega
      have d1 : decide ((8 : Int) < (n1 : Int)) = true := by simp; omega
      clear h0 h1 h2 l0 l1 l2
      go_enter Tryz.func32, Tryz.ntmps32
      go_wp2
      go_ret
      exact ⟨ret_i64 HV.out.symm, (Below.refl _ w).alloc (Nat.le_refl _) _⟩
    · by_cases b2 : 8 < n2
      · have HV : Hid (sigErr A F X = 8) := Lib.hid (by unfold sigErr; rw [if_neg (by omega)])
        have d0 : decide ((4 : Int) < (n0 : Int)) = false := by simp; omega
        have d1 : decide ((8 : Int) < (n1 : Int)) = false := by simp; omega
        have d2 : decide ((8 : Int) < (n2 : Int)) = true := by simp; omega
        clear h0 h1 h2 l0 l1 l2
        go_enter Tryz.func32, Tryz.ntmps32
        go_wp2
        go_ret
        exact ⟨ret_i64 HV.out.symm, (Below.refl _ w).alloc (Nat.le_refl _) _⟩
      · have d0 : decide ((4 : Int) < (n0 : Int)) = false := by simp; omega
        have d1 : decide ((8 : Int) < (n1 : Int)) = false := by simp; omega
        have d2 : decide ((8 : Int) < (n2 : Int)) = false := by simp; omega
        have HC : Hid (∀ o, Calls Tryz.prog 61 #[.agg #[.slice a0 n0 c0, .slice a1 n1 c1, .slice a2 n2 c2]] (w.alloc o) _) := Lib.hid (fun o => pRefAll_any _ A F X (w.alloc o) (HS.out.on ((Below.refl _ w).alloc (Nat.le_refl _) o)))
        obtain ⟨L, hL⟩ : ∃ L, L = A ++ (F ++ X) := ⟨_, rfl⟩
        have HV : Hid (sigErr A F X = ckFrom [] L) := Lib.hid (by unfold sigErr; rw [if_pos (by omega), hL])
        have HSZ : Hid (∀ x ∈ L, x.size ≤ maxLen) := Lib.hid (fun x hx => by
          rw [hL] at hx
          rcases List.mem_append.1 hx with hx | hx
          · exact h0.2.2.2.1 x hx
          · rcases List.mem_append.1 hx with hx | hx
            · exact h1.2.2.2.1 x hx
            · exact h2.2.2.2.1 x hx)
        have HLL : Hid (L.length ≤ 60) := Lib.hid (by rw [hL]; simp; omega)
        rw [← hL] at HC
        clear h0 h1 h2 l0 l1 l2 hL HS
        go_enter Tryz.func32, Tryz.ntmps32
        go_wp2_with fail
        refine (HC.out _).mono ?_
        rintro e w1 ⟨A1, C1, rfl, hR1, hb1⟩
        have HB1 : Hid (Below w.heap.size w w1) := Lib.hid (((Below.refl _ w).alloc (Nat.le_refl _) _).trans (hb1.mono (by simp)))
        have HR1 := Lib.hid hR1
        have hLL := HLL.out
        clear hb1 HC hR1
        generalize hN : L.length = N at *
        have HNL := Lib.hid hN
        clear hN
        go_wp2
        go_loopw [4] (fun i wr => ∃ k : Nat, k ≤ N ∧ i = .int .i64 k ∧ Hid (ckFrom (L.take k) (L.drop k) = ckFrom [] L) ∧ w1 = wr) (fun i _ => N - (intOf i).toNat)
        case atStart => exact ⟨0, Nat.zero_le _, rfl, Lib.hid (by rw [List.take_zero, List.drop_zero]), rfl⟩
        case round =>
          obtain ⟨k, hk, rfl, HI, rfl⟩ := hrel
          by_cases hlt : k < N
          · obtain ⟨ad, hA1, hbb, hc⟩ := HR1.out.str_at hlt
            subst hA1
            have HST := Lib.hid (ck_step (L := L) (k := k) (by rw [HNL.out]; exact hlt) HI.out)
            have hsz : (L.getD k ByteArray.empty).size ≤ maxLen := by
              rw [List.getD_eq_getElem?_getD, List.getElem?_eq_getElem (by rw [HNL.out]; exact hlt)]
              exact HSZ.out _ (List.getElem_mem _)
            have HIC := Lib.hid (idx_contains (L := L) (k := k) (by rw [HNL.out]; exact hlt))
            have HNM := Lib.hid (fun W => pRefIsName_any (L.getD k ByteArray.empty) W hsz)
            have HRS := Lib.hid (fun W => pRefReserved_any (L.getD k ByteArray.empty) W)
            have HFD := Lib.hid (pRefFind_any L (L.getD k ByteArray.empty) (some ad) N C1 _ w1 HR1.out (by unfold maxLen; omega))
            generalize L.getD k ByteArray.empty = x at *
            generalize Lib.idxOfS L x = z at *
            cases hn : nameV x with
            | false =>
              have HF := Lib.hid (HST.out.1 hn)
              rw [hn] at HNM
              clear hn HST HI
              go_wp2_with fail
              refine (HNM.out _).mono ?_
              rintro e w2 ⟨rfl, rfl⟩
              go_wp2
              go_ret
              exact ⟨ret_i64 (by rw [HV.out, HF.out]), HB1.out⟩
            | true =>
              rw [hn] at HNM
              cases hr : resV x with
              | true =>
                have HF := Lib.hid (HST.out.2.1 hn (.inl hr))
                rw [hr] at HRS
                clear hn hr HST HI
                go_wp2_with (first | (go_at_call 62; refine (HNM.out _).mono ?_; rintro e w2 ⟨rfl, rfl⟩) | (go_at_call 63; refine (HRS.out _).mono ?_; rintro e w2 ⟨rfl, rfl⟩))
                go_ret
                exact ⟨ret_i64 (by rw [HV.out, HF.out]), HB1.out⟩
              | false =>
                rw [hr] at HRS
                cases hcn : Lib.containsS (L.take k) x with
                | true =>
                  have HF := Lib.hid (HST.out.2.1 hn (.inr hcn))
                  have hz := HIC.out.trans hcn
                  clear hn hr hcn HST HI HIC
                  go_wp2_with (first | (go_at_call 62; refine (HNM.out _).mono ?_; rintro e w2 ⟨rfl, rfl⟩) | (go_at_call 63; refine (HRS.out _).mono ?_; rintro e w2 ⟨rfl, rfl⟩) | (go_at_call 64; refine (HFD.out).mono ?_; rintro e w2 ⟨rfl, rfl⟩))
                  go_ret
                  exact ⟨ret_i64 (by rw [HV.out, HF.out]), HB1.out⟩
                | false =>
                  have HF := Lib.hid (HST.out.2.2 hn hr hcn)
                  have hz := HIC.out.trans hcn
                  clear hn hr hcn HST HI HIC
                  go_wp2_with (first | (go_at_call 62; refine (HNM.out _).mono ?_; rintro e w2 ⟨rfl, rfl⟩) | (go_at_call 63; refine (HRS.out _).mono ?_; rintro e w2 ⟨rfl, rfl⟩) | (go_at_call 64; refine (HFD.out).mono ?_; rintro e w2 ⟨rfl, rfl⟩))
                  go_roundw
                  case rel => exact ⟨k + 1, by omega, by go_num, HF, by first | rfl | trivial⟩
                  case measure => simp [intOf]; omega
          · have hkn : N = k := by omega
            subst hkn
            have HF : Hid (ckFrom [] L = 0) := Lib.hid (by
              have := HI.out
              rw [← HNL.out, List.drop_length, ckFrom] at this
              exact this.symm)
            clear HI
            go_wp2
            go_ret
            exact ⟨ret_i64 (by rw [HV.out, HF.out]), HB1.out⟩
end Go.Proofs.YtenbhalnpiahaaaGreatDoor
/- Layer 4: the number of an agent, a fact, an action model, on both sides; small signatures. -/
namespace Go.Proofs.YtenbhalnpiahaaaGreatDoor
open Go.RowKit Go.Proofs.Ws
theorem numV_ok {A F X l : List ByteArray} {x : ByteArray} (h : sigErr A F X = 0) : numV A F X l x = Lib.idxOfS l x := by unfold numV; rw [if_pos h]
theorem numV_bad {A F X l : List ByteArray} {x : ByteArray} (h : sigErr A F X ≠ 0) : numV A F X l x = -1 := by unfold numV; rw [if_neg h]
theorem pNumber_any (v : Value) (A F X l : List ByteArray) (x : ByteArray) (a : Option Addr) (n c : Nat) (w : World) (hS : SigR w w.heap.size v A F X) (hl : SL w w.heap.size a n c l) (hE : EnvS w) :
    Calls Tryz.prog 156 #[v, .slice a n c, .string x] w fun e w' => e = .returned (.int .i64 (numV A F X l x)) ∧ Below w.heap.size w w' := by
  have HC := Lib.hid (fun o => pSigCheck_any v A F X (w.alloc o) (hS.on ((Below.refl _ w).alloc (Nat.le_refl _) o)) (hE.below ((Below.refl _ w).alloc (Nat.le_refl _) o)))
  have HL := Lib.hid hl
  have hm : n ≤ 20 := hl.2.2.1
  obtain ⟨a0, n0, c0, a1, n1, c1, a2, n2, c2, rfl, _⟩ := hS
  unfold sv at HC ⊢
  clear hl hE
  by_cases h0 : sigErr A F X = 0
  · have HV := Lib.hid (numV_ok (l := l) (x := x) h0)
    rw [h0] at HC
    clear h0
    go_enter Tryz.func156, Tryz.ntmps156
    go_wp2_with fail
    refine (HC.out _).mono ?_
    rintro e w1 ⟨rfl, hb⟩
    have HB : Hid (Below w.heap.size w w1) := Lib.hid (((Below.refl _ w).alloc (Nat.le_refl _) _).trans (hb.mono (by simp)))
    have HX := Lib.hid (pIndex_any l x a n c _ w1 (HL.out.1.below HB.out) (by unfold maxLen; omega))
    clear hb HC
    go_wp2_with fail
    refine (HX.out).mono ?_
    rintro e w2 ⟨rfl, rfl⟩
    go_wp2
    go_ret
    exact ⟨ret_i64 HV.out.symm, HB.out⟩
  · have HV := Lib.hid (numV_bad (l := l) (x := x) h0)
    have hne : (sigErr A F X != 0) = true := by rw [bne_iff_ne]; exact h0
    clear h0
    go_enter Tryz.func156, Tryz.ntmps156
    go_wp2_with fail
    refine (HC.out _).mono ?_
    rintro e w1 ⟨rfl, hb⟩
    have HB : Hid (Below w.heap.size w w1) := Lib.hid (((Below.refl _ w).alloc (Nat.le_refl _) _).trans (hb.mono (by simp)))
    clear hb HC
    go_wp2
    go_ret
    exact ⟨ret_i64 HV.out.symm, HB.out⟩
theorem pAgent_any (v : Value) (A F X : List ByteArray) (x : ByteArray) (w : World) (hS : SigR w w.heap.size v A F X) (hE : EnvS w) :
    Calls Tryz.prog 153 #[v, .string x] w fun e w' => e = .returned (.int .i64 (numV A F X A x)) ∧ Below w.heap.size w w' := by
  have HS := Lib.hid hS
  obtain ⟨a0, n0, c0, a1, n1, c1, a2, n2, c2, rfl, h0, h1, h2⟩ := hS
  have HC := Lib.hid (fun o => pNumber_any _ A F X A x a0 n0 c0 (w.alloc o) (HS.out.on ((Below.refl _ w).alloc (Nat.le_refl _) o)) ((h0.below ((Below.refl _ w).alloc (Nat.le_refl _) o)).more (by simp)) (hE.below ((Below.refl _ w).alloc (Nat.le_refl _) o)))
  unfold sv at HC ⊢
  generalize numV A F X A x = z at *
  clear h0 h1 h2 hE HS
  go_enter Tryz.func153, Tryz.ntmps153
  go_wp2_with fail
  refine (HC.out _).mono ?_
  rintro e w1 ⟨rfl, hb⟩
  have HB : Hid (Below w.heap.size w w1) := Lib.hid (((Below.refl _ w).alloc (Nat.le_refl _) _).trans (hb.mono (by simp)))
  clear hb HC
  go_wp2
  go_ret
  exact ⟨rfl, HB.out⟩
theorem pFact_any (v : Value) (A F X : List ByteArray) (x : ByteArray) (w : World) (hS : SigR w w.heap.size v A F X) (hE : EnvS w) :
    Calls Tryz.prog 152 #[v, .string x] w fun e w' => e = .returned (.int .i64 (numV A F X F x)) ∧ Below w.heap.size w w' := by
  have HS := Lib.hid hS
  obtain ⟨a0, n0, c0, a1, n1, c1, a2, n2, c2, rfl, h0, h1, h2⟩ := hS
  have HC := Lib.hid (fun o => pNumber_any _ A F X F x a1 n1 c1 (w.alloc o) (HS.out.on ((Below.refl _ w).alloc (Nat.le_refl _) o)) ((h1.below ((Below.refl _ w).alloc (Nat.le_refl _) o)).more (by simp)) (hE.below ((Below.refl _ w).alloc (Nat.le_refl _) o)))
  unfold sv at HC ⊢
  generalize numV A F X F x = z at *
  clear h0 h1 h2 hE HS
  go_enter Tryz.func152, Tryz.ntmps152
  go_wp2_with fail
  refine (HC.out _).mono ?_
  rintro e w1 ⟨rfl, hb⟩
  have HB : Hid (Below w.heap.size w w1) := Lib.hid (((Below.refl _ w).alloc (Nat.le_refl _) _).trans (hb.mono (by simp)))
  clear hb HC
  go_wp2
  go_ret
  exact ⟨rfl, HB.out⟩
theorem pAction_any (v : Value) (A F X : List ByteArray) (x : ByteArray) (w : World) (hS : SigR w w.heap.size v A F X) (hE : EnvS w) :
    Calls Tryz.prog 154 #[v, .string x] w fun e w' => e = .returned (.int .i64 (numV A F X X x)) ∧ Below w.heap.size w w' := by
  have HS := Lib.hid hS
  obtain ⟨a0, n0, c0, a1, n1, c1, a2, n2, c2, rfl, h0, h1, h2⟩ := hS
  have HC := Lib.hid (fun o => pNumber_any _ A F X X x a2 n2 c2 (w.alloc o) (HS.out.on ((Below.refl _ w).alloc (Nat.le_refl _) o)) ((h2.below ((Below.refl _ w).alloc (Nat.le_refl _) o)).more (by simp)) (hE.below ((Below.refl _ w).alloc (Nat.le_refl _) o)))
  unfold sv at HC ⊢
  generalize numV A F X X x = z at *
  clear h0 h1 h2 hE HS
  go_enter Tryz.func154, Tryz.ntmps154
  go_wp2_with fail
  refine (HC.out _).mono ?_
  rintro e w1 ⟨rfl, hb⟩
  have HB : Hid (Below w.heap.size w w1) := Lib.hid (((Below.refl _ w).alloc (Nat.le_refl _) _).trans (hb.mono (by simp)))
  clear hb HC
  go_wp2
  go_ret
  exact ⟨rfl, HB.out⟩
/-- few names -/
theorem pFew_any (a0 a1 a2 : Option Addr) (n0 c0 n1 c1 n2 c2 : Nat) (w : World) (h0 : n0 ≤ maxLen) (h1 : n1 ≤ maxLen) (h2 : n2 ≤ maxLen) :
    Calls Tryz.prog 19 #[sv a0 n0 c0 a1 n1 c1 a2 n2 c2] w fun e w' => e = .returned (.bool (decide (n0 ≤ 12) && decide (n1 ≤ 12) && decide (n2 ≤ 12))) ∧ Below w.heap.size w w' := by
  unfold maxLen at h0 h1 h2
  unfold sv
  have HB : Hid (∀ o, Below w.heap.size w (w.alloc o)) := Lib.hid (fun o => (Below.refl _ w).alloc (Nat.le_refl _) o)
  by_cases b0 : n0 ≤ 12
  · have d0 : decide ((n0 : Int) ≤ 12) = true := by simp; omega
    by_cases b1 : n1 ≤ 12
    · have d1 : decide ((n1 : Int) ≤ 12) = true := by simp; omega
      by_cases b2 : n2 ≤ 12
      · have d2 : decide ((n2 : Int) ≤ 12) = true := by simp; omega
        have HV : Hid ((decide (n0 ≤ 12) && decide (n1 ≤ 12) && decide (n2 ≤ 12)) = true) := Lib.hid (by simp [b0, b1, b2])
        generalize (decide (n0 ≤ 12) && decide (n1 ≤ 12) && decide (n2 ≤ 12)) = b at *
        clear b0 b1 b2
        go_enter Tryz.func19, Tryz.ntmps19
        go_wp2
        go_ret
        exact ⟨ret_bool HV.out.symm, HB.out _⟩
      · have d2 : decide ((n2 : Int) ≤ 12) = false := by simp; omega
        have HV : Hid ((decide (n0 ≤ 12) && decide (n1 ≤ 12) && decide (n2 ≤ 12)) = false) := Lib.hid (by simp [b0, b1, b2])
        generalize (decide (n0 ≤ 12) && decide (n1 ≤ 12) && decide (n2 ≤ 12)) = b at *
        clear b0 b1 b2
        go_enter Tryz.func19, Tryz.ntmps19
        go_wp2
        go_ret
        exact ⟨ret_bool HV.out.symm, HB.out _⟩
    · have d1 : decide ((n1 : Int) ≤ 12) = false := by simp; omega
      have HV : Hid ((decide (n0 ≤ 12) && decide (n1 ≤ 12) && decide (n2 ≤ 12)) = false) := Lib.hid (by simp [b0, b1])
      generalize (decide (n0 ≤ 12) && decide (n1 ≤ 12) && decide (n2 ≤ 12)) = b at *
      clear b0 b1
      go_enter Tryz.func19, Tryz.ntmps19
      go_wp2
      go_ret
      exact ⟨ret_bool HV.out.symm, HB.out _⟩
  · have d0 : decide ((n0 : Int) ≤ 12) = false := by simp; omega
    have HV : Hid ((decide (n0 ≤ 12) && decide (n1 ≤ 12) && decide (n2 ≤ 12)) = false) := Lib.hid (by simp [b0])
    generalize (decide (n0 ≤ 12) && decide (n1 ≤ 12) && decide (n2 ≤ 12)) = b at *
    clear b0
    go_enter Tryz.func19, Tryz.ntmps19
    go_wp2
    go_ret
    exact ⟨ret_bool HV.out.symm, HB.out _⟩
end Go.Proofs.YtenbhalnpiahaaaGreatDoor
/- Layer 5: the program's walk: nodes as keys of a map, the state of the walk. -/
namespace Go.Proofs.YtenbhalnpiahaaaGreatDoor
open Go.RowKit Go.Proofs.Ws Go.Maps
theorem nodeKT : Tryz.prog.keyType 65 = true := by kernel_rfl
theorem nodeSize : Tryz.prog.types.size = (Tryz.prog.types.size - 1) + 1 := by kernel_rfl
theorem nodeLaid : laidOutB Tryz.prog = true := by kernel_rfl
theorem nodeLaw : Keyed Tryz.prog 65 :=
  Keyed.of_law (deep_law_laid nodeLaid (m := 9999) (by omega) (of_decide_eq_true (by kernel_rfl)) (by kernel_rfl) (by kernel_rfl))
theorem nodeCells : Tryz.prog.cellsOf 65 = 6 := by kernel_rfl
theorem intCells : Tryz.prog.cellsOf 3 = 1 := by kernel_rfl
/-- the fields of a node are machine integers -/
structure NdW (n : Nd) : Prop where
  op : (Lit.int .i64 n.op).wf = true
  i : (Lit.int .i64 n.i).wf = true
  e : (Lit.int .i64 n.e).wf = true
  g : (Lit.int .i64 n.g).wf = true
  x : (Lit.int .i64 n.x).wf = true
  y : (Lit.int .i64 n.y).wf = true
def keyN (n : Nd) : Lit := .string (keyBytes [.int .i64 n.op, .int .i64 n.i, .int .i64 n.e, .int .i64 n.g, .int .i64 n.x, .int .i64 n.y])
theorem key_nd {n : Nd} (h : NdW n) : keyOf Tryz.prog 65 (nv n) = some (keyN n) := by
  obtain ⟨h0, h1, h2, h3, h4, h5⟩ := h
  unfold keyOf nv
  simp only [Tryz.underlying65]
  rw [if_pos (by rw [nodeKT]; simp [Value.formed, Tryz.underlying65]; kernel_rfl), nodeSize]
  unfold Program.keyLits
  simp only [Tryz.underlying65, Value.cells]
  rw [if_pos ⟨by rw [nodeCells]; rfl, by kernel_rfl⟩, List.mapM_cons, List.mapM_cons, List.mapM_cons, List.mapM_cons, List.mapM_cons, List.mapM_cons, List.mapM_nil]
  simp [intCells, Program.keyLits, Tryz.underlying3, h0, h1, h2, h3, h4, h5, keyN]
theorem keyN_inj {n m : Nd} (hn : NdW n) (hm : NdW m) (h : keyN n = keyN m) : n = m := by
  have := nodeLaw.inj (key_nd hn) (by rw [h]; exact key_nd hm)
  unfold nv at this
  injection this with h1
  simp at h1
  obtain ⟨e0, e1, e2, e3, e4, e5⟩ := h1
  cases n; cases m; simp at e0 e1 e2 e3 e4 e5; simp [e0, e1, e2, e3, e4, e5]
/-- the map gives each node of the list its number -/
structure MapOf (out : List Nd) (D : DataW Unit) : Prop where
  map : IsMap D
  wide : ∀ n ∈ out, NdW n
  there : ∀ n, NdW n → (Maps.has D (keyN n) = true ↔ n ∈ out)
  at_ : ∀ n ∈ out, D.atKey (keyN n) (.lit (.int .i64 0)) = .lit (.int .i64 (out.idxOf n : Int))
theorem MapOf.start : MapOf [] (.map []) where
  map := ⟨[], rfl⟩
  wide := fun n h => absurd h (by simp)
  there := fun n _ => ⟨fun h => by simp [Maps.has] at h, fun h => absurd h (by simp)⟩
  at_ := fun n h => absurd h (by simp)
theorem MapOf.put {out : List Nd} {D : DataW Unit} (h : MapOf out D) {n : Nd} (hn : NdW n) (hi : n ∉ out) : MapOf (out ++ [n]) (D.put (keyN n) (.lit (.int .i64 (out.length : Int)))) := by
  have hkey : WideAt.IsKeyLit (keyN n) := nodeLaw.key (key_nd hn)
  refine ⟨h.map.put _ _, fun m hm => ?_, fun m hm => ?_, fun m hm => ?_⟩
  · rcases List.mem_append.1 hm with hm | hm
    · exact h.wide m hm
    · rw [List.mem_singleton.1 hm]; exact hn
  · by_cases e : m = n
    · subst e
      rw [has_put_same h.map hkey]
      simp
    · rw [has_put_other (fun e2 => e (keyN_inj hm hn e2)), h.there m hm]
      simp [e]
  · by_cases e : m = n
    · subst e
      rw [atKey_put_same h.map hkey, List.idxOf_append, if_neg hi]
      simp
    · have hmo : m ∈ out := by
        rcases List.mem_append.1 hm with hm | hm
        · exact hm
        · exact absurd (List.mem_singleton.1 hm) e
      rw [atKey_put_other (fun e2 => e (keyN_inj (h.wide m hmo) hn e2)), h.at_ m hmo, List.idxOf_append, if_pos hmo]
def plV (d : Option Nat) : Value := .int .i64 (match d with | none => 0 | some k => ((k + 1 : Nat) : Int))
/-- the walk of the program at block bw: what it walks over, the numbers (plus 1) in block bp, the list (a row of its own), the map in block bm -/
structure PW (W : World) (base bw bp bm : Nat) (A : Option Addr) (c n : Nat) (s : Wk) : Prop where
  lw : bw < base
  lp : bp < base
  lm : bm < base
  n1 : bw ≠ bp
  n2 : bw ≠ bm
  n3 : bp ≠ bm
  lb : base ≤ W.heap.size
  frm : W.cell? ⟨bw, 0, none⟩ = some (.slice A n c)
  pl : W.cell? ⟨bw, 1, none⟩ = some (.slice (some ⟨bp, 0, none⟩) n n)
  out : ∃ A2 c2, W.cell? ⟨bw, 2, none⟩ = some (.slice A2 s.out.length c2) ∧ W.ownsRow base 65 6 (.slice A2 s.out.length c2) s.out.length (nds s.out)
  fout : W.frozen? ⟨bw, 2, none⟩ = false
  mp : W.cell? ⟨bw, 3, none⟩ = some (.map (some bm))
  map : ∃ D, W.ownsMap Tryz.prog 65 (plainElem (H := Unit) Tryz.prog 3) bm s.out.length D ∧ MapOf s.out D
  len : s.done.length = n
  cells : ∀ j, j < n → W.cell? ⟨bp, j, none⟩ = some (plV (s.done.getD j none))
  free : ∀ j, j < n → W.frozen? ⟨bp, j, none⟩ = false
def rowP (W : World) (bw : Nat) : Option Nat := match W.cell? ⟨bw, 2, none⟩ with | some v => v.ownBlock | none => none
theorem rowP_of {W : World} {bw : Nat} {v : Value} (h : W.cell? ⟨bw, 2, none⟩ = some v) : rowP W bw = v.ownBlock := by unfold rowP; rw [h]
theorem rowP_same {w w' : World} {bw : Nat} (h : w'.heap[bw]? = w.heap[bw]?) : rowP w' bw = rowP w bw := by unfold rowP; rw [World.cell?_of_block (a := ⟨bw, 2, none⟩) h]
/-- what a step of the program's walk leaves -/
structure Fp (bw bp bm : Nat) (w w' : World) : Prop where
  os : w'.os = w.os
  tape : w'.tape = w.tape
  output : w'.output = w.output
  size : w.heap.size ≤ w'.heap.size
  block : ∀ g, g < w.heap.size → g ≠ bw → g ≠ bp → g ≠ bm → some g ≠ rowP w bw → w'.heap[g]? = w.heap[g]?
  row : rowP w' bw = rowP w bw ∨ ∃ g, rowP w' bw = some g ∧ w.heap.size ≤ g
theorem Fp.of_below {w w' : World} {bw bp bm : Nat} (h : Below w.heap.size w w') (hb : bw < w.heap.size) : Fp bw bp bm w w' :=
  ⟨h.os, h.tape, h.output, h.size, fun g hg _ _ _ _ => h.block g hg, .inl (rowP_same (h.block bw hb))⟩
theorem Fp.trans {a b c : World} {bw bp bm : Nat} (h : Fp bw bp bm a b) (k : Fp bw bp bm b c) : Fp bw bp bm a c := by
  refine ⟨k.os.trans h.os, k.tape.trans h.tape, k.output.trans h.output, Nat.le_trans h.size k.size, fun g hg h1 h2 h3 h4 => ?_, ?_⟩
  · refine (k.block g (Nat.lt_of_lt_of_le hg h.size) h1 h2 h3 ?_).trans (h.block g hg h1 h2 h3 h4)
    rcases h.row with e | ⟨g2, e, hl⟩
    · rw [e]; exact h4
    · rw [e]; intro e2; injection e2; omega
  · rcases k.row with e | ⟨g2, e, hl⟩
    · rw [e]; exact h.row
    · exact .inr ⟨g2, e, Nat.le_trans h.size hl⟩
theorem Fp.low {bw bp bm : Nat} {w w' : World} (h : Fp bw bp bm w w') {B : Nat} (h0 : B ≤ w.heap.size) (h1 : B ≤ bw) (h2 : B ≤ bp) (h4 : B ≤ bm) (h3 : ∀ g, rowP w bw = some g → B ≤ g) : Below B w w' :=
  ⟨h.os, h.tape, h.output, h.size, fun g hg => h.block g (by omega) (by omega) (by omega) (by omega) (fun e => by have := h3 g e.symm; omega)⟩
theorem Fp.other {bw bp bm : Nat} {w W : World} (h : Fp bw bp bm w W) {g j : Nat} (v : Value) (h1 : w.heap.size ≤ g) (h2 : g ≠ bw) : Fp bw bp bm w (W.setCell ⟨g, j, none⟩ v) := by
  refine ⟨h.os, h.tape, h.output, by simpa using h.size, fun k hk a b c d => (Below.heap_setCell _ _ _ _ (by show k ≠ g; omega)).trans (h.block k hk a b c d), ?_⟩
  rw [rowP_same (Below.heap_setCell W ⟨g, j, none⟩ v bw h2.symm)]; exact h.row
theorem Fp.setP {bw bp bm : Nat} {w W : World} (h : Fp bw bp bm w W) {j : Nat} (v : Value) (hne : bw ≠ bp) : Fp bw bp bm w (W.setCell ⟨bp, j, none⟩ v) := by
  refine ⟨h.os, h.tape, h.output, by simpa using h.size, fun k hk a b c d => (Below.heap_setCell _ _ _ _ b).trans (h.block k hk a b c d), ?_⟩
  rw [rowP_same (Below.heap_setCell W ⟨bp, j, none⟩ v bw hne)]; exact h.row
theorem Fp.drewN {bw bp bm : Nat} {w W : World} (h : Fp bw bp bm w W) (k : Nat) : Fp bw bp bm w (W.drewN k) :=
  ⟨h.os, h.tape, h.output, h.size, h.block, h.row⟩
theorem ownsMap_keep {w w' : World} {P : Program} {t : TypeId} {R : Value → Option (DataW Unit × List MemPlace)} {B n : Nat} {D : DataW Unit} (h : w.ownsMap P t R B n D) (hb : w'.heap[B]? = w.heap[B]?) : w'.ownsMap P t R B n D := by
  obtain ⟨es, clock, h1, rest⟩ := h
  exact ⟨es, clock, hb.trans h1, rest⟩
theorem PW.row {W : World} {base bw bp bm c n : Nat} {A : Option Addr} {s : Wk} (h : PW W base bw bp bm A c n s) : ∀ g, rowP W bw = some g → base ≤ g ∧ g < W.heap.size := by
  obtain ⟨A2, c2, h1, h2⟩ := h.out
  intro g hg
  rw [rowP_of h1] at hg
  exact h2.lt g hg
theorem PW.keep {W W' : World} {base bw bp bm c n : Nat} {A : Option Addr} {s : Wk} (h : PW W base bw bp bm A c n s) (hs : W.heap.size ≤ W'.heap.size) (hw : W'.heap[bw]? = W.heap[bw]?) (hd : W'.heap[bp]? = W.heap[bp]?) (hm : W'.heap[bm]? = W.heap[bm]?)
    (hr : ∀ g, rowP W bw = some g → W'.heap[g]? = W.heap[g]?) : PW W' base bw bp bm A c n s := by
  obtain ⟨A2, c2, h1, h2⟩ := h.out
  obtain ⟨D, h5, h6⟩ := h.map
  have e : ∀ j, W'.cell? ⟨bw, j, none⟩ = W.cell? ⟨bw, j, none⟩ := fun j => World.cell?_of_block (a := ⟨bw, j, none⟩) hw
  exact ⟨h.lw, h.lp, h.lm, h.n1, h.n2, h.n3, Nat.le_trans h.lb hs, (e 0).trans h.frm, (e 1).trans h.pl, ⟨A2, c2, (e 2).trans h1, own_keep1 h2 (fun g hg => hr g (by rw [rowP_of h1]; exact hg))⟩,
    (World.frozen?_of_block (a := ⟨bw, 2, none⟩) hw).trans h.fout, (e 3).trans h.mp, ⟨D, ownsMap_keep h5 hm, h6⟩, h.len,
    fun j hj => (World.cell?_of_block (a := ⟨bp, j, none⟩) hd).trans (h.cells j hj), fun j hj => (World.frozen?_of_block (a := ⟨bp, j, none⟩) hd).trans (h.free j hj)⟩
theorem PW.below {W W' : World} {base bw bp bm c n : Nat} {A : Option Addr} {s : Wk} (h : PW W base bw bp bm A c n s) (hb : Below W.heap.size W W') : PW W' base bw bp bm A c n s := by
  have lw := h.lw
  have lp := h.lp
  have lm := h.lm
  have lb := h.lb
  exact h.keep hb.size (hb.block _ (by omega)) (hb.block _ (by omega)) (hb.block _ (by omega)) (fun g hg => hb.block g (h.row g hg).2)
theorem PW.drewN {W : World} {base bw bp bm c n : Nat} {A : Option Addr} {s : Wk} (h : PW W base bw bp bm A c n s) (k : Nat) : PW (W.drewN k) base bw bp bm A c n s :=
  h.keep (Nat.le_refl _) rfl rfl rfl (fun _ _ => rfl)
theorem PW.set {W : World} {base bw bp bm c n : Nat} {A : Option Addr} {s : Wk} (h : PW W base bw bp bm A c n s) {i : Nat} (hi : i < n) (k : Nat) : PW (W.setCell ⟨bp, i, none⟩ (.int .i64 ((k + 1 : Nat) : Int))) base bw bp bm A c n ⟨s.out, s.done.set i (some k)⟩ := by
  obtain ⟨A2, c2, h1, h2⟩ := h.out
  obtain ⟨D, h5, h6⟩ := h.map
  have hw : (W.setCell ⟨bp, i, none⟩ (.int .i64 ((k + 1 : Nat) : Int))).heap[bw]? = W.heap[bw]? := Below.heap_setCell _ _ _ _ h.n1
  have e : ∀ j, (W.setCell ⟨bp, i, none⟩ (.int .i64 ((k + 1 : Nat) : Int))).cell? ⟨bw, j, none⟩ = W.cell? ⟨bw, j, none⟩ := fun j => World.cell?_of_block (a := ⟨bw, j, none⟩) hw
  refine ⟨h.lw, h.lp, h.lm, h.n1, h.n2, h.n3, by simpa using h.lb, (e 0).trans h.frm, (e 1).trans h.pl, ⟨A2, c2, (e 2).trans h1, ownsRow_setCell_below h2 h.lp _⟩,
    (World.frozen?_of_block (a := ⟨bw, 2, none⟩) hw).trans h.fout, (e 3).trans h.mp, ⟨D, ownsMap_keep h5 (Below.heap_setCell _ _ _ _ h.n3.symm), h6⟩, by show (s.done.set i (some k)).length = n; rw [List.length_set, h.len],
    fun j hj => ?_, fun j hj => by rw [World.frozen?_setCell]; exact h.free j hj⟩
  show _ = some (plV ((s.done.set i (some k)).getD j none))
  rw [getD_set (by rw [h.len]; exact hi)]
  by_cases e : i = j
  · subst e
    rw [if_pos rfl]
    exact World.cell?_setCell_same W _ _ (h.cells i hi)
  · rw [if_neg e, World.cell?_setCell_other W ⟨bp, i, none⟩ ⟨bp, j, none⟩ _ (fun e2 => by have h9 := congrArg Addr.off e2; dsimp only at h9; omega)]
    exact h.cells j hj
/-- a block that is no part of the program's walk -/
structure Aside (W : World) (bw bp bm g : Nat) : Prop where
  lt : g < W.heap.size
  n1 : g ≠ bw
  n2 : g ≠ bp
  n3 : g ≠ bm
  row : some g ≠ rowP W bw
theorem Aside.step {W W' : World} {bw bp bm g : Nat} (h : Aside W bw bp bm g) (hF : Fp bw bp bm W W') : W'.heap[g]? = W.heap[g]? ∧ Aside W' bw bp bm g := by
  refine ⟨hF.block g h.lt h.n1 h.n2 h.n3 h.row, Nat.lt_of_lt_of_le h.lt hF.size, h.n1, h.n2, h.n3, ?_⟩
  rcases hF.row with e | ⟨k, e, hl⟩
  · rw [e]; exact h.row
  · rw [e]; intro e2; injection e2; have := h.lt; omega
theorem Aside.low {W W' : World} {bw bp bm g : Nat} (h : Aside W bw bp bm g) (hb : Below W.heap.size W W') (hw : bw < W.heap.size) : Aside W' bw bp bm g :=
  ⟨Nat.lt_of_lt_of_le h.lt hb.size, h.n1, h.n2, h.n3, by rw [rowP_same (hb.block bw hw)]; exact h.row⟩
theorem Aside.new {W W' : World} {base bw bp bm c n g : Nat} {A : Option Addr} {s : Wk} (hS : PW W base bw bp bm A c n s) (hb : Below W.heap.size W W') (h1 : W.heap.size ≤ g) (h2 : g < W'.heap.size) : Aside W' bw bp bm g := by
  have lw := hS.lw
  have lp := hS.lp
  have lm := hS.lm
  have lb := hS.lb
  refine ⟨h2, by omega, by omega, by omega, ?_⟩
  rw [rowP_same (hb.block bw (by omega))]
  intro e
  have := (hS.row g e.symm).2
  omega
theorem Aside.set {W : World} {bw bp bm g g2 j : Nat} (h : Aside W bw bp bm g) (hg : g2 ≠ bw) (v : Value) : Aside (W.setCell ⟨g2, j, none⟩ v) bw bp bm g :=
  ⟨by simpa using h.lt, h.n1, h.n2, h.n3, by rw [rowP_same (Below.heap_setCell W ⟨g2, j, none⟩ v bw hg.symm)]; exact h.row⟩
theorem PW.other {W : World} {base bw bp bm c n g j : Nat} {A : Option Addr} {s : Wk} (h : PW W base bw bp bm A c n s) (ha : Aside W bw bp bm g) (v : Value) : PW (W.setCell ⟨g, j, none⟩ v) base bw bp bm A c n s :=
  h.keep (by simp) (Below.heap_setCell _ _ _ _ ha.n1.symm) (Below.heap_setCell _ _ _ _ ha.n2.symm) (Below.heap_setCell _ _ _ _ ha.n3.symm) (fun k hk => Below.heap_setCell _ _ _ _ (fun e => ha.row (by rw [hk, e])))
/-- the three boxes of renumber: the node, its result, its shape -/
structure PQ (w W : World) (B base bw bp bm c n : Nat) (A : Option Addr) (f : List Nd) (s : Wk) (g0 g1 g2 : Nat) (x : Nd) (a1 a2 a3 a4 : Int) : Prop where
  st : PW W base bw bp bm A c n s
  rd : Reads W B 6 A n (nds f)
  bx : Box W g0 x
  rs : W.heap[g1]? = some (.cells #[.int .i64 0, .int .i64 0, .int .i64 0, .int .i64 0, .int .i64 0, .int .i64 0] 65 (0, 0))
  sh : W.heap[g2]? = some (.cells #[.int .i64 a1, .int .i64 a2, .int .i64 a3, .int .i64 a4] 99 (0, 0))
  fr : Fp bw bp bm w W
  a0 : Aside W bw bp bm g0
  a1 : Aside W bw bp bm g1
  a2 : Aside W bw bp bm g2
  l0 : w.heap.size ≤ g0
  n01 : g0 ≠ g1
  n02 : g0 ≠ g2
theorem PQ.step {w W W' : World} {B base bw bp bm c n : Nat} {A : Option Addr} {f : List Nd} {s s' : Wk} {g0 g1 g2 : Nat} {x : Nd} {a1 a2 a3 a4 : Int} (h : PQ w W B base bw bp bm c n A f s g0 g1 g2 x a1 a2 a3 a4)
    (hS : PW W' base bw bp bm A c n s') (hF : Fp bw bp bm W W') (hB1 : B ≤ bw) (hB2 : B ≤ bp) (hB4 : B ≤ bm) (hB3 : B ≤ base) : PQ w W' B base bw bp bm c n A f s' g0 g1 g2 x a1 a2 a3 a4 := by
  have lb := h.st.lb
  obtain ⟨e0, k0⟩ := h.a0.step hF
  obtain ⟨e1, k1⟩ := h.a1.step hF
  obtain ⟨e2, k2⟩ := h.a2.step hF
  exact ⟨hS, h.rd.below (hF.low (by omega) hB1 hB2 hB4 (fun g hg => by have := (h.st.row g hg).1; omega)), h.bx.keep e0, e1.trans h.rs, e2.trans h.sh, h.fr.trans hF, k0, k1, k2, h.l0, h.n01, h.n02⟩
theorem PQ.set {w W : World} {B base bw bp bm c n : Nat} {A : Option Addr} {f : List Nd} {s : Wk} {g0 g1 g2 j : Nat} {x x' : Nd} {a1 a2 a3 a4 : Int} {v : Value} (h : PQ w W B base bw bp bm c n A f s g0 g1 g2 x a1 a2 a3 a4)
    (hx : Box (W.setCell ⟨g0, j, none⟩ v) g0 x') (hB : B ≤ w.heap.size) : PQ w (W.setCell ⟨g0, j, none⟩ v) B base bw bp bm c n A f s g0 g1 g2 x' a1 a2 a3 a4 := by
  have l0 := h.l0
  exact ⟨h.st.other h.a0 v, h.rd.setCell (by show B ≤ g0; omega) v, hx, (Below.heap_setCell _ _ _ _ h.n01.symm).trans h.rs, (Below.heap_setCell _ _ _ _ h.n02.symm).trans h.sh, h.fr.other v h.l0 h.a0.n1,
    h.a0.set h.a0.n1 v, h.a1.set h.a0.n1 v, h.a2.set h.a0.n1 v, h.l0, h.n01, h.n02⟩
theorem PQ.cells {w W : World} {B base bw bp bm c n : Nat} {A : Option Addr} {f : List Nd} {s : Wk} {g0 g1 g2 : Nat} {x : Nd} {a1 a2 a3 a4 : Int} (h : PQ w W B base bw bp bm c n A f s g0 g1 g2 x a1 a2 a3 a4) : W.cell? ⟨g2, 3, none⟩ = some (.int .i64 a4) := Lib.cell_of_heap h.sh 3
theorem PQ.start {w w1 : World} {B base bw bp bm c n : Nat} {A : Option Addr} {f : List Nd} {s : Wk} (h : PW w base bw bp bm A c n s) (hR : Reads w B 6 A n (nds f)) (hB : B ≤ w.heap.size) (x : Nd) (a1 a2 a3 a4 : Int)
    (hb : Below ((w.alloc (.cells #[.int .i64 x.op, .int .i64 x.i, .int .i64 x.e, .int .i64 x.g, .int .i64 x.x, .int .i64 x.y] 65)).alloc (.cells #[.int .i64 0, .int .i64 0, .int .i64 0, .int .i64 0, .int .i64 0, .int .i64 0] 65)).heap.size
      ((w.alloc (.cells #[.int .i64 x.op, .int .i64 x.i, .int .i64 x.e, .int .i64 x.g, .int .i64 x.x, .int .i64 x.y] 65)).alloc (.cells #[.int .i64 0, .int .i64 0, .int .i64 0, .int .i64 0, .int .i64 0, .int .i64 0] 65)) w1) :
    PQ w (w1.alloc (.cells #[.int .i64 a1, .int .i64 a2, .int .i64 a3, .int .i64 a4] 99)) B base bw bp bm c n A f s w.heap.size (w.heap.size + 1) w1.heap.size x a1 a2 a3 a4 := by
  have hs1 : (w.alloc (.cells #[.int .i64 x.op, .int .i64 x.i, .int .i64 x.e, .int .i64 x.g, .int .i64 x.x, .int .i64 x.y] 65)).heap.size = w.heap.size + 1 := by simp
  have hbx := Box.made w x 65
  have hba : Below w.heap.size w (w.alloc (.cells #[.int .i64 x.op, .int .i64 x.i, .int .i64 x.e, .int .i64 x.g, .int .i64 x.x, .int .i64 x.y] 65)) := (Below.refl _ w).alloc (Nat.le_refl _) _
  generalize w.alloc (.cells #[.int .i64 x.op, .int .i64 x.i, .int .i64 x.e, .int .i64 x.g, .int .i64 x.x, .int .i64 x.y] 65) = wa at *
  have hs2 : (wa.alloc (.cells #[.int .i64 0, .int .i64 0, .int .i64 0, .int .i64 0, .int .i64 0, .int .i64 0] 65)).heap.size = w.heap.size + 2 := by simp; omega
  have hr0 := heap_alloc_new wa (.cells #[.int .i64 0, .int .i64 0, .int .i64 0, .int .i64 0, .int .i64 0, .int .i64 0] 65)
  have hbb : Below wa.heap.size wa (wa.alloc (.cells #[.int .i64 0, .int .i64 0, .int .i64 0, .int .i64 0, .int .i64 0, .int .i64 0] 65)) := (Below.refl _ wa).alloc (Nat.le_refl _) _
  generalize wa.alloc (.cells #[.int .i64 0, .int .i64 0, .int .i64 0, .int .i64 0, .int .i64 0, .int .i64 0] 65) = wb at *
  have hbc : Below w1.heap.size w1 (w1.alloc (.cells #[.int .i64 a1, .int .i64 a2, .int .i64 a3, .int .i64 a4] 99)) := (Below.refl _ w1).alloc (Nat.le_refl _) _
  have hsh := heap_alloc_new w1 (.cells #[.int .i64 a1, .int .i64 a2, .int .i64 a3, .int .i64 a4] 99)
  have hs3 : (w1.alloc (.cells #[.int .i64 a1, .int .i64 a2, .int .i64 a3, .int .i64 a4] 99)).heap.size = w1.heap.size + 1 := by simp
  generalize w1.alloc (.cells #[.int .i64 a1, .int .i64 a2, .int .i64 a3, .int .i64 a4] 99) = w2 at *
  have s1 := hb.size
  have lb := h.lb
  have lw := h.lw
  have hall : Below w.heap.size w w2 := (hba.trans (hbb.mono (by omega))).trans ((hb.mono (by omega)).trans (hbc.mono (by omega)))
  refine ⟨h.below hall, hR.below (hall.mono hB), hbx.keep ?_, ?_, hsh, Fp.of_below hall (by omega), Aside.new h hall (Nat.le_refl _) (by omega), Aside.new h hall (by omega) (by omega), Aside.new h hall (by omega) (by omega), Nat.le_refl _, by omega, by omega⟩
  · exact (hbc.block _ (by omega)).trans ((hb.block _ (by omega)).trans (hbb.block _ (by omega)))
  · rw [hs1] at hr0
    exact (hbc.block _ (by omega)).trans ((hb.block _ (by omega)).trans hr0)
/-- a node stored into a block -/
def putBox (W : World) (g : Nat) (x : Nd) : World := (((((W.setCell ⟨g, 0, none⟩ (.int .i64 x.op)).setCell ⟨g, 1, none⟩ (.int .i64 x.i)).setCell ⟨g, 2, none⟩ (.int .i64 x.e)).setCell ⟨g, 3, none⟩ (.int .i64 x.g)).setCell ⟨g, 4, none⟩ (.int .i64 x.x)).setCell ⟨g, 5, none⟩ (.int .i64 x.y)
theorem putBox_block {W : World} {g : Nat} {a b c d e f : Value} {t : TypeId} (h : W.heap[g]? = some (.cells #[a, b, c, d, e, f] t (0, 0))) (x : Nd) :
    (putBox W g x).heap[g]? = some (.cells #[.int .i64 x.op, .int .i64 x.i, .int .i64 x.e, .int .i64 x.g, .int .i64 x.x, .int .i64 x.y] t (0, 0)) := by
  unfold putBox
  simp [World.setCell, Array.getElem?_modify, h]
theorem PQ.done {w W : World} {B base bw bp bm c n : Nat} {A : Option Addr} {f : List Nd} {s : Wk} {g0 g1 g2 : Nat} {x : Nd} {a1 a2 a3 a4 : Int} (h : PQ w W B base bw bp bm c n A f s g0 g1 g2 x a1 a2 a3 a4) (hl : w.heap.size ≤ g1) (z : Nd) :
    PW (putBox W g1 z) base bw bp bm A c n s ∧ Fp bw bp bm w (putBox W g1 z) := by
  have a0 := h.a1
  have n1 := a0.n1
  have a1 := a0.set (j := 0) n1 (.int .i64 z.op)
  have a2 := a1.set (j := 1) n1 (.int .i64 z.i)
  have a3 := a2.set (j := 2) n1 (.int .i64 z.e)
  have a4 := a3.set (j := 3) n1 (.int .i64 z.g)
  have a5 := a4.set (j := 4) n1 (.int .i64 z.x)
  exact ⟨(((((h.st.other a0 _).other a1 _).other a2 _).other a3 _).other a4 _).other a5 _, (((((h.fr.other _ hl n1).other _ hl n1).other _ hl n1).other _ hl n1).other _ hl n1).other _ hl n1⟩
theorem PQ.zero {w W : World} {B base bw bp bm c n : Nat} {A : Option Addr} {f : List Nd} {s : Wk} {g0 g1 g2 : Nat} {x : Nd} {a1 a2 a3 a4 : Int} (h : PQ w W B base bw bp bm c n A f s g0 g1 g2 x a1 a2 a3 a4) :
    Box W g1 ⟨0, 0, 0, 0, 0, 0⟩ := by
  have := Lib.cell_of_heap h.rs
  exact ⟨this 0, this 1, this 2, this 3, this 4, this 5, fun j => Lib.frozen_of_heap h.rs j⟩
end Go.Proofs.YtenbhalnpiahaaaGreatDoor
/- Layer 5: the program's add. -/
namespace Go.Proofs.YtenbhalnpiahaaaGreatDoor
open Go.RowKit Go.Proofs.Ws Go.Maps
theorem zeroI (w : World) : (zeroValue 3).run Tryz.prog w = .ok (.int .i64 0) w := by kernel_rfl
set_option maxRecDepth 100000 in
theorem look_old {W : World} {bm m : Nat} {D : DataW Unit} {out : List Nd} {n : Nd} (h : W.ownsMap Tryz.prog 65 (plainElem (H := Unit) Tryz.prog 3) bm m D) (hM : MapOf out D) (hi : n ∈ out) :
    (Instr.lookup 59 (.map (some bm)) (nv n) true).run Tryz.prog W = .ok (.tuple #[.int .i64 (out.idxOf n : Int), .bool true]) W := by
  obtain ⟨v, ps, hrun, hv⟩ := h.look_ok nodeLaw Tryz.underlying59 (zeroI W) (plainElem_int Tryz.underlying3 (by decide)) (key_nd (hM.wide n hi))
  rw [hM.at_ n hi] at hv
  obtain ⟨c, rfl, hc, hwc⟩ := plainElem_int_inv Tryz.underlying3 hv
  rw [hrun, (hM.there n (hM.wide n hi)).2 hi]
  have := congrArg Prod.fst hc
  injection this with h1
  injection h1 with _ h2
  rw [h2]
set_option maxRecDepth 100000 in
theorem look_new {W : World} {bm m : Nat} {D : DataW Unit} {out : List Nd} {n : Nd} (h : W.ownsMap Tryz.prog 65 (plainElem (H := Unit) Tryz.prog 3) bm m D) (hM : MapOf out D) (hw : NdW n) (hi : n ∉ out) :
    ∃ c : Int, ∀ k, (Instr.lookup 59 (.map (some bm)) (nv n) true).run Tryz.prog (W.drewN k) = .ok (.tuple #[.int .i64 c, .bool false]) (W.drewN k) := by
  have hb : Maps.has D (keyN n) = false := by
    cases hq : Maps.has D (keyN n)
    · rfl
    · exact absurd ((hM.there n hw).1 hq) hi
  obtain ⟨v, ps, hrun, hv⟩ := h.look_ok nodeLaw Tryz.underlying59 (zeroI W) (plainElem_int Tryz.underlying3 (by decide)) (key_nd hw)
  obtain ⟨c, rfl, hc, hwc⟩ := plainElem_int_inv Tryz.underlying3 hv
  refine ⟨c, fun k => ?_⟩
  have h2 : (W.drewN k).ownsMap Tryz.prog 65 (plainElem (H := Unit) Tryz.prog 3) bm m D := ownsMap_keep h rfl
  obtain ⟨v2, ps2, hrun2, hv2⟩ := h2.look_ok nodeLaw Tryz.underlying59 (zeroI _) (plainElem_int Tryz.underlying3 (by decide)) (key_nd hw)
  obtain ⟨c2, rfl, hc2, hwc2⟩ := plainElem_int_inv Tryz.underlying3 hv2
  rw [hrun2, hb]
  have e1 := congrArg Prod.fst hc
  have e2 := congrArg Prod.fst hc2
  have : c2 = c := by
    have e3 := e2.symm.trans e1
    injection e3 with h3
    injection h3
  rw [this]
set_option maxRecDepth 100000 in
set_option maxHeartbeats 4000000 in
theorem pAdd_old (x : Nd) (base bw bp bm c n : Nat) (A : Option Addr) (s : Wk) (w : World) (hS : PW w base bw bp bm A c n s) (hin : x ∈ s.out) :
    Calls Tryz.prog 105 #[.pointer (some ⟨bw, 0, none⟩), nv x] w fun e w' => e = .returned (.int .i64 (s.out.idxOf x : Int)) ∧ Below w.heap.size w w' := by
  obtain ⟨D, hown, hM⟩ := hS.map
  have hm := hS.mp
  have lw : bw < w.heap.size := Nat.lt_of_lt_of_le hS.lw hS.lb
  have HB : Hid (∀ o, Below w.heap.size w (w.alloc o)) := Lib.hid (fun o => (Below.refl _ w).alloc (Nat.le_refl _) o)
  have hL : ∀ W : World, W.heap[bm]? = w.heap[bm]? → (Instr.lookup 59 (.map (some bm)) (nv x) true).run Tryz.prog W = .ok (.tuple #[.int .i64 (s.out.idxOf x : Int), .bool true]) W := fun W h => look_old (ownsMap_keep hown h) hM hin
  have lm : bm < w.heap.size := Nat.lt_of_lt_of_le hS.lm hS.lb
  have hL1 : ∀ (o : Obj) (k : Nat), (Instr.lookup 59 (.map (some bm)) (nv x) true).run Tryz.prog ((w.alloc o).drewN k) = .ok (.tuple #[.int .i64 (s.out.idxOf x : Int), .bool true]) ((w.alloc o).drewN k) := fun o k => hL _ (by show (w.alloc o).heap[bm]? = _; exact Below.heap_alloc w o bm lm)
  unfold nv at hL1 ⊢
  generalize s.out.idxOf x = z at *
  clear hS hin hL hM hown
  go_enter Tryz.func105, Tryz.ntmps105
  go_wp2
  go_quiet (fail)
  go_wp2
  go_ret
  exact ⟨rfl, below_drewN (HB.out _) _⟩
theorem turned_cell {w w' : World} {b : Nat} (h : w.mapTurned w' b) {g : Nat} (hg : g < w.heap.size) (hne : g ≠ b) : w'.heap[g]? = w.heap[g]? := h.grown.block g hg (fun e => hne (by injection e))
theorem PW.put_end {w w3 w4 : World} {base bw bp bm c n g3 c3 : Nat} {A : Option Addr} {s : Wk} {x : Nd} {D : DataW Unit} {row : Option Nat} (h : PW w base bw bp bm A c n s) (hb3 : Below 0 w w3) (hk : ∀ g, g < w.heap.size → g ≠ bm → w3.heap[g]? = w.heap[g]?)
    (hM : MapOf s.out D) (hx : x ∉ s.out) (hw : NdW x) (ho3 : w3.ownsMap Tryz.prog 65 (plainElem (H := Unit) Tryz.prog 3) bm (s.out.length + 1) (D.put (keyN x) (.lit (.int .i64 (s.out.length : Int)))))
    (hrow : rowP w bw = row) (ho : w4.ownsRow base 65 6 (.slice (some ⟨g3, 0, none⟩) (s.out.length + 1) c3) (s.out ++ [x]).length (nds (s.out ++ [x]))) (hg : w3.grownBy w4 row)
    (hr : (Value.slice (some ⟨g3, 0, none⟩) (s.out.length + 1) c3).ownBlock = row ∨ ∃ g, (Value.slice (some ⟨g3, 0, none⟩) (s.out.length + 1) c3).ownBlock = some g ∧ w.heap.size ≤ g) :
    PW (w4.setCell ⟨bw, 2, none⟩ (.slice (some ⟨g3, 0, none⟩) (s.out.length + 1) c3)) base bw bp bm A c n ⟨s.out ++ [x], s.done⟩ ∧ Fp bw bp bm w (w4.setCell ⟨bw, 2, none⟩ (.slice (some ⟨g3, 0, none⟩) (s.out.length + 1) c3)) := by
  have lw := h.lw
  have lp := h.lp
  have lm := h.lm
  have lb := h.lb
  have n1 := h.n1
  have n2 := h.n2
  have n3 := h.n3
  have hs3 := hb3.size
  have hrl : ∀ g, row = some g → base ≤ g := fun g e => (h.row g (hrow.trans e)).1
  have hb4 : ∀ g, g < base → g ≠ bm → w4.heap[g]? = w.heap[g]? := fun g h1 h2 => (hg.block g (by omega) (fun e => by have := hrl g e.symm; omega)).trans (hk g (by omega) h2)
  have hbw := hb4 bw lw n2
  have hbp : (w4.setCell ⟨bw, 2, none⟩ (.slice (some ⟨g3, 0, none⟩) (s.out.length + 1) c3)).heap[bp]? = w.heap[bp]? := (Below.heap_setCell _ _ _ _ (by show bp ≠ bw; omega)).trans (hb4 bp lp n3)
  have hbm : (w4.setCell ⟨bw, 2, none⟩ (.slice (some ⟨g3, 0, none⟩) (s.out.length + 1) c3)).heap[bm]? = w3.heap[bm]? := (Below.heap_setCell _ _ _ _ (by show bm ≠ bw; omega)).trans (hg.block bm (by omega) (fun e => by have := hrl bm e.symm; omega))
  obtain ⟨A2, c2, h2, _⟩ := h.out
  have hc2 := (World.cell?_of_block (a := ⟨bw, 2, none⟩) hbw).trans h2
  have hk2 := World.cell?_setCell_same w4 ⟨bw, 2, none⟩ (.slice (some ⟨g3, 0, none⟩) (s.out.length + 1) c3) hc2
  have hj : ∀ j v, j ≠ 2 → w.cell? ⟨bw, j, none⟩ = some v → (w4.setCell ⟨bw, 2, none⟩ (.slice (some ⟨g3, 0, none⟩) (s.out.length + 1) c3)).cell? ⟨bw, j, none⟩ = some v := fun j v hj hv => by
    rw [World.cell?_setCell_other w4 ⟨bw, 2, none⟩ ⟨bw, j, none⟩ _ (fun e2 => by have h9 := congrArg Addr.off e2; dsimp only at h9; omega)]
    exact (World.cell?_of_block (a := ⟨bw, j, none⟩) hbw).trans hv
  have hsz : w.heap.size ≤ (w4.setCell ⟨bw, 2, none⟩ (.slice (some ⟨g3, 0, none⟩) (s.out.length + 1) c3)).heap.size := by have := hg.size; simp; omega
  have hlen : (s.out ++ [x]).length = s.out.length + 1 := by simp
  refine ⟨⟨lw, lp, lm, n1, n2, n3, by omega, hj 0 _ (by decide) h.frm, hj 1 _ (by decide) h.pl, ⟨_, c3, by rw [hlen]; exact hk2, ?_⟩, ?_, hj 3 _ (by decide) h.mp, ⟨_, ?_, hM.put hw hx⟩, h.len, fun j hj => ?_, fun j hj => ?_⟩, ?_⟩
  · rw [hlen]
    have := ownsRow_setCell_below ho (a := ⟨bw, 2, none⟩) lw (.slice (some ⟨g3, 0, none⟩) (s.out.length + 1) c3)
    rw [hlen] at this
    exact this
  · rw [World.frozen?_setCell]
    exact (World.frozen?_of_block (a := ⟨bw, 2, none⟩) hbw).trans h.fout
  · rw [hlen]
    exact ownsMap_keep ho3 hbm
  · exact (World.cell?_of_block (a := ⟨bp, j, none⟩) hbp).trans (h.cells j hj)
  · exact (World.frozen?_of_block (a := ⟨bp, j, none⟩) hbp).trans (h.free j hj)
  · refine ⟨hg.os.trans hb3.os, hg.tape.trans hb3.tape, hg.output.trans hb3.output, hsz, fun g hg1 h5 h6 h7 h8 => ?_, ?_⟩
    · rw [hrow] at h8
      exact (Below.heap_setCell w4 _ _ g h5).trans ((hg.block g (by omega) h8).trans (hk g hg1 h7))
    · rw [hrow, rowP_of hk2]
      exact hr
set_option maxRecDepth 100000 in
set_option maxHeartbeats 4000000 in
theorem pAdd_new (x : Nd) (base bw bp bm c n : Nat) (A : Option Addr) (s : Wk) (w : World) (hS : PW w base bw bp bm A c n s) (hin : x ∉ s.out) (hw : NdW x) (hm : s.out.length ≤ 1000) :
    Calls Tryz.prog 105 #[.pointer (some ⟨bw, 0, none⟩), nv x] w fun e w' => e = .returned (.int .i64 (s.out.length : Int)) ∧ PW w' base bw bp bm A c n ⟨s.out ++ [x], s.done⟩ ∧ Fp bw bp bm w w' := by
  obtain ⟨D, hown, hM⟩ := hS.map
  obtain ⟨A2, c2, h2, hrow⟩ := hS.out
  have hm3 := hS.mp
  have lb := hS.lb
  have lw : bw < w.heap.size := Nat.lt_of_lt_of_le hS.lw hS.lb
  have lm : bm < w.heap.size := Nat.lt_of_lt_of_le hS.lm hS.lb
  have lp : bp < w.heap.size := Nat.lt_of_lt_of_le hS.lp hS.lb
  have hfo := hS.fout
  have HS := Lib.hid hS
  have hL0 := fun (o : Obj) => look_new (ownsMap_keep hown (Below.heap_alloc w o bm lm)) hM hw hin
  obtain ⟨z, hL1⟩ := hL0 (.cells #[.int .i64 x.op, .int .i64 x.i, .int .i64 x.e, .int .i64 x.g, .int .i64 x.x, .int .i64 x.y] 65)
  have HB : Hid (Below w.heap.size w (w.alloc (.cells #[.int .i64 x.op, .int .i64 x.i, .int .i64 x.e, .int .i64 x.g, .int .i64 x.x, .int .i64 x.y] 65))) := Lib.hid ((Below.refl _ w).alloc (Nat.le_refl _) _)
  have HBX := Lib.hid (Box.made w x 65)
  have HOWN := Lib.hid hown
  have HM := Lib.hid hM
  have HW := Lib.hid hw
  have HR := Lib.hid hrow
  have HI := Lib.hid hin
  unfold nv at hL1 ⊢
  clear hS hin hL0 hM hown hw hrow
  go_enter Tryz.func105, Tryz.ntmps105
  go_wp2
  go_quiet (fail)
  go_wp2
  have HB0 : Hid (Below w.heap.size w ((w.alloc (.cells #[.int .i64 x.op, .int .i64 x.i, .int .i64 x.e, .int .i64 x.g, .int .i64 x.x, .int .i64 x.y] 65)).drewN nq)) := Lib.hid (below_drewN HB.out _)
  have HBX0 : Hid (Box ((w.alloc (.cells #[.int .i64 x.op, .int .i64 x.i, .int .i64 x.e, .int .i64 x.g, .int .i64 x.x, .int .i64 x.y] 65)).drewN nq) w.heap.size x) := Lib.hid HBX.out
  have hsz0 : w.heap.size < ((w.alloc (.cells #[.int .i64 x.op, .int .i64 x.i, .int .i64 x.e, .int .i64 x.g, .int .i64 x.x, .int .i64 x.y] 65)).drewN nq).heap.size := by show w.heap.size < (w.alloc _).heap.size; simp
  clear hL1 HB HBX
  generalize (w.alloc (.cells #[.int .i64 x.op, .int .i64 x.i, .int .i64 x.e, .int .i64 x.g, .int .i64 x.x, .int .i64 x.y] 65)).drewN nq = w0 at *
  obtain ⟨w3, hrun, hown3, hturn⟩ := World.ownsMap.store (w := w0.drew) (ownsMap_keep HOWN.out (show w0.drew.heap[bm]? = w.heap[bm]? from HB0.out.block bm lm)) nodeLaw Tryz.underlying59 (by unfold maxLen; omega) (key_nd HW.out) (plainElem_int (H := Unit) Tryz.underlying3 (show (Lit.int .i64 (s.out.length : Int)).wf = true from WalkArith.wf_i64 (by omega)))
  have hc3 := (HB0.out.cell (p := ⟨bw, 3, none⟩) lw).trans hm3
  obtain ⟨b0, b1, b2, b3, b4, b5, bf⟩ := HBX0.out
  clear bf
  unfold nv at hrun
  have HBK : Hid (∀ g, g < w.heap.size → g ≠ bm → w3.heap[g]? = w.heap[g]?) := Lib.hid (fun g h1 h2 => (turned_cell hturn (show g < w0.heap.size by omega) h2).trans (HB0.out.block g h1))
  have HG := Lib.hid hturn.grown
  have HO3 := Lib.hid hown3
  clear hown3 hturn
  go_region
  clear hrun b0 b1 b2 b3 b4 b5 hc3
  have hsz3 : w.heap.size < w3.heap.size := Nat.lt_of_lt_of_le hsz0 HG.out.size
  obtain ⟨b0, b1, b2, b3, b4, b5, bf⟩ := HBX0.out.keep (W' := w3) (HG.out.block w.heap.size hsz0 (fun e => by injection e; omega))
  clear bf
  have hc2 : w3.cell? ⟨bw, 2, none⟩ = some (.slice A2 s.out.length c2) := (World.cell?_of_block (a := ⟨bw, 2, none⟩) (HBK.out bw lw HS.out.n2)).trans h2
  have hf2 : w3.frozen? ⟨bw, 2, none⟩ = false := (World.frozen?_of_block (a := ⟨bw, 2, none⟩) (HBK.out bw lw HS.out.n2)).trans hfo
  have hrowlt : Hid (∀ g, (Value.slice A2 s.out.length c2).ownBlock = some g → base ≤ g ∧ g < w.heap.size) := Lib.hid (fun g hg => HR.out.lt g hg)
  have hbmr : Hid (∀ g, (Value.slice A2 s.out.length c2).ownBlock = some g → g ≠ bm) := Lib.hid (fun g hg e => by have := (hrowlt.out g hg).1; have := HS.out.lm; omega)
  have hO0 : Hid (w3.ownsRow base 65 6 (.slice A2 s.out.length c2) s.out.length (nds s.out)) := Lib.hid (own_keep1 HR.out (fun g hg => HBK.out g (hrowlt.out g hg).2 (hbmr.out g hg)))
  have hO1 : Hid (∀ o, (w3.drew.alloc o).ownsRow base 65 6 (.slice A2 s.out.length c2) s.out.length (nds s.out)) := Lib.hid (fun o => own_keep1 hO0.out (fun g hg => Below.heap_alloc w3.drew o g (by show g < w3.heap.size; have := (hrowlt.out g hg).2; omega)))
  have hO2 : Hid (∀ o, base ≤ (w3.drew.alloc o).heap.size) := Lib.hid (fun o => by have : (w3.drew.alloc o).heap.size = w3.heap.size + 1 := by simp
                                                                                   omega)
  have hO3 : Hid (∀ j u, (ndC x)[j]? = some u → (w3.drew.alloc (.cells #[.int .i64 x.op, .int .i64 x.i, .int .i64 x.e, .int .i64 x.g, .int .i64 x.x, .int .i64 x.y] 65)).cell? ⟨w3.heap.size, j, none⟩ = some u) := Lib.hid (fun j u hj => by
    have hh := heap_alloc_new w3.drew (.cells #[.int .i64 x.op, .int .i64 x.i, .int .i64 x.e, .int .i64 x.g, .int .i64 x.x, .int .i64 x.y] 65)
    have := Lib.cell_of_heap hh j
    rw [show (⟨w3.heap.size, j, none⟩ : Addr) = ⟨w3.drew.heap.size, j, none⟩ from rfl, this, ← hj]
    simp [ndC])
  have HNE : Hid (some bw ≠ (Value.slice A2 s.out.length c2).ownBlock) := Lib.hid (fun e => by have := (hrowlt.out bw e.symm).1; have := HS.out.lw; omega)
  have HWW : Hid (∀ o w4, (w3.drew.alloc o).grownBy w4 (Value.slice A2 s.out.length c2).ownBlock → w3.grownBy w4 (Value.slice A2 s.out.length c2).ownBlock ∧ w4.cell? ⟨bw, 2, none⟩ = some (.slice A2 s.out.length c2) ∧ w4.frozen? ⟨bw, 2, none⟩ = false) := Lib.hid (fun o w4 hg => by
    have hb : Below w3.heap.size w3 (w3.drew.alloc o) := ((Below.refl _ w3).drew).alloc (Nat.le_refl _) o
    have h4 : w3.grownBy w4 (Value.slice A2 s.out.length c2).ownBlock := ⟨hg.os.trans hb.os, hg.tape.trans hb.tape, hg.output.trans hb.output, Nat.le_trans hb.size hg.size, fun g hg1 hg2 => (hg.block g (Nat.lt_of_lt_of_le hg1 hb.size) hg2).trans (hb.block g hg1)⟩
    exact ⟨h4, (h4.cell_far ⟨bw, 2, none⟩ (by show bw < w3.heap.size; omega) HNE.out).trans hc2, (h4.frozen_far ⟨bw, 2, none⟩ (by show bw < w3.heap.size; omega) HNE.out).trans hf2⟩)
  have e0 := World.new_ne w3 _ hc2
  have ebw : bw < w3.heap.size := by omega
  have ebn : bw ≠ w3.heap.size := by omega
  go_wp2
  go_region_law
    ((refine step_appN x _ (by rfl) _ _ (by rfl) base _ _ (by rfl) (hO1.out _) (by rfl) hO3.out hm (hO2.out _) ?_; intro g3 c3 w4 ho3 hg3 hr3; obtain ⟨hg4, k0, k1⟩ := HWW.out _ _ hg3; have HH := Lib.hid (And.intro ho3 (And.intro hg4 (row_new (n := s.out.length + 1) (c := c3) hr3 (show w.heap.size ≤ (w3.drew.alloc _).heap.size by simp; omega)))); clear ho3 hg3 hg4 hr3))
  all_goals clear b0 b1 b2 b3 b4 b5 hc2 hf2 e0 ebw ebn
  all_goals go_wp2
  all_goals go_ret
  all_goals exact ⟨ret_i64 (by first | rfl | (simp; done) | omega), HS.out.put_end ⟨HG.out.os.trans HB0.out.os, HG.out.tape.trans HB0.out.tape, HG.out.output.trans HB0.out.output, Nat.le_of_lt hsz3, fun k hk => absurd hk (by omega)⟩ HBK.out HM.out HI.out HW.out HO3.out (rowP_of h2) HH.out.1 HH.out.2.1 HH.out.2.2⟩
theorem pAdd_any (x : Nd) (base bw bp bm c n : Nat) (A : Option Addr) (s : Wk) (w : World) (hS : PW w base bw bp bm A c n s) (hw : NdW x) (hm : s.out.length ≤ 1000) :
    Calls Tryz.prog 105 #[.pointer (some ⟨bw, 0, none⟩), nv x] w fun e w' => e = .returned (.int .i64 ((putNd s.out x).1 : Nat)) ∧ PW w' base bw bp bm A c n ⟨(putNd s.out x).2, s.done⟩ ∧ Fp bw bp bm w w' := by
  by_cases hin : x ∈ s.out
  · refine (pAdd_old x base bw bp bm c n A s w hS hin).mono ?_
    rintro e w' ⟨rfl, hb⟩
    have e1 : putNd s.out x = (s.out.idxOf x, s.out) := by unfold putNd; rw [if_pos hin]
    rw [e1]
    exact ⟨rfl, hS.below hb, Fp.of_below hb (Nat.lt_of_lt_of_le hS.lw hS.lb)⟩
  · refine (pAdd_new x base bw bp bm c n A s w hS hin hw hm).mono ?_
    rintro e w' ⟨rfl, h1, h2⟩
    have e1 : putNd s.out x = (s.out.length, s.out ++ [x]) := by unfold putNd; rw [if_neg hin]
    rw [e1]
    exact ⟨rfl, h1, h2⟩
end Go.Proofs.YtenbhalnpiahaaaGreatDoor
/- Layer 6: the program's tokens of a text. -/
namespace Go
theorem results_tmp4 {fn : Func} {t u v x : Tmp} (h : fn.results = #[.tmp t, .tmp u, .tmp v, .tmp x]) (tmps : Array Value) (P : Program) (w : World) :
    (results fn tmps).run P w = .ok (.tuple #[tmps.getD t undef, tmps.getD u undef, tmps.getD v undef, tmps.getD x undef]) w := by
  simp [results, h]
end Go
namespace Go.Proofs.YtenbhalnpiahaaaGreatDoor
open Go.RowKit Go.Proofs.Ws
theorem Tryz.infoI6 : (Tryz.prog.info? 3).map (fun i => (i.zero, i.size, i.bytes)) = some (some (.int .i64 0), 1, 8) := by kernel_rfl
theorem wrap_small {x : Int} (h0 : 0 ≤ x) (h1 : x ≤ 100000000) : IntKind.i64.wrap x = x := by rw [IntKind.wrap_i64]; omega
theorem wrap64_small {x : Int} (h0 : 0 ≤ x) (h1 : x ≤ 100000000) : wrap64 x = x := by unfold wrap64; omega
def ni (l : List Nat) : List Value := l.map (fun (k : Nat) => Value.int .i64 (k : Int))
theorem t_type {W : World} {b size n : Nat} {e : TypeId} {v : Value} {xs : List Value} (h : W.ownsRow b e size v n xs) {g : Nat} (hg : v.ownBlock = some g) : ∃ cur, W.heap[g]? = some (.cells cur e (0, 0)) := by
  rcases h.2 with ⟨rfl, _⟩ | ⟨g2, cap, cur, rfl, _, h2, _⟩
  · cases hg
  · have e2 : g2 = g := by injection hg
    subst e2
    exact ⟨cur, h2⟩
theorem t_apart {W : World} {b b2 size size2 n n2 : Nat} {e e2 : TypeId} {v v2 : Value} {xs xs2 : List Value} (h : W.ownsRow b e size v n xs) (h2 : W.ownsRow b2 e2 size2 v2 n2 xs2) (hne : e ≠ e2) {g : Nat} (hg : v.ownBlock = some g) : v2.ownBlock ≠ some g := by
  intro hg2
  obtain ⟨c1, k1⟩ := t_type h hg
  obtain ⟨c2, k2⟩ := t_type h2 hg2
  rw [k1] at k2
  injection k2 with k2
  injection k2 with _ k3
  exact hne k3
/-- another row lasts when one grows -/
theorem t_grown {W w3 : World} {b b2 size size2 n n2 : Nat} {e e2 : TypeId} {v v2 : Value} {xs xs2 : List Value} (o : Obj) (h : W.ownsRow b e size v n xs) (h2 : W.ownsRow b2 e2 size2 v2 n2 xs2) (hne : e ≠ e2) (hg : (W.alloc o).grownBy w3 v2.ownBlock) : w3.ownsRow b e size v n xs :=
  own_keep1 h (fun g hgg => by
    have hlt := (h.lt g hgg).2
    exact (hg.block g (Nat.lt_of_lt_of_le hlt (by simp)) (fun e3 => t_apart h h2 hne hgg e3.symm)).trans (Below.heap_alloc W o g hlt))
theorem own_ends {w : World} {B n : Nat} {e : TypeId} {v : Value} {xs : List Value} (h : w.ownsRow B e 1 v n xs) : ∃ A c, v = .slice A n c ∧ Reads w w.heap.size 1 A n xs := by
  obtain ⟨A, c, hv, _, _, _, hR⟩ := own_reads2 h
  exact ⟨A, c, hv, hR⟩
set_option maxRecDepth 100000 in
set_option maxHeartbeats 2000000 in
theorem kTokens_any (t : ByteArray) (w : World) (hm : t.size ≤ maxLen) :
    Calls Tryz.prog 20 #[.string t] w fun e w' => ∃ A1 c1 A2 c2, e = .returned (.tuple #[.slice A1 (tokV t).words.length c1, .slice A2 (tokV t).ats.length c2, .int .i64 ((tokV t).pos : Int), .int .i64 (tokV t).err]) ∧
      Reads w' w'.heap.size 1 A1 (tokV t).words.length (ss (tokV t).words) ∧ Reads w' w'.heap.size 1 A2 (tokV t).ats.length (ni (tokV t).ats) ∧ Below w.heap.size w w' := by
  unfold maxLen at hm
  by_cases h4 : 4000 < t.size
  · have hd : decide ((4000 : Int) < (t.size : Int)) = true := decide_eq_true (by omega)
    have hd2 : decide (4000 < t.size) = true := decide_eq_true h4
    have HV : Hid (tokV t = ⟨[], [], 0, 8⟩) := Lib.hid (by unfold tokV; rw [if_pos h4])
    rw [HV.out]
    clear h4
    go_enter Tryz.func20, Tryz.ntmps20
    go_wp2
    (try simp only [Exit.inBlock, Exit.then])
    refine bodyPost_ret (results_tmp4 rfl _ _ _) rfl ?_
    exact ⟨none, 0, none, 0, rfl, Reads.none_, Reads.none_, Below.refl _ _⟩
  · have hd : decide ((4000 : Int) < (t.size : Int)) = false := decide_eq_false (by omega)
    have hd2 : decide (4000 < t.size) = false := decide_eq_false h4
    have HV : Hid (tokV t = tokF (t.size + 1) (t.data.toList.drop 0) 0 [] []) := Lib.hid (by unfold tokV; rw [if_neg h4]; rfl)
    have h40 : t.size ≤ 4000 := by omega
    generalize tokV t = T at *
    have hsz := ba_len t
    have HSP := Lib.hid (fun (f k : Nat) ws at_ (h : k < t.data.toList.length) => tokF_space (l := t.data.toList) (fuel := f) (ws := ws) (at_ := at_) h)
    have HBD := Lib.hid (fun (f k : Nat) ws at_ (h : k < t.data.toList.length) => tokF_bad (l := t.data.toList) (fuel := f) (ws := ws) (at_ := at_) h)
    have HWD := Lib.hid (fun (f k : Nat) ws at_ (h : k < t.data.toList.length) => tokF_word (l := t.data.toList) (fuel := f) (ws := ws) (at_ := at_) h)
    have HEN := Lib.hid (fun (f k : Nat) ws at_ (h : t.data.toList.length ≤ k) => tokF_end (fuel := f) (ws := ws) (at_ := at_) h)
    have HPL := Lib.hid (fun k => partL_le (t.data.toList.drop k))
    have HEX : Hid (∀ k, (t.extract k t.size).data.toList = t.data.toList.drop k) := Lib.hid (fun k => by
      rw [ext_take]
      simp only
      rw [List.take_of_length_le]
      rw [List.length_drop, hsz]; exact Nat.le_refl _)
    have HSZ := Lib.hid hsz
    obtain ⟨i0, hi, hz0, hz1, hz2⟩ := info_parts Tryz.infoS
    obtain ⟨j0, hj, hy0, hy1, hy2⟩ := info_parts Tryz.infoI6
    clear hsz h4
    go_enter Tryz.func20, Tryz.ntmps20
    go_wp2
    go_loopw [2, 3, 6] (fun vw va i wr => ∃ (k f : Nat) (ws : List ByteArray) (as_ : List Nat), k ≤ t.size ∧ i = .int .i64 k ∧ Hid (t.size < k + f ∧ T = tokF f (t.data.toList.drop k) k ws as_) ∧ ws.length ≤ k ∧ as_.length ≤ k ∧ Hid (wr.ownsRow w.heap.size 9 1 vw ws.length (ss ws)) ∧ Hid (wr.ownsRow w.heap.size 3 1 va as_.length (ni as_)) ∧ Hid (Below w.heap.size w wr)) (fun _ _ i _ => t.size - (intOf i).toNat)
    case atStart => exact ⟨0, t.size + 1, [], [], Nat.zero_le _, rfl, Lib.hid ⟨by omega, HV.out⟩, Nat.zero_le _, Nat.zero_le _, Lib.hid (World.ownsRow_nil _ _ _ _), Lib.hid (World.ownsRow_nil _ _ _ _), Lib.hid (Below.refl _ _)⟩
    case round =>
      obtain ⟨k, f, ws, as_, hk, rfl, HI, hwl, hal, HW, HA, HB⟩ := hrel
      by_cases hlt : k < t.size
      · obtain ⟨g, hf⟩ : ∃ g, f = g + 1 := ⟨f - 1, by have := HI.out.1; omega⟩
        subst hf
        have hkl : k < t.data.toList.length := by rw [HSZ.out]; exact hlt
        have hge : t.data.toList[k] = t[k] := rfl
        have HS := Lib.hid (fun W => kSpace_any t[k].toNat W)
        cases hs : spaceN t[k].toNat with
        | true =>
          have HI2 : Hid (t.size < (k + 1) + g ∧ T = tokF g (t.data.toList.drop (k + 1)) (k + 1) ws as_) := Lib.hid ⟨by have := HI.out.1; omega, by rw [HI.out.2]; exact HSP.out g k ws as_ hkl (by rw [hge]; exact hs)⟩
          rw [hs] at HS
          clear hs hge HI
          go_wp2_with (go_at_call 42; refine (HS.out _).mono ?_; rintro e w' ⟨rfl, rfl⟩)
          go_roundw
          case rel => exact ⟨k + 1, g, ws, as_, by omega, by go_num, HI2, by omega, by omega, HW, HA, HB⟩
          case measure => simp [intOf]; omega
        | false =>
          have hsf : spaceN t.data.toList[k].toNat = false := by rw [hge]; exact hs
          have hns : (t.extract k t.size).size = t.size - k := by simp
          have HT := Lib.hid (fun W => kToken_any (t.extract k t.size) W (by unfold maxLen; omega) (by omega))
          rw [HEX.out] at HT
          rw [hs] at HS
          clear hs hge
          have hpl := HPL.out k
          rw [List.length_drop, HSZ.out] at hpl
          have htl : (tokW (t.data.toList.drop k)).size = partL (t.data.toList.drop k) := by
            unfold tokW
            show ((t.data.toList.drop k).take _).toArray.size = _
            rw [List.size_toArray, List.length_take, List.length_drop, HSZ.out]
            omega
          by_cases hp0 : partL (t.data.toList.drop k) = 0
          · have HF : Hid (T = ⟨[], [], k, 4⟩) := Lib.hid (by rw [HI.out.2]; exact HBD.out g k ws as_ hkl hsf (by unfold partE; omega))
            have hw0 : tokW (t.data.toList.drop k) = ⟨#[]⟩ := by unfold tokW; rw [hp0]; rfl
            rw [hw0] at HT
            clear hp0 htl hpl hw0 hsf HI
            go_wp2_with fail
            refine (HS.out _).mono ?_
            rintro e w' ⟨rfl, rfl⟩
            go_wp2_with fail
            refine (HT.out _).mono ?_
            rintro e w' ⟨rfl, rfl⟩
            go_wp2
            (try simp only [Exit.inBlock, Exit.then])
            refine bodyPost_ret (results_tmp4 rfl _ _ _) rfl ?_
            rw [HF.out]
            exact ⟨none, 0, none, 0, rfl, Reads.none_, Reads.none_, HB.out⟩
          · have HI2 : Hid (T = tokF g (t.data.toList.drop (k + partL (t.data.toList.drop k))) (k + partL (t.data.toList.drop k)) (ws ++ [tokW (t.data.toList.drop k)]) (as_ ++ [k])) := Lib.hid (by
              rw [HI.out.2]
              have := HWD.out g k ws as_ hkl hsf (by unfold partE; omega)
              rw [this]
              have e : partE t.data.toList k = k + partL (t.data.toList.drop k) := rfl
              rw [e, Nat.add_sub_cancel_left]; rfl)
            have hfu : t.size < k + (g + 1) := HI.out.1
            have hne : (tokW (t.data.toList.drop k)).toList.isEmpty = false := by
              rw [Lib.toList_data]
              cases h : (tokW (t.data.toList.drop k)).data.toList with
              | nil => exact absurd (by rw [← htl, ← ba_len, h]; rfl) hp0
              | cons _ _ => rfl
            generalize tokW (t.data.toList.drop k) = tk at *
            generalize partL (t.data.toList.drop k) = pl at *
            clear HI hsf HSP HBD HWD HPL HEX
            go_wp2_with fail
            refine (HS.out _).mono ?_
            rintro e w' ⟨rfl, rfl⟩
            go_wp2_with fail
            refine (HT.out _).mono ?_
            rintro e w' ⟨rfl, rfl⟩
            have hown := HW.out
            have hs0 := HB.out.size
            go_wp2_with (at_builtin; refine wpList_append_own _ rfl _ _ 22 rfl w.heap.size 9 i0 (.string ByteArray.empty) 1 16 Tryz.underlying22 hi hz0 hz1 hz2 rfl (by decide) _ _ _ rfl (hown.alloc _) ⟨wr.heap.size, 0, none⟩ 1 1 [.string tk] rfl rfl ?c1 ?c2 ?c3 ?c4 ?c5 ?_)
            case c1 =>
              intro j u hj
              match j, hj with
              | 0, hj => simp at hj; subst hj; simp [Addr.add]
            case c2 => intro u hu; simp at hu; subst hu; rfl
            case c3 => unfold maxLen; omega
            case c4 => omega
            case c5 => simp; omega
            intro v' w3 hown' hgrow _
            have HA3 := Lib.hid (t_grown _ HA.out hown (by decide) hgrow)
            have HW3 := Lib.hid hown'
            have HB3 : Hid (Below w.heap.size w w3) := Lib.hid ((HB.out.alloc (by omega) _).grown hgrow (by simp; omega) (fun j hj => ((hown.alloc (.cells #[.string tk] 9)).lt j hj).1))
            have hs3 := HB3.out.size
            have hal' := HA3.out
            clear hgrow hown' hown
            go_wp2_with (at_builtin; refine wpList_append_own _ rfl _ _ 38 rfl w.heap.size 3 j0 (.int .i64 0) 1 8 Tryz.underlying38 hj hy0 hy1 hy2 rfl (by decide) _ _ _ rfl (hal'.alloc _) ⟨w3.heap.size, 0, none⟩ 1 1 [.int .i64 (k : Int)] rfl rfl ?c1 ?c2 ?c3 ?c4 ?c5 ?_)
            case c1 =>
              intro j u hj
              match j, hj with
              | 0, hj => simp at hj; subst hj; simp [Addr.add]
            case c2 => intro u hu; simp at hu; subst hu; rfl
            case c3 => unfold maxLen; omega
            case c4 => omega
            case c5 => simp; omega
            intro v2 w4 hown2 hgrow2 _
            have HW4 := Lib.hid (t_grown _ HW3.out hal' (by decide) hgrow2)
            have HA4 := Lib.hid hown2
            have HB4 : Hid (Below w.heap.size w w4) := Lib.hid ((HB3.out.alloc (by omega) _).grown hgrow2 (by simp; omega) (fun j hj => ((hal'.alloc (.cells #[.int .i64 (k : Int)] 3)).lt j hj).1))
            have e1 : ws.length + 1 = (ws ++ [tk]).length := by simp
            have e2 : as_.length + 1 = (as_ ++ [k]).length := by simp
            have e3 : ss ws ++ [.string tk] = ss (ws ++ [tk]) := by simp [ss]
            have e4 : ni as_ ++ [.int .i64 (k : Int)] = ni (as_ ++ [k]) := by simp [ni]
            rw [e1, e3] at HW4
            rw [e2, e4] at HA4
            have b1 : k + pl ≤ t.size := by omega
            have b2 : t.size < (k + pl) + g := by omega
            have b3 : (ws ++ [tk]).length ≤ k + pl := by simp; omega
            have b4 : (as_ ++ [k]).length ≤ k + pl := by simp; omega
            have b5 : t.size - (k + pl) < t.size - k := by omega
            clear hgrow2 hown2 hal' e1 e2 e3 e4 hne HA3 HW3 hpl hp0 hns
            subst htl
            obtain ⟨hw1, hw2⟩ : wrap64 ((k : Int) + (tk.size : Int)) = (k : Int) + (tk.size : Int) ∧ IntKind.i64.wrap ((k : Int) + (tk.size : Int)) = (k : Int) + (tk.size : Int) :=
              ⟨by rw [wrap64_small (by omega) (by omega)], by rw [wrap_small (by omega) (by omega)]⟩
            have HBS := Lib.hid (And.intro b1 (And.intro b2 (And.intro b3 (And.intro b4 b5))))
            clear b1 b2 b3 b4 b5 hfu hk hwl hal
            go_wp2
            go_roundw
            case rel => exact ⟨k + tk.size, g, _, _, HBS.out.1, by first | rfl | go_num, Lib.hid ⟨HBS.out.2.1, HI2.out⟩, HBS.out.2.2.1, HBS.out.2.2.2.1, HW4, HA4, HB4⟩
            case measure =>
              have := HBS.out.2.2.2.2
              clear hw1 hw2
              simp [intOf]; omega
      · have hkn : k = t.size := by omega
        have HF : Hid (T = ⟨ws, as_, 0, 0⟩) := Lib.hid (by rw [HI.out.2]; exact HEN.out f k ws as_ (by rw [HSZ.out]; omega))
        obtain ⟨A1, c1, rfl, hR1⟩ := own_ends HW.out
        obtain ⟨A2, c2, rfl, hR2⟩ := own_ends HA.out
        have HR1 := Lib.hid hR1
        have HR2 := Lib.hid hR2
        clear hR1 hR2 HI HW HA
        subst hkn
        go_wp2
        (try simp only [Exit.inBlock, Exit.then])
        refine bodyPost_ret (results_tmp4 rfl _ _ _) rfl ?_
        rw [HF.out]
        exact ⟨A1, c1, A2, c2, rfl, HR1.out, HR2.out, HB.out⟩
end Go.Proofs.YtenbhalnpiahaaaGreatDoor
