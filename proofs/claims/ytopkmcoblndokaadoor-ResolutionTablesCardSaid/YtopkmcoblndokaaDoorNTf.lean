/- Layer 6: texts joined: UOh UOi. -/
import Derived.Test.YtopkmcoblndokaaDoorNTd
import Derived.Lib.SliceRun
import Derived.Laws.IdiomCopy
/- Layer 10: the first clause with a property; the literals that are true, by the program. -/
namespace Go.Proofs.YtopkmcoblndokaaDoor.rsl
open Go.RowKit Go.Proofs.Ws.rsl
set_option maxRecDepth 100000
def unB (t c : List Int) : Bool := unitV t c != 0
def zeB (x : Int) : Bool := x == 0
def idxP {α : Type} (p : α → Bool) (l : List α) : Int := match l.findIdx? p with | some i => (i : Int) | none => -1
theorem idxP_hit {α : Type} {p : α → Bool} {l : List α} {d : α} {j : Nat} (hj : j < l.length) (h : ∀ i, i < j → p (l.getD i d) = false) (hp : p (l.getD j d) = true) : l.findIdx? p = some j ∧ idxP p l = j := by
  have e : l.findIdx? p = some j := by
    rw [List.findIdx?_eq_some_iff_getElem]
    refine ⟨hj, ?_, fun i hi => ?_⟩
    · rw [List.getD_eq_getElem?_getD, List.getElem?_eq_getElem hj] at hp; exact hp
    · have := h i hi
      rw [List.getD_eq_getElem?_getD, List.getElem?_eq_getElem (by omega)] at this
      rw [Bool.not_eq_true]; exact this
  exact ⟨e, by unfold idxP; rw [e]⟩
theorem idxP_miss {α : Type} {p : α → Bool} {l : List α} {d : α} (h : ∀ i, i < l.length → p (l.getD i d) = false) : l.findIdx? p = none ∧ idxP p l = -1 := by
  have e : l.findIdx? p = none := by
    rw [List.findIdx?_eq_none_iff]
    intro x hx
    obtain ⟨i, hi, rfl⟩ := List.getElem_of_mem hx
    have := h i hi
    rw [List.getD_eq_getElem?_getD, List.getElem?_eq_getElem hi] at this
    exact this
  exact ⟨e, by unfold idxP; rw [e]⟩
set_option maxHeartbeats 2000000 in
theorem xIdxRef_any (t : List Int) (l : List (List Int)) (A : Option Addr) (k cap : Nat) (w : World) (ht : t.length = 12) (hS : Small l) (hR : ZsR w w.heap.size A k l) (hk : k ≤ 1000000) :
    Calls Tryd.prog 49 #[.slice A k cap, .func (.func 50) #[.agg (ints t).toArray] #[]] w fun e w' => e = .returned (.int .i64 (idxP (refB t) l)) ∧ Below w.heap.size w w' := by
  have HL := Lib.hid (hR.len)
  have HR := Lib.hid hR
  have HF := Lib.hid (fun W (hb : Below w.heap.size w W) (c : List Int) (hc : c ∈ l) (Ac : Option Addr) (cc : Nat) (hr : Reads W W.heap.size 1 Ac c.length (ints c)) => xRefutes_any t c Ac c.length cc W ht (hS c hc).1 hr (by have := (hS c hc).2; omega))
  have HHIT := Lib.hid (fun j h1 h2 h3 => (idxP_hit (p := (refB t)) (l := l) (d := []) (j := j) h1 h2 h3).2)
  have HMISS := Lib.hid (fun h1 => (idxP_miss (p := (refB t)) (l := l) (d := []) h1).2)
  have HPP : ∃ pp, (refB t) = pp := ⟨_, rfl⟩
  obtain ⟨pp, hpp⟩ := HPP
  rw [hpp] at HHIT HMISS HF ⊢
  clear hpp
  generalize idxP pp l = R at *
  clear hR ht hS
  go_enter Tryd.func49, Tryd.ntmps49
  go_wp2
  go_loopw [5, 8] (fun _ i wr => ∃ j : Nat, j ≤ k ∧ i = .int .i64 j ∧ Hid (∀ i, i < j → pp (l.getD i []) = false) ∧ Hid (Below w.heap.size w wr)) (fun _ i _ => k - (intOf i).toNat)
  case atStart => exact ⟨0, Nat.zero_le _, rfl, Lib.hid (fun i hi => absurd hi (Nat.not_lt_zero _)), Lib.hid (Below.refl _ _)⟩
  case round =>
    obtain ⟨j, hj, rfl, HI, HO⟩ := hrel
    by_cases hlt : j < k
    · obtain ⟨ad, Aj, cj, rfl, _, hcj, hrj, hlj⟩ := (HR.out.below HO.out HO.out.size).at_ hlt
      have hmj := getDZ_mem (l := l) (k := j) (by have := HL.out; omega)
      have HFJ := HF.out wr HO.out (l.getD j []) hmj Aj cj hrj
      clear hrj hlj hmj
      have HN : Hid (∀ b, pp (l.getD j []) = b → b = false → ∀ i, i < j + 1 → pp (l.getD i []) = false) := Lib.hid (fun b h1 h2 i hi => by
        by_cases e : i = j
        · rw [e, h1, h2]
        · exact HI.out i (by omega))
      have HH : Hid (pp (l.getD j []) = true → R = j) := Lib.hid (fun h => HHIT.out j (by have := HL.out; omega) HI.out h)
      clear HI
      generalize l.getD j [] = x at *
      generalize hq : pp x = b at *
      cases b with
      | true =>
        have HE := Lib.hid (HH.out rfl)
        have HFJ := Lib.hid HFJ
        clear hq HN HH
        go_wp2_with fail
        refine (HFJ.out).mono ?_
        rintro e w2 ⟨rfl, hb⟩
        have HO2 := Lib.hid (HO.out.trans (hb.mono HO.out.size))
        clear hb hcj
        go_wp2
        go_ret
        exact ⟨ret_i64 HE.out.symm, HO2.out⟩
      | false =>
        have HI2 := Lib.hid (HN.out false rfl rfl)
        have HFJ := Lib.hid HFJ
        clear hq HN HH
        go_wp2_with fail
        refine (HFJ.out).mono ?_
        rintro e w2 ⟨rfl, hb⟩
        have HO2 := Lib.hid (HO.out.trans (hb.mono HO.out.size))
        clear hb hcj
        go_wp2
        go_roundw
        case rel => exact ⟨j + 1, by omega, by go_num, HI2, HO2⟩
        case measure => first | (simp [intOf]; done) | (simp [intOf]; omega)
    · have HE := Lib.hid (HMISS.out (fun i hi => HI.out i (by have := HL.out; omega)))
      go_wp2
      go_ret
      exact ⟨ret_i64 HE.out.symm, HO.out⟩
set_option maxHeartbeats 2000000 in
theorem xUnitFn_any (t c : List Int) (A : Option Addr) (k cap g : Nat) (w : World) (ht : t.length = 12) (hcl : ∀ x ∈ c, x ≠ 0 ∧ -12 ≤ x ∧ x ≤ 12) (hR : Reads w w.heap.size 1 A k (ints c)) (hk : k ≤ 1000000) (hB : TB w g t) :
    Calls Tryd.prog 52 #[.slice A k cap, .pointer (some ⟨g, 0, none⟩)] w fun e w' => e = .returned (.bool (unB t c)) ∧ Below w.heap.size w w' := by
  have HU := Lib.hid (xUnit_any t c A k cap w ht hcl hR hk)
  have HB := Lib.hid hB
  have HSZ := Lib.hid (sizeT ht)
  clear hR hB hcl ht
  unfold unB
  generalize unitV t c = u at *
  go_enter Tryd.func52, Tryd.ntmps52
  go_wp2_with (first
    | (refine wpList_load_row rfl 65 (.tmp 1) rfl g rfl _ _ _ _ HB.out Tryd.underlying65 rfl HSZ.out ?_; go_frame)
    | (go_at_call 53; refine (HU.out).mono ?_; rintro e w2 ⟨rfl, hb⟩; have HB2 := Lib.hid hb; clear hb))
  go_ret
  exact ⟨rfl, HB2.out⟩
set_option maxHeartbeats 2000000 in
theorem xIdxUnit_any (t : List Int) (l : List (List Int)) (A : Option Addr) (k cap g : Nat) (w : World) (ht : t.length = 12) (hS : Small l) (hR : ZsR w w.heap.size A k l) (hk : k ≤ 1000000) (hB : TB w g t) :
    Calls Tryd.prog 49 #[.slice A k cap, .func (.func 52) #[] #[.pointer (some ⟨g, 0, none⟩)]] w fun e w' => e = .returned (.int .i64 (idxP (unB t) l)) ∧ Below w.heap.size w w' := by
  have HL := Lib.hid (hR.len)
  have HR := Lib.hid hR
  have HF := Lib.hid (fun W (hb : Below w.heap.size w W) (c : List Int) (hc : c ∈ l) (Ac : Option Addr) (cc : Nat) (hr : Reads W W.heap.size 1 Ac c.length (ints c)) => xUnitFn_any t c Ac c.length cc g W ht (hS c hc).1 hr (by have := (hS c hc).2; omega) (hB.below hb hB.lt))
  have HHIT := Lib.hid (fun j h1 h2 h3 => (idxP_hit (p := (unB t)) (l := l) (d := []) (j := j) h1 h2 h3).2)
  have HMISS := Lib.hid (fun h1 => (idxP_miss (p := (unB t)) (l := l) (d := []) h1).2)
  have HPP : ∃ pp, (unB t) = pp := ⟨_, rfl⟩
  obtain ⟨pp, hpp⟩ := HPP
  rw [hpp] at HHIT HMISS HF ⊢
  clear hpp
  generalize idxP pp l = R at *
  clear hR ht hS hB
  go_enter Tryd.func49, Tryd.ntmps49
  go_wp2
  go_loopw [5, 8] (fun _ i wr => ∃ j : Nat, j ≤ k ∧ i = .int .i64 j ∧ Hid (∀ i, i < j → pp (l.getD i []) = false) ∧ Hid (Below w.heap.size w wr)) (fun _ i _ => k - (intOf i).toNat)
  case atStart => exact ⟨0, Nat.zero_le _, rfl, Lib.hid (fun i hi => absurd hi (Nat.not_lt_zero _)), Lib.hid (Below.refl _ _)⟩
  case round =>
    obtain ⟨j, hj, rfl, HI, HO⟩ := hrel
    by_cases hlt : j < k
    · obtain ⟨ad, Aj, cj, rfl, _, hcj, hrj, hlj⟩ := (HR.out.below HO.out HO.out.size).at_ hlt
      have hmj := getDZ_mem (l := l) (k := j) (by have := HL.out; omega)
      have HFJ := HF.out wr HO.out (l.getD j []) hmj Aj cj hrj
      clear hrj hlj hmj
      have HN : Hid (∀ b, pp (l.getD j []) = b → b = false → ∀ i, i < j + 1 → pp (l.getD i []) = false) := Lib.hid (fun b h1 h2 i hi => by
        by_cases e : i = j
        · rw [e, h1, h2]
        · exact HI.out i (by omega))
      have HH : Hid (pp (l.getD j []) = true → R = j) := Lib.hid (fun h => HHIT.out j (by have := HL.out; omega) HI.out h)
      clear HI
      generalize l.getD j [] = x at *
      generalize hq : pp x = b at *
      cases b with
      | true =>
        have HE := Lib.hid (HH.out rfl)
        have HFJ := Lib.hid HFJ
        clear hq HN HH
        go_wp2_with fail
        refine (HFJ.out).mono ?_
        rintro e w2 ⟨rfl, hb⟩
        have HO2 := Lib.hid (HO.out.trans (hb.mono HO.out.size))
        clear hb hcj
        go_wp2
        go_ret
        exact ⟨ret_i64 HE.out.symm, HO2.out⟩
      | false =>
        have HI2 := Lib.hid (HN.out false rfl rfl)
        have HFJ := Lib.hid HFJ
        clear hq HN HH
        go_wp2_with fail
        refine (HFJ.out).mono ?_
        rintro e w2 ⟨rfl, hb⟩
        have HO2 := Lib.hid (HO.out.trans (hb.mono HO.out.size))
        clear hb hcj
        go_wp2
        go_roundw
        case rel => exact ⟨j + 1, by omega, by go_num, HI2, HO2⟩
        case measure => first | (simp [intOf]; done) | (simp [intOf]; omega)
    · have HE := Lib.hid (HMISS.out (fun i hi => HI.out i (by have := HL.out; omega)))
      go_wp2
      go_ret
      exact ⟨ret_i64 HE.out.symm, HO.out⟩
theorem xZeroFn_any (x : Int) (w : World) :
    Calls Tryd.prog 72 #[.int .i64 x] w fun e w' => e = .returned (.bool (zeB x)) ∧ Below w.heap.size w w' := by
  go_enter Tryd.func72, Tryd.ntmps72
  go_wp2
  go_ret
  exact ⟨rfl, Below.refl _ _⟩
set_option maxHeartbeats 2000000 in
theorem xIdxZero_any (l : List Int) (A : Option Addr) (k cap : Nat) (w : World) (hR : Reads w w.heap.size 1 A k (ints l)) (hk : k ≤ 1000000) :
    Calls Tryd.prog 70 #[.slice A k cap, .func (.func 72) #[] #[]] w fun e w' => e = .returned (.int .i64 (idxP zeB l)) ∧ Below w.heap.size w w' := by
  have HL := Lib.hid (hR.int_len)
  have HR := Lib.hid hR
  have HF := Lib.hid (fun W (x : Int) => xZeroFn_any x W)
  have HHIT := Lib.hid (fun j h1 h2 h3 => (idxP_hit (p := zeB) (l := l) (d := 0) (j := j) h1 h2 h3).2)
  have HMISS := Lib.hid (fun h1 => (idxP_miss (p := zeB) (l := l) (d := 0) h1).2)
  have HPP : ∃ pp, zeB = pp := ⟨_, rfl⟩
  obtain ⟨pp, hpp⟩ := HPP
  rw [hpp] at HHIT HMISS HF ⊢
  clear hpp
  generalize idxP pp l = R at *
  clear hR 
  go_enter Tryd.func70, Tryd.ntmps70
  go_wp2
  go_loopw [5, 8] (fun _ i wr => ∃ j : Nat, j ≤ k ∧ i = .int .i64 j ∧ Hid (∀ i, i < j → pp (l.getD i 0) = false) ∧ Hid (Below w.heap.size w wr)) (fun _ i _ => k - (intOf i).toNat)
  case atStart => exact ⟨0, Nat.zero_le _, rfl, Lib.hid (fun i hi => absurd hi (Nat.not_lt_zero _)), Lib.hid (Below.refl _ _)⟩
  case round =>
    obtain ⟨j, hj, rfl, HI, HO⟩ := hrel
    by_cases hlt : j < k
    · obtain ⟨ad, rfl, _, hcj⟩ := (HR.out.below HO.out).int_at hlt
      have HFJ := HF.out wr (l.getD j 0)
      have HN : Hid (∀ b, pp (l.getD j 0) = b → b = false → ∀ i, i < j + 1 → pp (l.getD i 0) = false) := Lib.hid (fun b h1 h2 i hi => by
        by_cases e : i = j
        · rw [e, h1, h2]
        · exact HI.out i (by omega))
      have HH : Hid (pp (l.getD j 0) = true → R = j) := Lib.hid (fun h => HHIT.out j (by have := HL.out; omega) HI.out h)
      clear HI
      generalize l.getD j 0 = x at *
      generalize hq : pp x = b at *
      cases b with
      | true =>
        have HE := Lib.hid (HH.out rfl)
        have HFJ := Lib.hid HFJ
        clear hq HN HH
        go_wp2_with fail
        refine (HFJ.out).mono ?_
        rintro e w2 ⟨rfl, hb⟩
        have HO2 := Lib.hid (HO.out.trans (hb.mono HO.out.size))
        clear hb hcj
        go_wp2
        go_ret
        exact ⟨ret_i64 HE.out.symm, HO2.out⟩
      | false =>
        have HI2 := Lib.hid (HN.out false rfl rfl)
        have HFJ := Lib.hid HFJ
        clear hq HN HH
        go_wp2_with fail
        refine (HFJ.out).mono ?_
        rintro e w2 ⟨rfl, hb⟩
        have HO2 := Lib.hid (HO.out.trans (hb.mono HO.out.size))
        clear hb hcj
        go_wp2
        go_roundw
        case rel => exact ⟨j + 1, by omega, by go_num, HI2, HO2⟩
        case measure => first | (simp [intOf]; done) | (simp [intOf]; omega)
    · have HE := Lib.hid (HMISS.out (fun i hi => HI.out i (by have := HL.out; omega)))
      go_wp2
      go_ret
      exact ⟨ret_i64 HE.out.symm, HO.out⟩
end Go.Proofs.YtopkmcoblndokaaDoor.rsl
/- Layer 10: the literals of truth values, by the program. -/
namespace Go.Proofs.YtopkmcoblndokaaDoor.rsl
open Go.RowKit Go.Proofs.Ws.rsl
set_option maxRecDepth 100000
theorem below_setCells' {B : Nat} {a : World} (b : Nat) (hb : B ≤ b) : ∀ (vs : List Value) (o : Nat) {w : World}, Below B a w → Below B a (w.setCells b o vs)
  | [], _, _, h => h
  | v :: vs, o, _w, h => below_setCells' b hb vs (o + 1) (h.setCell hb v)
theorem HoldsJ.puts {g : Nat} : ∀ (xs : List Int) (i : Nat) {w : World} {L : List Int}, HoldsJ w g L → ∃ L2, HoldsJ (w.setCells g i (ints xs)) g L2 ∧ L2.length = L.length ∧ L2.take i = L.take i
  | [], i, w, L, h => ⟨L, h, rfl, rfl⟩
  | x :: xs, i, w, L, h => by
    obtain ⟨L2, h1, h2, h3⟩ := HoldsJ.puts xs (i + 1) (h.put i x)
    refine ⟨L2, h1, by rw [h2, List.length_set], ?_⟩
    have := congrArg (List.take i) h3
    rw [List.take_take, List.take_take, Nat.min_eq_left (by omega), List.take_set_of_le (by omega)] at this
    exact this
theorem HoldsJ.cut {w : World} {g : Nat} {L : List Int} (h : HoldsJ w g L) (i : Nat) : HoldsJ w g (L.take i) := by
  obtain ⟨pad, h⟩ := h
  refine ⟨ints (L.drop i) ++ pad, ?_⟩
  have e : ints (L.take i) ++ (ints (L.drop i) ++ pad) = ints L ++ pad := by
    rw [← List.append_assoc]
    unfold ints
    rw [← List.map_append, List.take_append_drop]
  rw [e]; exact h
/-- a list in a block of its own -/
def OwJ (W : World) (base : Nat) (A : Option Addr) (L : List Int) : Prop := 0 < L.length → ∃ g, A = some ⟨g, 0, none⟩ ∧ base ≤ g ∧ HoldsJ W g L
theorem OwJ.reads {W : World} {base : Nat} {A : Option Addr} {L : List Int} (h : OwJ W base A L) : Reads W W.heap.size 1 A L.length (ints L) := by
  by_cases h0 : 0 < L.length
  · obtain ⟨g, rfl, _, hg⟩ := h h0
    exact hg.reads
  · exact ⟨by rw [ints_length]; omega, fun h1 => absurd h1 h0⟩
theorem OwJ.below {W W' : World} {base : Nat} {A : Option Addr} {L : List Int} (h : OwJ W base A L) (hb : Below W.heap.size W W') : OwJ W' base A L := fun h0 => by
  obtain ⟨g, e, hg, hh⟩ := h h0
  exact ⟨g, e, hg, hh.below hb hh.lt⟩
theorem OwJ.mono {W : World} {base b2 : Nat} {A : Option Addr} {L : List Int} (h : OwJ W base A L) (hb : b2 ≤ base) : OwJ W b2 A L := fun h0 => by
  obtain ⟨g, e, hg, hh⟩ := h h0
  exact ⟨g, e, Nat.le_trans hb hg, hh⟩
/-- what stands in place when the first m places were looked at -/
structure DelI (l : List Int) (m i : Nat) (L : List Int) : Prop where
  len : L.length = l.length
  lt : i < m
  take : L.take i = litsT (l.take m)
  drop : L.drop m = l.drop m
theorem filter_one {l : List Int} {m : Nat} (hm : m < l.length) : litsT (l.take (m + 1)) = litsT (l.take m) ++ (if zeB (l.getD m 0) = true then [] else [l.getD m 0]) := by
  unfold litsT
  rw [List.take_succ_eq_append_getElem hm, List.filter_append]
  congr 1
  rw [List.getD_eq_getElem?_getD, List.getElem?_eq_getElem hm]
  unfold zeB
  simp only [Option.getD_some, List.filter_cons, List.filter_nil]
  cases h : (l[m] == 0) <;> simp
theorem filter_none {l : List Int} {j : Nat} (hj : j ≤ l.length) (h : ∀ i, i < j → zeB (l.getD i 0) = false) : litsT (l.take j) = l.take j := by
  induction j with
  | zero => rfl
  | succ j ih =>
    rw [filter_one (by omega), ih (by omega) (fun i hi => h i (by omega)), h j (by omega), List.take_succ_eq_append_getElem (by omega), List.getD_eq_getElem?_getD, List.getElem?_eq_getElem (by omega)]
    rfl
theorem DelI.start {l : List Int} {i : Nat} (hi : i < l.length) (h : ∀ j, j < i → zeB (l.getD j 0) = false) (hz : zeB (l.getD i 0) = true) : DelI l (i + 1) i l := by
  refine ⟨rfl, Nat.lt_succ_self _, ?_, rfl⟩
  rw [filter_one hi, filter_none (by omega) h, hz, if_pos rfl, List.append_nil]
theorem DelI.skip {l L : List Int} {m i : Nat} (h : DelI l m i L) (hm : m < l.length) (hz : zeB (l.getD m 0) = true) : DelI l (m + 1) i L := by
  refine ⟨h.len, by have := h.lt; omega, ?_, ?_⟩
  · rw [filter_one hm, hz, if_pos rfl, List.append_nil]; exact h.take
  · have := congrArg (List.drop 1) h.drop
    rw [List.drop_drop, List.drop_drop] at this
    exact this
theorem DelI.keep {l L : List Int} {m i : Nat} (h : DelI l m i L) (hm : m < l.length) (hz : zeB (l.getD m 0) = false) : DelI l (m + 1) (i + 1) (L.set i (l.getD m 0)) := by
  have hi := h.lt
  refine ⟨by rw [List.length_set]; exact h.len, by omega, ?_, ?_⟩
  · rw [filter_one hm, hz, if_neg (by decide), ← h.take, List.take_succ_eq_append_getElem (by rw [List.length_set, h.len]; omega), List.getElem_set_self, List.take_set_of_le (Nat.le_refl _)]
  · rw [List.drop_set_of_lt (by omega)]
    have := congrArg (List.drop 1) h.drop
    rw [List.drop_drop, List.drop_drop] at this
    exact this
theorem DelI.val {l L : List Int} {m i : Nat} (h : DelI l m i L) (_hm : m < l.length) : L.getD m 0 = l.getD m 0 := by
  have := congrArg (fun x => x[0]?) h.drop
  simp only [List.getElem?_drop, Nat.add_zero] at this
  rw [List.getD_eq_getElem?_getD, List.getD_eq_getElem?_getD, this]
theorem idxP_cases (l : List Int) : idxP zeB l = -1 ∧ litsT l = l ∨ ∃ i : Nat, idxP zeB l = (i : Int) ∧ i < l.length ∧ DelI l (i + 1) i l := by
  cases h : l.findIdx? zeB with
  | none =>
    refine .inl ⟨by unfold idxP; rw [h], ?_⟩
    have := filter_none (l := l) (Nat.le_refl _) (fun i hi => by
      have := List.findIdx?_eq_none_iff.1 h l[i] (List.getElem_mem hi)
      rw [List.getD_eq_getElem?_getD, List.getElem?_eq_getElem hi]; exact this)
    rwa [List.take_length] at this
  | some i =>
    obtain ⟨hi, h1, h2⟩ := List.findIdx?_eq_some_iff_getElem.1 h
    refine .inr ⟨i, by unfold idxP; rw [h], hi, DelI.start hi (fun j hj => ?_) ?_⟩
    · have := h2 j hj
      rw [List.getD_eq_getElem?_getD, List.getElem?_eq_getElem (by omega)]
      simpa using this
    · rw [List.getD_eq_getElem?_getD, List.getElem?_eq_getElem hi]; exact h1
set_option maxHeartbeats 4000000 in
theorem xDelete_any (l : List Int) (g k cap : Nat) (w : World) (hB : HoldsJ w g l) (hk : l.length = k) (hk2 : k ≤ 1000000) (hc : k ≤ cap) :
    Calls Tryd.prog 71 #[.slice (some ⟨g, 0, none⟩) k cap, .func (.func 72) #[] #[]] w fun e w' => (e = .returned (.slice (some ⟨g, 0, none⟩) (litsT l).length cap) ∧ HoldsJ w' g (litsT l)) ∧ Below g w w' := by
  have HX := Lib.hid (xIdxZero_any l (some ⟨g, 0, none⟩) k cap w (by have := hB.reads; rwa [hk] at this) hk2)
  have HGL := Lib.hid hB.lt
  rcases idxP_cases l with ⟨h1, h2⟩ | ⟨i0, h1, h2, h3⟩
  · rw [h1] at HX
    rw [h2, hk]
    have HBX := Lib.hid (fun (W : World) (hb : Below w.heap.size w W) => hB.below hb hB.lt)
    clear h1 h2 hB
    go_enter Tryd.func71, Tryd.ntmps71
    go_wp2_with fail
    refine (HX.out).mono ?_
    rintro e w2 ⟨rfl, hb⟩
    have HB := Lib.hid hb
    clear hb
    go_wp2
    go_ret
    exact ⟨⟨rfl, HBX.out _ HB.out⟩, HB.out.mono (Nat.le_of_lt HGL.out)⟩
  · rw [h1] at HX
    have HB := Lib.hid hB
    have HI0 := Lib.hid h3
    have HK := Lib.hid hk
    have hi0 : i0 < k := by omega
    have hne : ((i0 : Int) == -1) = false := by rw [beq_eq_false_iff_ne]; omega
    obtain ⟨LL, hLL⟩ : ∃ LL, litsT l = LL := ⟨_, rfl⟩
    have HLL := Lib.hid hLL
    rw [hLL]
    clear h1 h2 h3 hB hk hLL
    go_enter Tryd.func71, Tryd.ntmps71
    go_wp2_with fail
    refine (HX.out).mono ?_
    rintro e w2 ⟨rfl, hb⟩
    have HB2 := Lib.hid (HB.out.below hb HGL.out)
    have HO := Lib.hid (hb.mono (Nat.le_of_lt HGL.out))
    clear hb
    go_wp2
    go_loopw [5, 6, 7] (fun iv mv _ wr => ∃ (i m : Nat) (L : List Int), iv = .int .i64 i ∧ mv = .int .i64 m ∧ m ≤ k ∧ i < m ∧ Hid (DelI l m i L) ∧ Hid (HoldsJ wr g L) ∧ Hid (Below g w wr)) (fun _ mv _ _ => k - (intOf mv).toNat)
    case atStart => exact ⟨i0, i0 + 1, l, rfl, by go_num, by omega, by omega, HI0, HB2, HO⟩
    case round =>
      obtain ⟨i, m, L, rfl, rfl, hm, him, HI, HJ, HW⟩ := hrel
      by_cases hlt : m < k
      · have hcm := HJ.out.cell m (by rw [HI.out.len, HK.out]; exact hlt)
        rw [HI.out.val (by rw [HK.out]; exact hlt)] at hcm
        have hci := HJ.out.cell i (by rw [HI.out.len, HK.out]; omega)
        have hfi := HJ.out.free i
        have HDEL := Lib.hid (fun W => xZeroFn_any (l.getD m 0) W)
        have HSK := Lib.hid (fun hz => HI.out.skip (by rw [HK.out]; exact hlt) hz)
        have HKE := Lib.hid (fun hz => HI.out.keep (by rw [HK.out]; exact hlt) hz)
        have HSZ := Lib.hid HJ.out.lt
        generalize l.getD m 0 = x at *
        generalize L.getD i 0 = y at *
        cases hz : zeB x with
        | true =>
          rw [hz] at HDEL
          have HI2 := Lib.hid (HSK.out hz)
          clear HSK HKE hz
          go_wp2_with fail
          refine (HDEL.out _).mono ?_
          rintro e w3 ⟨rfl, hb⟩
          have HJ2 := Lib.hid (HJ.out.below hb HSZ.out)
          have HW2 := Lib.hid (HW.out.trans (hb.mono (Nat.le_of_lt HSZ.out)))
          clear hb
          go_wp2
          go_roundw
          case rel => exact ⟨i, m + 1, L, rfl, by go_num, by omega, by omega, HI2, HJ2, HW2⟩
          case measure => first | (simp [intOf]; done) | (simp [intOf]; omega)
        | false =>
          rw [hz] at HDEL
          have HI2 := Lib.hid (HKE.out hz)
          clear HSK HKE hz
          go_wp2_with fail
          refine (HDEL.out _).mono ?_
          rintro e w3 ⟨rfl, hb⟩
          have HJ2 := Lib.hid (HJ.out.below hb HSZ.out)
          have HW2 := Lib.hid (HW.out.trans (hb.mono (Nat.le_of_lt HSZ.out)))
          have hcj2 := (hb.cell (p := ⟨g, i, none⟩) HSZ.out).trans hci
          have hfj2 := HJ2.out.free i
          have HJ3 := Lib.hid (HJ2.out.put i x)
          clear hb hci hfi hcm
          go_wp2
          go_roundw
          case rel => exact ⟨i + 1, m + 1, L.set i x, by go_num, by go_num, by omega, by omega, HI2, HJ3, Lib.hid (HW2.out.setCell (Nat.le_refl _) _)⟩
          case measure => first | (simp [intOf]; done) | (simp [intOf]; omega)
      · have hmk : m = k := by omega
        subst hmk
        have hcl : ∀ ty, (Builtin.clear_ #[31] ty #[.slice (some ⟨g, i, none⟩) (m - i) (cap - i)]).run Tryd.prog wr = .ok (.tuple #[]) (wr.setCells g i (List.replicate (m - i) (.int .i64 0))) :=
          fun ty => Lib.run_clear_slice wr _ _ ty _ Tryd.underlying31 zeroI rfl rfl g i _ _ (by omega) (fun j hj => by rw [HJ.out.cell (i + j) (by rw [HI.out.len, HK.out]; omega)]; rfl) (fun j hj => HJ.out.free (i + j))
        have HTK : Hid (L.take i = LL) := Lib.hid (by rw [HI.out.take, ← HK.out, List.take_length]; exact HLL.out)
        have HLN : Hid (LL.length = i) := Lib.hid (by rw [← HTK.out, List.length_take, HI.out.len, HK.out]; omega)
        have HFIN : Hid (HoldsJ (wr.setCells g i (List.replicate (m - i) (.int .i64 0))) g LL) := Lib.hid (by
          obtain ⟨L2, e1, e2, e3⟩ := HJ.out.puts (List.replicate (m - i) 0) i
          have e4 : ints (List.replicate (m - i) 0) = List.replicate (m - i) (Value.int .i64 0) := by unfold ints; rw [List.map_replicate]
          rw [e4] at e1
          have := e1.cut i
          rwa [e3, HTK.out] at this)
        have HBF : Hid (Below g w (wr.setCells g i (List.replicate (m - i) (.int .i64 0)))) := Lib.hid (below_setCells' g (Nat.le_refl _) _ _ HW.out)
        go_wp2
        go_ret
        exact ⟨⟨by rw [HLN.out]; rfl, HFIN.out⟩, HBF.out⟩
theorem TB.reads {w : World} {g : Nat} {t : List Int} (h : TB w g t) : Reads w w.heap.size 1 (some ⟨g, 0, none⟩) t.length (ints t) := by
  refine ⟨by rw [ints_length]; omega, fun _ => ⟨_, rfl, h.lt, fun j u hu => ?_⟩⟩
  rw [addr0]
  unfold ints at hu
  rw [List.getElem?_map] at hu
  obtain ⟨k, hk, rfl⟩ := Option.map_eq_some_iff.1 hu
  have hj : j < t.length := by
    by_cases h' : j < t.length
    · exact h'
    · rw [List.getElem?_eq_none (by omega)] at hk; cases hk
  rw [h.cell j hj, List.getD_eq_getElem?_getD, hk]; rfl
set_option maxHeartbeats 2000000 in
theorem xLits_any (t : List Int) (w : World) (ht : t.length = 12) :
    Calls Tryd.prog 51 #[.agg (ints t).toArray] w fun e w' => (∃ A c, e = .returned (.slice A (litsT t).length c) ∧ OwJ w' w.heap.size A (litsT t)) ∧ Below w.heap.size w w' := by
  have HM := Lib.hid (TB.made w t)
  have HB : Hid (Below w.heap.size w (w.alloc (.cells (ints t).toArray 65))) := Lib.hid ((Below.refl _ w).alloc (Nat.le_refl _) _)
  have HS : Hid (w.heap.size < (w.alloc (.cells (ints t).toArray 65)).heap.size) := Lib.hid (by simp)
  have HSZ := Lib.hid (sizeT ht)
  have HT := Lib.hid ht
  have HCL := Lib.hid (cloneI_any t (some ⟨w.heap.size, 0, none⟩) 12 12 (w.alloc (.cells (ints t).toArray 65)) (by rw [← ht]; exact HM.out.reads) (by decide))
  clear ht
  go_enter Tryd.func51, Tryd.ntmps51
  go_wp2_with fail
  generalize (w.alloc (.cells (ints t).toArray 65)) = w1 at *
  refine (HCL.out).mono ?_
  rintro e w2 ⟨A2, c2, rfl, hc2, hx2, hb2⟩
  obtain ⟨g2, rfl, hg2, hj2⟩ := hx2 (by decide)
  have HD := Lib.hid (xDelete_any t g2 12 c2 w2 hj2 HT.out (by decide) hc2)
  have HB2 := Lib.hid (HB.out.trans (hb2.mono (Nat.le_of_lt HS.out)))
  have HG2 : Hid (w.heap.size ≤ g2) := Lib.hid (Nat.le_trans (Nat.le_of_lt HS.out) hg2)
  clear hb2 hj2 hg2 hc2 hx2
  go_wp2_with fail
  refine (HD.out).mono ?_
  rintro e w3 ⟨⟨rfl, hj3⟩, hb3⟩
  have HJ3 := Lib.hid hj3
  have HB3 := Lib.hid (HB2.out.trans (hb3.mono HG2.out))
  clear hj3 hb3
  go_wp2
  go_ret
  exact ⟨⟨_, c2, rfl, fun _ => ⟨g2, rfl, HG2.out, HJ3.out⟩⟩, HB3.out⟩
/-- truth values as they come up: of each variable its own literal, or none -/
structure TOk (t : List Int) : Prop where
  len : t.length = 12
  own : ∀ j, t.getD j 0 ≠ 0 → varOf (t.getD j 0) = j
theorem TOk.zero : TOk t00 := ⟨rfl, fun j h => absurd (by
  unfold t00
  rw [List.getD_eq_getElem?_getD, List.getElem?_replicate]
  split <;> rfl) h⟩
theorem TOk.set {t : List Int} (h : TOk t) (x : Int) : TOk (tset t x) := by
  refine ⟨by rw [tset_len]; exact h.len, fun j hj => ?_⟩
  unfold tset at hj ⊢
  rw [List.getD_eq_getElem?_getD, List.getElem?_set] at hj ⊢
  by_cases e : varOf x = j
  · rw [if_pos e] at hj ⊢
    by_cases h2 : varOf x < t.length
    · rw [if_pos h2]; exact e
    · rw [if_neg h2] at hj; exact absurd rfl hj
  · rw [if_neg e] at hj ⊢
    rw [← List.getD_eq_getElem?_getD] at hj ⊢
    exact h.own j hj
theorem TOk.setL {c : List Int} : ∀ {t : List Int}, TOk t → TOk (tsetL t c) := by
  induction c with
  | nil => intro t h; exact h
  | cons x c ih => intro t h; exact ih (h.set x)
/-- what is neither true nor false is open -/
theorem TOk.open_ {t : List Int} (h : TOk t) {x : Int} (hx : x ≠ 0) (h1 : tget t x ≠ x) (h2 : tget t x ≠ -x) : tget t x = 0 := by
  apply Classical.byContradiction
  intro h0
  rcases var_eq h0 hx (h.own (varOf x) h0) with e | e
  · exact h1 e
  · exact h2 e
theorem unitGo_in {t : List Int} : ∀ (c : List Int) (p : Int), unitGo t p c ≠ 0 → unitGo t p c = p ∨ (unitGo t p c ∈ c ∧ tget t (unitGo t p c) ≠ unitGo t p c ∧ tget t (unitGo t p c) ≠ -unitGo t p c)
  | [], p, _ => .inl rfl
  | x :: c, p, h => by
    rw [unitGo_cons] at h ⊢
    by_cases h1 : tget t x = -x
    · rw [if_pos h1] at h ⊢
      rcases unitGo_in c p h with h2 | h2
      · exact .inl h2
      · exact .inr ⟨List.mem_cons_of_mem _ h2.1, h2.2⟩
    · rw [if_neg h1] at h ⊢
      by_cases h2 : tget t x = x
      · rw [if_pos h2] at h; exact absurd rfl h
      · rw [if_neg h2] at h ⊢
        by_cases h3 : p ≠ 0
        · rw [if_pos h3] at h; exact absurd rfl h
        · rw [if_neg h3] at h ⊢
          rcases unitGo_in c x h with h4 | h4
          · rw [h4]; exact .inr ⟨List.mem_cons_self, h2, h1⟩
          · exact .inr ⟨List.mem_cons_of_mem _ h4.1, h4.2⟩
theorem unitV_in {t c : List Int} (h : unitV t c ≠ 0) : unitV t c ∈ c ∧ tget t (unitV t c) ≠ unitV t c ∧ tget t (unitV t c) ≠ -unitV t c := by
  rcases unitGo_in c 0 h with h1 | h1
  · exact absurd h1 h
  · exact h1
/-- how many variables are open -/
def zcL (t : List Int) : Nat := t.countP zeB
theorem zcL_set {t : List Int} (ht : TOk t) {u : Int} (h0 : u ≠ 0) (hu : u.natAbs ≤ 12) (h : tget t u = 0) : zcL (tset t u) < zcL t := by
  have hv : varOf u < t.length := by rw [ht.len]; unfold varOf; omega
  unfold zcL tset
  rw [List.countP_set hv]
  have e1 : zeB t[varOf u] = true := by
    unfold tget at h
    rw [List.getD_eq_getElem?_getD, List.getElem?_eq_getElem hv] at h
    unfold zeB
    simpa using h
  have e2 : zeB u = false := by unfold zeB; simpa using h0
  rw [e1, e2, if_pos rfl, if_neg (by decide)]
  have : 0 < List.countP zeB t := List.countP_pos_iff.2 ⟨t[varOf u], List.getElem_mem hv, e1⟩
  omega
def isZV : Value → Bool
  | .int _ n => n == 0
  | _ => false
def zcW (W : World) (g : Nat) : Nat := match W.heap[g]? with
  | some (.cells cs _ _) => cs.toList.countP isZV
  | _ => 0
theorem zcW_TB {W : World} {g : Nat} {t : List Int} (h : TB W g t) : zcW W g = zcL t := by
  unfold zcW zcL
  unfold TB at h
  rw [h]
  simp only [ints]
  rw [List.countP_map]
  rfl
end Go.Proofs.YtopkmcoblndokaaDoor.rsl
