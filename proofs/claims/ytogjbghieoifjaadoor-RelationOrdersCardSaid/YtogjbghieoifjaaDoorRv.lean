/- Contracts of layer 2: the levels of a path, and the path. -/
import Derived.Test.YtogjbghieoifjaaDoorBp
import Derived.Test.YtogjbghieoifjaaDoorSs
namespace Go.Proofs.YtogjbghieoifjaaDoor
open Go.RowKit Go.Proofs.Ws
theorem own_below {w w' : World} {base : Nat} {e : TypeId} {size : Nat} {v : Value} {n : Nat} {xs : List Value} (h : w.ownsRow base e size v n xs) (hb : Below w.heap.size w w') : w'.ownsRow base e size v n xs := by
  refine ⟨h.1, ?_⟩
  rcases h.2 with hn | ⟨g, cap, cur, hv, hg, hh, rest⟩
  · exact .inl hn
  · exact .inr ⟨g, cap, cur, hv, hg, (hb.block g (Array.getElem?_eq_some_iff.1 hh).1).trans hh, rest⟩
theorem own_word {w : World} {base : Nat} {v : Value} {l : List Nat} (h : w.ownsRow base 34 1 v l.length (us l)) (hpos : 0 < l.length) :
    ∃ g cap, v = .slice (some ⟨g, 0, none⟩) l.length cap ∧ HoldsP w g l := by
  have hv : v ≠ .slice none 0 0 := fun e => by
    rcases h.2 with ⟨_, hn⟩ | ⟨g, cap, cur, e2, _⟩
    · omega
    · rw [e] at e2; cases e2
  obtain ⟨g, c, e, _, hH, _⟩ := HoldsP.of_own h hv
  exact ⟨g, c, e, hH⟩
theorem own_holds {w : World} {base g cap : Nat} {l : List Nat} (h : w.ownsRow base 34 1 (.slice (some ⟨g, 0, none⟩) l.length cap) l.length (us l)) : HoldsP w g l := by
  obtain ⟨g', c', e, _, hH, _⟩ := HoldsP.of_own h (fun e => by cases e)
  cases e
  exact hH
theorem us_append (l m : List Nat) : us (l ++ m) = us l ++ us m := by simp [us]
def GivesI (p : List Nat) (w : World) (e : Ending) (w' : World) : Prop :=
  ∃ A c, e = .returned (.slice A p.length c) ∧ Reads w' w'.heap.size 1 A p.length (iv p) ∧ Below w.heap.size w w'
/-- what stepsTo hands back -/
def GivesSteps (R : List Nat) (n frm s : Nat) (w : World) (e : Ending) (w' : World) : Prop :=
  (((∀ j, j < n → frm &&& lvl R s (j + 1) = 0) ∧ e = .returned (.slice none 0 0)) ∨
    ∃ K A' c', K < n ∧ (∀ j, j < K → frm &&& lvl R s (j + 1) = 0) ∧ frm &&& lvl R s (K + 1) ≠ 0 ∧ e = .returned (.slice A' (K + 2) c') ∧ Reads w' w'.heap.size 1 A' (K + 2) (us (lvls R s (K + 2)))) ∧ Below w.heap.size w w'
set_option maxRecDepth 100000 in
set_option maxHeartbeats 2000000 in
theorem stepsTo_any (R : List Nat) (frm s : Nat) (A : Option Addr) (n c : Nat) (w : World) (hR : Reads w w.heap.size 1 A n (us R)) (hw : Words R) (h0 : relErr n R = 0) (hf : frm < 18446744073709551616) (hs : s < 18446744073709551616) :
    Calls Tryd.prog 69 #[.slice A n c, .int .u64 frm, .int .u64 s] w (GivesSteps R n frm s w) := by
  obtain ⟨i0, hi, hz0, hz1, hz2⟩ := info_parts Tryd.infoU
  have hl := hR.word_len
  have hn : n ≤ 64 := relErr_zero h0
  have HR := Lib.hid hR
  have HW := Lib.hid hw
  have HL := Lib.hid hl
  have H0 := Lib.hid h0
  have HF := Lib.hid hf
  have HSs := Lib.hid hs
  have HI0 : Hid ((w.alloc (.cells #[.int .u64 s] 34)).ownsRow w.heap.size 34 1 (.slice (some ⟨w.heap.size, 0, none⟩) 1 1) 1 (us (lvls R s 1)) ∧ Below w.heap.size w (w.alloc (.cells #[.int .u64 s] 34))) :=
    Lib.hid ⟨by have := World.ownsRow_lit (base := w.heap.size) (e := 34) (size := 1) w #[.int .u64 s] 1 (Nat.le_refl _) (by unfold maxLen; omega) (by simp); exact this, (Below.refl _ w).alloc (Nat.le_refl _) _⟩
  clear hR hw hl h0 hf hs
  go_enter Tryd.func69, Tryd.ntmps69
  go_wp2
  go_loopw [7, 14] (fun v i wr => ∃ k g cap : Nat, k ≤ n ∧ v = .slice (some ⟨g, 0, none⟩) (k + 1) cap ∧ i = .int .i64 k ∧ Hid (wr.ownsRow w.heap.size 34 1 (.slice (some ⟨g, 0, none⟩) (k + 1) cap) (k + 1) (us (lvls R s (k + 1))) ∧ Below w.heap.size w wr ∧ ∀ j, j < k → frm &&& lvl R s (j + 1) = 0)) (fun _ i _ => n - (intOf i).toNat)
  case atStart => exact ⟨0, w.heap.size, 1, Nat.zero_le _, rfl, rfl, Lib.hid ⟨HI0.out.1, HI0.out.2, fun j hj => absurd hj (by omega)⟩⟩
  case round =>
    clear HI0
    obtain ⟨k, g, cap, hk, rfl, rfl, HI⟩ := hrel
    by_cases hlt : k < n
    · have hH : HoldsP wr g (lvls R s (k + 1)) := own_holds (by rw [lvls_len]; exact HI.out.1)
      have hc := hH.cell k (by rw [lvls_len]; omega)
      rw [lvls_getD _ _ _ _ (by omega)] at hc
      have HD := Lib.hid (dia_any R (lvl R s k) A n c wr ((HR.out.below HI.out.2.1).more HI.out.2.1.size) HW.out (by unfold maxLen; omega) (lvl_64 H0.out HL.out HSs.out k))
      clear hH
      go_wp2_with fail
      refine (HD.out).mono ?_
      rintro e w2 ⟨rfl, hb2⟩
      have hown : w2.ownsRow w.heap.size 34 1 (.slice (some ⟨g, 0, none⟩) (k + 1) cap) (k + 1) (us (lvls R s (k + 1))) := own_below HI.out.1 hb2
      have hb : Below w.heap.size w w2 := HI.out.2.1.trans (hb2.mono HI.out.2.1.size)
      have hsz := hb.size
      have HQ : Hid (∀ j, j < k → frm &&& lvl R s (j + 1) = 0) := Lib.hid HI.out.2.2
      have hdl : whV (pDia (lvl R s k)) R = lvl R s (k + 1) := rfl
      have hd64 := lvl_64 H0.out HL.out HSs.out (k + 1)
      rw [hdl] at *
      have HE : Hid (lvls R s (k + 1 + 1) = lvls R s (k + 1) ++ [lvl R s (k + 1)]) := Lib.hid (lvls_succ R s (k + 1))
      have hand : bits .and .u64 (frm : Int) (lvl R s (k + 1) : Int) = ((frm &&& lvl R s (k + 1) : Nat) : Int) := u64_and_nat _ _ HF.out hd64
      clear hb2 HI HD hdl hd64
      go_wp2_with (at_builtin; refine wpList_append_own _ rfl _ _ 22 rfl w.heap.size 34 i0 (.int .u64 0) 1 8 Tryd.underlying22 hi hz0 hz1 hz2 rfl (by decide) _ _ _ rfl (hown.alloc _) ⟨w2.heap.size, 0, none⟩ 1 1 [.int .u64 (lvl R s (k + 1))] rfl rfl ?c1 ?c2 ?c3 ?c4 ?c5 ?_)
      case c1 =>
        intro j u hj
        match j, hj with
        | 0, hj => simp at hj; subst hj; simp [Addr.add]
      case c2 => intro u hu; simp at hu; subst hu; rfl
      case c3 => unfold maxLen; omega
      case c4 => omega
      case c5 => simp; omega
      · intro v' w3 hown' hgrow _
        have hb3 : Below w.heap.size w w3 := (hb.alloc hsz _).grown hgrow (by simp; omega) (fun j hj => by have := (hown.lt j hj).1; omega)
        have hlen2 : k + 1 + 1 = (lvls R s (k + 1 + 1)).length := by rw [lvls_len]
        have hown2 : w3.ownsRow w.heap.size 34 1 v' (lvls R s (k + 1 + 1)).length (us (lvls R s (k + 1 + 1))) := by rw [← hlen2, HE.out, us_append]; exact hown'
        obtain ⟨g', cap', rfl, hH'⟩ := own_word hown2 (by omega)
        rw [← hlen2] at hown2
        have HN : Hid (w3.ownsRow w.heap.size 34 1 (.slice (some ⟨g', 0, none⟩) (k + 1 + 1) cap') (k + 1 + 1) (us (lvls R s (k + 1 + 1))) ∧ Below w.heap.size w w3 ∧ HoldsP w3 g' (lvls R s (k + 1 + 1))) := Lib.hid ⟨hown2, hb3, hH'⟩
        simp only [lvls_len]
        clear hH' hown2 hlen2
        clear hgrow hown hown' hb hb3 hc
        by_cases hz : frm &&& lvl R s (k + 1) = 0
        · have hne : (((frm &&& lvl R s (k + 1) : Nat) : Int) != 0) = false := by rw [hz]; rfl
          have HZ : Hid (∀ j, j < k + 1 → frm &&& lvl R s (j + 1) = 0) := Lib.hid (fun j hj => by
            by_cases e : j = k
            · subst e; exact hz
            · exact HQ.out j (by omega))
          clear hz
          generalize frm &&& lvl R s (k + 1) = t at hand hne ⊢
          generalize lvl R s (k + 1) = d at hand ⊢
          go_wp2
          go_roundw
          case rel => exact ⟨k + 1, g', cap', by omega, rfl, by go_num, Lib.hid ⟨HN.out.1, HN.out.2.1, HZ.out⟩⟩
          case measure => simp [intOf]; omega
        · have hne : (((frm &&& lvl R s (k + 1) : Nat) : Int) != 0) = true := by rw [bne_iff_ne]; omega
          have HZ := Lib.hid hz
          clear hz
          generalize frm &&& lvl R s (k + 1) = t at hand hne ⊢
          generalize lvl R s (k + 1) = d at hand ⊢
          go_wp2
          go_ret
          refine ⟨.inr ⟨k, _, cap', hlt, HQ.out, HZ.out, rfl, ?_⟩, HN.out.2.1⟩
          have := HN.out.2.2.reads
          rwa [lvls_len] at this
    · have hkn : n = k := by omega
      subst hkn
      go_wp2
      go_ret
      exact ⟨.inl ⟨HI.out.2.2, rfl⟩, HI.out.2.1⟩
end Go.Proofs.YtogjbghieoifjaaDoor
