/- Layer 6: texts joined: UOj UOk. -/
import Derived.Test.YtopkmcoblndokaaDoorNTb
import Derived.Test.YtopkmcoblndokaaDoorNTe
import Derived.Test.YtopkmcoblndokaaDoorNTf
import Derived.Lib.SlicesCompact
import Derived.Sort.Statements
/- Layer 10: unit propagation, by the program. -/
namespace Go.Proofs.YtopkmcoblndokaaDoor.rsl
open Go.RowKit Go.Proofs.Ws.rsl
set_option maxRecDepth 100000
theorem getq {l : Array Value} {i : Nat} {v : Value} (h : l.getD i undef = v) (hs : i < l.size) : l[i] = v := by
  simpa [Array.getD, hs] using h
theorem step_loadT {ops : Array Oper} {o : Oper} {a : Act} {W : World} {K : Act → World → Prop} {Q : Exit → Act → World → Prop} {E : Prop} (hg : o.guard = none) (x : Operand) (ho : o.op = .load 65 x)
    (g : Nat) (hx : a.eval x = .pointer (some ⟨g, 0, none⟩)) (t : List Int) (ht : t.length = 12) (h : TB W g t) (hK : K (a.put o.dst (.agg (ints t).toArray)) W) :
    if Region.wanted o (yielded ops a.tmps) = true then Oper.wp Tryd.prog o a W K Q else E := by
  have hw : Region.wanted o (yielded ops a.tmps) = true := by simp [Region.wanted, hg]
  rw [if_pos hw]
  exact wp_load_row 65 x ho g hx _ _ _ _ h Tryd.underlying65 rfl (sizeT ht) hK
theorem step_storeT {ops : Array Oper} {o : Oper} {a : Act} {W : World} {K : Act → World → Prop} {Q : Exit → Act → World → Prop} {E : Prop} (hg : o.guard = none) (x y : Operand) (ho : o.op = .store 65 x y)
    (g : Nat) (t u : List Int) (hx : a.eval x = .pointer (some ⟨g, 0, none⟩)) (hy : a.eval y = .agg (ints u).toArray) (ht : t.length = 12) (hu : u.length = 12) (h : TB W g t) (hK : K (a.put o.dst undef) (W.setRow g (ints u).toArray)) :
    if Region.wanted o (yielded ops a.tmps) = true then Oper.wp Tryd.prog o a W K Q else E := by
  have hw : Region.wanted o (yielded ops a.tmps) = true := by simp [Region.wanted, hg]
  rw [if_pos hw]
  exact wp_store_row 65 x y ho g _ hx hy _ _ h (sizeT hu) (by rw [ints_size, ints_size, ht, hu]) (ints_one _) hK
theorem step_callO {ops : Array Oper} {o : Oper} {a : Act} {W : World} {K : Act → World → Prop} {Q : Exit → Act → World → Prop} {E : Prop} (hg : o.guard = none) (h : Oper.wp Tryd.prog o a W K Q) :
    if Region.wanted o (yielded ops a.tmps) = true then Oper.wp Tryd.prog o a W K Q else E := by
  have hw : Region.wanted o (yielded ops a.tmps) = true := by simp [Region.wanted, hg]
  rw [if_pos hw]; exact h
/-- what is known of the values of the region that sets one more variable -/
def vPr (t : List Int) (A : Option Addr) (k cap i : Nat) (ad : Addr) (Ai : Option Addr) (ni ci : Nat) (u : Int) (t2 : List Int) : Nat → Value → World → Prop
  | 0, v, _ => v = .agg (ints t).toArray
  | 1, v, _ => v = .agg (ints t).toArray
  | 2, v, _ => v = .slice A k cap
  | 3, v, _ => v = .int .i64 (i : Int)
  | 4, v, _ => v = .pointer (some (ad.add i))
  | 5, v, _ => v = .slice Ai ni ci
  | 6, v, _ => v = .int .i64 u
  | 7, v, _ => v = .agg (ints t2).toArray
  | _, _, _ => True
theorem vPr_up {t : List Int} {A : Option Addr} {k cap i : Nat} {ad : Addr} {Ai : Option Addr} {ni ci : Nat} {u : Int} {t2 : List Int} : ∀ j v W W', vPr t A k cap i ad Ai ni ci u t2 j v W → Below W.heap.size W W' → vPr t A k cap i ad Ai ni ci u t2 j v W'
  | 0, _, _, _, h, _ => h
  | 1, _, _, _, h, _ => h
  | 2, _, _, _, h, _ => h
  | 3, _, _, _, h, _ => h
  | 4, _, _, _, h, _ => h
  | 5, _, _, _, h, _ => h
  | 6, _, _, _, h, _ => h
  | 7, _, _, _, h, _ => h
  | _ + 8, _, _, _, _, _ => trivial
theorem idx_cases {α : Type} (p : α → Bool) (l : List α) : idxP p l = -1 ∧ l.findIdx? p = none ∨ ∃ i : Nat, idxP p l = (i : Int) ∧ l.findIdx? p = some i ∧ ∃ h : i < l.length, p l[i] = true := by
  cases h : l.findIdx? p with
  | none => exact .inl ⟨by unfold idxP; rw [h], rfl⟩
  | some i =>
    obtain ⟨hi, h1, _⟩ := List.findIdx?_eq_some_iff_getElem.1 h
    exact .inr ⟨i, by unfold idxP; rw [h], rfl, hi, h1⟩
set_option maxHeartbeats 16000000 in
theorem xPropagateL_any (t0 : List Int) (l : List (List Int)) (A : Option Addr) (k cap : Nat) (w : World) (ht0 : TOk t0) (hS : Small l) (hR : ZsR w w.heap.size A k l) (hk : k ≤ 1000000) :
    Calls Tryd.prog 27 #[.slice A k cap, .agg (ints t0).toArray] w fun e w' => (∃ A' c' u i, e = .returned (.tuple #[.slice A' (litsT u).length c', .int .i64 i]) ∧ OwJ w' w.heap.size A' (litsT u) ∧ PropTo l t0 u i) ∧ Below w.heap.size w w' := by
  have HL := Lib.hid hR.len
  have HR := Lib.hid hR
  have HS := Lib.hid hS
  have HM := Lib.hid (TB.made w t0)
  have HB : Hid (Below w.heap.size w (w.alloc (.cells (ints t0).toArray 65))) := Lib.hid ((Below.refl _ w).alloc (Nat.le_refl _) _)
  have HT0 := Lib.hid ht0
  clear hR hS ht0
  go_enter Tryd.func27, Tryd.ntmps27
  go_wp2
  generalize (w.alloc (.cells (ints t0).toArray 65)) = w1 at *
  generalize hG : w.heap.size = G at *
  have HG := Lib.hid hG
  clear hG
  go_loopw [6, 7] (fun _ _ wr => ∃ t, Hid (TOk t) ∧ Hid (∀ u i, PropTo l t u i → PropTo l t0 u i) ∧ Hid (TB wr G t) ∧ Hid (Below G w wr)) (fun _ _ wr => zcW wr G)
  case atStart => exact ⟨t0, HT0, Lib.hid (fun _ _ h => h), HM, HB⟩
  case round =>
    obtain ⟨t, HT, HP, HTB, HO⟩ := hrel
    have hszw : w.heap.size ≤ wr.heap.size := HO.out.size
    have hGl := HTB.out.lt
    have HSZ := Lib.hid (sizeT HT.out.len)
    have HRR := Lib.hid (HR.out.below HO.out (Nat.le_of_lt hGl))
    have HX1 := Lib.hid (xIdxRef_any t l A k cap wr HT.out.len HS.out HRR.out hk)
    clear hszw
    go_wp2_with (first
      | (refine wpList_load_row rfl 65 (.tmp 3) rfl G rfl _ _ _ _ HTB.out Tryd.underlying65 rfl HSZ.out ?_; go_frame)
      | fail)
    refine (HX1.out).mono ?_
    rintro e w2 ⟨rfl, hb2⟩
    have HTB2 := Lib.hid (HTB.out.below hb2 HTB.out.lt)
    have HO2 := Lib.hid (HO.out.trans (hb2.mono (Nat.le_of_lt hGl)))
    have HBW := Lib.hid hb2
    clear hb2 HX1
    rcases idx_cases (refB t) l with ⟨h1, h2⟩ | ⟨i, h1, h2, _⟩
    · rw [h1]
      have HN := Lib.hid h2
      clear h1 h2
      have hG2 := HTB2.out.lt
      have HRR2 := Lib.hid (HR.out.below HO2.out (Nat.le_of_lt hG2))
      have HX2 := Lib.hid (xIdxUnit_any t l A k cap G w2 HT.out.len HS.out HRR2.out hk HTB2.out)
      go_wp2_with fail
      refine (HX2.out).mono ?_
      rintro e w3 ⟨rfl, hb3⟩
      have HTB3 := Lib.hid (HTB2.out.below hb3 HTB2.out.lt)
      have HO3 := Lib.hid (HO2.out.trans (hb3.mono (Nat.le_of_lt hG2)))
      clear hb3 HX2
      rcases idx_cases (unB t) l with ⟨h1, h2⟩ | ⟨i, h1, h2, hil, hiu⟩
      · rw [h1]
        have HE := Lib.hid (HP.out t (-1) (PropTo.stop HN.out h2))
        have HX3 := Lib.hid (xLits_any t w3 HT.out.len)
        clear h1 h2
        go_wp2_with (first
          | (refine wpList_load_row rfl 65 (.tmp 3) rfl G rfl _ _ _ _ HTB3.out Tryd.underlying65 rfl HSZ.out ?_; go_frame)
          | fail)
        refine (HX3.out).mono ?_
        rintro e w4 ⟨⟨A4, c4, rfl, hj4⟩, hb4⟩
        have HJ4 := Lib.hid (hj4.mono (Nat.le_of_lt HTB3.out.lt))
        have HO4 := Lib.hid (HO3.out.trans (hb4.mono (Nat.le_of_lt HTB3.out.lt)))
        clear hj4 hb4
        go_wp2
        go_ret2
        exact ⟨⟨A4, c4, t, -1, rfl, by rw [HG.out]; exact HJ4.out, HE.out⟩, by rw [HG.out]; exact HO4.out⟩
      · rw [h1]
        have hid : l.getD i [] = l[i] := by rw [List.getD_eq_getElem?_getD, List.getElem?_eq_getElem hil]; rfl
        have hmem : l.getD i [] ∈ l := by rw [hid]; exact List.getElem_mem hil
        have hu0 : unitV t (l.getD i []) ≠ 0 := by rw [hid]; unfold unB at hiu; simpa using hiu
        have hin := unitV_in hu0
        have HSC := HS.out _ hmem
        have hul := HSC.1 _ hin.1
        have HNX := Lib.hid (fun u c h => HP.out u c (PropTo.step HN.out h2 h))
        have HZC := Lib.hid (zcL_set HT.out hu0 (by omega) (HT.out.open_ hu0 hin.2.1 hin.2.2))
        have hik : i < k := by have := HL.out; omega
        obtain ⟨ad, Ai, ci, rfl, hadb, hci, hri, _⟩ := (HR.out.below HO3.out (Nat.le_of_lt HTB3.out.lt)).at_ hik
        have HC0 : Hid (∀ W, Below w3.heap.size w3 W → W.cell? (ad.add i) = some (.slice Ai (l.getD i []).length ci)) := Lib.hid (fun W hw => (hw.cell (p := ad.add i) (by rw [block_of_add]; exact hadb)).trans hci)
        have HUN := Lib.hid (fun W (hw : Below w3.heap.size w3 W) => xUnit_any t (l.getD i []) Ai (l.getD i []).length ci W HT.out.len HSC.1 ((hri.below hw).more hw.size) (by have := HSC.2; omega))
        have HWI := Lib.hid (fun W => xWith_any t (unitV t (l.getD i [])) W HT.out.len hul.1 hul.2.1 hul.2.2)
        have HT2 := Lib.hid (HT.out.set (unitV t (l.getD i [])))
        have HTBW := Lib.hid (fun W (hw : Below w3.heap.size w3 W) => HTB3.out.below hw HTB3.out.lt)
        clear h1 h2 hiu hid hmem hu0 hin HSC hul hri hci
        generalize unitV t (l.getD i []) = u at *
        generalize tset t u = t2 at *
        generalize (l.getD i []).length = ni at *
        generalize l.getD i [] = c at *
        go_wp2
        refine wp_region_last (vPr t (some ad) k cap i ad Ai ni ci u t2) [24, 25, 26, 27, 28, 29, 30, 31] 8 32 (fun W => Below w3.heap.size w3 W) (fun vs W => TB W G t2 ∧ Below G w3 W) (fun W W' => Below W.heap.size W W') rfl rfl rfl (by decide) (by decide) (by kernel_rfl) (by kernel_rfl) (by kernel_rfl) (by kernel_rfl) (Below.refl _ w3).drew vPr_up (fun W W' h h2 => h.trans (h2.mono h.size)) ?hop ?hL ?fin
        case hop =>
          refine (lt_more (lt_more (lt_more (lt_more (lt_more (lt_more (lt_more (lt_more (lt_none _) ?s0) ?s1) ?s2) ?s3) ?s4) ?s5) ?s6) ?s7)
          case s0 =>
            intro o ho a W hS ⟨hsz, hdf, hfr, hdep⟩ K hK
            obtain ⟨tm, df⟩ := a
            have hdf : df = [] := hdf
            subst hdf
            have ho := Option.some.inj ho
            subst ho
            have hsz : tm.size = 32 := hsz
            have t3 : tm.getD 3 undef = .pointer (some ⟨G, 0, none⟩) := hfr 3 (by decide)
            clear hdep hfr
            refine step_loadT rfl (.tmp 3) rfl G (by simp [Act.eval, t3]) t HT.out.len (HTBW.out W hS) ?_
            exact hK _ W ⟨Below.refl _ W, rfl⟩
          case s1 =>
            intro o ho a W hS ⟨hsz, hdf, hfr, hdep⟩ K hK
            obtain ⟨tm, df⟩ := a
            have hdf : df = [] := hdf
            subst hdf
            have ho := Option.some.inj ho
            subst ho
            have hsz : tm.size = 32 := hsz
            have t3 : tm.getD 3 undef = .pointer (some ⟨G, 0, none⟩) := hfr 3 (by decide)
            clear hdep hfr
            refine step_loadT rfl (.tmp 3) rfl G (by simp [Act.eval, t3]) t HT.out.len (HTBW.out W hS) ?_
            exact hK _ W ⟨Below.refl _ W, rfl⟩
          case s2 =>
            intro o ho a W hS ⟨hsz, hdf, hfr, hdep⟩ K hK
            obtain ⟨tm, df⟩ := a
            have hdf : df = [] := hdf
            subst hdf
            have ho := Option.some.inj ho
            subst ho
            have hsz : tm.size = 32 := hsz
            have t0 : tm.getD 0 undef = .slice (some ad) k cap := hfr 0 (by decide)
            clear hdep hfr
            go_simp
            exact hK _ W ⟨Below.refl _ W, rfl⟩
          case s3 =>
            intro o ho a W hS ⟨hsz, hdf, hfr, hdep⟩ K hK
            obtain ⟨tm, df⟩ := a
            have hdf : df = [] := hdf
            subst hdf
            have ho := Option.some.inj ho
            subst ho
            have hsz : tm.size = 32 := hsz
            have t7 : tm.getD 7 undef = .int .i64 (i : Int) := hfr 7 (by decide)
            clear hdep hfr
            go_simp
            exact hK _ W ⟨Below.refl _ W, rfl⟩
          case s4 =>
            intro o ho a W hS ⟨hsz, hdf, hfr, hdep⟩ K hK
            obtain ⟨tm, df⟩ := a
            have hdf : df = [] := hdf
            subst hdf
            have ho := Option.some.inj ho
            subst ho
            have hsz : tm.size = 32 := hsz
            have t26 : tm.getD 26 undef = .slice (some ad) k cap := hdep ⟨2, .data⟩ (by simp) (by rfl) (by decide)
            have t27 : tm.getD 27 undef = .int .i64 (i : Int) := hdep ⟨3, .data⟩ (by simp) (by rfl) (by decide)
            clear hdep hfr
            have u26 := getq t26 (by omega)
            have u27 := getq t27 (by omega)
            go_simp
            exact hK _ W ⟨Below.refl _ W, rfl⟩
          case s5 =>
            intro o ho a W hS ⟨hsz, hdf, hfr, hdep⟩ K hK
            obtain ⟨tm, df⟩ := a
            have hdf : df = [] := hdf
            subst hdf
            have ho := Option.some.inj ho
            subst ho
            have hsz : tm.size = 32 := hsz
            have t28 : tm.getD 28 undef = .pointer (some (ad.add i)) := hdep ⟨4, .data⟩ (by simp) (by rfl) (by decide)
            clear hdep hfr
            have z0 := HC0.out W hS
            go_simp
            exact hK _ W ⟨Below.refl _ W, rfl⟩
          case s6 =>
            intro o ho a W hS ⟨hsz, hdf, hfr, hdep⟩ K hK
            obtain ⟨tm, df⟩ := a
            have hdf : df = [] := hdf
            subst hdf
            have ho := Option.some.inj ho
            subst ho
            have hsz : tm.size = 32 := hsz
            have t25 : tm.getD 25 undef = .agg (ints t).toArray := hdep ⟨1, .data⟩ (by simp) (by rfl) (by decide)
            have t29 : tm.getD 29 undef = .slice Ai ni ci := hdep ⟨5, .data⟩ (by simp) (by rfl) (by decide)
            clear hdep hfr
            refine step_callO rfl (wp_call _ _ _ _ _ rfl rfl (by simp [Act.eval, t25, t29]) (by kernel_rfl) (HUN.out W hS) (fun e W9 h9 => ?_))
            obtain ⟨rfl, hb9⟩ := h9
            exact ⟨_, rfl, hK _ W9 ⟨hb9, rfl⟩⟩
          case s7 =>
            intro o ho a W hS ⟨hsz, hdf, hfr, hdep⟩ K hK
            obtain ⟨tm, df⟩ := a
            have hdf : df = [] := hdf
            subst hdf
            have ho := Option.some.inj ho
            subst ho
            have hsz : tm.size = 32 := hsz
            have t24 : tm.getD 24 undef = .agg (ints t).toArray := hdep ⟨0, .data⟩ (by simp) (by rfl) (by decide)
            have t30 : tm.getD 30 undef = .int .i64 u := hdep ⟨6, .data⟩ (by simp) (by rfl) (by decide)
            clear hdep hfr
            refine step_callO rfl (wp_call _ _ _ _ _ rfl rfl (by simp [Act.eval, t24, t30]) (by kernel_rfl) (HWI.out W) (fun e W9 h9 => ?_))
            obtain ⟨rfl, hb9⟩ := h9
            exact ⟨_, rfl, hK _ W9 ⟨hb9, rfl⟩⟩
        case hL =>
          intro o ho a W hS ⟨hsz, hdf, hfr, hdep⟩ hall K hK
          obtain ⟨tm, df⟩ := a
          have hdf : df = [] := hdf
          subst hdf
          have ho := Option.some.inj ho
          subst ho
          have hsz : tm.size = 32 := hsz
          have t3 : tm.getD 3 undef = .pointer (some ⟨G, 0, none⟩) := hfr 3 (by decide)
          have t31 : tm.getD 31 undef = .agg (ints t2).toArray := hall 7 (by decide)
          refine step_storeT rfl (.tmp 3) (.tmp 31) rfl G t t2 (by simp [Act.eval, t3]) (by simp [Act.eval, t31]) HT.out.len HT2.out.len (HTBW.out W hS) ?_
          exact hK undef _ ⟨(HTBW.out W hS).setRow, below_setRow (hS.mono (Nat.le_of_lt HTB3.out.lt)) (Nat.le_refl _) _⟩
        case fin =>
          intro vs W hvl ⟨hT9, hB9⟩
          have HT9 := Lib.hid hT9
          have HO9 := Lib.hid (HO3.out.trans hB9)
          clear hT9 hB9
          simp only [show List.range 8 = [0, 1, 2, 3, 4, 5, 6, 7] from rfl, List.map, fillD]
          generalize vs.getD 0 undef = z0
          generalize vs.getD 1 undef = z1
          generalize vs.getD 2 undef = z2
          generalize vs.getD 3 undef = z3
          generalize vs.getD 4 undef = z4
          generalize vs.getD 5 undef = z5
          generalize vs.getD 6 undef = z6
          generalize vs.getD 7 undef = z7
          go_simp
          go_wp2
          go_roundw
          case rel => exact ⟨t2, HT2, HNX, HT9, HO9⟩
          case measure => rw [zcW_TB HT9.out, zcW_TB HTB.out]; exact HZC.out
    · rw [h1]
      have HE := Lib.hid (HP.out t i (PropTo.conf h2))
      have HX3 := Lib.hid (xLits_any t w2 HT.out.len)
      clear h1 h2
      go_wp2_with (first
        | (refine wpList_load_row rfl 65 (.tmp 3) rfl G rfl _ _ _ _ HTB2.out Tryd.underlying65 rfl HSZ.out ?_; go_frame)
        | fail)
      refine (HX3.out).mono ?_
      rintro e w4 ⟨⟨A4, c4, rfl, hj4⟩, hb4⟩
      have HJ4 := Lib.hid (hj4.mono (Nat.le_of_lt HTB2.out.lt))
      have HO4 := Lib.hid (HO2.out.trans (hb4.mono (Nat.le_of_lt HTB2.out.lt)))
      clear hj4 hb4
      go_wp2
      go_ret2
      exact ⟨⟨A4, c4, t, i, rfl, by rw [HG.out]; exact HJ4.out, HE.out⟩, by rw [HG.out]; exact HO4.out⟩
end Go.Proofs.YtopkmcoblndokaaDoor.rsl
/- Layer 10: normal forms as lists: order, each once, opposite neighbours (plain mathematics). -/
namespace Go.Proofs.Ws.rsl
open Go
def lLt (a b : Int) : Prop := varI a < varI b ∨ varI a = varI b ∧ a < b
instance (a b : Int) : Decidable (lLt a b) := by unfold lLt; infer_instance
theorem lLt_irrefl (a : Int) : ¬ lLt a a := by unfold lLt; omega
theorem lLt_trans {a b c : Int} (h : lLt a b) (k : lLt b c) : lLt a c := by unfold lLt at *; omega
theorem lLt_tri {a b : Int} (h : ¬ lLt b a) (hne : a ≠ b) : lLt a b := by unfold lLt at *; omega
def alwB (c : List Int) : Bool := c.any (fun x => decide (-x ∈ c))
def nrm (c : List Int) : List Int := (litsL 12).filter (fun x => decide (x ∈ c))
theorem litsL_sorted : ∀ n, (litsL n).Pairwise lLt
  | 0 => List.Pairwise.nil
  | n + 1 => by
    show (litsL n ++ [-((n : Int) + 1), (n : Int) + 1]).Pairwise lLt
    rw [List.pairwise_append]
    refine ⟨litsL_sorted n, ?_, fun a ha b hb => ?_⟩
    · rw [List.pairwise_cons]
      refine ⟨fun b hb => ?_, List.pairwise_singleton _ _⟩
      rw [List.mem_singleton.1 hb]
      unfold lLt varI; omega
    · have h1 := (lits_mem n a).1 ha
      simp only [List.mem_cons, List.not_mem_nil, or_false] at hb
      unfold lLt varI
      rcases hb with hb | hb <;> (rw [hb]; omega)
theorem nrm_sorted (c : List Int) : (nrm c).Pairwise lLt := (litsL_sorted 12).filter _
def Lits (c : List Int) : Prop := ∀ x ∈ c, x ≠ 0 ∧ -12 ≤ x ∧ x ≤ 12
theorem nrm_mem {c : List Int} (h : Lits c) (x : Int) : x ∈ nrm c ↔ x ∈ c := by
  unfold nrm
  rw [List.mem_filter, decide_eq_true_eq, lits_mem]
  refine ⟨fun k => k.2, fun k => ⟨?_, k⟩⟩
  have := h x k
  omega
theorem nrm_unique {c d : List Int} (h : Lits c) (hd : d.Pairwise lLt) (hm : ∀ x, x ∈ d ↔ x ∈ c) : d = nrm c :=
  sorted_ext (lt := lLt) lLt_irrefl (fun h k => lLt_trans h k) d (nrm c) hd (nrm_sorted c) (fun x => by rw [hm, nrm_mem h])
theorem nrm_congr {c d : List Int} (hm : ∀ x, x ∈ d ↔ x ∈ c) : nrm d = nrm c := by
  unfold nrm
  congr 1
  funext x
  exact decide_eq_decide.2 (hm x)
theorem alw_congr {c d : List Int} (hm : ∀ x, x ∈ d ↔ x ∈ c) : alwB d = alwB c := by
  unfold alwB
  rw [Bool.eq_iff_iff, List.any_eq_true, List.any_eq_true]
  constructor
  · rintro ⟨x, hx, h⟩
    rw [decide_eq_true_eq] at h
    exact ⟨x, (hm x).1 hx, decide_eq_true ((hm _).1 h)⟩
  · rintro ⟨x, hx, h⟩
    rw [decide_eq_true_eq] at h
    exact ⟨x, (hm x).2 hx, decide_eq_true ((hm _).2 h)⟩
/-- what is sorted and has a literal and its negation has them side by side -/
theorem alw_adj {K : List Int} (h0 : ∀ x ∈ K, x ≠ 0) (hs : K.Pairwise lLt) : alwB K = true ↔ ∃ i, i + 1 < K.length ∧ K.getD i 0 = -K.getD (i + 1) 0 := by
  have hget : ∀ i, (h : i < K.length) → K.getD i 0 = K[i] := fun i h => by rw [List.getD_eq_getElem?_getD, List.getElem?_eq_getElem h]; rfl
  have hp := List.pairwise_iff_getElem.1 hs
  constructor
  · intro h
    unfold alwB at h
    obtain ⟨x, hx, h⟩ := List.any_eq_true.1 h
    rw [decide_eq_true_eq] at h
    obtain ⟨y, hy, hyn, hylt⟩ : ∃ y, y ∈ K ∧ -y ∈ K ∧ y < 0 := by
      have := h0 x hx
      by_cases hl : x < 0
      · exact ⟨x, hx, h, hl⟩
      · exact ⟨-x, h, by rw [Int.neg_neg]; exact hx, by omega⟩
    obtain ⟨i, hi, rfl⟩ := List.getElem_of_mem hy
    obtain ⟨j, hj, hje⟩ := List.getElem_of_mem hyn
    have hij : i < j := by
      rcases Nat.lt_trichotomy i j with h1 | h1 | h1
      · exact h1
      · subst h1; omega
      · have := hp j i hj hi h1
        rw [hje] at this
        unfold lLt varI at this; omega
    by_cases hj1 : j = i + 1
    · subst hj1
      refine ⟨i, hj, ?_⟩
      rw [hget i hi, hget (i + 1) hj, hje]; omega
    · exfalso
      have h1 := hp i (i + 1) hi (by omega) (by omega)
      have h2 := hp (i + 1) j (by omega) hj (by omega)
      have h3 := h0 K[i + 1] (List.getElem_mem _)
      rw [hje] at h2
      unfold lLt varI at h1 h2
      omega
  · rintro ⟨i, hi, he⟩
    rw [hget i (by omega), hget (i + 1) hi] at he
    unfold alwB
    refine List.any_eq_true.2 ⟨K[i], List.getElem_mem _, decide_eq_true ?_⟩
    rw [he, Int.neg_neg]
    exact List.getElem_mem _
/-- the library's Compact of what is sorted -/
theorem compact_mem (S : Array Int) : ∀ m, m ≤ S.size → ∀ j, j < m → S[j]! ∈ Lib.compactUpTo S m := by
  intro m
  induction m with
  | zero => intro _ j hj; omega
  | succ m ih =>
    intro hm j hj
    rw [Lib.compactUpTo_succ]
    by_cases e : j = m
    · subst e
      cases hk : Lib.keeps S j with
      | true => rw [if_pos rfl]; simp
      | false =>
        unfold Lib.keeps at hk
        have h1 := of_decide_eq_false hk
        have h2 : j ≠ 0 := fun e => h1 (.inl e)
        have h3 : S[j]! = S[j - 1]! := Classical.byContradiction (fun e => h1 (.inr e))
        rw [if_neg (by decide), List.append_nil, h3]
        exact ih (by omega) (j - 1) (by omega)
    · exact List.mem_append_left _ (ih (by omega) j (by omega))
theorem compact_sub (S : Array Int) (m : Nat) (hm : m ≤ S.size) : ∀ x ∈ Lib.compactUpTo S m, x ∈ S.toList := by
  intro x hx
  unfold Lib.compactUpTo at hx
  obtain ⟨j, hj, rfl⟩ := List.mem_map.1 hx
  have h1 := List.mem_range.1 (List.mem_filter.1 hj).1
  have h2 : j < S.size := by omega
  rw [getElem!_pos S j h2]
  exact Array.mem_toList_iff.2 (Array.getElem_mem h2)
theorem compact_lt (S : Array Int) (hs : ∀ i j, i < j → j < S.size → ¬ lLt S[j]! S[i]!) : (Lib.compactUpTo S S.size).Pairwise lLt := by
  unfold Lib.compactUpTo
  rw [List.pairwise_map]
  have h1 : ((List.range S.size).filter (Lib.keeps S)).Pairwise (· < ·) := List.pairwise_lt_range.filter _
  refine List.Pairwise.imp_of_mem ?_ h1
  intro i j hi hj hij
  have hj1 := List.mem_range.1 (List.mem_filter.1 hj).1
  have hj2 := (List.mem_filter.1 hj).2
  unfold Lib.keeps at hj2
  have hj3 := of_decide_eq_true hj2
  have hne : S[j - 1]! ≠ S[j]! := fun e => by
    rcases hj3 with h | h
    · omega
    · exact h e.symm
  have h4 : lLt S[j - 1]! S[j]! := lLt_tri (hs (j - 1) j (by omega) hj1) hne
  by_cases e : i = j - 1
  · rw [e]; exact h4
  · have h5 := hs i (j - 1) (by omega) (by omega)
    by_cases e2 : S[i]! = S[j - 1]!
    · rw [e2]; exact h4
    · exact lLt_trans (lLt_tri h5 e2) h4
def nE (c : List Int) : Int := if 64 < c.length then 8 else if c.all (litB 12) = true then 0 else 2
def nA (c : List Int) : Bool := decide (nE c = 0) && alwB c
def nL (c : List Int) : List Int := if nE c = 0 ∧ alwB c = false then nrm c else []
theorem nE_zero {c : List Int} (h : nE c = 0) : c.length ≤ 64 ∧ Lits c := by
  unfold nE at h
  split at h
  · cases h
  · split at h
    · rename_i h1 h2
      refine ⟨by omega, fun x hx => ?_⟩
      have := List.all_eq_true.1 h2 x hx
      unfold litB at this
      have := of_decide_eq_true this
      omega
    · cases h
theorem nE_lits {c : List Int} (h : c.length ≤ 64) (hc : Lits c) : nE c = 0 := by
  unfold nE
  rw [if_neg (by omega), if_pos]
  refine List.all_eq_true.2 (fun x hx => ?_)
  unfold litB
  have := hc x hx
  exact decide_eq_true ⟨this.1, by omega, this.2.2⟩
theorem nrm_len (c : List Int) : (nrm c).length ≤ 24 := by
  unfold nrm
  have h1 := List.length_filter_le (fun x => decide (x ∈ c)) (litsL 12)
  have h2 : (litsL 12).length = 24 := by decide
  omega
end Go.Proofs.Ws.rsl
