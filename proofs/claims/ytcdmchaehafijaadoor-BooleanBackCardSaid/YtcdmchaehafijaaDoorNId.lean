/- Layer 6: texts joined: Id Ie If. -/
import Derived.Test.YtcdmchaehafijaaDoorNIc
import Derived.Test.YtcdmchaehafijaaDoorNJj
import Derived.Test.YtcdmchaehafijaaDoorNJl
/- Layer 9: the program's atoms. -/
namespace Go.Proofs.YtcdmchaehafijaaDoor
open Go.RowKit Go.Proofs.Ws Go.Maps
set_option maxRecDepth 100000
theorem WK.start {w : World} {n c : Nat} {A : Option Addr} : WK ((w.alloc (.cells (falses n) 4)).alloc (.cells #[.slice A n c, .slice (some ⟨w.heap.size, 0, none⟩) n n, .slice none 0 0] 102)) (w.heap.size + 2) (w.heap.size + 1) w.heap.size n A c (List.replicate n false) [] := by
  have hbs := BS.made w n
  have s2 : (w.alloc (.cells (falses n) 4)).heap.size = w.heap.size + 1 := by simp
  generalize w.alloc (.cells (falses n) 4) = wb at *
  have hbx := heap_alloc_new wb (.cells #[.slice A n c, .slice (some ⟨w.heap.size, 0, none⟩) n n, .slice none 0 0] 102)
  rw [s2] at hbx
  have hbs2 := hbs.keep (W' := wb.alloc (.cells #[.slice A n c, .slice (some ⟨w.heap.size, 0, none⟩) n n, .slice none 0 0] 102)) (Below.heap_alloc wb _ _ (by omega))
  have s3 : (wb.alloc (.cells #[.slice A n c, .slice (some ⟨w.heap.size, 0, none⟩) n n, .slice none 0 0] 102)).heap.size = w.heap.size + 2 := by simp [s2]
  generalize wb.alloc (.cells #[.slice A n c, .slice (some ⟨w.heap.size, 0, none⟩) n n, .slice none 0 0] 102) = wc at *
  have hc : ∀ j, wc.cell? ⟨w.heap.size + 1, j, none⟩ = (#[Value.slice A n c, .slice (some ⟨w.heap.size, 0, none⟩) n n, .slice none 0 0] : Array Value)[j]? := fun j => by
    simp [World.cell?, hbx]
  exact ⟨by omega, by omega, by omega, by omega, hc 0, hc 1, ⟨none, 0, hc 2, World.ownsRow_nil _ _ _ _⟩, Lib.frozen_of_heap hbx 2, by simp, fun j hj => hbs2.cell (by simpa using hj), fun j _ => hbs2.free j⟩
set_option maxHeartbeats 4000000 in
theorem atomsOf_any (q : List Nd) (A : Option Addr) (n c : Nat) (w : World) (hR : Reads w w.heap.size 6 A n (nds q)) (hq : opsL q) (hk : knownL q) (hn0 : 0 < n) (hn : n ≤ 200) :
    Calls Tryd.prog 44 #[.slice A n c] w fun e w' => ∃ A' c', e = .returned (.slice A' (atomsOf q).length c') ∧ w'.ownsRow w.heap.size 3 1 (.slice A' (atomsOf q).length c') (atomsOf q).length (iv (atomsOf q)) ∧ Below w.heap.size w w' := by
  have hl := hR.nd_len
  have HST := Lib.hid (WK.start (w := w) (n := n) (c := c) (A := A))
  have HBA : Hid (Below w.heap.size w ((w.alloc (.cells (falses n) 4)).alloc (.cells #[.slice A n c, .slice (some ⟨w.heap.size, 0, none⟩) n n, .slice none 0 0] 102))) := Lib.hid (((Below.refl _ w).alloc (Nat.le_refl _) _).alloc (by simp) _)
  have HM := Lib.hid (fun (W : World) (h1 : WK W (w.heap.size + 2) (w.heap.size + 1) w.heap.size n A c (List.replicate n false) []) (h2 : Below w.heap.size w W) => meet_any q hq hk n hl hn A c w.heap.size (w.heap.size + 2) (w.heap.size + 1) w.heap.size (by omega) n (n - 1) ⟨List.replicate n false, []⟩ W (by omega) (by omega) (met_start n) h1 (hR.below h2))
  have HAO : Hid (atomsL q (meetF q n (n - 1) ⟨List.replicate n false, []⟩).order = atomsOf q) := Lib.hid (by subst hl; rfl)
  have hmk := makeB w n (by omega)
  obtain ⟨m, hm1⟩ : ∃ m, n - 1 = m := ⟨_, rfl⟩
  have hw3 : (n : Int) - 1 = (m : Int) := by omega
  have hw1 : wrap64 ((n : Int) - 1) = (m : Int) := by unfold wrap64; omega
  have hw2 : IntKind.i64.wrap ((n : Int) - 1) = (m : Int) := by rw [IntKind.wrap_i64]; omega
  rw [hm1] at HM HAO
  clear hR hq hk hm1 hl
  go_enter Tryd.func44, Tryd.ntmps44
  go_wp2_with fail
  refine (HM.out _ HST.out HBA.out).mono ?_
  rintro r w2 ⟨rfl, hwk, hfr⟩
  have HFA := Lib.hid (FrA.low hfr.out (B := w.heap.size) (by simp; omega) (by omega) (by omega) (fun g hg => (by have := (HST.out.row g hg).1; omega)))
  have HB2 := Lib.hid (HBA.out.trans HFA.out)
  obtain ⟨A2, c2, k2, ho⟩ := hwk.out.out
  have HO := Lib.hid ho
  have hsz := HB2.out.size
  have hlw := hwk.out.lw
  have hlb := hwk.out.lb
  clear ho hfr
  go_wp2
  go_ret
  rw [HAO.out] at HO ⊢
  exact ⟨A2, c2, rfl, own_base HO.out (by omega), HB2.out⟩
/-- the atoms of a formula, as formulas -/
def atomsG (f : List Nd) : List (List Nd) := (atomsOf (compF f)).map (fun i : Nat => subF (compF f) (i : Int))
theorem atomsG_len (f : List Nd) : (atomsG f).length = (atomsOf (compF f)).length := by unfold atomsG; rw [List.length_map]
theorem atomsG_at (f : List Nd) {k : Nat} (h : k < (atomsOf (compF f)).length) : (atomsG f).take (k + 1) = (atomsG f).take k ++ [subF (compF f) (((atomsOf (compF f)).getD k 0 : Nat) : Int)] := by
  rw [List.take_succ_eq_append_getElem (by rw [atomsG_len]; exact h)]
  unfold atomsG
  rw [List.getElem_map, List.getD_eq_getElem?_getD, List.getElem?_eq_getElem h]
  rfl
theorem atomsOf_le {q : List Nd} (hq : opsL q) (hne : q ≠ []) : (atomsOf q).length ≤ q.length := nodup_le _ _ (atoms_nodup hq hne) (fun i hi => (atoms_lt hq hne i hi).1)
set_option maxHeartbeats 8000000 in
theorem pAtoms_any (f : List Nd) (A : Option Addr) (n c : Nat) (w : World) (hR : Reads w w.heap.size 6 A n (nds f)) (hm : n ≤ maxLen) :
    Calls Tryd.prog 18 #[.slice A n c] w fun e w' => ∃ v, e = .returned (.tuple #[v, .int .i64 (fErr f)]) ∧ LL w' w.heap.size v (if fErr f = 0 then atomsG f else []) ∧ Below w.heap.size w w' := by
  have HV := Lib.hid (pCheck_any f A n c w hR hm)
  have HR := Lib.hid hR
  by_cases hz : fErr f = 0
  · have HC := Lib.hid (fun (W : World) (h : Below w.heap.size w W) => pCompact_own f A n c W ((hR.below h).more h.size) hm)
    have hk := compF_ok hz
    have hq200 := (fErr_ok hk).2.1
    have hqp := List.length_pos_iff.2 (fErr_ok hk).1
    have HOP := Lib.hid (fErr_ops hk)
    have HKN := Lib.hid (fErr_known hk)
    have HAL := Lib.hid (atomsOf_le (fErr_ops hk) (fErr_ok hk).1)
    have HTK := Lib.hid (fun k h => atomsG_at f (k := k) h)
    have HGL : Hid ((atomsG f).take (atomsOf (compF f)).length = atomsG f) := Lib.hid (List.take_of_length_le (by rw [atomsG_len]; omega))
    obtain ⟨i0, hi, hz0, hz1, hz2⟩ := info_parts Tryd.infoSl
    rw [hz] at HV
    rw [hz, if_pos rfl]
    clear hR hm hz hk
    generalize compF f = q at *
    generalize atomsG f = gs at *
    go_enter Tryd.func18, Tryd.ntmps18
    go_wp2_with fail
    refine (HV.out).mono ?_
    rintro e w1 ⟨rfl, hb⟩
    have HB1 := Lib.hid hb
    clear hb
    go_wp2_with fail
    refine (HC.out w1 HB1.out).mono ?_
    rintro e w2 ⟨Aq, cq, rfl, hoq, hb⟩
    have HOQ := Lib.hid hoq
    have hcq := own_cap hoq
    have HB2 := Lib.hid (HB1.out.trans (hb.mono HB1.out.size))
    clear hb hoq
    have HAO := Lib.hid (atomsOf_any q Aq q.length cq w2 (Reads.of_own HOQ.out) HOP.out HKN.out (by omega) (by omega))
    go_wp2_with fail
    refine (HAO.out).mono ?_
    rintro e w3 ⟨Aa, ca, rfl, hoa, hb⟩
    have HOA := Lib.hid hoa
    have HB3 := Lib.hid (HB2.out.trans (hb.mono HB2.out.size))
    have HOQ3 := Lib.hid (own_keep1 HOQ.out (fun g hg => hb.block g (HOQ.out.lt g hg).2))
    have HRA := Lib.hid (Reads.of_own HOA.out)
    have hal := HAL.out
    clear hb hoa HOQ HAO
    generalize atomsOf q = ats at *
    go_wp2
    go_loopw [6, 8, 19] (fun v _ i wr => ∃ k : Nat, k ≤ ats.length ∧ i = .int .i64 k ∧ Hid (LL wr w3.heap.size v (gs.take k)) ∧ Hid (Below w3.heap.size w3 wr)) (fun _ _ i _ => ats.length - (intOf i).toNat)
    case atStart => exact ⟨0, Nat.zero_le _, rfl, Lib.hid (LL.nil _ _), Lib.hid (Below.refl _ _)⟩
    case round =>
      obtain ⟨k, hkl, rfl, HLK, HBR⟩ := hrel
      have hsz := HBR.out.size
      by_cases hlt : k < ats.length
      · obtain ⟨aa, rfl, hba, hca⟩ := iv_read (HRA.out.below HBR.out) hlt
        have HTS := Lib.hid (HTK.out k hlt)
        generalize ats.getD k 0 = p at *
        have HOQR := Lib.hid (own_keep1 HOQ3.out (fun g hg => HBR.out.block g (HOQ3.out.lt g hg).2))
        have HSU := Lib.hid (pSub_own q (p : Int) Aq q.length cq wr hcq (Reads.of_own HOQR.out) (by unfold maxLen; omega))
        have HNL : Hid ((gs.take k).length ≤ 200) := Lib.hid (by rw [List.length_take]; omega)
        generalize hgk : gs.take (k + 1) = gk1 at *
        have HGK1 := Lib.hid hgk
        clear hgk
        generalize gs.take k = gk at *
        go_wp2_with fail
        refine (HSU.out).mono ?_
        rintro e w4 ⟨As, cs, rfl, hos, hb⟩
        have HOS := Lib.hid (own_base hos (Nat.zero_le _))
        have HL4 := Lib.hid (HLK.out.below hb)
        have HB4 := Lib.hid (HBR.out.trans (hb.mono hsz))
        clear hb hos HSU
        obtain ⟨ws, hown, hitr⟩ := (HL4.out).row
        have HOW := Lib.hid hown
        have HITR := Lib.hid hitr
        have hnl := HNL.out
        have hsz4 := HB4.out.size
        clear hitr
        generalize subF q (p : Int) = sg at *
        go_wp2_with (at_builtin; refine wpList_append_own _ rfl _ _ 40 rfl w3.heap.size 23 i0 (.slice none 0 0) 1 24 Tryd.underlying40 hi hz0 hz1 hz2 rfl (by decide) _ _ _ rfl (hown.alloc _) ⟨w4.heap.size, 0, none⟩ 1 1 [.slice As sg.length cs] rfl rfl ?k1 ?k2 ?k3 ?k4 ?k5 ?_)
        case k2 => intro u hu; simp at hu; subst hu; rfl
        case k3 => unfold maxLen; omega
        case k4 => omega
        case k5 => simp; omega
        case k1 =>
          intro j' u hj'
          match j', hj' with
          | 0, hj' => simp at hj'; subst hj'; simp [Addr.add]
        · intro v' w7 hown' hgrow _
          have HL7 : Hid (LL w7 w3.heap.size v' gk1) := Lib.hid (by rw [HTS.out]; exact LL.app HOW.out HITR.out HOS.out hown' hgrow)
          have HB7 : Hid (Below w3.heap.size w3 w7) := Lib.hid ((HB4.out.alloc (by omega) _).grown hgrow (by simp; omega) (fun g hg => (HOW.out.lt g hg).1))
          clear hown' hgrow hown
          go_wp2
          go_roundw
          case rel => exact ⟨k + 1, by omega, by go_num, by rw [HGK1.out]; exact HL7, HB7⟩
          case measure => first | (simp [intOf]; done) | (simp [intOf]; omega)
      · have hks : k = ats.length := by omega
        subst hks
        rw [HGL.out] at HLK
        clear hlt
        go_wp2
        go_ret2
        obtain ⟨vs, h1, h2⟩ := HLK.out.row
        exact ⟨_, rfl, ⟨vs, own_base h1 HB3.out.size, h2⟩, HB3.out.trans (HBR.out.mono HB3.out.size)⟩
  · have hb0 : (fErr f != 0) = true := by simpa using hz
    rw [if_neg hz]
    clear hz hR hm
    generalize fErr f = ef at *
    go_enter Tryd.func18, Tryd.ntmps18
    go_wp2_with fail
    refine (HV.out).mono ?_
    rintro e w1 ⟨rfl, hb⟩
    have HB1 := Lib.hid hb
    clear hb
    go_wp2
    go_ret2
    exact ⟨_, rfl, LL.nil _ _, HB1.out⟩
end Go.Proofs.YtcdmchaehafijaaDoor
/- Layer 9: the program's tautologies. -/
namespace Go.Proofs.YtcdmchaehafijaaDoor
open Go.RowKit Go.Proofs.Ws Go.Maps
set_option maxRecDepth 100000
/-- the words of a round, those of the other atoms from the k-th on apart -/
def GV (ats : List Nat) (n u k : Nat) (g : List Nat) : Prop := g.length = n ∧ (∀ j, j < n → j ∉ (ats.drop 6).drop k → g.getD j 0 = gW ats u j) ∧ Words g
theorem gW_same {ats : List Nat} (_hd : ats.Nodup) {j : Nat} (h : j ∉ ats.drop 6) (u v : Nat) : gW ats u j = gW ats v j := by
  unfold gW
  by_cases hm : j ∈ ats
  · rw [if_pos hm, if_pos hm]
    have : ats.idxOf j < 6 := by
      rcases Nat.lt_or_ge (ats.idxOf j) 6 with h6 | h6
      · exact h6
      · refine absurd ?_ h
        have hl := List.idxOf_lt_length_of_mem hm
        have e : ats[ats.idxOf j] = j := List.getElem_idxOf hl
        rw [List.mem_iff_getElem]
        exact ⟨ats.idxOf j - 6, by rw [List.length_drop]; omega, by rw [List.getElem_drop]; simp only [show 6 + (ats.idxOf j - 6) = ats.idxOf j by omega]; exact e⟩
    rw [if_pos this, if_pos this]
  · rw [if_neg hm, if_neg hm]
theorem GV.next {ats : List Nat} {n u v : Nat} {g : List Nat} (hd : ats.Nodup) (h : GV ats n u (ats.length - 6) g) : GV ats n v 0 g := by
  refine ⟨h.1, fun j hj hm => ?_, h.2.2⟩
  rw [List.drop_zero] at hm
  rw [gW_same hd hm v u]
  exact h.2.1 j hj (by rw [List.drop_of_length_le (by rw [List.length_drop]; omega)]; simp)
theorem GV.all {ats : List Nat} {n u : Nat} {g : List Nat} (h : GV ats n u (ats.length - 6) g) : g = gWL ats n u := by
  apply List.ext_getElem?
  intro j
  by_cases hj : j < n
  · have h1 := h.2.1 j hj (by rw [List.drop_of_length_le (by rw [List.length_drop]; omega)]; simp)
    have h2 := gWL_at ats (u := u) hj
    have hl : j < g.length := by rw [h.1]; exact hj
    have hl2 : j < (gWL ats n u).length := by unfold gWL; simpa using hj
    rw [List.getElem?_eq_getElem hl, List.getElem?_eq_getElem hl2]
    rw [List.getD_eq_getElem?_getD, List.getElem?_eq_getElem hl] at h1
    rw [List.getD_eq_getElem?_getD, List.getElem?_eq_getElem hl2] at h2
    exact congrArg some (h1.trans h2.symm)
  · rw [List.getElem?_eq_none (by rw [h.1]; omega), List.getElem?_eq_none (by unfold gWL; simp; omega)]
theorem getN_set {l : List Nat} {i j v : Nat} (h : i < l.length) : (l.set i v).getD j 0 = if i = j then v else l.getD j 0 := by
  rw [List.getD_eq_getElem?_getD, List.getElem?_set]
  by_cases e : i = j
  · rw [if_pos e, if_pos e, if_pos h]; rfl
  · rw [if_neg e, if_neg e, ← List.getD_eq_getElem?_getD]
theorem words_set {l : List Nat} (h : Words l) (i : Nat) {v : Nat} (hv : v < 18446744073709551616) : Words (l.set i v) := by
  intro x hx
  rcases List.mem_or_eq_of_mem_set hx with h1 | h1
  · exact h x h1
  · rw [h1]; exact hv
theorem GV.set {ats : List Nat} {n u k : Nat} {g : List Nat} (hd : ats.Nodup) (hlt : ∀ i ∈ ats, i < n) (h : GV ats n u k g) (hk : k < ats.length - 6) : GV ats n u (k + 1) (g.set ((ats.drop 6).getD k 0) (if u.testBit k = true then w64 else 0)) := by
  have hk2 : 6 + k < ats.length := by omega
  have e0 : (ats.drop 6).getD k 0 = ats[6 + k] := by
    rw [List.getD_eq_getElem?_getD, List.getElem?_drop, List.getElem?_eq_getElem hk2]; rfl
  have hin : ats[6 + k] ∈ ats := List.getElem_mem hk2
  have hidx : ats.idxOf ats[6 + k] = 6 + k := hd.idxOf_getElem _ hk2
  rw [e0]
  refine ⟨by rw [List.length_set]; exact h.1, fun j hj hm => ?_, words_set h.2.2 _ (by split <;> decide)⟩
  rw [getN_set (by rw [h.1]; exact hlt _ hin)]
  by_cases e : ats[6 + k] = j
  · rw [if_pos e]
    subst e
    unfold gW
    rw [if_pos hin, hidx, if_neg (show ¬ (6 + k < 6) by omega), show 6 + k - 6 = k by omega]
  · rw [if_neg e]
    refine h.2.1 j hj (fun hmem => hm ?_)
    rw [List.drop_drop] at hmem ⊢
    rw [List.drop_eq_getElem_cons hk2] at hmem
    rcases List.mem_cons.1 hmem with h1 | h1
    · exact absurd h1.symm e
    · exact h1
/-- the words of the first atoms -/
def cW (ats : List Nat) (n k : Nat) : List Nat := (List.range n).map (fun j => if j ∈ ats.take k then colN (ats.idxOf j) else 0)
theorem cW_at (ats : List Nat) {n k j : Nat} (h : j < n) : (cW ats n k).getD j 0 = if j ∈ ats.take k then colN (ats.idxOf j) else 0 := by
  unfold cW
  rw [List.getD_eq_getElem?_getD, List.getElem?_map, List.getElem?_range h]; rfl
theorem cW_len (ats : List Nat) (n k : Nat) : (cW ats n k).length = n := by unfold cW; simp
theorem cW_zero (ats : List Nat) (n : Nat) : List.replicate n 0 = cW ats n 0 := by
  unfold cW
  apply List.ext_getElem?
  intro j
  rw [List.getElem?_replicate, List.getElem?_map]
  by_cases h : j < n
  · rw [if_pos h, List.getElem?_range h]; simp
  · rw [if_neg h, List.getElem?_eq_none (by simpa using h)]; rfl
theorem cW_set {ats : List Nat} {n k : Nat} (hd : ats.Nodup) (hk : k < ats.length) (hlt : ∀ i ∈ ats, i < n) : (cW ats n k).set (ats.getD k 0) (colN k) = cW ats n (k + 1) := by
  have e0 : ats.getD k 0 = ats[k] := by rw [List.getD_eq_getElem?_getD, List.getElem?_eq_getElem hk]; rfl
  have hin : ats[k] ∈ ats := List.getElem_mem hk
  have hidx : ats.idxOf ats[k] = k := hd.idxOf_getElem _ hk
  rw [e0]
  have hl : (cW ats n k).length = n := cW_len _ _ _
  have hl2 : (cW ats n (k + 1)).length = n := cW_len _ _ _
  apply List.ext_getElem?
  intro j
  by_cases hj : j < n
  · have h1 := getN_set (l := cW ats n k) (i := ats[k]) (j := j) (v := colN k) (by rw [hl]; exact hlt _ hin)
    rw [cW_at _ hj] at h1
    have h2 := cW_at ats (k := k + 1) hj
    have : ((cW ats n k).set ats[k] (colN k)).getD j 0 = (cW ats n (k + 1)).getD j 0 := by
      have hms : j ∈ ats.take (k + 1) ↔ j ∈ ats.take k ∨ j = ats[k] := by rw [List.take_succ_eq_append_getElem hk, List.mem_append, List.mem_singleton]
      rw [h1, h2]
      by_cases e : ats[k] = j
      · rw [if_pos e, if_pos (hms.2 (.inr e.symm)), ← e, hidx]
      · rw [if_neg e]
        by_cases hm : j ∈ ats.take k
        · rw [if_pos hm, if_pos (hms.2 (.inl hm))]
        · rw [if_neg hm, if_neg (fun h => (hms.1 h).elim hm (fun h => e h.symm))]
    have hl3 : j < ((cW ats n k).set ats[k] (colN k)).length := by rw [List.length_set, hl]; exact hj
    rw [List.getElem?_eq_getElem hl3, List.getElem?_eq_getElem (by rw [hl2]; exact hj)]
    rw [List.getD_eq_getElem?_getD, List.getD_eq_getElem?_getD, List.getElem?_eq_getElem hl3, List.getElem?_eq_getElem (by rw [hl2]; exact hj)] at this
    exact congrArg some this
  · rw [List.getElem?_eq_none (by rw [List.length_set, hl]; omega), List.getElem?_eq_none (by rw [hl2]; omega)]
theorem cW_words (ats : List Nat) (n k : Nat) : Words (cW ats n k) := by
  intro x hx
  obtain ⟨j, _, rfl⟩ := List.mem_map.1 hx
  split
  · exact col_lt _
  · decide
theorem GV.start {ats : List Nat} {n : Nat} (_hd : ats.Nodup) (u : Nat) : GV ats n u 0 (cW ats n (min ats.length 6)) := by
  refine ⟨cW_len _ _ _, fun j hj hm => ?_, cW_words _ _ _⟩
  rw [List.drop_zero] at hm
  rw [cW_at _ hj]
  have ht : ats.take (min ats.length 6) = ats.take 6 := by
    rcases Nat.lt_or_ge ats.length 6 with h | h
    · rw [Nat.min_eq_left (by omega), List.take_of_length_le (Nat.le_refl _), List.take_of_length_le (by omega)]
    · rw [Nat.min_eq_right h]
  rw [ht]
  unfold gW
  by_cases hi : j ∈ ats
  · have h6 : ats.idxOf j < 6 := by
      rcases Nat.lt_or_ge (ats.idxOf j) 6 with h6 | h6
      · exact h6
      · refine absurd ?_ hm
        have hl := List.idxOf_lt_length_of_mem hi
        have e : ats[ats.idxOf j] = j := List.getElem_idxOf hl
        rw [List.mem_iff_getElem]
        exact ⟨ats.idxOf j - 6, by rw [List.length_drop]; omega, by rw [List.getElem_drop]; simp only [show 6 + (ats.idxOf j - 6) = ats.idxOf j by omega]; exact e⟩
    have hj6 : j ∈ ats.take 6 := by
      rcases List.mem_append.1 (by rw [List.take_append_drop 6 ats]; exact hi : j ∈ ats.take 6 ++ ats.drop 6) with h | h
      · exact h
      · exact absurd h hm
    rw [if_pos hj6, if_pos hi, if_pos h6]
  · rw [if_neg hi, if_neg (fun h => hi (List.mem_of_mem_take h))]
/-- whether a canonical list is true at all valuations -/
def tautW (q : List Nd) (ats : List Nat) (v : Nat) : Bool := decide ((wL q (gWL ats q.length v) q.length).getD (q.length - 1) 0 = w64)
def tautB (q : List Nd) (ats : List Nat) : Bool := (List.range (2 ^ (ats.length - 6))).all (tautW q ats)
theorem add_add6 (a : Addr) (l j : Nat) (hl : 0 < l) : (a.add l).add j = a.add (l + j) := by
  unfold Addr.add
  have h1 : ¬ l = 0 := by omega
  by_cases hj : j = 0
  · subst hj; simp [h1]
  · simp [h1, hj]; omega
theorem neg_all : ∀ v : Fin 16, ∀ j : Fin 4, IntKind.u64.wrap (-IntKind.u64.wrap (bits .and .i64 (((v.val : Nat) : Int) / 2 ^ j.val) 1)) = ((if v.val.testBit j.val = true then w64 else 0 : Nat) : Int) := by decide +kernel
theorem neg_val (v j : Nat) (hv : v < 16) (hj : j < 4) : IntKind.u64.wrap (-IntKind.u64.wrap (bits .and .i64 ((v : Int) / 2 ^ j) 1)) = ((if v.testBit j = true then w64 else 0 : Nat) : Int) := neg_all ⟨v, hv⟩ ⟨j, hj⟩
set_option maxHeartbeats 8000000 in
theorem isTaut_any (q : List Nd) (ats : List Nat) (A B : Option Addr) (n m c cb : Nat) (w : World) (hE : EnvB w w.heap.size) (hR : Reads w w.heap.size 6 A n (nds q)) (hA : Reads w w.heap.size 1 B m (iv ats)) (hq : opsL q) (hn0 : 0 < n) (hn : n ≤ 200) (hd : ats.Nodup) (hlt : ∀ i ∈ ats, i < n) (hm : m ≤ 10) (hcb : m ≤ cb) (hml : ats.length = m) :
    Calls Tryd.prog 46 #[.slice A n c, .slice B m cb] w fun e w' => e = .returned (.bool (tautB q ats)) ∧ Below w.heap.size w w' := by
  have HL := Lib.hid (hR.nd_len)
  have HE := Lib.hid hE
  have HR := Lib.hid hR
  have HA := Lib.hid hA
  have HQ := Lib.hid hq
  have HD := Lib.hid hd
  have HLT := Lib.hid hlt
  have HML := Lib.hid hml
  have hmk := makeU w n (by omega)
  have HU0 := Lib.hid (HoldsU.made w (List.replicate n 0))
  have HB0 : Hid (Below w.heap.size w (w.alloc (.cells (us (List.replicate n 0)).toArray 22))) := Lib.hid ((Below.refl _ w).alloc (Nat.le_refl _) _)
  have HW0 := Lib.hid (cW_zero ats n)
  have hmin : min (m : Int) 6 = ((min m 6 : Nat) : Int) := by omega
  have hmax : max ((min m 6 : Nat) : Int) 0 = ((min m 6 : Nat) : Int) := by omega
  have HCS : Hid (∀ k, k < min m 6 → (cW ats n k).set (ats.getD k 0) (colN k) = cW ats n (k + 1)) := Lib.hid (fun k hk => cW_set hd (by omega) hlt)
  have HAL : Hid (∀ k, k < m → ats.getD k 0 < n) := Lib.hid (fun k hk => hlt _ (by
    rw [List.getD_eq_getElem?_getD, List.getElem?_eq_getElem (by omega)]
    exact List.getElem_mem _))
  have HGS : Hid (GV ats n 0 0 (cW ats n (min m 6))) := Lib.hid (by rw [← hml]; exact GV.start hd 0)
  have him : min m 6 ≤ m ∧ min m 6 ≤ 6 := by omega
  have HI66 : Hid (min m 6 = 6 ∨ m - min m 6 = 0) := Lib.hid (by omega)
  have HI6 : Hid (m - 6 = m - min m 6) := Lib.hid (by omega)
  clear hE hR hA hq hd hlt hml
  go_enter Tryd.func46, Tryd.ntmps46
  go_wp2
  generalize w.alloc (.cells (us (List.replicate n 0)).toArray 22) = w1 at *
  rw [HW0.out] at HU0
  clear hmin hmax
  generalize min m 6 = iw at *
  go_loopw [7, 8, 23] (fun _ _ i wr => ∃ k : Nat, k ≤ iw ∧ i = .int .i64 k ∧ Hid (HoldsU wr w.heap.size (cW ats n k)) ∧ Hid (Below w.heap.size w wr)) (fun _ _ i _ => iw - (intOf i).toNat)
  case atStart => exact ⟨0, Nat.zero_le _, rfl, HU0, HB0⟩
  case round =>
    obtain ⟨k, hk, rfl, HU, HBI⟩ := hrel
    have hsz := HBI.out.size
    have hult := HU.out.lt
    by_cases hlk : k < iw
    · obtain ⟨aa, rfl, hba, hca⟩ := iv_read (HA.out.below HBI.out) (show k < m by omega)
      have hpn := HAL.out k (by omega)
      have HSET := Lib.hid (HCS.out k hlk)
      have hE := (HE.out.below HBI.out)
      have hcol := hE.cols k (by omega)
      have hcl : 0 < wr.heap.size := Nat.lt_of_lt_of_le hE.lt hsz
      generalize ats.getD k 0 = p at *
      have hcp := HU.out.cell p (by rw [cW_len]; exact hpn)
      have hfp := HU.out.free p
      clear hE
      generalize hg1 : cW ats n (k + 1) = g1 at *
      have HG1 := Lib.hid hg1
      clear hg1
      generalize cW ats n k = g0 at *
      generalize colN k = zc at *
      go_wp2
      go_roundw
      case rel => exact ⟨k + 1, by omega, by go_num, by rw [HG1.out, ← HSET.out]; exact Lib.hid (HoldsU.put HU.out p _), Lib.hid (HBI.out.setCell (Nat.le_refl _) _)⟩
      case measure => first | (simp [intOf]; done) | (simp [intOf]; omega)
    · have : iw = k := by omega
      subst this
      obtain ⟨r, hr⟩ : ∃ r, m - iw = r := ⟨_, rfl⟩
      have hr4 : r ≤ 4 := by have := HI6.out; omega
      obtain ⟨P, hP⟩ : ∃ P : Nat, 2 ^ r = P := ⟨_, rfl⟩
      have hP16 : P ≤ 16 := by rw [← hP]; exact Nat.pow_le_pow_right (n := 2) (by decide) hr4
      have hsh : wrap64 (2 ^ r) = (P : Int) := by
        rw [← hP]
        have : ((2 ^ r : Nat) : Int) = (2 : Int) ^ r := by simp
        rw [← this]
        have h16 : 2 ^ r ≤ 16 := by rw [hP]; exact hP16
        unfold wrap64
        omega
      have HG0 : Hid (∃ g, HoldsU wr w.heap.size g ∧ GV ats n 0 0 g) := Lib.hid ⟨_, HU.out, HGS.out⟩
      have HNX : Hid (∀ u v g, GV ats n u r g → GV ats n v 0 g) := Lib.hid (fun u v g h => GV.next (u := u) HD.out (by rw [HML.out, HI6.out, hr]; exact h))
      have HAL2 : Hid (∀ v g, GV ats n v r g → g = gWL ats n v) := Lib.hid (fun v g h => GV.all (by rw [HML.out, HI6.out, hr]; exact h))
      have HST : Hid (∀ v j g, j < r → GV ats n v j g → GV ats n v (j + 1) (g.set ((ats.drop 6).getD j 0) (if v.testBit j = true then w64 else 0))) := Lib.hid (fun v j g hj h => GV.set HD.out HLT.out h (by rw [HML.out, HI6.out, hr]; exact hj))
      have HO6 : Hid (∀ j, j < r → iw = 6 ∧ (ats.drop 6).getD j 0 = ats.getD (6 + j) 0) := Lib.hid (fun j hj => ⟨by have := HI66.out; omega, by rw [List.getD_eq_getElem?_getD, List.getElem?_drop, ← List.getD_eq_getElem?_getD]⟩)
      have HTB : Hid (tautB q ats = (List.range P).all (tautW q ats)) := Lib.hid (by unfold tautB; rw [HML.out, HI6.out, hr, hP])
      have HHR := Lib.hid hr
      have hB1 := HBI
      clear hlk hk HU hult HCS HGS HI6 hP HW0 HU0
      by_cases hce : cb = iw
      · have HR0 : Hid (r = 0) := Lib.hid (by omega)
        have HBC : Hid (∀ j, j < r → ∀ W, Below w.heap.size w W → ∃ ad, B = some ad ∧ ad.block < w.heap.size ∧ W.cell? (ad.add j) = some (.int .i64 ((ats.getD (6 + j) 0 : Nat) : Int))) := Lib.hid (fun j hj => absurd hj (by have := HR0.out; omega))
        subst hce
        go_wp2
        rw [hsh]
        clear hsh
        go_loopw [4, 10, 11, 12, 41, 46] (fun _ _ _ _ i _ wv => ∃ v : Nat, v ≤ P ∧ i = .int .i64 v ∧ Hid (∃ g, HoldsU wv w.heap.size g ∧ GV ats n v 0 g) ∧ Hid (∀ u, u < v → tautW q ats u = true) ∧ Hid (Below w.heap.size w wv)) (fun _ _ _ _ i _ _ => P - (intOf i).toNat)
        case atStart => exact ⟨0, Nat.zero_le _, rfl, HG0, Lib.hid (fun u h => absurd h (Nat.not_lt_zero _)), HBI⟩
        case round =>
          obtain ⟨v, hv, rfl, HGV, HTA, HBV⟩ := hrel
          by_cases hvp : v < P
          · go_wp2
            go_loopw [11, 12, 46] (fun _ _ i wj => ∃ j : Nat, j ≤ r ∧ i = .int .i64 j ∧ Hid (∃ g, HoldsU wj w.heap.size g ∧ GV ats n v j g) ∧ Hid (Below w.heap.size w wj)) (fun _ _ i _ => r - (intOf i).toNat)
            case atStart => exact ⟨0, Nat.zero_le _, rfl, HGV, HBV⟩
            case round =>
              obtain ⟨j, hj, rfl, HGJ, HBJ⟩ := hrel
              have hszj := HBJ.out.size
              by_cases hjr : j < r
              · exact absurd hjr (by have := HR0.out; omega)
              · have hjr2 : r = j := by omega
                subst hjr2
                obtain ⟨g, hgu, hgv⟩ := HGJ.out
                have HG0 : Hid (∃ g, HoldsU wr w.heap.size g ∧ GV ats n (v + 1) 0 g) := Lib.hid ⟨g, hgu, HNX.out v (v + 1) g hgv⟩
                have hge := HAL2.out v g hgv
                subst hge
                have hgl : (gWL ats n v).length = n := hgv.1
                have HRG : Hid (Reads wr wr.heap.size 1 (some ⟨w.heap.size, 0, none⟩) n (us (gWL ats n v))) := Lib.hid (by have := hgu.reads; rw [hgl] at this; exact this)
                have HEV := Lib.hid (evaluate_any q (gWL ats n v) A (some ⟨w.heap.size, 0, none⟩) n c n wr ((HR.out.below HBJ.out).more hszj) HRG.out HQ.out hn0 hn hgv.2.2)
                have HTW : Hid (tautW q ats v = decide ((wL q (gWL ats n v) n).getD (n - 1) 0 = w64)) := Lib.hid (by unfold tautW; rw [HL.out])
                generalize (wL q (gWL ats n v) n).getD (n - 1) 0 = z at *
                clear hgu hgv hgl HGJ HRG
                go_wp2_with fail
                refine (HEV.out).mono ?_
                rintro e w5 ⟨rfl, hb5⟩
                have HB5 := Lib.hid (HBJ.out.trans (hb5.mono hszj))
                have HG5 : Hid (∃ g, HoldsU w5 w.heap.size g ∧ GV ats n (v + 1) 0 g) := Lib.hid (by obtain ⟨g, h1, h2⟩ := HG0.out; exact ⟨g, h1.below hb5 h1.lt, h2⟩)
                clear hb5 HEV
                by_cases hz : z = w64
                · have HT1 : Hid (∀ u, u < v + 1 → tautW q ats u = true) := Lib.hid (fun u hu => by
                    rcases Nat.lt_or_ge u v with h | h
                    · exact HTA.out u h
                    · have : u = v := by omega
                      rw [this, HTW.out, decide_eq_true hz])
                  have hzb : ((z : Int) != 18446744073709551615) = false := by rw [hz]; rfl
                  clear hz
                  go_wp2
                  go_roundw
                  case rel => exact ⟨v + 1, by omega, by go_num, HG5, HT1, HB5⟩
                  case measure => first | (simp [intOf]; done) | (simp [intOf]; omega)
                · have hzb : ((z : Int) != 18446744073709551615) = true := by
                    simp only [bne_iff_ne, ne_eq]
                    intro e
                    exact hz (by unfold w64; omega)
                  have HT0 : Hid (tautB q ats = false) := Lib.hid (by
                    rw [HTB.out, List.all_eq_false]
                    exact ⟨v, List.mem_range.2 hvp, by rw [HTW.out, decide_eq_false hz]; decide⟩)
                  clear hz
                  go_wp2
                  go_ret
                  exact ⟨by rw [HT0.out]; rfl, HB5.out⟩
          · have hvp2 : P = v := by omega
            subst hvp2
            have HT1 : Hid (tautB q ats = true) := Lib.hid (by
              rw [HTB.out, List.all_eq_true]
              exact fun u hu => HTA.out u (List.mem_range.1 hu))
            clear hvp
            go_wp2
            go_ret
            exact ⟨by rw [HT1.out]; rfl, HBV.out⟩
      · have HBC : Hid (∀ j, j < r → ∀ W, Below w.heap.size w W → ∃ ad, Option.map (fun x => x.add iw) B = some ad ∧ ad.block < w.heap.size ∧ W.cell? (ad.add j) = some (.int .i64 ((ats.getD (6 + j) 0 : Nat) : Int))) := Lib.hid (fun j hj W hW => by
          have h6 := (HO6.out j hj).1
          obtain ⟨aa, rfl, hba, hca⟩ := iv_read (HA.out.below hW) (show 6 + j < m by have := HHR.out; omega)
          exact ⟨aa.add iw, rfl, by rw [show (aa.add iw).block = aa.block from by unfold Addr.add; split <;> rfl]; exact hba, by rw [add_add6 aa iw j (by omega), h6]; exact hca⟩)
        go_wp2
        generalize Option.map (fun x => x.add iw) B = B2 at *
        rw [hsh]
        clear hsh
        go_loopw [4, 10, 11, 12, 41, 46] (fun _ _ _ _ i _ wv => ∃ v : Nat, v ≤ P ∧ i = .int .i64 v ∧ Hid (∃ g, HoldsU wv w.heap.size g ∧ GV ats n v 0 g) ∧ Hid (∀ u, u < v → tautW q ats u = true) ∧ Hid (Below w.heap.size w wv)) (fun _ _ _ _ i _ _ => P - (intOf i).toNat)
        case atStart => exact ⟨0, Nat.zero_le _, rfl, HG0, Lib.hid (fun u h => absurd h (Nat.not_lt_zero _)), HBI⟩
        case round =>
          obtain ⟨v, hv, rfl, HGV, HTA, HBV⟩ := hrel
          by_cases hvp : v < P
          · go_wp2
            go_loopw [11, 12, 46] (fun _ _ i wj => ∃ j : Nat, j ≤ r ∧ i = .int .i64 j ∧ Hid (∃ g, HoldsU wj w.heap.size g ∧ GV ats n v j g) ∧ Hid (Below w.heap.size w wj)) (fun _ _ i _ => r - (intOf i).toNat)
            case atStart => exact ⟨0, Nat.zero_le _, rfl, HGV, HBV⟩
            case round =>
              obtain ⟨j, hj, rfl, HGJ, HBJ⟩ := hrel
              have hszj := HBJ.out.size
              by_cases hjr : j < r
              · obtain ⟨g, hgu, hgv⟩ := HGJ.out
                have HSJ := Lib.hid (HST.out v j g hjr hgv)
                obtain ⟨ad, rfl, hab, hac⟩ := HBC.out j hjr wr HBJ.out
                obtain ⟨h6, hp6⟩ := HO6.out j hjr
                have hpn := HAL.out (6 + j) (by have := HHR.out; omega)
                rw [hp6] at HSJ
                generalize ats.getD (6 + j) 0 = p at *
                have hcp := hgu.cell p (by rw [hgv.1]; exact hpn)
                have hfp := hgu.free p
                have hult := hgu.lt
                have hgl := hgv.1
                have HGU := Lib.hid hgu
                have HVAL := Lib.hid (neg_val v j (by omega) (by omega))
                clear hgu hgv h6 hp6 HGJ
                go_wp2
                go_roundw
                case rel => exact ⟨j + 1, by omega, by go_num, Lib.hid (by rw [HVAL.out]; exact ⟨_, HGU.out.put p _, HSJ.out⟩), Lib.hid (HBJ.out.setCell (Nat.le_refl _) _)⟩
                case measure => first | (simp [intOf]; done) | (simp [intOf]; omega)
              · have hjr2 : r = j := by omega
                subst hjr2
                obtain ⟨g, hgu, hgv⟩ := HGJ.out
                have HG0 : Hid (∃ g, HoldsU wr w.heap.size g ∧ GV ats n (v + 1) 0 g) := Lib.hid ⟨g, hgu, HNX.out v (v + 1) g hgv⟩
                have hge := HAL2.out v g hgv
                subst hge
                have hgl : (gWL ats n v).length = n := hgv.1
                have HRG : Hid (Reads wr wr.heap.size 1 (some ⟨w.heap.size, 0, none⟩) n (us (gWL ats n v))) := Lib.hid (by have := hgu.reads; rw [hgl] at this; exact this)
                have HEV := Lib.hid (evaluate_any q (gWL ats n v) A (some ⟨w.heap.size, 0, none⟩) n c n wr ((HR.out.below HBJ.out).more hszj) HRG.out HQ.out hn0 hn hgv.2.2)
                have HTW : Hid (tautW q ats v = decide ((wL q (gWL ats n v) n).getD (n - 1) 0 = w64)) := Lib.hid (by unfold tautW; rw [HL.out])
                generalize (wL q (gWL ats n v) n).getD (n - 1) 0 = z at *
                clear hgu hgv hgl HGJ HRG
                go_wp2_with fail
                refine (HEV.out).mono ?_
                rintro e w5 ⟨rfl, hb5⟩
                have HB5 := Lib.hid (HBJ.out.trans (hb5.mono hszj))
                have HG5 : Hid (∃ g, HoldsU w5 w.heap.size g ∧ GV ats n (v + 1) 0 g) := Lib.hid (by obtain ⟨g, h1, h2⟩ := HG0.out; exact ⟨g, h1.below hb5 h1.lt, h2⟩)
                clear hb5 HEV
                by_cases hz : z = w64
                · have HT1 : Hid (∀ u, u < v + 1 → tautW q ats u = true) := Lib.hid (fun u hu => by
                    rcases Nat.lt_or_ge u v with h | h
                    · exact HTA.out u h
                    · have : u = v := by omega
                      rw [this, HTW.out, decide_eq_true hz])
                  have hzb : ((z : Int) != 18446744073709551615) = false := by rw [hz]; rfl
                  clear hz
                  go_wp2
                  go_roundw
                  case rel => exact ⟨v + 1, by omega, by go_num, HG5, HT1, HB5⟩
                  case measure => first | (simp [intOf]; done) | (simp [intOf]; omega)
                · have hzb : ((z : Int) != 18446744073709551615) = true := by
                    simp only [bne_iff_ne, ne_eq]
                    intro e
                    exact hz (by unfold w64; omega)
                  have HT0 : Hid (tautB q ats = false) := Lib.hid (by
                    rw [HTB.out, List.all_eq_false]
                    exact ⟨v, List.mem_range.2 hvp, by rw [HTW.out, decide_eq_false hz]; decide⟩)
                  clear hz
                  go_wp2
                  go_ret
                  exact ⟨by rw [HT0.out]; rfl, HB5.out⟩
          · have hvp2 : P = v := by omega
            subst hvp2
            have HT1 : Hid (tautB q ats = true) := Lib.hid (by
              rw [HTB.out, List.all_eq_true]
              exact fun u hu => HTA.out u (List.mem_range.1 hu))
            clear hvp
            go_wp2
            go_ret
            exact ⟨by rw [HT1.out]; rfl, HBV.out⟩
end Go.Proofs.YtcdmchaehafijaaDoor
/- Layer 9: the program's Tautology. -/
namespace Go.Proofs.YtcdmchaehafijaaDoor
open Go.RowKit Go.Proofs.Ws Go.Maps
set_option maxRecDepth 100000
/-- what Tautology returns -/
def tauE (f : List Nd) : Int := if fErr f ≠ 0 then fErr f else if 10 < (atomsOf (compF f)).length then 8 else 0
def tauV (f : List Nd) : Bool := decide (tauE f = 0) && tautB (compF f) (atomsOf (compF f))
set_option maxHeartbeats 4000000 in
theorem pTaut_any (f : List Nd) (A : Option Addr) (n c : Nat) (w : World) (hE : EnvB w w.heap.size) (hR : Reads w w.heap.size 6 A n (nds f)) (hm : n ≤ maxLen) :
    Calls Tryd.prog 20 #[.slice A n c] w fun e w' => e = .returned (.tuple #[.bool (tauV f), .int .i64 (tauE f)]) ∧ Below w.heap.size w w' := by
  have HV := Lib.hid (pCheck_any f A n c w hR hm)
  have HR := Lib.hid hR
  have HE := Lib.hid hE
  have HTE : Hid (tauE f = if fErr f ≠ 0 then fErr f else if 10 < (atomsOf (compF f)).length then 8 else 0) := Lib.hid rfl
  have HTV : Hid (tauV f = (decide (tauE f = 0) && tautB (compF f) (atomsOf (compF f)))) := Lib.hid rfl
  by_cases hz : fErr f = 0
  · have HC := Lib.hid (fun (W : World) (h : Below w.heap.size w W) => pCompact_own f A n c W ((hR.below h).more h.size) hm)
    have hk := compF_ok hz
    have hq200 := (fErr_ok hk).2.1
    have hqp := List.length_pos_iff.2 (fErr_ok hk).1
    have HOP := Lib.hid (fErr_ops hk)
    have HKN := Lib.hid (fErr_known hk)
    have HAL := Lib.hid (atomsOf_le (fErr_ops hk) (fErr_ok hk).1)
    have HND := Lib.hid (atoms_nodup (fErr_ops hk) (fErr_ok hk).1)
    have HLT : Hid (∀ i ∈ atomsOf (compF f), i < (compF f).length) := Lib.hid (fun i hi => (atoms_lt (fErr_ops hk) (fErr_ok hk).1 i hi).1)
    have HTE2 : Hid (tauE f = if 10 < (atomsOf (compF f)).length then 8 else 0) := Lib.hid (by rw [HTE.out, if_neg (fun k => k hz)])
    rw [hz] at HV
    clear hE hR hm hz hk HTE
    generalize compF f = q at *
    generalize tauE f = te at *
    generalize tauV f = tv at *
    go_enter Tryd.func20, Tryd.ntmps20
    go_wp2_with fail
    refine (HV.out).mono ?_
    rintro e w1 ⟨rfl, hb⟩
    have HB1 := Lib.hid hb
    clear hb
    go_wp2_with fail
    refine (HC.out w1 HB1.out).mono ?_
    rintro e w2 ⟨Aq, cq, rfl, hoq, hb⟩
    have HOQ := Lib.hid hoq
    have HB2 := Lib.hid (HB1.out.trans (hb.mono HB1.out.size))
    clear hb hoq
    have HAO := Lib.hid (atomsOf_any q Aq q.length cq w2 (Reads.of_own HOQ.out) HOP.out HKN.out (by omega) (by omega))
    go_wp2_with fail
    refine (HAO.out).mono ?_
    rintro e w3 ⟨Aa, ca, rfl, hoa, hb⟩
    have HOA := Lib.hid hoa
    have HB3 := Lib.hid (HB2.out.trans (hb.mono HB2.out.size))
    have HOQ3 := Lib.hid (own_keep1 HOQ.out (fun g hg => hb.block g (HOQ.out.lt g hg).2))
    have hca := own_cap hoa
    have hal := HAL.out
    clear hb hoa HOQ HAO
    by_cases h10 : 10 < (atomsOf q).length
    · have ht : te = 8 := by rw [HTE2.out, if_pos h10]
      have hv : tv = false := by rw [HTV.out, ht]; rfl
      have HT := Lib.hid ht
      have HVV := Lib.hid hv
      have hd : decide (10 < ((atomsOf q).length : Int)) = true := decide_eq_true (by omega)
      clear ht hv h10
      go_wp2
      go_ret2
      exact ⟨by rw [HT.out, HVV.out]; rfl, HB3.out⟩
    · have ht : te = 0 := by rw [HTE2.out, if_neg h10]
      have hv : tv = tautB q (atomsOf q) := by rw [HTV.out, ht]; simp
      have HT := Lib.hid ht
      have HVV := Lib.hid hv
      have hd : decide (10 < ((atomsOf q).length : Int)) = false := decide_eq_false (by omega)
      have HIT := Lib.hid (isTaut_any q (atomsOf q) Aq Aa q.length (atomsOf q).length cq ca w3 ((HE.out.below HB3.out).up HB3.out.size) (Reads.of_own HOQ3.out) (Reads.of_own HOA.out) HOP.out (by omega) (by omega) HND.out HLT.out (by omega) hca rfl)
      clear ht hv h10
      go_wp2_with fail
      refine (HIT.out).mono ?_
      rintro e w4 ⟨rfl, hb⟩
      have HB4 := Lib.hid (HB3.out.trans (hb.mono HB3.out.size))
      clear hb
      go_wp2
      go_ret2
      exact ⟨by rw [HT.out, HVV.out]; rfl, HB4.out⟩
  · have ht : tauE f = fErr f := by rw [HTE.out, if_pos hz]
    have hv : tauV f = false := by rw [HTV.out, ht, decide_eq_false hz]; rfl
    have hb0 : (fErr f != 0) = true := by simpa using hz
    rw [ht, hv]
    clear hz hE hR hm ht hv HTE HTV
    generalize fErr f = ef at *
    go_enter Tryd.func20, Tryd.ntmps20
    go_wp2_with fail
    refine (HV.out).mono ?_
    rintro e w1 ⟨rfl, hb⟩
    have HB1 := Lib.hid hb
    clear hb
    go_wp2
    go_ret2
    exact ⟨rfl, HB1.out⟩
end Go.Proofs.YtcdmchaehafijaaDoor
