/- FormulaJoins (P5.5): All and Any of the program return the specified conjunctions and disjunctions, for any list of lists of nodes. No condition. -/
import Derived.Test.YtcbmncafmofcpaaMl
import Derived.Test.YtcbmncafmofcpaaMza
namespace Go.Proofs.Ytcbmncafmofcpaa.formulaJoins
open Go.ChangeShapes Go.WideShapes Go.ChangeAt Go.RowKit Go.Proofs.Ytcbmncafmofcpaa Go.Proofs.Ws
theorem comp200 (f : List Nd) : (compF f).length ≤ 200 := by
  by_cases hz : fErr f = 0
  · exact Nat.le_trans (compF_le f) (fErr_ok hz).2.1
  · unfold compF; rw [if_neg hz]; exact Nat.zero_le _
theorem fold200 (op e : Int) (ls : List (List Nd)) : (foldF op e ls).length ≤ 200 := by
  have h0 : ∀ (l : List (List Nd)) (a : List Nd), a.length ≤ 200 → (l.foldl (fun a g => buildF ⟨op, 0, 0, 0, 0, 0⟩ [a, g]) a).length ≤ 200 := by
    intro l
    induction l with
    | nil => intro a h; exact h
    | cons g l ih => intro a _; exact ih _ (buildF_len _ _)
  unfold foldF
  split
  · exact buildF_len _ _
  · exact h0 _ _ (comp200 _)
set_option maxRecDepth 100000 in
set_option maxHeartbeats 4000000 in
theorem walk (ls : List (List Nd)) (A0 : Option Addr) (n0 c0 : Nat) (w : World) (h0 : LsRow w A0 n0 c0 ls) :
    Calls Try.prog 7 #[.slice A0 n0 c0] w fun e w' => e = .returned (.bool true) ∧ Below w.heap.size w w' := by
  have HL := Lib.hid h0.1
  have hnc := h0.2.1
  have hm0 := h0.2.2
  have HAW := Lib.hid (fun W => awake_any W)
  have H0 : Hid (∀ W, Below w.heap.size w W → Calls Try.prog 40 #[.slice A0 n0 c0] W fun e w' => ∃ A' c', e = .returned (.slice A' (foldF 5 1 ls).length c') ∧ Reads w' w'.heap.size 6 A' (foldF 5 1 ls).length (nds (foldF 5 1 ls)) ∧ Below W.heap.size W w') := Lib.hid (fun W h => pAll_any ls A0 n0 c0 W (HL.out.below h h.size) hnc hm0)
  have H1 : Hid (∀ W, Below w.heap.size w W → Calls Try.prog 41 #[.slice A0 n0 c0] W fun e w' => ∃ A' c', e = .returned (.slice A' (foldF 5 1 ls).length c') ∧ Reads w' w'.heap.size 6 A' (foldF 5 1 ls).length (nds (foldF 5 1 ls)) ∧ Below W.heap.size W w') := Lib.hid (fun W h => rAll_any ls A0 n0 c0 W (HL.out.below h h.size) hm0)
  have H2 : Hid (∀ W, Below w.heap.size w W → Calls Try.prog 42 #[.slice A0 n0 c0] W fun e w' => ∃ A' c', e = .returned (.slice A' (foldF 6 2 ls).length c') ∧ Reads w' w'.heap.size 6 A' (foldF 6 2 ls).length (nds (foldF 6 2 ls)) ∧ Below W.heap.size W w') := Lib.hid (fun W h => pAny_any ls A0 n0 c0 W (HL.out.below h h.size) hnc hm0)
  have H3 : Hid (∀ W, Below w.heap.size w W → Calls Try.prog 43 #[.slice A0 n0 c0] W fun e w' => ∃ A' c', e = .returned (.slice A' (foldF 6 2 ls).length c') ∧ Reads w' w'.heap.size 6 A' (foldF 6 2 ls).length (nds (foldF 6 2 ls)) ∧ Below W.heap.size W w') := Lib.hid (fun W h => rAny_any ls A0 n0 c0 W (HL.out.below h h.size) hm0)
  have hq1 := fold200 5 1 ls
  have hq2 := fold200 6 2 ls
  generalize foldF 5 1 ls = q1 at *
  generalize foldF 6 2 ls = q2 at *
  have HEQ : Hid (∀ (q : List Nd) W W1 A A2 c c2, q.length ≤ 200 → Reads W1 W1.heap.size 6 A q.length (nds q) → Below W1.heap.size W1 W → Reads W W.heap.size 6 A2 q.length (nds q) → Calls Try.prog 24 #[.slice A q.length c, .slice A2 q.length c2] W fun e w' => e = .returned (.bool true) ∧ Below W.heap.size W w') := Lib.hid (fun q W W1 A A2 c c2 hq h1 h2 h3 => by
    refine (rEqual_any q q A A2 _ _ c c2 W ((h1.below h2).more h2.size) h3 (by unfold maxLen; omega) (by unfold maxLen; omega)).mono ?_
    rintro e w' ⟨rfl, h4⟩
    exact ⟨by simp, h4⟩)
  unfold maxLen at hm0
  clear h0
  by_cases hbig : n0 ≤ 8
  · have d0 : decide (8 < (n0 : Int)) = false := decide_eq_false (by omega)
    have e0 : decide (8 < n0) = false := decide_eq_false (by omega)
    clear hbig
    go_enter Try.func7, Try.ntmps7
    go_wp2_with fail
    refine (HAW.out _).mono ?_
    rintro e w1 ⟨rfl, hb⟩
    have HB1 := Lib.hid hb
    clear hb
    go_wp2
    go_loopw [4, 15] (fun _ i wr => ∃ k : Nat, k ≤ n0 ∧ i = .int .i64 k ∧ wr = w1) (fun _ i _ => n0 - (intOf i).toNat)
    case atStart => exact ⟨0, Nat.zero_le _, rfl, rfl⟩
    case round =>
      obtain ⟨k, hk, rfl, hw⟩ := hrel
      obtain rfl : w1 = wr := hw.symm
      by_cases hlt : k < n0
      · obtain ⟨ad, Aj, cj, rfl, hbj, hcj, hrj, hmj⟩ := HL.out.at_ hlt
        have hc : w1.cell? (ad.add k) = some (.slice Aj (ls.getD k []).length cj) := (HB1.out.cell (p := ad.add k) (by rw [block_of_add]; exact hbj)).trans hcj
        generalize (ls.getD k []).length = m at *
        clear hrj hcj hbj
        unfold maxLen at hmj
        by_cases h40 : m ≤ 40
        · have d1 : decide (40 < (m : Int)) = false := decide_eq_false (by omega)
          have d2 : decide (40 < m) = false := decide_eq_false (by omega)
          go_wp2
          go_roundw
          case rel => exact ⟨k + 1, by omega, by go_num, trivial⟩
          case measure => simp [intOf]; omega
        · have d1 : decide (40 < (m : Int)) = true := decide_eq_true (by omega)
          have d2 : decide (40 < m) = true := decide_eq_true (by omega)
          go_wp2
          go_ret
          exact ⟨rfl, HB1.out⟩
      · go_wp2_with fail
        refine (H0.out _ HB1.out).mono ?_
        rintro e w2 ⟨A2, c2, rfl, hR2, hb2⟩
        have HR2 := Lib.hid hR2
        have HB2 := Lib.hid (HB1.out.trans (hb2.mono HB1.out.size))
        clear hR2 hb2
        go_wp2_with fail
        refine (H1.out _ HB2.out).mono ?_
        rintro e w3 ⟨A3, c3, rfl, hR3, hb3⟩
        have HR3 := Lib.hid hR3
        have HBx := Lib.hid hb3
        have HB3 := Lib.hid (HB2.out.trans (hb3.mono HB2.out.size))
        clear hR3 hb3
        go_wp2_with fail
        refine (HEQ.out q1 w3 w2 A2 A3 c2 c3 hq1 HR2.out HBx.out HR3.out).mono ?_
        rintro e w4 ⟨rfl, hb4⟩
        have HB4 := Lib.hid (HB3.out.trans (hb4.mono HB3.out.size))
        clear hb4
        go_wp2_with fail
        refine (H2.out _ HB4.out).mono ?_
        rintro e w5 ⟨A5, c5, rfl, hR5, hb5⟩
        have HR5 := Lib.hid hR5
        have HB5 := Lib.hid (HB4.out.trans (hb5.mono HB4.out.size))
        clear hR5 hb5
        go_wp2_with fail
        refine (H3.out _ HB5.out).mono ?_
        rintro e w6 ⟨A6, c6, rfl, hR6, hb6⟩
        have HR6 := Lib.hid hR6
        have HBy := Lib.hid hb6
        have HB6 := Lib.hid (HB5.out.trans (hb6.mono HB5.out.size))
        clear hR6 hb6
        go_wp2_with fail
        refine (HEQ.out q2 w6 w5 A5 A6 c5 c6 hq2 HR5.out HBy.out HR6.out).mono ?_
        rintro e w7 ⟨rfl, hb7⟩
        have HB7 := Lib.hid (HB6.out.trans (hb7.mono HB6.out.size))
        clear hb7
        go_wp2
        go_ret
        exact ⟨rfl, HB7.out⟩
  · have d0 : decide (8 < (n0 : Int)) = true := decide_eq_true (by omega)
    have e0 : decide (8 < n0) = true := decide_eq_true (by omega)
    clear hbig
    go_enter Try.func7, Try.ntmps7
    go_wp2_with fail
    refine (HAW.out _).mono ?_
    rintro e w1 ⟨rfl, hb⟩
    have HB1 := Lib.hid hb
    clear hb
    go_wp2_with fail
    refine (HAW.out _).mono ?_
    rintro e w2 ⟨rfl, hb⟩
    have HB2 := Lib.hid (HB1.out.trans (hb.mono HB1.out.size))
    clear hb
    go_wp2
    go_ret
    exact ⟨rfl, HB2.out⟩
set_option maxRecDepth 100000 in
theorem contract (H : Type) (enc : TypeId × Value → H) (W : World) (base : Nat) (args : Array Value) (ds gs : List (DataW H)) (before : List MemPlace)
    (hval : ∀ (j : Nat) t v, Try.f7.params[j]? = some t → args[j]? = some v → Value.okWide Try.prog W .any base t v)
    (hW : DataW.Whole enc Try.prog Try.f7.params.toList Rows.formulaJoinsSpec.vars false W args.toList ds gs before) :
    Calls Try.prog 7 args W fun e W' => ∃ v, e = .returned v ∧ Rows.formulaJoinsSpec.post enc Try.prog Try.f7 false true false false W args v W' := by
  have hW' := hW
  obtain ⟨p, q, hA0, hV, rfl, hfz, hnd⟩ := hW
  have hA : DataW.TrodAll enc Try.prog W 0 (fun _ => true) true Try.f7.params.toList args.toList ds p := hA0
  rw [Try.params7] at hA hval
  obtain ⟨v0, vs0, d0, ds0, p0, q0, hargs, rfl, rfl, h0, r0⟩ := trodAll_cons hA
  obtain ⟨rfl, rfl, rfl⟩ := trodAll_nil r0
  obtain rfl : args = #[v0] := by cases args; simp_all
  obtain ⟨rfl, rfl⟩ := trodVars_none hV
  obtain ⟨A0, n0, c0, rfl⟩ := okWide_slice Try.underlying30 (hval 0 30 v0 rfl rfl)
  obtain ⟨z0, w0⟩ : ∃ l, LsRow W A0 n0 c0 l := by
    obtain ⟨fuel, hf⟩ := h0
    exact open_lists hf
  have k0 := h0
  have lt0 : ∀ x ∈ p0, x.block < W.heap.size := by obtain ⟨m, hm⟩ := k0; exact DataW.trod_lt m _ _ _ hm
  clear hA0
  have hwalk : Calls Try.prog 7 #[.slice A0 n0 c0] W fun e w' => e = .returned (.bool true) ∧ Below W.heap.size W w' := walk z0 A0 n0 c0 W w0
  refine hwalk.mono fun e W' ⟨he, hg⟩ => ?_
  subst he
  exact ⟨_, rfl, _, _, _, [], _, [], hW', trodAll_mk1 (shut_bool Try.underlying4 _), (trodAll_cons_mk (Below.trod laidOut (by kernel_rfl) (of_decide_eq_true (by kernel_rfl)) k0 hg lt0) trodAll_mk0), rfl, hg.frame _, fun h => by cases h⟩
theorem reads (os : Os) {H : Type} (enc : TypeId × Value → H) : ∃ places, DataW.whole enc Try.prog ((laidW os).forCall (fun _ _ => 0) ⟨#[], #[.slice none 0 0], []⟩).memory Try.f7.params.toList Rows.formulaJoinsSpec.vars false #[Value.slice none 0 0].toList 8 = some ([.nil], [], places) :=
  ⟨[], by kernel_rfl⟩
set_option maxRecDepth 100000 in
theorem lifted (os : Os) (started : os.Started) (H : Type) (enc : TypeId × Value → H) (F : Stop.Interp) :
    ReturnsInHanded {} Try.checked os 7 .any ((OpenSpec.ofChange Rows.formulaJoinsSpec).preRow enc Try.prog Try.f7 Rows.formulaJoinsRow.domain false Rows.formulaJoinsRow.laid) (((OpenSpec.ofChange Rows.formulaJoinsSpec).at F).post enc Try.prog Try.f7 false true false false) := by
  obtain ⟨places, hx⟩ := reads os enc
  refine returnsInHanded_of_row (C := Try.checked) (s := OpenSpec.ofChange Rows.formulaJoinsSpec) own started (by kernel_rfl) Try.func7
    (witness_row_at (enc := enc) (C := Try.checked) false (laidW os) #[.slice none 0 0] (laidW_os os) (vars_ok os _) (heap_ok os _) (by kernel_rfl)
      (OpenSpec.preRow_of_cond 8 hx (by kernel_rfl) (fun k hk => by cases hk) (by kernel_rfl) (laid_met os _))) ?_
  intro W base args ds gs before hval hW _ _ _ _ _ _
  exact contract H enc W base args ds gs before hval hW
theorem said : Rows.FormulaJoinsSaid :=
  OpenClaim.holds_of_cond 7 Try.f7 rfl rfl rfl rfl rfl rfl rfl ⟨rfl, rfl, rfl, rfl, rfl⟩ rfl rfl rfl rfl rfl (by kernel_rfl) Try.func7 (by kernel_rfl)
    (of_decide_eq_true (by kernel_rfl)) (by unfold Func.isWrapper; first | (rw [if_pos (by decide +kernel)]; kernel_rfl) | (rw [if_neg (by decide +kernel)]; exact ⟨rfl, rfl⟩))
    (fun os started H enc _ F => by rw [OpenClaim.pre_eq_preRow]; exact lifted os started H enc F)
#print axioms said
end Go.Proofs.Ytcbmncafmofcpaa.formulaJoins
