/- Layer 6: texts joined: Cu Cs. -/
import Derived.Test.YtjpmhbnikoggaaaDoorNIg
import Derived.Test.YtjpmhbnikoggaaaDoorNJg
import Derived.Test.YtjpmhbnikoggaaaDoorNLr
import Derived.Test.YtjpmhbnikoggaaaDoorCards
import Derived.Test.YtjpmhbnikoggaaaDoorTie
import Derived.ProofKit
import Derived.OpenShut
import Derived.LaidMore
import Derived.Lay
import Derived.Lib.LaidTab
import Derived.Lib.LaidU8
import Derived.Lib.SmallJoins
import Derived.SliceStrings
import Derived.Shelf.Vars
import Derived.Deep.DeepHandedRow
import Derived.Deep.DeepWitnessRowRef
import Derived.SevenTiedAt
import Derived.Deep.Slices
import Derived.Deep.Fields
import Derived.ChangeSame
/- Layer 17: what is small. -/
namespace Go.Proofs.YtjpmhbnikoggaaaDoor
open Go.RowKit Go.Proofs.Ws
set_option maxRecDepth 100000
set_option maxHeartbeats 4000000 in
theorem rFewG_any (m : Mo) (v : Value) (K : Int) (w : World) (hM : MoR w w.heap.size v m) (hd0 : decide (K < m.n) = true ∧ decide (m.n ≤ 64) = false ∨ decide (K < m.n) = false) :
    Calls Tryd.prog 35 #[v, .int .i64 K] w fun e w' => e = .returned (.bool (fewM m)) ∧ Below w.heap.size w w' := by
  obtain ⟨A1, c1, A2, c2, rfl, hv, hr⟩ := hM.ex
  have hlm := hM.lim
  obtain ⟨n, val, rel⟩ := m
  dsimp only at hv hr hlm hd0 ⊢
  unfold maxLen at hlm
  have HB := Lib.hid (MBox.made w n (.slice A1 val.length c1) (.slice A2 rel.length c2))
  have HBe : Hid (Below w.heap.size w (w.alloc (.cells #[.int .i64 n, .slice A1 val.length c1, .slice A2 rel.length c2] 25))) := Lib.hid ((Below.refl _ w).alloc (Nat.le_refl _) _)
  have HRR := Lib.hid hr
  have HF : Hid (fewM ⟨n, val, rel⟩ = (decide (val.length ≤ 20) && decide (rel.length ≤ 10) && rel.all (fun r => decide (r.length ≤ 70)))) := Lib.hid rfl
  clear hM hv hr
  generalize fewM ⟨n, val, rel⟩ = fm at *
  by_cases h1 : val.length ≤ 20
  · have d1 : decide ((20 : Int) < (val.length : Int)) = false := decide_eq_false (by omega)
    rw [decide_eq_true h1, Bool.true_and] at HF
    by_cases h2 : rel.length ≤ 10
    · have d2 : decide ((10 : Int) < (rel.length : Int)) = false := decide_eq_false (by omega)
      rw [decide_eq_true h2, Bool.true_and] at HF
      have HL : Hid (rel.length = rel.length) := Lib.hid rfl
      clear h1
      generalize hq : rel.length = q at *
      have HQ := Lib.hid hq
      clear hq HL
      rcases hd0 with ⟨hd1, hd2⟩ | hd1
      all_goals
        go_enter Tryd.func35, Tryd.ntmps35
        go_wp2
        generalize w.alloc (.cells #[.int .i64 n, .slice A1 val.length c1, .slice A2 q c2] 25) = w1 at *
        have b2 := HB.out.c2
        clear hd1
        try clear hd2
        clear d1 d2
        go_loopw [5] (fun i wr => ∃ j : Nat, j ≤ q ∧ i = .int .i64 j ∧ Hid (∀ r ∈ rel.take j, r.length ≤ 70) ∧ w1 = wr) (fun i _ => q - (intOf i).toNat)
        case atStart => exact ⟨0, Nat.zero_le _, rfl, Lib.hid (by simp), by first | rfl | trivial⟩
        case round =>
          obtain ⟨j, hj, rfl, HT, rfl⟩ := hrel
          by_cases hlt : j < q
          · obtain ⟨ad, Aj, cj, rfl, had, hcell, hrj, hlj⟩ := (HRR.out.below HBe.out (Nat.le_refl _)).at_ hlt
            clear hrj
            unfold maxLen at hlj
            generalize hrd : rel.getD j [] = rj at *
            have HRJ := Lib.hid hrd
            clear hrd
            by_cases he : rj.length ≤ 70
            · have HT2 : Hid (∀ r ∈ rel.take (j + 1), r.length ≤ 70) := Lib.hid (take_one (d := []) (by have := HQ.out; omega) HT.out (by rw [HRJ.out]; exact he))
              have hn : decide ((70 : Int) < (rj.length : Int)) = false := decide_eq_false (by omega)
              clear HT he
              go_wp2
              go_roundw
              case rel => exact ⟨j + 1, by omega, by go_num, HT2, by first | rfl | trivial⟩
              case measure => first | (simp [intOf]; done) | (simp [intOf]; omega)
            · have hn : decide ((70 : Int) < (rj.length : Int)) = true := decide_eq_true (by omega)
              have HD : Hid (fm = false) := Lib.hid (by
                rw [HF.out, List.all_eq_false]
                exact ⟨rj, by rw [← HRJ.out]; exact getD_mem' (by have := HQ.out; omega), by simpa using he⟩)
              clear HT he
              go_wp2
              go_ret
              exact ⟨ret_bool HD.out.symm, HBe.out⟩
          · have hjq : j = q := by omega
            subst hjq
            have HD : Hid (fm = true) := Lib.hid (by
              rw [HF.out, List.all_eq_true]
              exact fun r hr => decide_eq_true (HT.out r (by rw [List.take_of_length_le (by have := HQ.out; omega)]; exact hr)))
            clear HT
            go_wp2
            go_ret
            exact ⟨ret_bool HD.out.symm, HBe.out⟩
    · have d2 : decide ((10 : Int) < (rel.length : Int)) = true := decide_eq_true (by omega)
      rw [decide_eq_false h2, Bool.false_and] at HF
      rcases hd0 with ⟨hd1, hd2⟩ | hd1
      all_goals
        go_enter Tryd.func35, Tryd.ntmps35
        go_wp2
        go_ret
        exact ⟨ret_bool HF.out.symm, HBe.out⟩
  · have d1 : decide ((20 : Int) < (val.length : Int)) = true := decide_eq_true (by omega)
    rw [decide_eq_false h1, Bool.false_and, Bool.false_and] at HF
    rcases hd0 with ⟨hd1, hd2⟩ | hd1
    all_goals
      go_enter Tryd.func35, Tryd.ntmps35
      go_wp2
      go_ret
      exact ⟨ret_bool HF.out.symm, HBe.out⟩
/-- few of everything, and at most K worlds -/
def fewK (m : Mo) (K : Int) : Bool := !(decide (K < m.n) && decide (m.n ≤ 64)) && fewM m
set_option maxHeartbeats 4000000 in
theorem rFewK_any (m : Mo) (v : Value) (K : Int) (w : World) (hM : MoR w w.heap.size v m) :
    Calls Tryd.prog 35 #[v, .int .i64 K] w fun e w' => e = .returned (.bool (fewK m K)) ∧ Below w.heap.size w w' := by
  by_cases h : K < m.n ∧ m.n ≤ 64
  · have d1 : decide (K < m.n) = true := decide_eq_true h.1
    have d2 : decide (m.n ≤ 64) = true := decide_eq_true h.2
    have e : fewK m K = false := by unfold fewK; rw [d1, d2]; rfl
    rw [e]
    obtain ⟨A1, c1, A2, c2, rfl, hv, hr⟩ := hM.ex
    have HBe : Hid (Below w.heap.size w (w.alloc (.cells #[.int .i64 m.n, .slice A1 m.val.length c1, .slice A2 m.rel.length c2] 25))) := Lib.hid ((Below.refl _ w).alloc (Nat.le_refl _) _)
    clear hM hv hr h e
    go_enter Tryd.func35, Tryd.ntmps35
    go_wp2
    go_ret
    exact ⟨rfl, HBe.out⟩
  · have e : fewK m K = fewM m := by
      unfold fewK
      by_cases h1 : K < m.n
      · rw [decide_eq_true h1, decide_eq_false (fun h2 => h ⟨h1, h2⟩)]; rfl
      · rw [decide_eq_false h1]; rfl
    rw [e]
    refine rFewG_any m v K w hM ?_
    by_cases h1 : K < m.n
    · exact .inl ⟨decide_eq_true h1, decide_eq_false (fun h2 => h ⟨h1, h2⟩)⟩
    · exact .inr (decide_eq_false h1)
set_option maxHeartbeats 4000000 in
theorem lFew_anyC (m : Mo) (v : Value) (ns : List Nat) (b k : Nat) (w : World) (hM : MoR w w.heap.size v m) (hk : ns.length = k) (hk2 : k ≤ 1000) (hb : b < w.heap.size) (hc : ∀ j, j < k → ∃ A c, w.cell? ⟨b, j, none⟩ = some (.slice A (ns.getD j 0) c)) :
    Calls Tryd.prog 10 #[v, .slice (some ⟨b, 0, none⟩) k k] w fun e w' => e = .returned (.bool (ns.all (fun x => decide (x ≤ 60)) && fewK m 16)) ∧ Below w.heap.size w w' := by
  obtain ⟨A1, c1, A2, c2, rfl, hv, hr⟩ := hM.ex
  have HB0 := Lib.hid ((Below.refl w.heap.size w).alloc (Nat.le_refl _) (.cells #[.int .i64 m.n, .slice A1 m.val.length c1, .slice A2 m.rel.length c2] 25))
  have KB0 := Lib.hid (MBox.made w m.n (.slice A1 m.val.length c1) (.slice A2 m.rel.length c2))
  have HFW := Lib.hid (fun W (hb : Below w.heap.size w W) => rFewK_any m _ 16 W (hM.below hb hb.size))
  have HCC := Lib.hid (fun W (h9 : Below w.heap.size w W) (j : Nat) (hj : j < k) => (show ∃ A c, W.cell? ⟨b, j, none⟩ = some (.slice A (ns.getD j 0) c) by
    obtain ⟨A, c, h⟩ := hc j hj
    exact ⟨A, c, (h9.cell hb).trans h⟩))
  have HK := Lib.hid hk
  clear hM hv hr hk hb hc
  generalize fewK m 16 = fb at *
  obtain ⟨w1, hw1⟩ : ∃ W, w.alloc (.cells #[.int .i64 m.n, .slice A1 m.val.length c1, .slice A2 m.rel.length c2] 25) = W := ⟨_, rfl⟩
  rw [hw1] at HB0 KB0
  have HW1 := Lib.hid hw1
  clear hw1
  go_enter Tryd.func10, Tryd.ntmps10
  go_wp2
  rw [HW1.out]
  clear HW1
  go_loopw [6, 9] (fun _ i wr => ∃ j : Nat, j ≤ k ∧ i = .int .i64 j ∧ Hid (∀ i, i < j → ns.getD i 0 ≤ 60) ∧ wr = w1) (fun _ i _ => k - (intOf i).toNat)
  case atStart => exact ⟨0, Nat.zero_le _, rfl, Lib.hid (fun i hi => absurd hi (by omega)), rfl⟩
  case round =>
    obtain ⟨j, hj, rfl, HI, hwr⟩ := hrel
    subst hwr
    by_cases hlt : j < k
    · obtain ⟨A, c, hcj⟩ := HCC.out _ HB0.out j hlt
      have HIN : Hid (ns.getD j 0 ∈ ns) := Lib.hid (getD_mem' (by have := HK.out; omega))
      generalize hx : ns.getD j 0 = x at *
      have HX := Lib.hid hx
      clear hx
      by_cases h60 : x ≤ 60
      · have d1 : decide ((60 : Int) < (x : Int)) = false := decide_eq_false (by omega)
        have HI2 : Hid (∀ i, i < j + 1 → ns.getD i 0 ≤ 60) := Lib.hid (fun i hi => by
          by_cases e : i = j
          · rw [e, HX.out]; exact h60
          · exact HI.out i (by omega))
        clear h60
        go_wp2
        go_roundw
        case rel => exact ⟨j + 1, by omega, by go_num, HI2, by first | rfl | trivial⟩
        case measure => simp [intOf]; omega
      · have d1 : decide ((60 : Int) < (x : Int)) = true := decide_eq_true (by omega)
        have HF : Hid ((ns.all (fun x => decide (x ≤ 60)) && fb) = false) := Lib.hid (by
          cases e : ns.all (fun x => decide (x ≤ 60)) with
          | false => rfl
          | true => exact absurd (of_decide_eq_true (List.all_eq_true.1 e x HIN.out)) h60)
        clear h60
        go_wp2
        go_ret
        exact ⟨ret_bool HF.out.symm, HB0.out⟩
    · obtain rfl : k = j := by omega
      have HF : Hid ((ns.all (fun x => decide (x ≤ 60)) && fb) = fb) := Lib.hid (by
        rw [List.all_eq_true.2 (fun x hx => ?_), Bool.true_and]
        obtain ⟨i, hi, rfl⟩ := List.getElem_of_mem hx
        have h := HI.out i (by have := HK.out; omega)
        rw [List.getD_eq_getElem?_getD, List.getElem?_eq_getElem hi] at h
        exact decide_eq_true h)
      have b0 := KB0.out.c0
      have b1 := KB0.out.c1
      have b2 := KB0.out.c2
      clear hlt
      go_wp2_with fail
      refine (HFW.out _ HB0.out).mono ?_
      rintro e w2 ⟨rfl, hb2⟩
      have HB2 := Lib.hid (HB0.out.trans (hb2.mono HB0.out.size))
      clear hb2 b0 b1 b2
      go_wp2
      go_ret
      exact ⟨ret_bool HF.out.symm, HB2.out⟩
end Go.Proofs.YtjpmhbnikoggaaaDoor
/- Layer 17: what the rows list, and what it gives the walks; models and formulas that came in. -/
namespace Go.Proofs.YtjpmhbnikoggaaaDoor.ckf
open Go.ChangeShapes Go.WideShapes Go.ChangeAt Go.RowKit Go.Proofs.Ws Go.Deep
set_option maxRecDepth 100000
def LL13 : List (String × DataW Unit) := Rows.checkerDualsRow.laid
theorem own : ownKnob Tryd.prog.godebug = none := by kernel_rfl
theorem laidOut : laidOutB Tryd.prog = true := by kernel_rfl
theorem g64 : Tryd.prog.globalNamed "math/bits.deBruijn64tab" = some 0 := by kernel_rfl
theorem ty64 : (Tryd.prog.globals[0]?).map (·.type) = some 81 := by kernel_rfl
theorem c85 : Tryd.prog.cellsOf 81 = 64 := by kernel_rfl
theorem c5 : Tryd.prog.cellsOf 5 = 1 := by kernel_rfl
def zs64 : List Int := Lib.deBruijn64tab.map (fun n : Nat => (n : Int))
theorem datum64 : (Rows.laid_math_bits_deBruijn64tab : DataW Unit) = Lib.tabData .u8 zs64 := by kernel_rfl
theorem zs_at (j : Nat) (hj : j < 64) : zs64.getD j 0 = ((Lib.deBruijn64tab.getD j 0 : Nat) : Int) := by
  have h : ∀ k : Fin 64, zs64.getD k.1 0 = ((Lib.deBruijn64tab.getD k.1 0 : Nat) : Int) := by decide +kernel
  exact h ⟨j, hj⟩
theorem lt_of_cell {W : World} (a : Addr) (v : Value) (hv : W.cell? a = some v) : a.block < W.heap.size := by
  rcases Nat.lt_or_ge a.block W.heap.size with h' | h'
  · exact h'
  · simp [World.cell?, Array.getElem?_eq_none h'] at hv
theorem tab_of {W : World} (h : Lib.VarReads Tryd.prog W "math/bits.deBruijn64tab" Rows.laid_math_bits_deBruijn64tab) : Tab W := by
  obtain ⟨g, t, cs, fuel, p, hg, ht, hv, hd⟩ := h
  obtain rfl := Option.some.inj (g64.symm.trans hg)
  obtain rfl := Option.some.inj (ty64.symm.trans ht)
  rw [datum64] at hd
  have e := Lib.cells_of_tab Tryd.underlying81 Tryd.underlying5 c5 c85 hd
  have hti : Lib.TabIs Tryd.prog W "math/bits.deBruijn64tab" .u8 zs64 := by
    unfold Lib.TabIs
    rw [hv, ← e]
  have hl : zs64.length = 64 := by kernel_rfl
  refine ⟨fun j hj => ?_, ?_⟩
  · have := hti.cell g64 j (by omega)
    rw [zs_at j hj] at this
    exact this
  · exact lt_of_cell ⟨0, 0, none⟩ _ (hti.cell g64 0 (by omega))
theorem env_of {W : World} (h : laidMetH Tryd.prog LL13 W) : Tab W := by
  rw [MakeChecks.laidMetH_plain _ _ _ (by kernel_rfl)] at h
  have m1 : ("math/bits.deBruijn64tab", (Rows.laid_math_bits_deBruijn64tab : DataW Unit)) ∈ LL13 := by
    show _ ∈ [("math/bits.deBruijn64tab", Rows.laid_math_bits_deBruijn64tab)]
    exact .head _
  exact tab_of (Lib.laidMet.reads h m1)
noncomputable def laidW (os : Os) : World := World.laidAll Tryd.prog os LL13
theorem laidW_os (os : Os) : (laidW os).os = os := World.laidAll_os _ _ _
theorem laid_met (os : Os) (args : Array Value) : laidMet Tryd.prog LL13 ((laidW os).forCall (fun _ _ => 0) ⟨#[], args, []⟩).memory :=
  laidMet_laidAll _ (by kernel_rfl) (by kernel_rfl)
theorem vars_ok (os : Os) (args : Array Value) : ((laidW os).forCall (fun _ _ => 0) ⟨#[], args, []⟩).variablesRefB Tryd.prog = true := by kernel_rfl
theorem heap_ok (os : Os) (args : Array Value) : (((laidW os).forCall (fun _ _ => 0) ⟨#[], args, []⟩).heap.toList.drop Tryd.prog.globals.size).take ((begin Tryd.prog (fun _ _ => 0) default).world.heap.size - Tryd.prog.globals.size) =
      (begin Tryd.prog (fun _ _ => 0) default).world.heap.toList.drop Tryd.prog.globals.size := by kernel_rfl
theorem no_looks : false = Tryd.pinned.checked.prog.looks [] := by kernel_rfl
theorem sliceCells : Tryd.prog.cellsOf 22 = 1 := by kernel_rfl
/-- what the row's opening says of a slice of words -/
def WRow (w : World) (A : Option Addr) (n c : Nat) (l : List Nat) : Prop := Reads w w.heap.size 1 A n (us l) ∧ Words l ∧ n ≤ c ∧ n ≤ maxLen
section
variable {H : Type} {enc : TypeId × Value → H} {w : World} {base : Nat} {spare : Nat → Bool} {held : Bool}
theorem open_words {fuel : Nat} {v : Value} {x : DataW H × List MemPlace} (h : DataW.trod enc Tryd.prog w base spare held fuel 22 [v] = some x) : ∃ A n c l, v = .slice A n c ∧ WRow w A n c l := by
  rcases open_ints Tryd.underlying22 Tryd.underlying31 (by kernel_rfl) h with ⟨hcs, _⟩ | ⟨a, len, cap, zs, hcs, _, hl, hm, hz, _, hcell, hwz⟩
  · simp at hcs
    exact ⟨none, 0, 0, [], hcs, (by unfold us; exact Reads.none_), fun x hx => absurd hx (by simp), Nat.le_refl _, Nat.zero_le _⟩
  · simp at hcs
    have hlz : len ≤ zs.length := by rw [hz]; split <;> omega
    have hu : ∀ z ∈ zs, 0 ≤ z ∧ z < 18446744073709551616 := fun z hz => by
      have h1 := hwz z hz
      have q1 : IntKind.u64.min = 0 := rfl
      have q2 : IntKind.u64.max = 18446744073709551615 := rfl
      simp [Lit.wf] at h1
      omega
    refine ⟨some a, len, cap, (zs.take len).map Int.toNat, hcs, ⟨by rw [us_length, List.length_map, List.length_take]; omega, fun h0 => ⟨a, rfl, ?_, fun j u hj => ?_⟩⟩, fun x hx => ?_, hl, by omega⟩
    · have h1 := hcell 0 (by omega)
      have := lt_of_cell _ _ h1
      rwa [block_of_add] at this
    · unfold us at hj
      rw [List.map_map, List.getElem?_map, List.getElem?_take] at hj
      split at hj
      · rename_i hjl
        have hjz : j < zs.length := by omega
        rw [List.getElem?_eq_getElem hjz] at hj
        simp at hj
        rw [hcell j hjz, List.getD_eq_getElem?_getD, List.getElem?_eq_getElem hjz, ← hj]
        have := hu zs[j] (List.getElem_mem hjz)
        simp only [Option.getD_some, Option.some.injEq, Value.int.injEq, true_and]
        omega
      · cases hj
    · obtain ⟨z, hz, rfl⟩ := List.mem_map.1 hx
      have := hu z (List.mem_of_mem_take hz)
      show z.toNat < 18446744073709551616
      omega
def LRow (w : World) (A : Option Addr) (n c : Nat) (ls : List (List Nat)) : Prop := UsR w w.heap.size A n ls ∧ (∀ l ∈ ls, Words l) ∧ n ≤ c ∧ n ≤ maxLen
theorem open_rows {fuel : Nat} {v : Value} {x : DataW H × List MemPlace} (h : DataW.trod enc Tryd.prog w base spare held fuel 23 [v] = some x) : ∃ A n c ls, v = .slice A n c ∧ LRow w A n c ls := by
  rcases open_slice Tryd.underlying23 h with ⟨hcs, _⟩ | ⟨a, len, cap, m, n', D, Pl, hcs, hb, hl, hm, hmm, _, hi⟩
  · simp at hcs
    exact ⟨none, 0, 0, [], hcs, ⟨rfl, [], Reads.none_, fun j hj => absurd hj (by omega)⟩, fun l hl => absurd hl (by simp), Nat.le_refl _, Nat.zero_le _⟩
  · simp at hcs
    have hlm : len ≤ m := by rw [hmm]; split <;> omega
    have hex : ∀ i, i < len → ∃ p : Value × List Nat, w.cell? (a.add i) = some p.1 ∧ ∃ Aj cj, p.1 = .slice Aj p.2.length cj ∧ Reads w w.heap.size 1 Aj p.2.length (us p.2) ∧ p.2.length ≤ maxLen ∧ Words p.2 := fun i hin => by
      obtain ⟨cs', h1, h2⟩ := hi i (by omega)
      obtain ⟨_, hlen, h3⟩ := World.cells?_some h1
      rw [sliceCells] at h3 hlen
      match cs', hlen with
      | [v'], _ =>
        obtain ⟨Aj, nj, cj, l, rfl, hr⟩ := open_words h2
        have h6 := h3 0 (by decide)
        have hlj := hr.1.word_len
        have e0 : (a.add (i * 1)).add 0 = a.add i := by rw [Nat.mul_one]; generalize a.add i = b; cases b; simp [Addr.add]
        refine ⟨(.slice Aj nj cj, l), ?_, Aj, cj, ?_, ?_, ?_, hr.2.1⟩
        · rw [e0] at h6
          exact h6
        · dsimp only; rw [hlj]
        · dsimp only; rw [hlj]; exact hr.1
        · dsimp only; rw [hlj]; exact hr.2.2.2
    obtain ⟨g, hg⟩ : ∃ g : Nat → Value × List Nat, ∀ i, i < len → w.cell? (a.add i) = some (g i).1 ∧ ∃ Aj cj, (g i).1 = .slice Aj (g i).2.length cj ∧ Reads w w.heap.size 1 Aj (g i).2.length (us (g i).2) ∧ (g i).2.length ≤ maxLen ∧ Words (g i).2 :=
      ⟨fun i => if hi : i < len then Classical.choose (hex i hi) else (.slice none 0 0, []), fun i hin => by dsimp only; rw [dif_pos hin]; exact Classical.choose_spec (hex i hin)⟩
    have hgl : ∀ j, j < len → ((List.range len).map (fun i => (g i).2)).getD j [] = (g j).2 := fun j hj => by simp [hj]
    refine ⟨some a, len, cap, (List.range len).map (fun i => (g i).2), hcs, ⟨by simp, (List.range len).map (fun i => (g i).1), ⟨by simp, fun h0 => ⟨a, rfl, ?_, fun j u hu => ?_⟩⟩, fun j hj => ?_⟩, fun l hl => ?_, hl, by omega⟩
    · have h1 := (hg 0 h0).1
      have := lt_of_cell _ _ h1
      rwa [block_of_add] at this
    · have hj : j < len := by
        have := (List.getElem?_eq_some_iff.1 hu).1
        simpa using this
      simp [hj] at hu
      rw [← hu]
      exact (hg j hj).1
    · obtain ⟨_, Aj, cj, e1, e2, e3, _⟩ := hg j hj
      rw [hgl j hj]
      exact ⟨Aj, cj, by simp [hj, e1], e2, e3⟩
    · obtain ⟨i, hi, rfl⟩ := List.mem_map.1 hl
      obtain ⟨_, _, _, _, _, _, e4⟩ := hg i (List.mem_range.1 hi)
      exact e4
theorem open_mo {r : Reach} {b0 : Nat} {v : Value} {d : DataW H} {p : List MemPlace} (hv : Value.okWide Tryd.prog w r b0 25 v)
    (h : DataW.Trod enc Tryd.prog w 0 (fun _ => true) held 25 v d p) : ∃ m, MoR w w.heap.size v m := by
  obtain ⟨v0, v1, v2, y0, y1, y2, n, rfl, _, _, h0, h1, h2⟩ := Go.Joins.open_agg3 Tryd.underlying25 (by kernel_rfl) (by kernel_rfl) hv h
  obtain ⟨z, hz, _, hw⟩ := DataW.trod_int Tryd.underlying3 h0
  obtain ⟨A1, n1, c1, l1, rfl, w1⟩ := open_words h1
  obtain ⟨A2, n2, c2, l2, rfl, w2⟩ := open_rows h2
  injection hz with hz
  subst hz
  have e1 := w1.1.word_len
  have e2 := w2.1.len
  refine ⟨⟨z, l1, l2⟩, ⟨A1, c1, A2, c2, by dsimp only; rw [e1, e2], by dsimp only; rw [e1]; exact w1.1, by dsimp only; rw [e2]; exact w2.1⟩, ⟨by dsimp only; rw [e1]; exact w1.2.2.2, by dsimp only; rw [e2]; exact w2.2.2.2⟩, ?_, w1.2.1, w2.2.1⟩
  have q1 : IntKind.i64.min = -9223372036854775808 := rfl
  have q2 : IntKind.i64.max = 9223372036854775807 := rfl
  simp [Lit.wf] at hw
  dsimp only
  omega
end
/-- what the row's opening says of a slice of nodes: it is nil, or its first elements are nodes -/
def NdRow (w : World) (a : Option Addr) (len cap : Nat) (l : List Nd) : Prop :=
  Reads w w.heap.size 6 a len (nds l) ∧ (∀ n ∈ l, NdW n) ∧ len ≤ cap ∧ len ≤ maxLen
section
variable {H : Type} {enc : TypeId × Value → H} {w : World} {base : Nat} {spare : Nat → Bool} {held : Bool}
theorem field_int {n' : Nat} {cs : List Value} {xs : List (DataW H × List MemPlace)} {j : Nat} (hl : cs.length = 6) (hj : j < 6) (hx : j < xs.length)
    (h : DataW.trod enc Tryd.prog w base spare held n' 3 ((cs.drop j).take (Tryd.prog.cellsOf 3)) = xs[j]?) : ∃ z : Int, cs[j]? = some (.int .i64 z) ∧ (Lit.int .i64 z).wf = true := by
  rw [intCells, List.drop_eq_getElem_cons (by omega), List.take_succ_cons, List.take_zero, List.getElem?_eq_getElem hx] at h
  obtain ⟨z, hz, _, hw⟩ := DataW.trod_int Tryd.underlying3 h
  refine ⟨z, ?_, hw⟩
  rw [List.getElem?_eq_getElem (by omega)]
  injection hz with hz
  rw [hz]
theorem one_node {n' : Nat} {cs : List Value} {x : DataW H × List MemPlace} (h : DataW.trod enc Tryd.prog w base spare held n' 62 cs = some x) : ∃ n : Nd, cs = ndC n ∧ NdW n := by
  obtain ⟨xs, m, _, _, hl, hxl, hf⟩ := DataW.trod_struct Tryd.underlying62 h
  rw [nodeCells] at hl
  have hx6 : xs.length = 6 := hxl
  obtain ⟨z0, c0, w0⟩ := field_int (j := 0) hl (by decide) (by omega) (hf 0 _ rfl)
  obtain ⟨z1, c1, w1⟩ := field_int (j := 1) hl (by decide) (by omega) (hf 1 _ rfl)
  obtain ⟨z2, c2, w2⟩ := field_int (j := 2) hl (by decide) (by omega) (hf 2 _ rfl)
  obtain ⟨z3, c3, w3⟩ := field_int (j := 3) hl (by decide) (by omega) (hf 3 _ rfl)
  obtain ⟨z4, c4, w4⟩ := field_int (j := 4) hl (by decide) (by omega) (hf 4 _ rfl)
  obtain ⟨z5, c5, w5⟩ := field_int (j := 5) hl (by decide) (by omega) (hf 5 _ rfl)
  refine ⟨⟨z0, z1, z2, z3, z4, z5⟩, ?_, ⟨w0, w1, w2, w3, w4, w5⟩⟩
  match cs, hl with
  | [a, b, c, d, e, f], _ =>
    simp at c0 c1 c2 c3 c4 c5
    simp [ndC, c0, c1, c2, c3, c4, c5]
theorem open_nodes {fuel : Nat} {A : Option Addr} {n c : Nat} {x : DataW H × List MemPlace} (h : DataW.trod enc Tryd.prog w base spare held fuel 26 [.slice A n c] = some x) : ∃ l, NdRow w A n c l := by
  rcases open_slice Tryd.underlying26 h with ⟨hcs, _⟩ | ⟨a, len, cap, m, n', D, Pl, hcs, hb, hl, hm, hmm, _, hi⟩
  · simp at hcs
    obtain ⟨rfl, rfl, rfl⟩ := hcs
    exact ⟨[], Reads.none_, fun n hn => absurd hn (by simp), Nat.le_refl _, Nat.zero_le _⟩
  · simp at hcs
    obtain ⟨rfl, rfl, rfl⟩ := hcs
    have hlm : n ≤ m := by rw [hmm]; split <;> omega
    have hex : ∀ i, i < n → ∃ nd : Nd, (∀ j, j < 6 → w.cell? (a.add (i * 6 + j)) = (ndC nd)[j]?) ∧ NdW nd := fun i hin => by
      obtain ⟨cs', h1, h2⟩ := hi i (by omega)
      obtain ⟨nd, hc, hw⟩ := one_node h2
      obtain ⟨_, _, h3⟩ := World.cells?_some h1
      rw [nodeCells] at h3
      refine ⟨nd, fun j hj => ?_, hw⟩
      have := h3 j hj
      rw [add_of_add, hc] at this
      exact this
    obtain ⟨g, hg⟩ : ∃ g : Nat → Nd, ∀ i, i < n → (∀ j, j < 6 → w.cell? (a.add (i * 6 + j)) = (ndC (g i))[j]?) ∧ NdW (g i) :=
      ⟨fun i => if hi : i < n then Classical.choose (hex i hi) else nd0, fun i hin => by dsimp only; rw [dif_pos hin]; exact Classical.choose_spec (hex i hin)⟩
    refine ⟨(List.range n).map g, ⟨by rw [nds_length]; simp, fun h0 => ⟨a, rfl, ?_, fun j u hu => ?_⟩⟩, fun nd hn => ?_, hl, by omega⟩
    · have h1 := (hg 0 h0).1 0 (by decide)
      rw [show (0 : Nat) * 6 + 0 = 0 from rfl] at h1
      rcases Nat.lt_or_ge (a.add 0).block w.heap.size with h' | h'
      · rwa [block_of_add] at h'
      · simp [World.cell?, Array.getElem?_eq_none h', ndC] at h1
    · have hj : j < n * 6 := by
        have := (List.getElem?_eq_some_iff.1 hu).1
        rw [nds_length] at this
        simpa using this
      have hq := nds_at ((List.range n).map g) (j / 6) (j % 6) (by simp; omega) (by omega)
      rw [show j / 6 * 6 + j % 6 = j from by omega] at hq
      have hgd : ((List.range n).map g).getD (j / 6) nd0 = g (j / 6) := by simp [show j / 6 < n by omega]
      rw [hgd] at hq
      rw [hu] at hq
      have h1 := (hg (j / 6) (by omega)).1 (j % 6) (by omega)
      rw [show j / 6 * 6 + j % 6 = j from by omega] at h1
      rw [h1, ← hq]
    · obtain ⟨i, hin, rfl⟩ := List.mem_map.1 hn
      exact (hg i (List.mem_range.1 hin)).2
end
end Go.Proofs.YtjpmhbnikoggaaaDoor.ckf
