/- Layer 6: texts joined: Zl Zm. -/
import Derived.Test.YtfbgabcdeecpoaaDoorNMs
import Derived.Test.YtfbgabcdeecpoaaDoorCards
import Derived.Test.YtfbgabcdeecpoaaDoorTie
import Derived.ProofKit
import Derived.OpenShut
import Derived.LaidMore
import Derived.Lay
import Derived.Lib.LaidTab
import Derived.Lib.LaidU8
import Derived.Shelf.Vars
import Derived.Deep.DeepHandedRow
import Derived.Deep.DeepWitnessRowRef
import Derived.SevenTiedAt
import Derived.Lib.SmallJoins
import Derived.SliceStrings
import Derived.Deep.Slices
import Derived.Deep.Fields
import Derived.ChangeSame
/- Layer 24: small priors. -/
namespace Go.Proofs.YtfbgabcdeecpoaaDoor
open Go.RowKit Go.Proofs.Ws
set_option maxRecDepth 100000
def GivesAB (w : World) (e : Ending) (w' : World) : Prop := ∃ b, e = .returned (.bool b) ∧ Below w.heap.size w w'
set_option maxHeartbeats 4000000 in
theorem rFew_any (p : Pri) (v : Value) (x : Int) (w : World) (hM : PrR w w.heap.size v p) :
    Calls Tryd.prog 13 #[v, .int .i64 x] w (GivesAB w) := by
  have hlm := hM.lim
  obtain ⟨A1, c1, A2, c2, rfl, hv, hr⟩ := hM.ex
  have HB1 : Hid (Below w.heap.size w (w.alloc (.cells #[.slice A1 p.wt.length c1, .slice A2 p.cells.length c2] 25))) := Lib.hid ((Below.refl _ w).alloc (Nat.le_refl _) _)
  have HPB := Lib.hid (PBox.made w (.slice A1 p.wt.length c1) (.slice A2 p.cells.length c2))
  have b0 := HPB.out.c0
  have b1 := HPB.out.c1
  have HCC : Hid (∀ k, k < p.cells.length → ∃ ad Ak nk ck, A2 = some ad ∧ (w.alloc (.cells #[.slice A1 p.wt.length c1, .slice A2 p.cells.length c2] 25)).cell? (ad.add k) = some (.slice Ak nk ck)) := Lib.hid (fun k hk => by
    obtain ⟨ad, Ak, ck, hA, had, hcell, _⟩ := hr.at_ hk
    exact ⟨ad, Ak, _, ck, hA, (HB1.out.cell (p := ad.add k) (by rw [block_of_add]; exact had)).trans hcell⟩)
  unfold maxLen at hlm
  clear hM hv hr
  generalize p.wt.length = n at *
  generalize p.cells.length = m at *
  by_cases h1 : x < n
  · have d1 : decide (x < (n : Int)) = true := decide_eq_true h1
    go_enter Tryd.func13, Tryd.ntmps13
    go_wp2
    go_ret
    exact ⟨false, rfl, HB1.out⟩
  · have d1 : decide (x < (n : Int)) = false := decide_eq_false h1
    by_cases h2 : 8 < m
    · have d2 : decide ((8 : Int) < (m : Int)) = true := decide_eq_true (by omega)
      go_enter Tryd.func13, Tryd.ntmps13
      go_wp2
      go_ret
      exact ⟨false, rfl, HB1.out⟩
    · have d2 : decide ((8 : Int) < (m : Int)) = false := decide_eq_false (by omega)
      go_enter Tryd.func13, Tryd.ntmps13
      go_wp2
      generalize w.alloc (.cells #[.slice A1 n c1, .slice A2 m c2] 25) = w1 at *
      go_loopw [5] (fun i wr => ∃ k : Nat, k ≤ m ∧ i = .int .i64 (k : Int) ∧ wr = w1) (fun i _ => m - (intOf i).toNat)
      case atStart => exact ⟨0, Nat.zero_le _, rfl, by first | rfl | trivial⟩
      case round =>
        obtain ⟨k, hk, rfl, rfl⟩ := hrel
        by_cases hlt : k < m
        · obtain ⟨ad, Ak, nk, ck, rfl, hcell⟩ := HCC.out k hlt
          by_cases h3 : 70 < nk
          · have d3 : decide ((70 : Int) < (nk : Int)) = true := decide_eq_true (by omega)
            go_wp2
            go_ret
            exact ⟨false, rfl, HB1.out⟩
          · have d3 : decide ((70 : Int) < (nk : Int)) = false := decide_eq_false (by omega)
            go_wp2
            go_roundw
            case rel => exact ⟨k + 1, by omega, by go_num, by first | rfl | trivial⟩
            case measure => first | (simp [intOf]; done) | (simp [intOf]; omega)
        · obtain rfl : k = m := by omega
          go_wp2
          go_ret
          exact ⟨true, rfl, HB1.out⟩
end Go.Proofs.YtfbgabcdeecpoaaDoor
/- Layer 24: what the rows list, and what it gives the walks; a prior that came in. -/
namespace Go.Proofs.YtfbgabcdeecpoaaDoor.agr
open Go.ChangeShapes Go.WideShapes Go.ChangeAt Go.RowKit Go.Proofs.Ws Go.Deep
set_option maxRecDepth 100000
def LL : List (String × DataW Unit) := Rows.agreementChecksRow.laid
theorem own : ownKnob Tryd.prog.godebug = none := by kernel_rfl
theorem laidOut : laidOutB Tryd.prog = true := by kernel_rfl
theorem g64 : Tryd.prog.globalNamed "math/bits.deBruijn64tab" = some 1 := by kernel_rfl
theorem ty64 : (Tryd.prog.globals[1]?).map (·.type) = some 92 := by kernel_rfl
theorem c85 : Tryd.prog.cellsOf 92 = 64 := by kernel_rfl
theorem c5 : Tryd.prog.cellsOf 5 = 1 := by kernel_rfl
def zs64 : List Int := Lib.deBruijn64tab.map (fun n : Nat => (n : Int))
theorem datum64 : (Rows.laid_math_bits_deBruijn64tab : DataW Unit) = Lib.tabData .u8 zs64 := by kernel_rfl
theorem zs_at (j : Nat) (hj : j < 64) : zs64.getD j 0 = ((Lib.deBruijn64tab.getD j 0 : Nat) : Int) := by
  have h : ∀ k : Fin 64, zs64.getD k.1 0 = ((Lib.deBruijn64tab.getD k.1 0 : Nat) : Int) := by decide +kernel
  exact h ⟨j, hj⟩
theorem lt_of_cell {W : World} (a : Addr) (v : Value) (hv : W.cell? a = some v) : a.block < W.heap.size := by
  rcases Nat.lt_or_ge a.block W.heap.size with h' | h'
  · exact h'
  · simp [World.cell?, Array.getElem?_eq_none h'] at hv
theorem tab_of {W : World} (h : Lib.VarReads Tryd.prog W "math/bits.deBruijn64tab" Rows.laid_math_bits_deBruijn64tab) : Tab W := by
  obtain ⟨g, t, cs, fuel, p, hg, ht, hv, hd⟩ := h
  obtain rfl := Option.some.inj (g64.symm.trans hg)
  obtain rfl := Option.some.inj (ty64.symm.trans ht)
  rw [datum64] at hd
  have e := Lib.cells_of_tab Tryd.underlying92 Tryd.underlying5 c5 c85 hd
  have hti : Lib.TabIs Tryd.prog W "math/bits.deBruijn64tab" .u8 zs64 := by
    unfold Lib.TabIs
    rw [hv, ← e]
  have hl : zs64.length = 64 := by kernel_rfl
  refine ⟨fun j hj => ?_, ?_⟩
  · have := hti.cell g64 j (by omega)
    rw [zs_at j hj] at this
    exact this
  · exact lt_of_cell ⟨1, 0, none⟩ _ (hti.cell g64 0 (by omega))
theorem lits_inj {l m : List Int} (h : (lits .i64 l : List (DataW Unit)) = lits .i64 m) : l = m := by
  unfold lits at h
  have h1 : Function.Injective (fun z : Int => (DataW.lit (.int .i64 z) : DataW Unit)) := fun a b e => by
    simp only [DataW.lit.injEq, Lit.int.injEq, true_and] at e
    exact e
  exact List.map_inj_right (fun a b e => h1 e) |>.1 h
theorem fin_of {W : World} (h : Lib.VarReads Tryd.prog W "witting/partition.finest" Rows.laid_witting_partition_finest) : FinW W := by
  obtain ⟨g, t, cs, fuel, p, hg, ht, hv, hd⟩ := h
  have gf : Tryd.prog.globalNamed "witting/partition.finest" = some 0 := by kernel_rfl
  have tf : (Tryd.prog.globals[0]?).map (·.type) = some 22 := by kernel_rfl
  obtain rfl := Option.some.inj (gf.symm.trans hg)
  obtain rfl := Option.some.inj (tf.symm.trans ht)
  have hdat : (Rows.laid_witting_partition_finest : DataW Unit) = .slice (lits .i64 (finL 64)) [] := by kernel_rfl
  rw [hdat] at hd
  have hcell := World.var?_cell gf hv
  rcases open_ints Tryd.underlying22 Tryd.underlying3 (by kernel_rfl) hd with ⟨_, hx⟩ | ⟨a, len, cap, zs, hcs, _, hl, hm, hz, hx, hcl, _⟩
  · simp at hx
  · simp only [Prod.mk.injEq, DataW.slice.injEq] at hx
    obtain ⟨⟨e1, e2⟩, _⟩ := hx
    simp only [if_true] at hz
    have e := lits_inj e1
    have hlen : len = 64 := by
      have := congrArg List.length e
      rw [finL_length, List.length_take] at this
      omega
    subst hlen
    have h0 := hcell 0
    rw [← Array.getElem?_toList, hcs] at h0
    refine ⟨lt_of_cell _ _ h0, some a, cap, h0, by rw [ints_length, finL_length], fun _ => ⟨a, rfl, ?_, fun j u hu => ?_⟩⟩
    · have := lt_of_cell _ _ (hcl 0 (by omega))
      rwa [block_of_add] at this
    · rw [e] at hu
      unfold ints at hu
      rw [List.getElem?_map, List.getElem?_take] at hu
      split at hu
      · rename_i hj
        have hjz : j < zs.length := by omega
        rw [List.getElem?_eq_getElem hjz] at hu
        simp at hu
        subst hu
        rw [hcl j hjz, List.getD_eq_getElem?_getD, List.getElem?_eq_getElem hjz]
        rfl
      · cases hu
theorem env_of {W : World} (h : laidMetH Tryd.prog LL W) : Tab W ∧ FinW W := by
  rw [MakeChecks.laidMetH_plain _ _ _ (by kernel_rfl)] at h
  have m1 : ("math/bits.deBruijn64tab", Rows.laid_math_bits_deBruijn64tab) ∈ LL := by
    show _ ∈ [("math/bits.deBruijn64tab", Rows.laid_math_bits_deBruijn64tab), ("witting/partition.finest", Rows.laid_witting_partition_finest)]
    exact .head _
  have m2 : ("witting/partition.finest", Rows.laid_witting_partition_finest) ∈ LL := by
    show _ ∈ [("math/bits.deBruijn64tab", Rows.laid_math_bits_deBruijn64tab), ("witting/partition.finest", Rows.laid_witting_partition_finest)]
    exact .tail _ (.head _)
  exact ⟨tab_of (Lib.laidMet.reads h m1), fin_of (Lib.laidMet.reads h m2)⟩
noncomputable def laidW (os : Os) : World := World.laidAll Tryd.prog os LL
theorem laidW_os (os : Os) : (laidW os).os = os := World.laidAll_os _ _ _
theorem laid_met (os : Os) (args : Array Value) : laidMet Tryd.prog LL ((laidW os).forCall (fun _ _ => 0) ⟨#[], args, []⟩).memory :=
  laidMet_laidAll _ (by kernel_rfl) (by kernel_rfl)
theorem vars_ok (os : Os) (args : Array Value) : ((laidW os).forCall (fun _ _ => 0) ⟨#[], args, []⟩).variablesRefB Tryd.prog = true := by kernel_rfl
theorem heap_ok (os : Os) (args : Array Value) : (((laidW os).forCall (fun _ _ => 0) ⟨#[], args, []⟩).heap.toList.drop Tryd.prog.globals.size).take ((begin Tryd.prog (fun _ _ => 0) default).world.heap.size - Tryd.prog.globals.size) =
      (begin Tryd.prog (fun _ _ => 0) default).world.heap.toList.drop Tryd.prog.globals.size := by kernel_rfl
theorem no_looks : false = Tryd.pinned.checked.prog.looks [] := by kernel_rfl
theorem sliceCells : Tryd.prog.cellsOf 22 = 1 := by kernel_rfl
def IRow (w : World) (A : Option Addr) (n c : Nat) (l : List Int) : Prop := Reads w w.heap.size 1 A n (ints l) ∧ n ≤ c ∧ n ≤ maxLen
section
variable {H : Type} {enc : TypeId × Value → H} {w : World} {base : Nat} {spare : Nat → Bool} {held : Bool}
theorem open_is0 {fuel : Nat} {v : Value} {x : DataW H × List MemPlace} (h : DataW.trod enc Tryd.prog w base spare held fuel 22 [v] = some x) : ∃ A n c l, v = .slice A n c ∧ IRow w A n c l := by
  rcases open_ints Tryd.underlying22 Tryd.underlying3 (by kernel_rfl) h with ⟨hcs, _⟩ | ⟨a, len, cap, zs, hcs, _, hl, hm, hz, _, hcell, _⟩
  · simp at hcs
    exact ⟨none, 0, 0, [], hcs, (by unfold ints; exact Reads.none_), Nat.le_refl _, Nat.zero_le _⟩
  · simp at hcs
    have hlz : len ≤ zs.length := by rw [hz]; split <;> omega
    refine ⟨some a, len, cap, zs.take len, hcs, ⟨by rw [ints_length, List.length_take]; omega, fun h0 => ⟨a, rfl, ?_, fun j u hj => ?_⟩⟩, hl, by omega⟩
    · have h1 := hcell 0 (by omega)
      have := lt_of_cell _ _ h1
      rwa [block_of_add] at this
    · unfold ints at hj
      rw [List.getElem?_map, List.getElem?_take] at hj
      split at hj
      · rename_i hjl
        have hjz : j < zs.length := by omega
        rw [List.getElem?_eq_getElem hjz] at hj
        simp at hj
        rw [hcell j hjz, List.getD_eq_getElem?_getD, List.getElem?_eq_getElem hjz, ← hj]
        rfl
      · cases hj
theorem open_rows {fuel : Nat} {v : Value} {x : DataW H × List MemPlace} (h : DataW.trod enc Tryd.prog w base spare held fuel 23 [v] = some x) : ∃ A n c ls, v = .slice A n c ∧ ZsR w w.heap.size A n ls ∧ n ≤ maxLen := by
  rcases open_slice Tryd.underlying23 h with ⟨hcs, _⟩ | ⟨a, len, cap, m, n', D, Pl, hcs, hb, hl, hm, hmm, _, hi⟩
  · simp at hcs
    exact ⟨none, 0, 0, [], hcs, ⟨rfl, [], Reads.none_, fun j hj => absurd hj (by omega)⟩, Nat.zero_le _⟩
  · simp at hcs
    have hlm : len ≤ m := by rw [hmm]; split <;> omega
    have hex : ∀ i, i < len → ∃ p : Value × List Int, w.cell? (a.add i) = some p.1 ∧ ∃ Aj cj, p.1 = .slice Aj p.2.length cj ∧ Reads w w.heap.size 1 Aj p.2.length (ints p.2) ∧ p.2.length ≤ maxLen := fun i hin => by
      obtain ⟨cs', h1, h2⟩ := hi i (by omega)
      obtain ⟨_, hlen, h3⟩ := World.cells?_some h1
      rw [sliceCells] at h3 hlen
      match cs', hlen with
      | [v'], _ =>
        obtain ⟨Aj, nj, cj, l, rfl, hr⟩ := open_is0 h2
        have h6 := h3 0 (by decide)
        have hlj := hr.1.int_len
        have e0 : (a.add (i * 1)).add 0 = a.add i := by rw [Nat.mul_one]; generalize a.add i = b; cases b; simp [Addr.add]
        refine ⟨(.slice Aj nj cj, l), ?_, Aj, cj, ?_, ?_, ?_⟩
        · rw [e0] at h6
          exact h6
        · dsimp only; rw [hlj]
        · dsimp only; rw [hlj]; exact hr.1
        · dsimp only; rw [hlj]; exact hr.2.2
    obtain ⟨g, hg⟩ : ∃ g : Nat → Value × List Int, ∀ i, i < len → w.cell? (a.add i) = some (g i).1 ∧ ∃ Aj cj, (g i).1 = .slice Aj (g i).2.length cj ∧ Reads w w.heap.size 1 Aj (g i).2.length (ints (g i).2) ∧ (g i).2.length ≤ maxLen :=
      ⟨fun i => if hi : i < len then Classical.choose (hex i hi) else (.slice none 0 0, []), fun i hin => by dsimp only; rw [dif_pos hin]; exact Classical.choose_spec (hex i hin)⟩
    have hgl : ∀ j, j < len → ((List.range len).map (fun i => (g i).2)).getD j [] = (g j).2 := fun j hj => by simp [hj]
    refine ⟨some a, len, cap, (List.range len).map (fun i => (g i).2), hcs, ⟨by simp, (List.range len).map (fun i => (g i).1), ⟨by simp, fun h0 => ⟨a, rfl, ?_, fun j u hu => ?_⟩⟩, fun j hj => ?_⟩, by omega⟩
    · have h1 := (hg 0 h0).1
      have := lt_of_cell _ _ h1
      rwa [block_of_add] at this
    · have hj : j < len := by
        have := (List.getElem?_eq_some_iff.1 hu).1
        simpa using this
      simp [hj] at hu
      rw [← hu]
      exact (hg j hj).1
    · obtain ⟨_, Aj, cj, e1, e2, e3⟩ := hg j hj
      rw [hgl j hj]
      exact ⟨Aj, cj, by simp [hj, e1], e2, e3⟩
theorem open_prior {r : Reach} {b0 : Nat} {v : Value} {d : DataW H} {p : List MemPlace} (hv : Value.okWide Tryd.prog w r b0 25 v)
    (h : DataW.Trod enc Tryd.prog w 0 (fun _ => true) held 25 v d p) : ∃ P, PrR w w.heap.size v P := by
  obtain ⟨v1, v2, y1, y2, n, rfl, _, _, h1, h2⟩ := Go.Joins.open_agg2 Tryd.underlying25 (by kernel_rfl) (by kernel_rfl) hv h
  obtain ⟨A1, n1, c1, l1, rfl, w1⟩ := open_is0 h1
  obtain ⟨A2, n2, c2, l2, rfl, w2, hm2⟩ := open_rows h2
  have e1 := w1.1.int_len
  have e2 := w2.len
  refine ⟨⟨l1, l2⟩, ⟨A1, c1, A2, c2, by dsimp only; rw [e1, e2], by dsimp only; rw [e1]; exact w1.1, by dsimp only; rw [e2]; exact w2⟩, ⟨by dsimp only; rw [e1]; exact w1.2.2, by dsimp only; rw [e2]; exact hm2⟩⟩
end
theorem open_arr2 {H : Type} {enc : TypeId × Value → H} {W : World} {held : Bool} {r : Reach} {b0 : Nat} {v : Value} {d : DataW H} {p : List MemPlace} (hv : Value.okWide Tryd.prog W r b0 39 v)
    (h : DataW.Trod enc Tryd.prog W 0 (fun _ => true) held 39 v d p) : ∃ x0 x1 : Int, v = .agg #[.int .i64 x0, .int .i64 x1] := by
  obtain ⟨cs, rfl, hsz⟩ : ∃ xs : Array Value, v = .agg xs ∧ xs.size = 2 := by
    simp only [Value.okWide, Tryd.underlying39] at hv
    obtain ⟨cs, h1, h2, _⟩ := hv
    exact ⟨cs, h1, h2.trans (by kernel_rfl)⟩
  obtain ⟨fuel, hf⟩ := h
  obtain ⟨xs, m, _, _, hl, hxl, hg⟩ := DataW.trod_array Tryd.underlying39 hf
  obtain ⟨c0, c1, rfl⟩ : ∃ c0 c1, cs = #[c0, c1] := by
    match cs, hsz with
    | ⟨[c0, c1]⟩, _ => exact ⟨c0, c1, rfl⟩
  have ce : Tryd.prog.cellsOf 3 = 1 := by kernel_rfl
  match xs, hxl with
  | [y0, y1], _ =>
    have g0 := hg 0 (by omega)
    have g1 := hg 1 (by omega)
    rw [ce] at g0 g1
    simp [Value.cells] at g0 g1
    obtain ⟨x0, e0, _⟩ := DataW.trod_int Tryd.underlying3 g0
    obtain ⟨x1, e1, _⟩ := DataW.trod_int Tryd.underlying3 g1
    simp at e0 e1
    exact ⟨x0, x1, by rw [e0, e1]⟩
end Go.Proofs.YtfbgabcdeecpoaaDoor.agr
