/- Layer 4: what the rows list, and what it gives the walks; a signature that came in; a world for the witness. -/
import Derived.Test.YtichhbnpdhfimaaDoorSt
import Derived.Test.YtichhbnpdhfimaaDoorCards
import Derived.Test.YtichhbnpdhfimaaDoorTie
import Derived.ProofKit
import Derived.OpenShut
import Derived.LaidMore
import Derived.Lay
import Derived.Lib.LaidU8
import Derived.Lib.SmallJoins
import Derived.SliceStrings
import Derived.Shelf.Vars
import Derived.Deep.DeepHandedRow
import Derived.Deep.DeepWitnessRowRef
import Derived.SevenTiedAt
namespace Go.Proofs.YtichhbnpdhfimaaDoor.sig
open Go.ChangeShapes Go.WideShapes Go.ChangeAt Go.RowKit Go.Proofs.Ws
def LL : List (String × DataW Unit) := Rows.signatureChecksRow.laid
theorem own : ownKnob Tryd.prog.godebug = none := by kernel_rfl
theorem laidOut : laidOutB Tryd.prog = true := by kernel_rfl
theorem lt_of_cell {W : World} (a : Addr) (v : Value) (hv : W.cell? a = some v) : a.block < W.heap.size := by
  rcases Nat.lt_or_ge a.block W.heap.size with h' | h'
  · exact h'
  · simp [World.cell?, Array.getElem?_eq_none h'] at hv
theorem strs_inj : ∀ {l m : List ByteArray}, (Go.ChangeShapes.strs l : List (DataW Unit)) = Go.ChangeShapes.strs m → l = m
  | [], [], _ => rfl
  | [], _ :: _, h => by simp [Go.ChangeShapes.strs] at h
  | _ :: _, [], h => by simp [Go.ChangeShapes.strs] at h
  | x :: l, y :: m, h => by
    simp only [Go.ChangeShapes.strs, List.map_cons, List.cons.injEq, DataW.lit.injEq, Lit.string.injEq] at h
    have e : x = y := ByteArray.ext (Array.toList_inj.1 h.1)
    rw [e, strs_inj (l := l) (m := m) h.2]
/-- what a slice of strings that came in leads to -/
def SL0 (w : World) (a : Option Addr) (n c : Nat) (l : List ByteArray) : Prop :=
  Reads w w.heap.size 1 a n (ss l) ∧ (a = none → n = 0 ∧ c = 0) ∧ n ≤ maxLen ∧ (∀ x ∈ l, x.size ≤ maxLen) ∧ n ≤ c ∧ c ≤ 9223372036854775807
theorem SL0.small {w : World} {a : Option Addr} {n c : Nat} {l : List ByteArray} (h : SL0 w a n c l) (hn : n ≤ 20) : SL w w.heap.size a n c l := ⟨h.1, h.2.1, hn, h.2.2.2.1, h.2.2.2.2⟩
theorem open_strl {H : Type} {enc : TypeId × Value → H} {W : World} {held : Bool} {fuel : Nat} {v : Value} {y : DataW H × List MemPlace}
    (h : DataW.trod enc Tryd.prog W 0 (fun _ => true) held fuel 37 [v] = some y) : ∃ a n c l, v = .slice a n c ∧ SL0 W a n c l ∧ (y.1 = .nil ∨ ∃ r : List (DataW H), y.1 = .slice (Go.ChangeShapes.strs l) r ∧ (r = [] → c = n)) := by
  rcases open_strings Tryd.underlying37 Tryd.underlying9 (by kernel_rfl) h with ⟨hcs, hx⟩ | ⟨a, len, cap, sl, hcs, _, hl, hm, hz, hx, hcell, hsz⟩
  · simp at hcs
    subst hcs
    exact ⟨none, 0, 0, [], rfl, ⟨Reads.none_, fun _ => ⟨rfl, rfl⟩, Nat.zero_le _, by simp, Nat.le_refl _, by omega⟩, .inl (by rw [hx])⟩
  · simp at hcs
    subst hcs
    simp only [if_true] at hz
    refine ⟨some a, len, cap, sl.take len, rfl, ⟨⟨by rw [ss_length]; simp; omega, fun h0 => ⟨a, rfl, ?_, fun j u hu => ?_⟩⟩, (fun e => by cases e), by omega, fun x hx => hsz x (List.mem_of_mem_take hx), hl, by unfold maxLen at hm; omega⟩, .inr ⟨_, by rw [hx], fun hr => ?_⟩⟩
    · have := lt_of_cell _ _ (hcell 0 (by omega))
      rwa [block_of_add] at this
    · unfold ss at hu
      rw [List.getElem?_map, List.getElem?_take] at hu
      split at hu
      · rename_i hj
        have hjz : j < sl.length := by omega
        rw [List.getElem?_eq_getElem hjz] at hu
        simp at hu
        subst hu
        rw [hcell j hjz, List.getD_eq_getElem?_getD, List.getElem?_eq_getElem hjz]
        rfl
      · cases hu
    · have := congrArg List.length hr
      simp [Go.ChangeShapes.strs] at this
      omega
theorem lst_of {W : World} {name : String} {g : Nat} {l : List ByteArray} (hg : Tryd.prog.globalNamed name = some g) (ht : (Tryd.prog.globals[g]?).map (·.type) = some 37)
    (h : Lib.VarReads Tryd.prog W name (.slice (Go.ChangeShapes.strs l) [])) : Lst W g l := by
  obtain ⟨g', t, cs, fuel, p, h1, h2, h3, h4⟩ := h
  obtain rfl := Option.some.inj (hg.symm.trans h1)
  obtain rfl := Option.some.inj (ht.symm.trans h2)
  have hcell := World.var?_cell hg h3
  obtain ⟨v, hv⟩ : ∃ v, cs.toList = [v] := by
    rcases open_strings Tryd.underlying37 Tryd.underlying9 (by kernel_rfl) h4 with ⟨hcs, _⟩ | ⟨a, len, cap, sl, hcs, _⟩
    · exact ⟨_, hcs⟩
    · exact ⟨_, hcs⟩
  rw [hv] at h4
  have h0 := hcell 0
  rw [← Array.getElem?_toList, hv] at h0
  obtain ⟨a, n, c, l', rfl, hS, hy⟩ := open_strl h4
  rcases hy with hy | ⟨r, hy, hr⟩
  · cases hy
  · injection hy with e1 e2
    have e := strs_inj e1
    subst e
    have hl := hS.1.str_len
    refine ⟨lt_of_cell _ _ h0, a, c, by rw [hl]; exact h0, by rw [hl]; exact hS.2.2.2.2.1, hS.2.2.2.2.2, by rw [hl]; exact hS.1⟩
theorem env_of {W : World} (h : laidMetH Tryd.prog LL W) (hs : W.ShapedOpen Tryd.prog) : EnvS W := by
  rw [MakeChecks.laidMetH_plain _ _ _ (by kernel_rfl)] at h
  have hm : ∃ m, W.cell? ⟨6, 0, none⟩ = some (.int .i64 m) :=
    cell_of_shapedOpen_int (zero := #[.int .i64 0]) (t := 3) hs (of_decide_eq_true (by kernel_rfl)) (by kernel_rfl) (by kernel_rfl) (by kernel_rfl) (by kernel_rfl) Tryd.underlying3
  have m1 : ("witting/signature.reserved", (.slice (Go.ChangeShapes.strs resW) [] : DataW Unit)) ∈ LL := by
    show _ ∈ [("unicode/utf8.acceptRanges", Rows.laid_unicode_utf8_acceptRanges), ("witting/signature.reserved", Rows.laid_witting_signature_reserved), ("witting/signature.agentNames", Rows.laid_witting_signature_agentNames), ("witting/signature.factNames", Rows.laid_witting_signature_factNames), ("witting/signature.actionNames", Rows.laid_witting_signature_actionNames), ("unicode/utf8.first", Rows.laid_unicode_utf8_first)]
    exact .tail _ (.head _)
  have m2 : ("witting/signature.agentNames", (.slice (Go.ChangeShapes.strs agW) [] : DataW Unit)) ∈ LL := by
    show _ ∈ [("unicode/utf8.acceptRanges", Rows.laid_unicode_utf8_acceptRanges), ("witting/signature.reserved", Rows.laid_witting_signature_reserved), ("witting/signature.agentNames", Rows.laid_witting_signature_agentNames), ("witting/signature.factNames", Rows.laid_witting_signature_factNames), ("witting/signature.actionNames", Rows.laid_witting_signature_actionNames), ("unicode/utf8.first", Rows.laid_unicode_utf8_first)]
    exact .tail _ (.tail _ (.head _))
  have m3 : ("witting/signature.factNames", (.slice (Go.ChangeShapes.strs faW) [] : DataW Unit)) ∈ LL := by
    show _ ∈ [("unicode/utf8.acceptRanges", Rows.laid_unicode_utf8_acceptRanges), ("witting/signature.reserved", Rows.laid_witting_signature_reserved), ("witting/signature.agentNames", Rows.laid_witting_signature_agentNames), ("witting/signature.factNames", Rows.laid_witting_signature_factNames), ("witting/signature.actionNames", Rows.laid_witting_signature_actionNames), ("unicode/utf8.first", Rows.laid_unicode_utf8_first)]
    exact .tail _ (.tail _ (.tail _ (.head _)))
  have m4 : ("witting/signature.actionNames", (.slice (Go.ChangeShapes.strs acW) [] : DataW Unit)) ∈ LL := by
    show _ ∈ [("unicode/utf8.acceptRanges", Rows.laid_unicode_utf8_acceptRanges), ("witting/signature.reserved", Rows.laid_witting_signature_reserved), ("witting/signature.agentNames", Rows.laid_witting_signature_agentNames), ("witting/signature.factNames", Rows.laid_witting_signature_factNames), ("witting/signature.actionNames", Rows.laid_witting_signature_actionNames), ("unicode/utf8.first", Rows.laid_unicode_utf8_first)]
    exact .tail _ (.tail _ (.tail _ (.tail _ (.head _))))
  refine ⟨lst_of (by kernel_rfl) (by kernel_rfl) (Lib.laidMet.reads h m1), lst_of (by kernel_rfl) (by kernel_rfl) (Lib.laidMet.reads h m2), lst_of (by kernel_rfl) (by kernel_rfl) (Lib.laidMet.reads h m3), lst_of (by kernel_rfl) (by kernel_rfl) (Lib.laidMet.reads h m4), hm, ?_⟩
  obtain ⟨m, hm⟩ := hm
  exact lt_of_cell ⟨6, 0, none⟩ _ hm
set_option maxRecDepth 100000 in
theorem open_sig {H : Type} {enc : TypeId × Value → H} {W : World} {held : Bool} {r : Reach} {b0 : Nat} {v : Value} {d : DataW H} {p : List MemPlace} (hv : Value.okWide Tryd.prog W r b0 39 v)
    (h : DataW.Trod enc Tryd.prog W 0 (fun _ => true) held 39 v d p) :
    ∃ a0 n0 c0 a1 n1 c1 a2 n2 c2 A F X, v = sv a0 n0 c0 a1 n1 c1 a2 n2 c2 ∧ SL0 W a0 n0 c0 A ∧ SL0 W a1 n1 c1 F ∧ SL0 W a2 n2 c2 X := by
  obtain ⟨v0, v1, v2, y0, y1, y2, n, rfl, _, _, h0, h1, h2⟩ := Go.Joins.open_agg3 Tryd.underlying39 (by kernel_rfl) (by kernel_rfl) hv h
  obtain ⟨a0, n0, c0, A, rfl, s0, _⟩ := open_strl h0
  obtain ⟨a1, n1, c1, F, rfl, s1, _⟩ := open_strl h1
  obtain ⟨a2, n2, c2, X, rfl, s2, _⟩ := open_strl h2
  exact ⟨a0, n0, c0, a1, n1, c1, a2, n2, c2, A, F, X, rfl, s0, s1, s2⟩
noncomputable def laidW (os : Os) : World := World.laidAll Tryd.prog os LL
theorem laidW_os (os : Os) : (laidW os).os = os := World.laidAll_os _ _ _
theorem laid_met (os : Os) (args : Array Value) : laidMet Tryd.prog LL ((laidW os).forCall (fun _ _ => 0) ⟨#[], args, []⟩).memory :=
  laidMet_laidAll _ (by kernel_rfl) (by kernel_rfl)
theorem vars_ok (os : Os) (args : Array Value) : ((laidW os).forCall (fun _ _ => 0) ⟨#[], args, []⟩).variablesRefB Tryd.prog = true := by kernel_rfl
theorem heap_ok (os : Os) (args : Array Value) : (((laidW os).forCall (fun _ _ => 0) ⟨#[], args, []⟩).heap.toList.drop Tryd.prog.globals.size).take ((begin Tryd.prog (fun _ _ => 0) default).world.heap.size - Tryd.prog.globals.size) =
      (begin Tryd.prog (fun _ _ => 0) default).world.heap.toList.drop Tryd.prog.globals.size := by kernel_rfl
theorem no_looks : false = Tryd.pinned.checked.prog.looks [] := by kernel_rfl
end Go.Proofs.YtichhbnpdhfimaaDoor.sig
