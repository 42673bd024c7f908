/- Contracts: Format on both sides. -/
import Derived.Test.YtnkjcieeckibbaaDoorWe
import Derived.Test.YtnkjcieeckibbaaDoorWh
import Derived.Test.YtnkjcieeckibbaaDoorSh
namespace Go.Proofs.YtnkjcieeckibbaaDoor
open Go.RowKit Go.Proofs.Ws
/-- the decimal numbers of some worlds, a space ahead of each but the first of all -/
def fmtL : List Nat → Bool → List UInt8
  | [], _ => []
  | k :: l, first => (if first then [] else [32]) ++ (Lib.decDigits k ++ fmtL l false)
/-- the text of a set -/
def fmtV (s : Nat) : List UInt8 := [123] ++ (fmtL (mem s) true ++ [125])
theorem digits_small (k : Nat) (h : k < 100) : (Lib.decDigits k).length ≤ 2 := by
  unfold Lib.decDigits
  split
  · simp
  · unfold Lib.decDigits
    rw [dif_pos (by omega)]
    simp
theorem itoa_any (k : Nat) (h : k < 100) (w : World) : Calls Tryd.prog 76 #[.int .i64 k] w fun e w' => e = .returned (.string ⟨(Lib.decDigits k).toArray⟩) ∧ w = w' :=
  (Tryd.strconv_Itoa_small k h w).mono fun _ _ ⟨h1, h2⟩ => ⟨h1, h2.symm⟩
theorem bytes_append (l m : List UInt8) : Lib.byteCells (l ++ m) = Lib.byteCells l ++ Lib.byteCells m := by simp [Lib.byteCells]
theorem own_below {w w' : World} {base size n : Nat} {e : TypeId} {v : Value} {xs : List Value} (h : w.ownsRow base e size v n xs) (hb : Below w.heap.size w w') : w'.ownsRow base e size v n xs := by
  refine ⟨h.1, ?_⟩
  rcases h.2 with h0 | ⟨g, cap, cur, hv, hB, hg, r⟩
  · exact .inl h0
  · exact .inr ⟨g, cap, cur, hv, hB, (hb.block g (lt_of_heap hg)).trans hg, r⟩
theorem builder_below {B b : Nat} {bs : List Value} {w w' : World} (h : Lib.IsBuilder 66 5 B b bs w) (hb : Below w.heap.size w w') : Lib.IsBuilder 66 5 B b bs w' := by
  rcases h with ⟨hB, v, hh, ho, hn⟩ | ⟨hB, v, hh, ho, hn⟩
  · exact .inl ⟨hB, v, (hb.block b (lt_of_heap hh)).trans hh, own_below ho hb, hn⟩
  · exact .inr ⟨hB, v, (hb.block b (lt_of_heap hh)).trans hh, own_below ho hb, hn⟩
theorem builder_new (w : World) : Lib.IsBuilder 66 5 w.heap.size w.heap.size (Lib.byteCells []) (w.alloc (.cells #[.pointer none, .slice none 0 0] 66)) :=
  .inl ⟨Nat.le_refl _, .slice none 0 0, heap_alloc_new w _, World.ownsRow_nil _ _ _ _, by simp [Value.ownBlock]⟩
theorem builtIs {B b : Nat} {bs : List Value} {w w' : World} (h : Built B b bs w w') : Lib.IsBuilder 66 5 B b bs w' := .inr h.1
theorem own_heap {w : World} {base n c : Nat} {A : Option Addr} {xs : List Value} (h : w.ownsRow base 3 1 (.slice A n c) n xs) (hn : 0 < n) :
    ∃ (g : Nat) (cur : Array Value), A = some ⟨g, 0, none⟩ ∧ w.heap[g]? = some (Obj.cells cur 3 (0, 0)) ∧ ∀ (j : Nat) (u : Value), xs[j]? = some u → cur[j]? = some u := by
  rcases h.2 with ⟨_, h0⟩ | ⟨g, cap, cur, hv, _, hg, _, _, _, ht⟩
  · omega
  · injection hv with hA _ _
    refine ⟨g, cur, hA, hg, fun j u hu => ?_⟩
    rw [← ht, List.getElem?_take] at hu
    split at hu
    · simpa using hu
    · cases hu
set_option maxRecDepth 100000 in
set_option maxHeartbeats 3200000 in
theorem format_any (s : Nat) (w : World) (hs : s < 18446744073709551616) (hT : Tab w) :
    Calls Tryd.prog 39 #[.int .u64 s] w fun e w' => e = .returned (.string ⟨(fmtV s).toArray⟩) ∧ Below w.heap.size w w' := by
  have HS := Lib.hid hs
  have HT := Lib.hid hT
  have hm := mem_length_le s
  clear hs hT
  go_enter Tryd.func39, Tryd.ntmps39
  go_wp2_with fail
  refine (wbyte w.heap.size w.heap.size (Lib.byteCells []) 123 _ (builder_new w) (by simp [Lib.byteCells]) (by simp)).mono ?_
  rintro e w1 ⟨rfl, hbu1⟩
  have hb1 : Below w.heap.size w w1 := ((Below.refl _ _).alloc (Nat.le_refl _) _).trans hbu1.2.1
  have his1 := builtIs hbu1
  have HT1 : Hid (Tab w1) := Lib.hid (HT.out.belowAt hb1 HT.out.2)
  clear hbu1
  have HIS := Lib.hid his1
  have HB1 := Lib.hid hb1
  clear his1 hb1
  go_wp2_with fail
  refine (members_own s w1 HS.out HT1.out).mono ?_
  rintro e w2 ⟨A, c, rfl, hown, hb2⟩
  have HIS2 : Hid (Lib.IsBuilder 66 5 w.heap.size w.heap.size (Lib.byteCells [123]) w2) := Lib.hid (builder_below HIS.out hb2)
  have HB2 : Hid (Below w.heap.size w w2) := Lib.hid (HB1.out.trans (hb2.mono HB1.out.size))
  have HO := Lib.hid hown
  clear hown hb2 HIS HB1
  go_wp2
  go_loopw [10] (fun i wr => ∃ (k : Nat) (acc : List UInt8), k ≤ (mem s).length ∧ i = .int .i64 k ∧ acc.length ≤ 1 + 3 * k ∧ Hid (acc ++ (fmtL ((mem s).drop k) (k == 0) ++ [125]) = fmtV s) ∧ Hid (Lib.IsBuilder 66 5 w.heap.size w.heap.size (Lib.byteCells acc) wr) ∧ Hid (Below w.heap.size w wr) ∧ Hid (OthK w2 wr))
    (fun i _ => (mem s).length - (intOf i).toNat)
  case atStart => exact ⟨0, [123], Nat.zero_le _, rfl, by simp, Lib.hid rfl, HIS2, HB2, Lib.hid (OthK.refl _)⟩
  case round =>
    obtain ⟨k, acc, hk, rfl, hacc, Hf, Hi, Hb, Hk⟩ := hrel
    by_cases hlt : k < (mem s).length
    · obtain ⟨g, cur, rfl, hg, hcur⟩ := own_heap HO.out (by omega)
      obtain ⟨j, hj⟩ : ∃ j, (mem s)[k]? = some j := ⟨_, List.getElem?_eq_getElem hlt⟩
      have hu : (iv (mem s))[k]? = some (.int .i64 (j : Int)) := by unfold iv; rw [List.getElem?_map, hj]; rfl
      have hc : wr.cell? ⟨g, k, none⟩ = some (.int .i64 (j : Int)) := by
        rw [Lib.cell_of_heap (Hk.out g cur 3 (by decide) (by decide) hg)]; exact hcur k _ hu
      have hj64 : j < 64 := mem_lt s j (List.mem_of_getElem? hj)
      have HD : Hid ((mem s).drop k = j :: (mem s).drop (k + 1)) := Lib.hid (by
        rw [List.drop_eq_getElem_cons hlt]
        rw [List.getElem?_eq_getElem hlt] at hj
        simp at hj
        rw [hj])
      have hdig := digits_small j (by omega)
      clear hg hcur hj hu
      by_cases hk0 : k = 0
      · subst hk0
        have Hf2 : Hid ((acc ++ Lib.decDigits j) ++ (fmtL ((mem s).drop (0 + 1)) (0 + 1 == 0) ++ [125]) = fmtV s) := Lib.hid (by rw [← Hf.out, HD.out]; simp [fmtL])
        go_wp2_with fail
        refine (itoa_any j (by omega) _).mono ?_
        rintro e w' ⟨rfl, rfl⟩
        go_wp2_with fail
        refine (wstr w.heap.size w.heap.size (Lib.byteCells acc) ⟨(Lib.decDigits j).toArray⟩ wr Hi.out (by rw [Lib.byteCells_length]; show acc.length + (Lib.decDigits j).toArray.size ≤ _; simp; omega) Hb.out.size).mono ?_
        rintro e w3 ⟨rfl, hbu⟩
        have HI3 : Hid (Lib.IsBuilder 66 5 w.heap.size w.heap.size (Lib.byteCells (acc ++ Lib.decDigits j)) w3) := Lib.hid (by rw [bytes_append]; exact builtIs hbu)
        have HB3 : Hid (Below w.heap.size w w3) := Lib.hid (Hb.out.trans hbu.2.1)
        have HK3 : Hid (OthK w2 w3) := Lib.hid (Hk.out.trans hbu.2.2)
        clear hbu
        go_wp2
        go_roundw
        case rel => exact ⟨0 + 1, acc ++ Lib.decDigits j, by omega, by go_num, by rw [List.length_append]; omega, Hf2, HI3, HB3, HK3⟩
        case measure => simp [intOf]; omega
      · have Hf2 : Hid ((acc ++ [32] ++ Lib.decDigits j) ++ (fmtL ((mem s).drop (k + 1)) (k + 1 == 0) ++ [125]) = fmtV s) := Lib.hid (by rw [← Hf.out, HD.out]; simp [fmtL, hk0])
        have hkp : 0 < k := by omega
        clear hk0
        go_wp2_with fail
        refine (wbyte w.heap.size w.heap.size (Lib.byteCells acc) 32 wr Hi.out (by rw [Lib.byteCells_length]; omega) Hb.out.size).mono ?_
        rintro e w3 ⟨rfl, hbu⟩
        have HI3 : Hid (Lib.IsBuilder 66 5 w.heap.size w.heap.size (Lib.byteCells (acc ++ [32])) w3) := Lib.hid (by rw [bytes_append]; exact builtIs hbu)
        have HB3 : Hid (Below w.heap.size w w3) := Lib.hid (Hb.out.trans hbu.2.1)
        have HK3 : Hid (OthK w2 w3) := Lib.hid (Hk.out.trans hbu.2.2)
        clear hbu
        go_wp2_with fail
        refine (itoa_any j (by omega) _).mono ?_
        rintro e w' ⟨rfl, rfl⟩
        go_wp2_with fail
        refine (wstr w.heap.size w.heap.size (Lib.byteCells (acc ++ [32])) ⟨(Lib.decDigits j).toArray⟩ w3 HI3.out (by rw [Lib.byteCells_length]; show (acc ++ [32]).length + (Lib.decDigits j).toArray.size ≤ _; simp; omega) HB3.out.size).mono ?_
        rintro e w4 ⟨rfl, hbu⟩
        have HI4 : Hid (Lib.IsBuilder 66 5 w.heap.size w.heap.size (Lib.byteCells (acc ++ [32] ++ Lib.decDigits j)) w4) := Lib.hid (by rw [bytes_append]; exact builtIs hbu)
        have HB4 : Hid (Below w.heap.size w w4) := Lib.hid (HB3.out.trans hbu.2.1)
        have HK4 : Hid (OthK w2 w4) := Lib.hid (HK3.out.trans hbu.2.2)
        clear hbu
        go_wp2
        go_roundw
        case rel => exact ⟨k + 1, acc ++ [32] ++ Lib.decDigits j, by omega, by go_num, by rw [List.length_append, List.length_append]; simp; omega, Hf2, HI4, HB4, HK4⟩
        case measure => simp [intOf]; omega
    · have Hf2 : Hid (acc ++ [125] = fmtV s) := Lib.hid (by rw [← Hf.out, List.drop_eq_nil_of_le (by omega)]; rfl)
      go_wp2_with fail
      refine (wbyte w.heap.size w.heap.size (Lib.byteCells acc) 125 wr Hi.out (by rw [Lib.byteCells_length]; omega) Hb.out.size).mono ?_
      rintro e w3 ⟨rfl, hbu⟩
      have HI3 : Hid (Lib.IsBuilder 66 5 w.heap.size w.heap.size (Lib.byteCells (fmtV s)) w3) := Lib.hid (by rw [← Hf2.out, bytes_append]; exact builtIs hbu)
      have HB3 : Hid (Below w.heap.size w w3) := Lib.hid (Hb.out.trans hbu.2.1)
      clear hbu
      go_wp2_with fail
      refine (Tryd.Builder_String_any w.heap.size w.heap.size (fmtV s) w3 HI3.out HB3.out.size).mono ?_
      rintro e w4 ⟨rfl, hb4⟩
      have HB4 : Hid (Below w.heap.size w w4) := Lib.hid (HB3.out.trans hb4)
      clear hb4
      go_wp2
      go_ret
      exact ⟨rfl, HB4.out⟩
end Go.Proofs.YtnkjcieeckibbaaDoor
