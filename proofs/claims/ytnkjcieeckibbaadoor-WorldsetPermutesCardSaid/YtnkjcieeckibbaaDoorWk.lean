/- Contracts: the program's numberOf. -/
import Derived.Test.YtnkjcieeckibbaaDoorWj
import Derived.WalkSpells
import Derived.WalkLawsBesides
import Derived.Laws.IdiomStrings
namespace Go.Proofs.YtnkjcieeckibbaaDoor
open Go.RowKit Go.Proofs.Ws
/-- a decimal digit -/
def dg (c : UInt8) : Bool := decide (48 ≤ c.toNat) && decide (c.toNat ≤ 57)
def val (p : List UInt8) : Nat := p.foldl (fun n c => 10 * n + (c.toNat - 48)) 0
/-- the number of some digits, if they are one -/
def numV (p : List UInt8) : Option Nat := if p ≠ [] ∧ p.length ≤ 9 ∧ (p.head? = some 48 → p = [48]) ∧ p.all dg = true then some (val p) else none
theorem val_snoc (p : List UInt8) (c : UInt8) : val (p ++ [c]) = 10 * val p + (c.toNat - 48) := by unfold val; rw [List.foldl_append]; rfl
theorem val_lt (p : List UInt8) (h : p.all dg = true) : val p < 10 ^ p.length := by
  suffices H : ∀ (n : Nat) (q : List UInt8), q.length = n → q.all dg = true → val q < 10 ^ n from H _ _ rfl h
  intro n
  induction n with
  | zero => intro q hq _; rw [List.eq_nil_of_length_eq_zero hq]; decide
  | succ n ih =>
    intro q hq ha
    have hne : q ≠ [] := by intro e; subst e; simp at hq
    have e := List.dropLast_concat_getLast hne
    rw [← e] at ha
    rw [List.all_append, Bool.and_eq_true] at ha
    have h1 := ih q.dropLast (by simp [hq]) ha.1
    have h2 : dg (q.getLast hne) = true := by simpa using ha.2
    unfold dg at h2
    simp at h2
    rw [← e, val_snoc, Nat.pow_succ]
    omega
theorem conv_bytes (t : ByteArray) (w : World) : ∃ (cap : Nat) (C : Array Value),
    (convert 9 46 (.string t)).run Tryd.prog w = .ok (.slice (some ⟨w.heap.size, 0, none⟩) t.size cap) (w.drew.alloc (.cells C 5 (C.size, C.size + 1))) ∧
    ∀ (k : Nat) (c : UInt8), t.data.toList[k]? = some c → C[k]? = some (Value.int .u8 (c.toNat : Int)) := by
  refine ⟨_, _, run_bytes_of_string w 9 46 5 t Tryd.underlying9 Tryd.underlying46 Tryd.underlying5, ?_⟩
  intro k c hc
  unfold bytesRow
  rw [Array.getElem?_append]
  have hk : k < t.data.size := by
    have := (List.getElem?_eq_some_iff.1 hc).1
    simpa using this
  rw [if_pos (by simpa using hk), Array.getElem?_map]
  have : t.data[k]? = some c := by rw [← Array.getElem?_toList]; exact hc
  rw [this]
  rfl
theorem ret_none {p : List UInt8} (h : numV p = none) : Ending.returned (.tuple #[.int .i64 0, .bool false]) = .returned (.tuple #[.int .i64 (((numV p).getD 0 : Nat) : Int), .bool (numV p).isSome]) := by rw [h]; rfl
theorem ret_some {p : List UInt8} {n : Nat} (h : numV p = some n) : Ending.returned (.tuple #[.int .i64 (n : Int), .bool true]) = .returned (.tuple #[.int .i64 (((numV p).getD 0 : Nat) : Int), .bool (numV p).isSome]) := by rw [h]; rfl
set_option maxRecDepth 100000 in
set_option maxHeartbeats 3200000 in
theorem numberOf_any (t : ByteArray) (w : World) (hbig : t.size ≤ 140737488351232) :
    Calls Tryd.prog 111 #[.string t] w fun e w' => e = .returned (.tuple #[.int .i64 (((numV t.data.toList).getD 0 : Nat) : Int), .bool (numV t.data.toList).isSome]) ∧ Below w.heap.size w w' := by
  by_cases he : t.toList = []
  · have HE : Hid (numV t.data.toList = none) := Lib.hid (by rw [Lib.toList_data] at he; unfold numV; rw [he]; simp)
    go_enter Tryd.func111, Tryd.ntmps111
    go_wp2
    go_ret2
    exact ⟨ret_none HE.out, Below.refl _ _⟩
  · have hse := ba_size t
    have hlen : t.data.toList.length ≠ 0 := by rw [Lib.toList_data] at he; intro h; exact he (List.eq_nil_of_length_eq_zero h)
    have hpos : 0 < t.size := by omega
    have hie : t.toList.isEmpty = false := by
      cases h : t.toList with
      | nil => exact absurd h he
      | cons _ _ => rfl
    by_cases h9 : t.size ≤ 9
    · have h0 : t.data.toList[0]? = some t[0] := by
        rw [List.getElem?_eq_getElem (by omega)]
        simp [ByteArray.getElem_eq_getElem_data]
      by_cases hbad : (t[0].toNat : Int) = 48 ∧ ¬ (t.data.toList = [48])
      · obtain ⟨hb1, hb2⟩ := hbad
        have HE : Hid (numV t.data.toList = none) := Lib.hid (by
          unfold numV
          rw [if_neg]
          intro x
          apply hb2
          apply x.2.2.1
          rw [List.head?_eq_getElem?, h0]
          congr 1
          have hb3 : t[0].toNat = (48 : UInt8).toNat := by show t[0].toNat = 48; omega
          exact UInt8.toNat_inj.1 hb3)
        have hl : (t.toList == [48]) = false := by rw [Lib.toList_data]; simpa using hb2
        clear h0 hb2 hse hlen
        go_enter Tryd.func111, Tryd.ntmps111
        go_wp2
        go_ret2
        exact ⟨ret_none HE.out, Below.refl _ _⟩
      · have HN : Hid (t.data.toList.all dg = true → numV t.data.toList = some (val t.data.toList)) := Lib.hid (fun ha => by
          unfold numV
          rw [if_pos]
          refine ⟨fun e => hlen (by rw [e]; rfl), by omega, fun hh => ?_, ha⟩
          rw [List.head?_eq_getElem?, h0] at hh
          injection hh with hh
          apply Classical.byContradiction
          intro hx
          exact hbad ⟨by rw [hh]; rfl, hx⟩)
        have HM : Hid (t.data.toList.all dg = false → numV t.data.toList = none) := Lib.hid (fun ha => by
          unfold numV
          rw [if_neg (fun x => by rw [x.2.2.2] at ha; cases ha)])
        have HL : Hid (t.data.toList.length = t.size) := Lib.hid hse.symm
        obtain ⟨cap, C, hconv, hC⟩ := conv_bytes t w
        have HC := Lib.hid hC
        have hcell : ∀ k, (w.alloc (.cells C 5 (C.size, C.size + 1))).cell? ⟨w.heap.size, k, none⟩ = C[k]? := fun k => Lib.cell_of_heap (heap_alloc_new w _) k
        have HCELL := Lib.hid hcell
        have hbl : Below w.heap.size w (w.alloc (.cells C 5 (C.size, C.size + 1))).drew := ((Below.refl _ _).alloc (Nat.le_refl _) _).drew
        have HBL := Lib.hid hbl
        have hcase : ((t[0].toNat : Int) = 48 ∧ (t.toList == [48]) = true) ∨ ¬ ((t[0].toNat : Int) = 48) := by
          by_cases hx : (t[0].toNat : Int) = 48
          · left
            refine ⟨hx, ?_⟩
            rw [Lib.toList_data]
            have : t.data.toList = [48] := Classical.byContradiction fun hy => hbad ⟨hx, hy⟩
            rw [this]; rfl
          · exact .inr hx
        clear hC hcell hbl hse hlen h0 hbad
        rcases hcase with ⟨q1, q2⟩ | q1
        all_goals
          go_enter Tryd.func111, Tryd.ntmps111
          go_wp2
          go_loop [4, 24] (fun v i => ∃ (k n : Nat), k ≤ t.size ∧ i = .int .i64 k ∧ v = .int .i64 n ∧ Hid (n = val (t.data.toList.take k)) ∧ Hid ((t.data.toList.take k).all dg = true)) (fun _ i => t.size - (intOf i).toNat)
          case atStart => exact ⟨0, 0, Nat.zero_le _, rfl, rfl, Lib.hid rfl, Lib.hid rfl⟩
          case round =>
            obtain ⟨k, n, hk, rfl, rfl, Hn, Ha⟩ := hrel
            by_cases hlt : k < t.size
            · obtain ⟨c, hc⟩ : ∃ c, t.data.toList[k]? = some c := ⟨_, List.getElem?_eq_getElem (by rw [HL.out]; exact hlt)⟩
              have hcl : (w.alloc (.cells C 5 (C.size, C.size + 1))).cell? ⟨w.heap.size, k, none⟩ = some (.int .u8 (c.toNat : Int)) := (HCELL.out k).trans (HC.out k c hc)
              have htk : t.data.toList.take (k + 1) = t.data.toList.take k ++ [c] := by rw [List.take_add_one, hc]; rfl
              have hn9 : n < 100000000 := by
                have h1 := val_lt _ Ha.out
                have h2 : (t.data.toList.take k).length ≤ 8 := by have := List.length_take_le k t.data.toList; omega
                have h3 : 10 ^ (t.data.toList.take k).length ≤ 10 ^ 8 := Nat.pow_le_pow_right (by decide) h2
                have := Hn.out
                omega
              have hmem : c ∈ t.data.toList := List.mem_of_getElem? hc
              have hc255 : c.toNat < 256 := c.toNat_lt
              generalize hcn : c.toNat = m at *
              by_cases hdg : 48 ≤ m ∧ m ≤ 57
              · obtain ⟨d1, d2⟩ := hdg
                have HT : Hid ((t.data.toList.take (k + 1)).all dg = true) := Lib.hid (by
                  rw [htk, List.all_append, Ha.out]
                  simp [dg, hcn, d1, d2])
                have HV : Hid (10 * n + (m - 48) = val (t.data.toList.take (k + 1))) := Lib.hid (by rw [htk, val_snoc, ← Hn.out, hcn])
                have e1 : ¬ ((m : Int) < 48) := by omega
                have e2 : ¬ (57 < (m : Int)) := by omega
                clear hc htk hmem hcn
                go_wp2
                go_round
                case rel => exact ⟨k + 1, 10 * n + (m - 48), by omega, by go_num, by go_num, HV, HT⟩
                case measure => simp [intOf]; omega
              · have HE : Hid (numV t.data.toList = none) := Lib.hid (HM.out (by
                  rw [List.all_eq_false]
                  refine ⟨c, hmem, ?_⟩
                  simp only [dg, hcn, Bool.and_eq_true, decide_eq_true_eq]
                  exact hdg))
                clear hc htk hmem hcn
                by_cases e1 : (m : Int) < 48
                · clear hdg
                  go_wp2
                  go_ret2
                  exact ⟨ret_none HE.out, HBL.out⟩
                · have e2 : 57 < (m : Int) := by omega
                  clear hdg
                  go_wp2
                  go_ret2
                  exact ⟨ret_none HE.out, HBL.out⟩
            · have HE : Hid (numV t.data.toList = some n) := Lib.hid (by
                have h1 := Ha.out
                have h2 := Hn.out
                rw [List.take_of_length_le (by rw [HL.out]; omega)] at h1 h2
                rw [HN.out h1, h2])
              go_wp2
              go_ret2
              exact ⟨ret_some HE.out, HBL.out⟩
    · have HE : Hid (numV t.data.toList = none) := Lib.hid (by unfold numV; rw [if_neg (by omega)])
      have h9' : 9 < (t.size : Int) := by omega
      clear h9 hse hlen
      go_enter Tryd.func111, Tryd.ntmps111
      go_wp2
      go_ret2
      exact ⟨ret_none HE.out, Below.refl _ _⟩
end Go.Proofs.YtnkjcieeckibbaaDoor
