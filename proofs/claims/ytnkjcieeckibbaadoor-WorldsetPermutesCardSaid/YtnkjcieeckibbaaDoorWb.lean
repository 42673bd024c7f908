/- Contracts: trailing zeros, the lowest world, the members of a set (both sides). -/
import Derived.Test.YtnkjcieeckibbaaDoorWm
namespace Go.Proofs.YtnkjcieeckibbaaDoor
open Go.RowKit Go.Proofs.Ws
theorem tz_core (x k idx : Nat) (w : World) (hx0 : ((x : Int) == 0) = false)
    (key : IntKind.u64.wrap (bits BinOp.and IntKind.u64 (x : Int) (IntKind.u64.wrap (-(x : Int))) * 285870213051353865) / 288230376151711744 = (idx : Int))
    (hi : idx < 64) (hk : k < 64) (hcell : w.cell? ⟨0, idx, none⟩ = some (.int .u8 k)) :
    Calls Tryd.prog 70 #[.int .u64 x] w fun e w' => e = .returned (.int .i64 k) ∧ w = w' := by
  go_enter Tryd.func70, Tryd.ntmps70
  go_wp2_with (simp only [key])
  go_ret
  exact ⟨rfl, rfl⟩
theorem tz_key (x a : Nat) (hx : x < 18446744073709551616) (hx0 : x ≠ 0) (hlow : x &&& (18446744073709551616 - x) = a) :
    IntKind.u64.wrap (bits BinOp.and IntKind.u64 (x : Int) (IntKind.u64.wrap (-(x : Int))) * 285870213051353865) / 288230376151711744 = ((a * 285870213051353865 % 18446744073709551616 / 288230376151711744 : Nat) : Int) := by
  have e1 : IntKind.u64.wrap (-(x : Int)) = ((18446744073709551616 - x : Nat) : Int) := by rw [IntKind.wrap_u64]; omega
  rw [e1, u64_and_nat x _ hx (by omega), hlow, IntKind.wrap_u64]
  omega
theorem tz_any (x : Nat) (w : World) (hx : x < 18446744073709551616) (hx0 : x ≠ 0) (hT : Tab w) :
    Calls Tryd.prog 70 #[.int .u64 x] w fun e w' => e = .returned (.int .i64 (low x : Int)) ∧ w = w' := by
  obtain ⟨hlow, hk⟩ := Lib.lowest_bit 64 x hx0 hx
  obtain ⟨hi, htab⟩ := Lib.deBruijn64_at _ hk
  have hc := hT.1 _ hi
  rw [htab] at hc
  exact tz_core x _ _ w (by simp; omega) (tz_key x _ hx hx0 hlow) hi hk hc
/-- the lowest world, or -1 -/
def lowV (s : Nat) : Int := if s = 0 then -1 else (low s : Int)
theorem lowest_any (s : Nat) (w : World) (hs : s < 18446744073709551616) (hT : Tab w) :
    Calls Tryd.prog 25 #[.int .u64 s] w fun e w' => e = .returned (.int .i64 (lowV s)) ∧ w = w' := by
  by_cases h0 : s = 0
  · subst h0
    go_enter Tryd.func25, Tryd.ntmps25
    go_wp2
    go_ret
    exact ⟨rfl, rfl⟩
  · have H := Lib.hid (tz_any s w hs h0 hT)
    have hz : ((s : Int) == 0) = false := by simp; omega
    have HR : Hid (lowV s = (low s : Int)) := Lib.hid (if_neg h0)
    clear hT hs h0
    go_enter Tryd.func25, Tryd.ntmps25
    go_wp2_with (go_at_call 70; refine (H.out).mono ?_; rintro e w' ⟨rfl, rfl⟩)
    go_ret
    exact ⟨ret_i64 HR.out.symm, rfl⟩
/-- what Members hands back: a slice that reads as the members -/
def GivesMem (s : Nat) (w : World) (e : Ending) (w' : World) : Prop :=
  ∃ A c, e = .returned (.slice A (mem s).length c) ∧ Reads w' w'.heap.size 1 A (mem s).length (iv (mem s)) ∧ Below w.heap.size w w'
/-- .. and owns its cells -/
def OwnsMem (s : Nat) (w : World) (e : Ending) (w' : World) : Prop :=
  ∃ A c, e = .returned (.slice A (mem s).length c) ∧ w'.ownsRow w.heap.size 3 1 (.slice A (mem s).length c) (mem s).length (iv (mem s)) ∧ Below w.heap.size w w'
theorem OwnsMem.gives {s : Nat} {w : World} {e : Ending} {w' : World} (h : OwnsMem s w e w') : GivesMem s w e w' := by
  obtain ⟨A, c, he, ho, hb⟩ := h
  exact ⟨A, c, he, Reads.of_own ho, hb⟩
theorem andpred (r : Nat) (h0 : r ≠ 0) (hr : r < 18446744073709551616) : bits .and .u64 (r : Int) (IntKind.u64.wrap ((r : Int) - 1)) = ((r &&& (r - 1) : Nat) : Int) := by
  rw [show IntKind.u64.wrap ((r : Int) - 1) = ((r - 1 : Nat) : Int) from by rw [IntKind.wrap_u64]; omega, u64_and_nat r (r - 1) hr (by omega)]
set_option maxRecDepth 100000 in
set_option maxHeartbeats 1600000 in
theorem members_own (s : Nat) (w : World) (hs : s < 18446744073709551616) (hT : Tab w) :
    Calls Tryd.prog 21 #[.int .u64 s] w (OwnsMem s w) := by
  obtain ⟨i0, hi, hz0, hz1, hz2⟩ := info_parts Tryd.info3
  have HC := Lib.hid (count_any s w hs)
  have HS := Lib.hid hs
  have HT := Lib.hid hT
  have hl := mem_length_le s
  clear hs hT
  go_enter Tryd.func21, Tryd.ntmps21
  go_wp2_with fail
  refine (HC.out).mono ?_
  rintro e w' ⟨rfl, rfl⟩
  go_wp2_with (at_make; refine wpList_make_own _ rfl _ _ 22 rfl w.heap.size 3 i0 (.int .i64 0) 1 Tryd.underlying22 hi hz0 hz1 .i64 .i64 _ (mem s).length rfl rfl rfl ?c1 ?c2 ?c3 ?_)
  case c1 => rw [hz2]; omega
  case c2 => unfold maxLen; omega
  case c3 => omega
  intro w0 hown0 hg0
  have hb0 : Below w.heap.size w w0 := (Below.refl _ _).grown hg0 (Nat.le_refl _) (fun k h => by cases h)
  clear hg0
  go_wp2
  go_loopw [0, 3] (fun sv v wr => ∃ (r : Nat) (L : List Nat), Hid (r < 18446744073709551616) ∧ sv = .int .u64 r ∧ Hid (mem s = L ++ mem r) ∧ wr.ownsRow w.heap.size 3 1 v L.length (iv L) ∧ Below w.heap.size w wr)
    (fun sv _ _ => (intOf sv).toNat)
  case atStart => exact ⟨s, [], HS, rfl, Lib.hid rfl, hown0, hb0⟩
  case round =>
    obtain ⟨r, L, Hr, rfl, HL, hown, hb⟩ := hrel
    by_cases h0 : r = 0
    · subst h0
      have e : mem s = L := by rw [HL.out, mem_zero]; simp
      subst e
      obtain ⟨A, c, rfl, hR⟩ := own_reads hown
      have HR := Lib.hid hown
      clear hown HL Hr HS
      have HB := Lib.hid hb
      clear hR hb hb0 hown0
      go_wp2
      go_ret
      exact ⟨A, c, rfl, HR.out, HB.out⟩
    · have HZ := Lib.hid (tz_any r wr Hr.out h0 (HT.out.belowAt hb HT.out.2))
      have hne : ((r : Int) != 0) = true := by simp; omega
      have hap := andpred r h0 Hr.out
      have H0 := Lib.hid h0
      have hL : L.length ≤ 63 := by have := HL.out; rw [mem_step r h0 Hr.out] at this; have := congrArg List.length this; simp at this; omega
      have hsz := hb.size
      clear h0
      go_wp2_with (first
        | (go_at_call 70; refine (HZ.out).mono ?_; rintro e w' ⟨rfl, rfl⟩)
        | (at_builtin; refine wpList_append_own _ rfl _ _ 22 rfl w.heap.size 3 i0 (.int .i64 0) 1 8 Tryd.underlying22 hi hz0 hz1 hz2 rfl (by decide) _ _ _ rfl (hown.alloc _) ⟨wr.heap.size, 0, none⟩ 1 1 [.int .i64 (low r)] rfl rfl ?c1 ?c2 ?c3 ?c4 ?c5 ?_))
      case c1 =>
        intro j u hj
        match j, hj with
        | 0, hj => simp at hj; subst hj; simp [Addr.add]
      case c2 => intro u hu; simp at hu; subst hu; rfl
      case c3 => unfold maxLen; omega
      case c4 => omega
      case c5 => simp; omega
      · intro v' w1 hown' hgrow _
        have hb1 : Below w.heap.size w w1 := (hb.alloc hsz _).grown hgrow (by simp; omega) (fun j hj => by have := (hown.lt j hj).1; omega)
        clear hgrow hown HZ
        go_wp2
        go_roundw
        case rel => exact ⟨r &&& (r - 1), L ++ [low r], Lib.hid (by have := and_pred_lt r H0.out; have := Hr.out; omega), rfl, Lib.hid (by rw [HL.out, mem_step r H0.out Hr.out]; simp), by rw [iv_append, List.length_append]; exact hown', hb1⟩
        case measure => have := and_pred_lt r H0.out; simp [intOf]; omega
theorem members_any (s : Nat) (w : World) (hs : s < 18446744073709551616) (hT : Tab w) : Calls Tryd.prog 21 #[.int .u64 s] w (GivesMem s w) :=
  (members_own s w hs hT).mono fun _ _ h => h.gives
/-- the members among the first k worlds -/
def memTo (s k : Nat) : List Nat := (List.range k).filter (fun w => s.testBit w)
theorem memTo_hit (s k : Nat) (h : s.testBit k = true) : memTo s (k + 1) = memTo s k ++ [k] := by
  unfold memTo; rw [List.range_succ, List.filter_append]; simp [h]
theorem memTo_miss (s k : Nat) (h : s.testBit k = false) : memTo s (k + 1) = memTo s k := by
  unfold memTo; rw [List.range_succ, List.filter_append]; simp [h]
theorem memTo_le (s k : Nat) : (memTo s k).length ≤ k := by
  unfold memTo
  have := List.length_filter_le (fun w => s.testBit w) (List.range k)
  simpa using this
theorem hasB_nat (s k : Nat) (hk : k < 64) : hasB s (k : Int) = s.testBit k := by
  unfold hasB; rw [decide_eq_true (by omega)]; simp
theorem refHas_yes (s k : Nat) (w : World) (hs : s < 18446744073709551616) (hk : k < 64) (h : s.testBit k = true) :
    Calls Tryd.prog 28 #[.int .u64 s, .int .i64 k] w fun e w' => e = .returned (.bool true) ∧ w = w' := by
  have := refHas_any s k w hs
  rwa [hasB_nat s k hk, h] at this
theorem refHas_no (s k : Nat) (w : World) (hs : s < 18446744073709551616) (hk : k < 64) (h : s.testBit k = false) :
    Calls Tryd.prog 28 #[.int .u64 s, .int .i64 k] w fun e w' => e = .returned (.bool false) ∧ w = w' := by
  have := refHas_any s k w hs
  rwa [hasB_nat s k hk, h] at this
set_option maxRecDepth 100000 in
set_option maxHeartbeats 1600000 in
theorem refMembers_own (s : Nat) (w : World) (hs : s < 18446744073709551616) :
    Calls Tryd.prog 22 #[.int .u64 s] w (OwnsMem s w) := by
  obtain ⟨i0, hi, hz0, hz1, hz2⟩ := info_parts Tryd.info3
  have HS := Lib.hid hs
  clear hs
  go_enter Tryd.func22, Tryd.ntmps22
  go_wp2
  go_loopw [3, 4] (fun v i wr => ∃ k : Nat, k ≤ 64 ∧ i = .int .i64 k ∧ wr.ownsRow w.heap.size 3 1 v (memTo s k).length (iv (memTo s k)) ∧ Below w.heap.size w wr)
    (fun _ i _ => 64 - (intOf i).toNat)
  case atStart => exact ⟨0, Nat.zero_le _, rfl, World.ownsRow_nil _ _ _ _, Below.refl _ _⟩
  case round =>
    obtain ⟨k, hk, rfl, hown, hb⟩ := hrel
    by_cases hlt : k < 64
    · have hsz := hb.size
      have hL := memTo_le s k
      cases hbit : s.testBit k
      · have HZ := Lib.hid (refHas_no s k wr HS.out hlt hbit)
        have HB := Lib.hid hbit
        clear hbit
        go_wp2_with (go_at_call 28; refine (HZ.out).mono ?_; rintro e w' ⟨rfl, rfl⟩)
        go_roundw
        case rel => exact ⟨k + 1, by omega, by go_num, by rw [memTo_miss s k HB.out]; exact hown, hb⟩
        case measure => simp [intOf]; omega
      · have HZ := Lib.hid (refHas_yes s k wr HS.out hlt hbit)
        have HB := Lib.hid hbit
        clear hbit
        go_wp2_with (first
          | (go_at_call 28; refine (HZ.out).mono ?_; rintro e w' ⟨rfl, rfl⟩)
          | (at_builtin; refine wpList_append_own _ rfl _ _ 22 rfl w.heap.size 3 i0 (.int .i64 0) 1 8 Tryd.underlying22 hi hz0 hz1 hz2 rfl (by decide) _ _ _ rfl (hown.alloc _) ⟨wr.heap.size, 0, none⟩ 1 1 [.int .i64 k] rfl rfl ?c1 ?c2 ?c3 ?c4 ?c5 ?_))
        case c1 =>
          intro j u hj
          match j, hj with
          | 0, hj => simp at hj; subst hj; simp [Addr.add]
        case c2 => intro u hu; simp at hu; subst hu; rfl
        case c3 => unfold maxLen; omega
        case c4 => omega
        case c5 => simp; omega
        · intro v' w1 hown' hgrow _
          have hb1 : Below w.heap.size w w1 := (hb.alloc hsz _).grown hgrow (by simp; omega) (fun j hj => by have := (hown.lt j hj).1; omega)
          clear hgrow hown HZ
          go_wp2
          go_roundw
          case rel => exact ⟨k + 1, by omega, by go_num, by rw [memTo_hit s k HB.out, iv_append, List.length_append]; exact hown', hb1⟩
          case measure => simp [intOf]; omega
    · have e : k = 64 := by omega
      subst e
      obtain ⟨A, c, rfl, hR⟩ := own_reads hown
      have HR := Lib.hid hown
      have HB := Lib.hid hb
      clear hR hb hown hlt hk
      go_wp2
      go_ret
      exact ⟨A, c, rfl, HR.out, HB.out⟩
theorem refMembers_any (s : Nat) (w : World) (hs : s < 18446744073709551616) : Calls Tryd.prog 22 #[.int .u64 s] w (GivesMem s w) :=
  (refMembers_own s w hs).mono fun _ _ h => h.gives
end Go.Proofs.YtnkjcieeckibbaaDoor
