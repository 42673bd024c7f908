/- Layer 13: trailing zeros, the number of members, the members of a set on both sides, sets of indices. -/
import Derived.Test.YtofclgapgjcflaaDoorDh
import Derived.Lib.TrailingZeros
import Derived.Lib.LaidTab
namespace Go.Proofs.YtofclgapgjcflaaDoor
open Go.RowKit Go.Proofs.Ws
set_option maxRecDepth 100000
def Tab (w : World) : Prop := (∀ j, j < 64 → w.cell? ⟨0, j, none⟩ = some (.int .u8 (Lib.deBruijn64tab.getD j 0))) ∧ 0 < w.heap.size
theorem Tab.below {w w' : World} (h : Tab w) (hb : Below w.heap.size w w') : Tab w' :=
  ⟨fun j hj => (hb.cell (p := ⟨0, j, none⟩) h.2).trans (h.1 j hj), Nat.lt_of_lt_of_le h.2 hb.size⟩
/-- the same, from a higher bound -/
theorem Tab.belowAt {B : Nat} {w w' : World} (h : Tab w) (hb : Below B w w') (hB : 0 < B) : Tab w' :=
  ⟨fun j hj => (hb.cell (p := ⟨0, j, none⟩) hB).trans (h.1 j hj), Nat.lt_of_lt_of_le h.2 hb.size⟩
theorem tz_core (x k idx : Nat) (w : World) (hx0 : ((x : Int) == 0) = false)
    (key : IntKind.u64.wrap (bits BinOp.and IntKind.u64 (x : Int) (IntKind.u64.wrap (-(x : Int))) * 285870213051353865) / 288230376151711744 = (idx : Int))
    (hi : idx < 64) (hk : k < 64) (hcell : w.cell? ⟨0, idx, none⟩ = some (.int .u8 k)) :
    Calls Tryd.prog 44 #[.int .u64 x] w fun e w' => e = .returned (.int .i64 k) ∧ w = w' := by
  go_enter Tryd.func44, Tryd.ntmps44
  go_wp2_with (simp only [key])
  go_ret
  exact ⟨rfl, rfl⟩
theorem tz_key (x a : Nat) (hx : x < 18446744073709551616) (hx0 : x ≠ 0) (hlow : x &&& (18446744073709551616 - x) = a) :
    IntKind.u64.wrap (bits BinOp.and IntKind.u64 (x : Int) (IntKind.u64.wrap (-(x : Int))) * 285870213051353865) / 288230376151711744 = ((a * 285870213051353865 % 18446744073709551616 / 288230376151711744 : Nat) : Int) := by
  have e1 : IntKind.u64.wrap (-(x : Int)) = ((18446744073709551616 - x : Nat) : Int) := by rw [IntKind.wrap_u64]; omega
  rw [e1, u64_and_nat x _ hx (by omega), hlow, IntKind.wrap_u64]
  omega
theorem tz_any (x : Nat) (w : World) (hx : x < 18446744073709551616) (hx0 : x ≠ 0) (hT : Tab w) :
    Calls Tryd.prog 44 #[.int .u64 x] w fun e w' => e = .returned (.int .i64 (low x : Int)) ∧ w = w' := by
  obtain ⟨hlow, hk⟩ := Lib.lowest_bit 64 x hx0 hx
  obtain ⟨hi, htab⟩ := Lib.deBruijn64_at _ hk
  have hc := hT.1 _ hi
  rw [htab] at hc
  exact tz_core x _ _ w (by simp; omega) (tz_key x _ hx hx0 hlow) hi hk hc
theorem ones_steps (s : Nat) (hs : s < 18446744073709551616) : ∃ a1 a2 a3 a4 a5 a6 : Nat,
    IntKind.u64.wrap (bits .and .u64 ((s : Int) / 2) 6148914691236517205 + bits .and .u64 (s : Int) 6148914691236517205) = (a1 : Int) ∧
    IntKind.u64.wrap (bits .and .u64 ((a1 : Int) / 4) 3689348814741910323 + bits .and .u64 (a1 : Int) 3689348814741910323) = (a2 : Int) ∧
    bits .and .u64 (IntKind.u64.wrap ((a2 : Int) / 16 + (a2 : Int))) 1085102592571150095 = (a3 : Int) ∧
    IntKind.u64.wrap ((a3 : Int) + (a3 : Int) / 256) = (a4 : Int) ∧ IntKind.u64.wrap ((a4 : Int) + (a4 : Int) / 65536) = (a5 : Int) ∧
    IntKind.u64.wrap ((a5 : Int) + (a5 : Int) / 4294967296) = (a6 : Int) ∧ bits .and .i64 (wrap64 (a6 : Int)) 127 = ((mem s).length : Int) := by
  obtain ⟨a1, a2, a3, a4, a5, a6, e1, e2, e3, e4, e5, e6, h1, h2, h3, h4, h5, h6, h7⟩ := swar s
  refine ⟨a1, a2, a3, a4, a5, a6, ?_, ?_, ?_, ?_, ?_, ?_, ?_⟩
  · have x1 := bits_and_nn (s / 2) 6148914691236517205 (by omega) (by omega)
    have x2 := bits_and_nn s 6148914691236517205 hs (by omega)
    rw [show ((s : Int) / 2) = ((s / 2 : Nat) : Int) from by omega, show (6148914691236517205 : Int) = ((6148914691236517205 : Nat) : Int) from rfl, x1, x2, IntKind.wrap_u64]
    clear e2 e3 e4 e5 e6 x1 x2
    omega
  · have x1 := bits_and_nn (a1 / 4) 3689348814741910323 (by omega) (by omega)
    have x2 := bits_and_nn a1 3689348814741910323 (by omega) (by omega)
    rw [show ((a1 : Int) / 4) = ((a1 / 4 : Nat) : Int) from by omega, show (3689348814741910323 : Int) = ((3689348814741910323 : Nat) : Int) from rfl, x1, x2, IntKind.wrap_u64]
    clear e1 e3 e4 e5 e6 x1 x2
    omega
  · have y : IntKind.u64.wrap ((a2 : Int) / 16 + (a2 : Int)) = ((a2 / 16 + a2 : Nat) : Int) := by
      rw [IntKind.wrap_u64]; clear e1 e2 e3 e4 e5 e6; omega
    have x1 := bits_and_nn (a2 / 16 + a2) 1085102592571150095 h2 (by omega)
    rw [y, show (1085102592571150095 : Int) = ((1085102592571150095 : Nat) : Int) from rfl, x1, e3]
  · rw [IntKind.wrap_u64]; clear e1 e2 e3 e5 e6; omega
  · rw [IntKind.wrap_u64]; clear e1 e2 e3 e4 e6; omega
  · rw [IntKind.wrap_u64]; clear e1 e2 e3 e4 e5; omega
  · have y : wrap64 (a6 : Int) = (a6 : Int) := IntWalk.wrap64_in _ ⟨by omega, by omega⟩
    rw [y, i64_and127, ← h7]
    omega
theorem ones_any (s : Nat) (w : World) (hs : s < 18446744073709551616) :
    Calls Tryd.prog 54 #[.int .u64 s] w fun e w' => e = .returned (.int .i64 ((mem s).length : Int)) ∧ w = w' := by
  obtain ⟨a1, a2, a3, a4, a5, a6, e1, e2, e3, e4, e5, e6, e7⟩ := ones_steps s hs
  clear hs
  go_enter Tryd.func54, Tryd.ntmps54
  go_wp2
  go_ret
  exact ⟨rfl, rfl⟩
/-- what members hands back: a row of its own -/
def OwnsMem (s : Nat) (w : World) (e : Ending) (w' : World) : Prop :=
  ∃ A c, e = .returned (.slice A (mem s).length c) ∧ w'.ownsRow w.heap.size 3 1 (.slice A (mem s).length c) (mem s).length (iv (mem s)) ∧ Below w.heap.size w w'
theorem Tryd.infoI : (Tryd.prog.info? 3).map (fun i => (i.zero, i.size, i.bytes)) = some (some (.int .i64 0), 1, 8) := by kernel_rfl
set_option maxRecDepth 100000 in
set_option maxHeartbeats 1600000 in
theorem members_own (s : Nat) (w : World) (hs : s < 18446744073709551616) (hT : Tab w) :
    Calls Tryd.prog 40 #[.int .u64 s] w (OwnsMem s w) := by
  obtain ⟨i0, hi, hz0, hz1, hz2⟩ := info_parts Tryd.infoI
  have HC := Lib.hid (ones_any s w hs)
  have HS := Lib.hid hs
  have HT := Lib.hid hT
  have hl := mem_length_le s
  clear hs hT
  go_enter Tryd.func40, Tryd.ntmps40
  go_wp2_with fail
  refine (HC.out).mono ?_
  rintro e w' ⟨rfl, rfl⟩
  go_wp2_with (at_make; refine wpList_make_own _ rfl _ _ 32 rfl w.heap.size 3 i0 (.int .i64 0) 1 Tryd.underlying32 hi hz0 hz1 .i64 .i64 _ (mem s).length rfl rfl rfl ?c1 ?c2 ?c3 ?_)
  case c1 => rw [hz2]; omega
  case c2 => unfold maxLen; omega
  case c3 => omega
  intro w0 hown0 hg0
  have hb0 : Below w.heap.size w w0 := (Below.refl _ _).grown hg0 (Nat.le_refl _) (fun k h => by cases h)
  clear hg0
  go_wp2
  go_loopw [0, 3] (fun sv v wr => ∃ (r : Nat) (L : List Nat), Hid (r < 18446744073709551616) ∧ sv = .int .u64 r ∧ Hid (mem s = L ++ mem r) ∧ wr.ownsRow w.heap.size 3 1 v L.length (iv L) ∧ Below w.heap.size w wr)
    (fun sv _ _ => (intOf sv).toNat)
  case atStart => exact ⟨s, [], HS, rfl, Lib.hid rfl, hown0, hb0⟩
  case round =>
    obtain ⟨r, L, Hr, rfl, HL, hown, hb⟩ := hrel
    by_cases h0 : r = 0
    · subst h0
      have e : mem s = L := by rw [HL.out, mem_zero]; simp
      subst e
      obtain ⟨A, c, rfl, hR⟩ := own_reads hown
      have HR := Lib.hid hown
      clear hown HL Hr HS
      have HB := Lib.hid hb
      clear hR hb hb0 hown0
      go_wp2
      go_ret
      exact ⟨A, c, rfl, HR.out, HB.out⟩
    · have HZ := Lib.hid (tz_any r wr Hr.out h0 (HT.out.belowAt hb HT.out.2))
      have hne : ((r : Int) != 0) = true := by simp; omega
      have hap := andpred r h0 Hr.out
      have H0 := Lib.hid h0
      have hL : L.length ≤ 63 := by have := HL.out; rw [mem_step r h0 Hr.out] at this; have := congrArg List.length this; simp at this; omega
      have hsz := hb.size
      clear h0
      go_wp2_with (first
        | (go_at_call 44; refine (HZ.out).mono ?_; rintro e w' ⟨rfl, rfl⟩)
        | (at_builtin; refine wpList_append_own _ rfl _ _ 32 rfl w.heap.size 3 i0 (.int .i64 0) 1 8 Tryd.underlying32 hi hz0 hz1 hz2 rfl (by decide) _ _ _ rfl (hown.alloc _) ⟨wr.heap.size, 0, none⟩ 1 1 [.int .i64 (low r)] rfl rfl ?c1 ?c2 ?c3 ?c4 ?c5 ?_))
      case c1 =>
        intro j u hj
        match j, hj with
        | 0, hj => simp at hj; subst hj; simp [Addr.add]
      case c2 => intro u hu; simp at hu; subst hu; rfl
      case c3 => unfold maxLen; omega
      case c4 => omega
      case c5 => simp; omega
      · intro v' w1 hown' hgrow _
        have hb1 : Below w.heap.size w w1 := (hb.alloc hsz _).grown hgrow (by simp; omega) (fun j hj => by have := (hown.lt j hj).1; omega)
        clear hgrow hown HZ
        go_wp2
        go_roundw
        case rel => exact ⟨r &&& (r - 1), L ++ [low r], Lib.hid (by have := and_pred_lt r H0.out; have := Hr.out; omega), rfl, Lib.hid (by rw [HL.out, mem_step r H0.out Hr.out]; simp), by rw [iv_append, List.length_append]; exact hown', hb1⟩
        case measure => have := and_pred_lt r H0.out; simp [intOf]; omega
/-- the members among the first k worlds -/
def memTo (s k : Nat) : List Nat := (List.range k).filter (fun w => s.testBit w)
theorem memTo_hit (s k : Nat) (h : s.testBit k = true) : memTo s (k + 1) = memTo s k ++ [k] := by
  unfold memTo; rw [List.range_succ, List.filter_append]; simp [h]
theorem memTo_miss (s k : Nat) (h : s.testBit k = false) : memTo s (k + 1) = memTo s k := by
  unfold memTo; rw [List.range_succ, List.filter_append]; simp [h]
theorem memTo_le (s k : Nat) : (memTo s k).length ≤ k := by
  unfold memTo
  have := List.length_filter_le (fun w => s.testBit w) (List.range k)
  simpa using this
theorem memTo_all (s : Nat) : memTo s 64 = mem s := rfl
set_option maxHeartbeats 1600000 in
theorem rMembers_any (s : Nat) (w : World) (hs : s < 18446744073709551616) :
    Calls Tryd.prog 42 #[.int .u64 s] w (OwnsMem s w) := by
  obtain ⟨i0, hi, hz0, hz1, hz2⟩ := info_parts Tryd.infoI
  have HS := Lib.hid hs
  clear hs
  go_enter Tryd.func42, Tryd.ntmps42
  go_wp2
  go_loopw [3, 4] (fun v i wr => ∃ k : Nat, k ≤ 64 ∧ i = .int .i64 k ∧ wr.ownsRow w.heap.size 3 1 v (memTo s k).length (iv (memTo s k)) ∧ Below w.heap.size w wr) (fun _ i _ => 64 - (intOf i).toNat)
  case atStart => exact ⟨0, Nat.zero_le _, rfl, World.ownsRow_nil _ _ _ _, Below.refl _ _⟩
  case round =>
    obtain ⟨k, hk, rfl, hown, hb⟩ := hrel
    have hle := memTo_le s k
    have hsz := hb.size
    by_cases hlt : k < 64
    · have HH := Lib.hid (fun W => rHas_any s k W HS.out hlt)
      by_cases hbit : s.testBit k = true
      · rw [hbit] at HH
        have HM := Lib.hid (memTo_hit s k hbit)
        clear hbit
        go_wp2_with fail
        refine (HH.out _).mono ?_
        rintro e w4 ⟨rfl, rfl⟩
        go_wp2_with (at_builtin; refine wpList_append_own _ rfl _ _ 32 rfl w.heap.size 3 i0 (.int .i64 0) 1 8 Tryd.underlying32 hi hz0 hz1 hz2 rfl (by decide) _ _ _ rfl (hown.alloc _) ⟨wr.heap.size, 0, none⟩ 1 1 [.int .i64 (k : Int)] rfl rfl ?c1 ?c2 ?c3 ?c4 ?c5 ?_)
        case c1 =>
          intro j u hj
          match j, hj with
          | 0, hj => simp at hj; subst hj; simp [Addr.add]
        case c2 => intro u hu; simp at hu; subst hu; rfl
        case c3 => unfold maxLen; omega
        case c4 => omega
        case c5 => simp; omega
        · intro v' w1 hown' hgrow _
          have hb1 : Below w.heap.size w w1 := (hb.alloc hsz _).grown hgrow (by simp; omega) (fun j hj => by have := (hown.lt j hj).1; omega)
          clear hgrow hown
          go_wp2
          go_roundw
          case rel => exact ⟨k + 1, by omega, by go_num, by rw [HM.out, iv_append, List.length_append]; exact hown', hb1⟩
          case measure => simp [intOf]; omega
      · have hbit2 : s.testBit k = false := by simpa using hbit
        rw [hbit2] at HH
        have HM := Lib.hid (memTo_miss s k hbit2)
        clear hbit hbit2
        go_wp2_with fail
        refine (HH.out _).mono ?_
        rintro e w4 ⟨rfl, rfl⟩
        go_wp2
        go_roundw
        case rel => exact ⟨k + 1, by omega, by go_num, by rw [HM.out]; exact hown, hb⟩
        case measure => simp [intOf]; omega
    · have hk64 : k = 64 := by omega
      subst hk64
      rw [memTo_all] at hown
      obtain ⟨A, c, rfl, hR⟩ := own_reads hown
      have HO := Lib.hid hown
      have HB := Lib.hid hb
      clear hown hR hb hsz
      go_wp2
      go_ret
      exact ⟨A, c, rfl, HO.out, HB.out⟩
theorem ixN_lt (l : List Nat) (s k : Nat) : ixN l s k < 2 ^ k := bitsN_lt _ _
theorem ix_orP {l : List Nat} {s x j : Nat} (hx : l.getD j 0 = x) (hs : s < 18446744073709551616) (hj : j < 64) :
    bits .or .u64 ((ixN l s j : Nat) : Int) (IntKind.u64.wrap (bits .and .u64 ((s : Int) / 2 ^ x) 1 * 2 ^ j)) = ((ixN l s (j + 1) : Nat) : Int) := by
  have h2 : 2 ^ j < 2 ^ 64 := Nat.pow_lt_pow_right (by decide) hj
  have h3 := ixN_lt l s j
  have ho := bitsN_or (fun i => s.testBit (l.getD i 0)) j
  rw [bit_and hs]
  subst hx
  by_cases h : s.testBit (l.getD j 0) = true
  · rw [if_pos h] at ho ⊢
    rw [show IntKind.u64.wrap (1 * 2 ^ j) = ((2 ^ j : Nat) : Int) by
      rw [Int.one_mul, show ((2 : Int) ^ j) = ((2 ^ j : Nat) : Int) by simp, IntKind.wrap_u64]; omega]
    rw [u64_or_nat _ _ (by omega) (by omega)]
    unfold ixN
    rw [ho]
  · rw [if_neg h] at ho ⊢
    rw [show IntKind.u64.wrap (0 * 2 ^ j) = ((0 : Nat) : Int) by rw [Int.zero_mul, IntKind.wrap_u64]; omega]
    rw [u64_or_nat _ _ (by omega) (by omega)]
    unfold ixN
    rw [ho]
theorem ix_hit {l : List Nat} {s j : Nat} (h : s.testBit (l.getD j 0) = true) (hj : j < 64) : bits .or .u64 ((ixN l s j : Nat) : Int) (IntKind.u64.wrap (2 ^ j)) = ((ixN l s (j + 1) : Nat) : Int) := by
  have h2 : 2 ^ j < 2 ^ 64 := Nat.pow_lt_pow_right (by decide) hj
  have h3 := ixN_lt l s j
  have ho := bitsN_or (fun i => s.testBit (l.getD i 0)) j
  rw [if_pos h] at ho
  rw [show IntKind.u64.wrap (2 ^ j) = ((2 ^ j : Nat) : Int) by rw [show ((2 : Int) ^ j) = ((2 ^ j : Nat) : Int) by simp, IntKind.wrap_u64]; omega, u64_or_nat _ _ (by omega) (by omega)]
  unfold ixN
  rw [ho]
theorem ix_miss {l : List Nat} {s j : Nat} (h : s.testBit (l.getD j 0) = false) : ixN l s (j + 1) = ixN l s j := by
  show bitsN _ j + (if s.testBit (l.getD j 0) = true then 2 ^ j else 0) = _; rw [h]; rfl
theorem Reads.iv_k {w : World} {B n : Nat} {A : Option Addr} {l : List Nat} (h : Reads w B 1 A n (iv l)) {k : Nat} (hk : k < n) :
    ∃ ad, A = some ad ∧ ad.block < B ∧ w.cell? (ad.add k) = some (.int .i64 ((l.getD k 0 : Nat) : Int)) := by
  obtain ⟨ad, u, hA, hb, hu, hc⟩ := h.at_ hk
  unfold iv at hu
  rw [List.getElem?_map] at hu
  have hl : k < l.length := by have := h.1; rw [iv_length] at this; omega
  rw [List.getElem?_eq_getElem hl] at hu
  simp at hu
  subst hu
  exact ⟨ad, hA, hb, by rw [hc, List.getD_eq_getElem?_getD, List.getElem?_eq_getElem hl]; rfl⟩
theorem Reads.iv_len {w : World} {B n : Nat} {A : Option Addr} {l : List Nat} (h : Reads w B 1 A n (iv l)) : l.length = n := by have := h.1; rw [iv_length] at this; omega
set_option maxHeartbeats 4000000 in
theorem indices_any (l : List Nat) (s : Nat) (A : Option Addr) (n c B : Nat) (w : World) (hR : Reads w B 1 A n (iv l)) (hn : n ≤ 64) (hl64 : ∀ x ∈ l, x < 64) (hs : s < 18446744073709551616) :
    Calls Tryd.prog 55 #[.slice A n c, .int .u64 (s : Int)] w fun e w' => e = .returned (.int .u64 ((ix l s : Nat) : Int)) ∧ w = w' := by
  have HL := Lib.hid hR.iv_len
  have HR := Lib.hid hR
  have HX := Lib.hid (fun j x (h : l.getD j 0 = x) hj => ix_orP (l := l) (s := s) (x := x) (j := j) h hs hj)
  have HQ := Lib.hid (fun j (hj : j < l.length) => hl64 (l.getD j 0) (getD_mem' hj))
  have HI : Hid (ix l s = ixN l s n) := Lib.hid (by unfold ix; rw [HL.out])
  clear hR hs hl64
  go_enter Tryd.func55, Tryd.ntmps55
  go_wp2
  go_loopw [5, 6, 7, 10] (fun v _ _ i wr => ∃ j : Nat, j ≤ n ∧ i = .int .i64 j ∧ v = .int .u64 ((ixN l s j : Nat) : Int) ∧ w = wr) (fun _ _ _ i _ => n - (intOf i).toNat)
  case atStart => exact ⟨0, Nat.zero_le _, rfl, rfl, by first | rfl | trivial⟩
  case round =>
    obtain ⟨j, hj, rfl, rfl, rfl⟩ := hrel
    by_cases hlt : j < n
    · obtain ⟨ad, rfl, hb, hc⟩ := HR.out.iv_k hlt
      have hx64 := HQ.out j (by have := HL.out; omega)
      generalize hx : l.getD j 0 = x at *
      have hor := HX.out j x hx (by omega)
      clear hx
      generalize ixN l s j = fj at *
      go_wp2
      go_roundw
      case rel => exact ⟨j + 1, by omega, by go_num, rfl, by first | rfl | trivial⟩
      case measure => first | (simp [intOf]; done) | (simp [intOf]; omega)
    · have hjn : j = n := by omega
      subst hjn
      go_wp2
      go_ret
      exact ⟨ret_u64 (by rw [HI.out]), rfl⟩
set_option maxHeartbeats 4000000 in
theorem squeeze_any (l : List Nat) (s : Nat) (A : Option Addr) (n c B : Nat) (w : World) (hR : Reads w B 1 A n (iv l)) (hn : n ≤ 64) (hl64 : ∀ x ∈ l, x < 64) (hs : s < 18446744073709551616) :
    Calls Tryd.prog 56 #[.int .u64 (s : Int), .slice A n c] w fun e w' => e = .returned (.int .u64 ((ix l s : Nat) : Int)) ∧ w = w' := by
  have HL := Lib.hid hR.iv_len
  have HR := Lib.hid hR
  have HS := Lib.hid hs
  have HQ := Lib.hid (fun j (hj : j < l.length) => hl64 (l.getD j 0) (getD_mem' hj))
  have HI : Hid (ix l s = ixN l s n) := Lib.hid (by unfold ix; rw [HL.out])
  clear hR hs hl64
  go_enter Tryd.func56, Tryd.ntmps56
  go_wp2
  go_loopw [5, 6] (fun v i wr => ∃ j : Nat, j ≤ n ∧ i = .int .i64 j ∧ v = .int .u64 ((ixN l s j : Nat) : Int) ∧ w = wr) (fun _ i _ => n - (intOf i).toNat)
  case atStart => exact ⟨0, Nat.zero_le _, rfl, rfl, by first | rfl | trivial⟩
  case round =>
    obtain ⟨j, hj, rfl, rfl, rfl⟩ := hrel
    by_cases hlt : j < n
    · obtain ⟨ad, rfl, hb, hc⟩ := HR.out.iv_k hlt
      have hx64 := HQ.out j (by have := HL.out; omega)
      have HH := Lib.hid (rHas_any s (l.getD j 0) w HS.out hx64)
      by_cases hbit : s.testBit (l.getD j 0) = true
      · have hor := ix_hit hbit (show j < 64 by omega)
        rw [hbit] at HH
        clear hbit
        generalize hx : l.getD j 0 = x at *
        clear hx
        generalize ixN l s j = fj at *
        generalize hgf : ixN l s (j + 1) = fj1 at *
        have HGF := Lib.hid hgf
        clear hgf
        go_wp2_with fail
        refine (HH.out).mono ?_
        rintro e w4 ⟨rfl, rfl⟩
        go_wp2
        go_roundw
        case rel => exact ⟨j + 1, by omega, by go_num, by rw [HGF.out], by first | rfl | trivial⟩
        case measure => first | (simp [intOf]; done) | (simp [intOf]; omega)
      · have hbit2 : s.testBit (l.getD j 0) = false := by simpa using hbit
        rw [hbit2] at HH
        have HM := Lib.hid (ix_miss hbit2)
        clear hbit hbit2
        generalize hx : l.getD j 0 = x at *
        clear hx
        go_wp2_with fail
        refine (HH.out).mono ?_
        rintro e w4 ⟨rfl, rfl⟩
        go_wp2
        go_roundw
        case rel => exact ⟨j + 1, by omega, by go_num, by rw [HM.out], by first | rfl | trivial⟩
        case measure => first | (simp [intOf]; done) | (simp [intOf]; omega)
    · have hjn : j = n := by omega
      subst hjn
      go_wp2
      go_ret
      exact ⟨ret_u64 (by rw [HI.out]), rfl⟩
end Go.Proofs.YtofclgapgjcflaaDoor
