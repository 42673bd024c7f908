/- Layer 13: the inverse of a list of numbers, on both sides. -/
import Derived.Test.YtofclgapgjcflaaDoorDo
namespace Go.Proofs.YtofclgapgjcflaaDoor
open Go.RowKit Go.Proofs.Ws
set_option maxRecDepth 100000
/-- block g holds just these numbers -/
def HoldsN (w : World) (g : Nat) (l : List Nat) : Prop := w.heap[g]? = some (.cells (iv l).toArray 3 (0, 0))
theorem made_iv (n : Nat) : madeCells (Value.int IntKind.i64 0).cells n = (iv (List.replicate n 0)).toArray := by
  apply Array.ext
  · simp [madeCells, iv]
  · intro i h1 h2
    simp [madeCells, iv, Value.cells, Nat.mod_one]
theorem makeN (w : World) (n : Nat) (hn : n ≤ 1000000) : (Instr.makeSlice 32 (.int .i64 (n : Int)) (.int .i64 (n : Int))).run Tryd.prog w = .ok (.slice (some ⟨w.heap.size, 0, none⟩) n n) (w.alloc (.cells (iv (List.replicate n 0)).toArray 3)) := by
  obtain ⟨i0, hi, hz0, hz1, hz2⟩ := info_parts Tryd.infoI
  have h := run_make (P := Tryd.prog) w 32 3 i0 (.int .i64 0) Tryd.underlying32 hi hz0 .i64 .i64 n n (by omega) (Int.le_refl _) (by rw [hz2]; omega) (by omega)
  rw [h, hz1]
  simp only [Int.toNat_natCast, Nat.mul_one]
  rw [made_iv]
theorem HoldsN.cell {w : World} {g : Nat} {l : List Nat} (h : HoldsN w g l) (k : Nat) (hk : k < l.length) : w.cell? ⟨g, k, none⟩ = some (.int .i64 ((l.getD k 0 : Nat) : Int)) := by
  rw [Lib.cell_of_heap h, List.getElem?_toArray]
  unfold iv
  rw [List.getElem?_map, List.getElem?_eq_getElem hk, List.getD_eq_getElem?_getD, List.getElem?_eq_getElem hk]
  rfl
theorem HoldsN.free {w : World} {g : Nat} {l : List Nat} (h : HoldsN w g l) (k : Nat) : w.frozen? ⟨g, k, none⟩ = false := Lib.frozen_of_heap h k
theorem HoldsN.put {w : World} {g : Nat} {l : List Nat} (h : HoldsN w g l) (k x : Nat) : HoldsN (w.setCell ⟨g, k, none⟩ (.int .i64 (x : Int))) g (l.set k x) := by
  unfold HoldsN at h ⊢
  have e : (iv (l.set k x)).toArray = (iv l).toArray.setIfInBounds k (.int .i64 (x : Int)) := by
    unfold iv
    rw [List.map_set]
    simp
  rw [e]
  simp [World.setCell, Array.getElem?_modify, h]
theorem HoldsN.lt {w : World} {g : Nat} {l : List Nat} (h : HoldsN w g l) : g < w.heap.size := (Array.getElem?_eq_some_iff.1 h).1
theorem HoldsN.reads {w : World} {g : Nat} {l : List Nat} (h : HoldsN w g l) : Reads w w.heap.size 1 (some ⟨g, 0, none⟩) l.length (iv l) := by
  refine ⟨by rw [iv_length]; omega, fun _ => ⟨_, rfl, h.lt, fun j u hu => ?_⟩⟩
  rw [addr0]
  unfold iv at hu
  rw [List.getElem?_map] at hu
  obtain ⟨k, hk, rfl⟩ := Option.map_eq_some_iff.1 hu
  have hj : j < l.length := by
    by_cases h' : j < l.length
    · exact h'
    · rw [List.getElem?_eq_none (by omega)] at hk; cases hk
  rw [h.cell j hj, List.getD_eq_getElem?_getD, hk]; rfl
/-- what the inverse of a list is returned as -/
def InvPost (n : Nat) (tp : List Int) (w : World) (e : Ending) (w' : World) : Prop :=
  Below w.heap.size w w' ∧ ((PermL n tp ∧ ∃ A c, e = .returned (.tuple #[.slice A n c, .bool true]) ∧ Reads w' w'.heap.size 1 A n (iv (invL n tp))) ∨ (¬ PermL n tp ∧ e = .returned (.tuple #[.slice none 0 0, .bool false])))
theorem seen_or {tp : List Int} {k x : Nat} (hx : tp.getD k 0 = (x : Int)) (hx64 : x < 64) (hs : seenK tp k < 18446744073709551616) :
    bits .or .u64 ((seenK tp k : Nat) : Int) (IntKind.u64.wrap (2 ^ x)) = ((seenK tp (k + 1) : Nat) : Int) := by
  have h2 : 2 ^ x < 2 ^ 64 := Nat.pow_lt_pow_right (by decide) hx64
  rw [wrap_pow x hx64, u64_or_nat _ _ hs (show p2 x < _ from h2)]
  show ((seenK tp k ||| 2 ^ x : Nat) : Int) = ((seenK tp k ||| 2 ^ (tp.getD k 0).toNat : Nat) : Int)
  rw [hx]; rfl
set_option maxHeartbeats 8000000 in
theorem pInverse_any (tp : List Int) (A : Option Addr) (n c B : Nat) (w : World) (hB : B ≤ w.heap.size) (hR : Reads w B 1 A n (ints tp)) (hn : n ≤ 64) :
    Calls Tryd.prog 46 #[.slice A n c] w (InvPost n tp w) := by
  have hl := hR.int_len
  have HR := Lib.hid hR
  have HL := Lib.hid hl
  have HBB := Lib.hid hB
  have hmk := makeN w n (by omega)
  have HN0 : Hid (HoldsN (w.alloc (.cells (iv (List.replicate n 0)).toArray 3)) w.heap.size (List.replicate n 0)) := Lib.hid (heap_alloc_new w _)
  have HB0 : Hid (Below w.heap.size w (w.alloc (.cells (iv (List.replicate n 0)).toArray 3))) := Lib.hid ((Below.refl _ w).alloc (Nat.le_refl _) _)
  clear hR hl hB
  go_enter Tryd.func46, Tryd.ntmps46
  go_wp2
  generalize w.alloc (.cells (iv (List.replicate n 0)).toArray 3) = w1 at *
  clear hmk
  go_loopw [5, 6, 7, 13] (fun s _ _ i wr => ∃ k : Nat, k ≤ n ∧ i = .int .i64 k ∧ s = .int .u64 ((seenK tp k : Nat) : Int) ∧ Hid (PreP n tp k) ∧ Hid (HoldsN wr w.heap.size (frK n tp k)) ∧ Hid (OnlyB w.heap.size w1 wr)) (fun _ _ _ i _ => n - (intOf i).toNat)
  case atStart => exact ⟨0, Nat.zero_le _, rfl, rfl, Lib.hid (PreP.zero _ _), HN0, Lib.hid (OnlyB.refl _ _)⟩
  case round =>
    obtain ⟨k, hk, rfl, rfl, HP, HH, HO⟩ := hrel
    have HBr := Lib.hid (HB0.out.trans (HO.out.below (Nat.le_refl _) HB0.out.size))
    by_cases hlt : k < n
    · obtain ⟨ad, rfl, hb, hc⟩ := (HR.out.below (HBr.out.mono HBB.out)).int_k hlt
      by_cases hneg : tp.getD k 0 < 0
      · have HNP : Hid (¬ PermL n tp) := Lib.hid (PermL.not_low hlt (.inl hneg))
        have d0 : decide (tp.getD k 0 < 0) = true := decide_eq_true hneg
        clear hneg
        generalize tp.getD k 0 = x at *
        generalize seenK tp k = sk at *
        go_wp2
        go_ret2
        exact ⟨HBr.out, .inr ⟨HNP.out, rfl⟩⟩
      · by_cases hbig : (n : Int) ≤ tp.getD k 0
        · have HNP : Hid (¬ PermL n tp) := Lib.hid (PermL.not_low hlt (.inr hbig))
          have d0 : decide (tp.getD k 0 < 0) = false := decide_eq_false hneg
          have d1 : decide ((n : Int) ≤ tp.getD k 0) = true := decide_eq_true hbig
          clear hneg hbig
          generalize tp.getD k 0 = x at *
          generalize seenK tp k = sk at *
          go_wp2
          go_ret2
          exact ⟨HBr.out, .inr ⟨HNP.out, rfl⟩⟩
        · obtain ⟨x, hx⟩ : ∃ x : Nat, tp.getD k 0 = (x : Int) := ⟨(tp.getD k 0).toNat, by omega⟩
          have hxn : x < n := by omega
          have hs64 : seenK tp k < 18446744073709551616 := Nat.lt_of_lt_of_le (seenK_lt HP.out) (Nat.pow_le_pow_right (show 0 < 2 by decide) hn)
          have hba := bit_and (k := x) hs64
          by_cases hbit : (seenK tp k).testBit x = true
          · have HNP := Lib.hid (HP.out.not_seen hlt (by omega) (by rw [hx]; exact hbit))
            have d0 : decide (tp.getD k 0 < 0) = false := decide_eq_false hneg
            have d1 : decide ((n : Int) ≤ tp.getD k 0) = false := decide_eq_false hbig
            rw [hbit, if_pos rfl] at hba
            rw [hx] at hc d0 d1
            clear hneg hbig hx hbit hs64
            generalize seenK tp k = sk at *
            go_wp2
            go_ret2
            exact ⟨HBr.out, .inr ⟨HNP.out, rfl⟩⟩
          · have hbit2 : (seenK tp k).testBit x = false := by simpa using hbit
            have HPN := Lib.hid (HP.out.next (by omega) (by omega) (by rw [hx]; exact hbit2))
            have d0 : decide (tp.getD k 0 < 0) = false := decide_eq_false hneg
            have d1 : decide ((n : Int) ≤ tp.getD k 0) = false := decide_eq_false hbig
            rw [hbit2, if_neg (by decide)] at hba
            have hso := seen_or hx (by omega) hs64
            have HFR : Hid (frK n tp (k + 1) = (frK n tp k).set x k) := Lib.hid (by show (frK n tp k).set (tp.getD k 0).toNat k = _; rw [hx]; rfl)
            have hcx := HH.out.cell x (by rw [frK_len]; exact hxn)
            have hfx := HH.out.free x
            rw [hx] at hc d0 d1
            clear hneg hbig hx hbit hbit2 hs64
            generalize hsk1 : seenK tp (k + 1) = sk1 at *
            have HSK := Lib.hid hsk1
            clear hsk1
            generalize seenK tp k = sk at *
            go_wp2
            go_roundw
            case rel => exact ⟨k + 1, by omega, by go_num, by rw [HSK.out], HPN, Lib.hid (by rw [HFR.out]; exact HH.out.put x k), Lib.hid (HO.out.trans (OnlyB.set _ x _ _))⟩
            case measure => first | (simp [intOf]; done) | (simp [intOf]; omega)
    · obtain rfl : n = k := by omega
      have HPM := Lib.hid (HP.out.perm HL.out)
      have HFI := Lib.hid (HP.out.fin HL.out)
      clear hlt
      generalize seenK tp n = sk at *
      go_wp2
      go_ret2
      refine ⟨HBr.out, .inl ⟨HPM.out, _, _, rfl, ?_⟩⟩
      have h9 := HH.out.reads
      rw [HFI.out, invL_len] at h9
      exact h9
set_option maxHeartbeats 8000000 in
theorem rInverse_any (tp : List Int) (A : Option Addr) (q n c B : Nat) (w : World) (hB : B ≤ w.heap.size) (hR : Reads w B 1 A q (ints tp)) (hn : n ≤ 64) (hq : q ≤ maxLen) :
    Calls Tryd.prog 47 #[.slice A q c, .int .i64 (n : Int)] w (InvPost n tp w) := by
  unfold maxLen at hq
  have hl := hR.int_len
  have HR := Lib.hid hR
  have HL := Lib.hid hl
  have HBB := Lib.hid hB
  obtain ⟨i0, hi, hz0, hz1, hz2⟩ := info_parts Tryd.infoI
  by_cases hqn : q = n
  · subst hqn
    have hne : ((q : Int) != (q : Int)) = false := by simp
    clear hR hl hB
    go_enter Tryd.func47, Tryd.ntmps47
    go_wp2
    go_loopw [6, 7, 8] (fun v i _ wr => ∃ (k : Nat) (l : List Nat) (vv : Value), k ≤ q ∧ i = .int .i64 k ∧ vv = v ∧ Hid (InvK q tp k l) ∧ wr.ownsRow w.heap.size 3 1 vv k (iv l) ∧ Below w.heap.size w wr) (fun _ i _ _ => q - (intOf i).toNat)
    case atStart => exact ⟨0, [], .slice none 0 0, Nat.zero_le _, rfl, rfl, Lib.hid (InvK.zero _ _), World.ownsRow_nil _ _ _ _, Below.refl _ _⟩
    case round =>
      obtain ⟨k, l, vv, hk, rfl, rfl, HI, hown, hb⟩ := hrel
      have HOW := Lib.hid hown
      have HBW := Lib.hid hb
      clear hown hb
      by_cases hlt : k < q
      · generalize wr = w5 at *
        go_wp2
        go_loopw [6, 8] (fun v i wr => ∃ (j : Nat) (vv : Value), j ≤ q ∧ i = .int .i64 j ∧ vv = v ∧ wr.ownsRow w.heap.size 3 1 vv (k + (posL tp k j).length) (iv (l ++ posL tp k j)) ∧ Below w.heap.size w wr) (fun _ i _ => q - (intOf i).toNat)
        case atStart => exact ⟨0, vv, Nat.zero_le _, rfl, rfl, by rw [show posL tp k 0 = [] from rfl, List.append_nil]; exact HOW.out, HBW.out⟩
        case round =>
          obtain ⟨j, vj, hj, rfl, rfl, hown, hb⟩ := hrel
          have hple := posL_le tp k j
          have hsz := hb.size
          by_cases hlj : j < q
          · obtain ⟨ad, rfl, hbb, hc⟩ := (HR.out.below (hb.mono HBB.out)).int_k hlj
            by_cases he : tp.getD j 0 = (k : Int)
            · have HPH := Lib.hid (posL_hit tp k j he)
              have heq : (tp.getD j 0 == (k : Int)) = true := by rw [he]; simp
              clear he
              generalize tp.getD j 0 = x at *
              generalize posL tp k j = pl at *
              go_wp2_with (at_builtin; refine wpList_append_own _ rfl _ _ 32 rfl w.heap.size 3 i0 (.int .i64 0) 1 8 Tryd.underlying32 hi hz0 hz1 hz2 rfl (by decide) _ _ _ rfl (hown.alloc _) ⟨wr.heap.size, 0, none⟩ 1 1 [.int .i64 (j : Int)] rfl rfl ?c1 ?c2 ?c3 ?c4 ?c5 ?_)
              case c1 =>
                intro j u hj
                match j, hj with
                | 0, hj => simp at hj; subst hj; simp [Addr.add]
              case c2 => intro u hu; simp at hu; subst hu; rfl
              case c3 => unfold maxLen; omega
              case c4 => omega
              case c5 => simp; omega
              · intro v' w6 hown' hgrow _
                have hb1 : Below w.heap.size w w6 := (hb.alloc hsz _).grown hgrow (by simp; omega) (fun j hj => by have := (hown.lt j hj).1; omega)
                have HO6 := Lib.hid hown'
                have HB6 := Lib.hid hb1
                clear hgrow hown hown' hb1 hb
                go_wp2
                go_roundw
                case rel => exact ⟨j + 1, v', by omega, by go_num, rfl, by rw [HPH.out, ← List.append_assoc, iv_append, List.length_append]; exact HO6.out, HB6.out⟩
                case measure => first | (simp [intOf]; done) | (simp [intOf]; omega)
            · have HPM := Lib.hid (posL_miss tp k j he)
              have heq : (tp.getD j 0 == (k : Int)) = false := by simpa using he
              have HO6 := Lib.hid hown
              have HB6 := Lib.hid hb
              clear he hown hb
              generalize tp.getD j 0 = x at *
              go_wp2
              go_roundw
              case rel => exact ⟨j + 1, _, by omega, by go_num, rfl, by rw [HPM.out]; exact HO6.out, HB6.out⟩
              case measure => first | (simp [intOf]; done) | (simp [intOf]; omega)
          · obtain rfl : q = j := by omega
            have HO6 := Lib.hid hown
            have HB6 := Lib.hid hb
            obtain ⟨Av, cv, rfl⟩ := own_sl hown
            clear hown hb hlj
            by_cases h1 : (posL tp k q).length = 1
            · have HIN := Lib.hid (HI.out.next h1)
              rw [h1] at HO6
              have hq1 : ((k : Int) + ((posL tp k q).length : Int) != (k : Int) + 1) = false := by rw [h1]; simp
              rw [h1] at hq1 ⊢
              clear h1
              go_wp2
              go_roundw
              case rel => exact ⟨k + 1, l ++ posL tp k q, _, by omega, by go_num, rfl, HIN, HO6.out, HB6.out⟩
              case measure => first | (simp [intOf]; done) | (simp [intOf]; omega)
            · have HNP : Hid (¬ PermL q tp) := Lib.hid (fun p => h1 (p.pos_one hlt))
              have hq1 : ((k : Int) + ((posL tp k q).length : Int) != (k : Int) + 1) = true := by rw [bne_iff_ne]; omega
              clear h1
              generalize (posL tp k q).length = pn at *
              go_wp2
              go_ret2
              exact ⟨HB6.out, .inr ⟨HNP.out, rfl⟩⟩
      · obtain rfl : q = k := by omega
        have HF := Lib.hid (HI.out.fin HL.out)
        obtain ⟨Av, cv, rfl⟩ := own_sl HOW.out
        clear hlt
        go_wp2
        go_ret2
        refine ⟨HBW.out, .inl ⟨HF.out.1, Av, cv, rfl, ?_⟩⟩
        rw [← HF.out.2]
        exact Reads.of_own HOW.out
  · have hne : ((q : Int) != (n : Int)) = true := by rw [bne_iff_ne]; omega
    have HNP : Hid (¬ PermL n tp) := Lib.hid (fun p => hqn (by rw [← hl, p.len]))
    clear hR hl hqn hB
    go_enter Tryd.func47, Tryd.ntmps47
    go_wp2
    go_ret2
    exact ⟨Below.refl _ _, .inr ⟨HNP.out, rfl⟩⟩
end Go.Proofs.YtofclgapgjcflaaDoor
