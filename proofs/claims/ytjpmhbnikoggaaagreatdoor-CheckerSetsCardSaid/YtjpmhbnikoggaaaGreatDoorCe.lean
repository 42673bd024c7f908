/- Layer 17: the reference's boxes, paths and propositional nodes. -/
import Derived.Test.YtjpmhbnikoggaaaGreatDoorNIg
import Derived.Test.YtjpmhbnikoggaaaGreatDoorNKa
namespace Go.Proofs.YtjpmhbnikoggaaaGreatDoor
open Go.RowKit Go.Proofs.Ws
set_option maxRecDepth 100000
theorem pthT_w {T : List Nat} {s : Nat} (hs : s < 18446744073709551616) (hT : Words T) : ∀ k, pthT T s k < 18446744073709551616
  | 0 => hs
  | k + 1 => by
    have ih := pthT_w hs hT k
    show (if (pthT T s k).testBit k then pthT T s k ||| T.getD k 0 else pthT T s k) < 18446744073709551616
    split
    · exact Nat.or_lt_two_pow (n := 64) ih (words_getD hT k)
    · exact ih
theorem pthN_w {T : List Nat} {n s : Nat} (hs : s < 18446744073709551616) (hT : Words T) : ∀ k, pthN T n s k < 18446744073709551616
  | 0 => hs
  | k + 1 => pthT_w (pthN_w hs hT k) hT n
theorem mapand_getD (G : List Nat) (x k : Nat) : (G.map (· &&& x)).getD k 0 = G.getD k 0 &&& x := by
  rw [List.getD_eq_getElem?_getD, List.getElem?_map, List.getD_eq_getElem?_getD]
  cases G[k]? with
  | none => simp
  | some v => rfl
theorem words_and {G : List Nat} (hw : Words G) (x : Nat) : Words (G.map (· &&& x)) := fun y hy => by
  obtain ⟨g, hg, rfl⟩ := List.mem_map.1 hy
  exact Nat.lt_of_le_of_lt Nat.and_le_left (hw g hg)
set_option maxHeartbeats 2000000 in
theorem rBoxC_any (R : List Nat) (s : Nat) (A : Option Addr) (m c : Nat) (w : World) (hR : Reads w w.heap.size 1 A m (us R)) (hw : Words R) (hm : m ≤ 64) (hs : s < 18446744073709551616) :
    Calls Tryz.prog 121 #[.slice A m c, .int .i64 (m : Int), .int .u64 (s : Int)] w fun e w' => e = .returned (.int .u64 (whU (pBox s) R m : Int)) ∧ w = w' := by
  have HW := Lib.hid hw
  clear hw
  go_enter Tryz.func121, Tryz.ntmps121
  go_wp2
  go_loopw [7, 8] (fun sv i wr => ∃ k : Nat, k ≤ m ∧ i = .int .i64 k ∧ sv = .int .u64 (whU (pBox s) R k : Int) ∧ w = wr) (fun _ i _ => m - (intOf i).toNat)
  case atStart => exact ⟨0, Nat.zero_le _, rfl, rfl, by first | rfl | trivial⟩
  case round =>
    obtain ⟨k, hk, rfl, rfl, rfl⟩ := hrel
    by_cases hlt : k < m
    · obtain ⟨ad, rfl, hb, hc⟩ := hR.word_k hlt
      obtain ⟨x, hx⟩ : ∃ x, R.getD k 0 = x := ⟨_, by first | rfl | trivial⟩
      have hbt := box_bits x s (by rw [← hx]; exact words_getD HW.out k) hs
      rw [hx] at hc
      have hor := (or_pow _ k (whU_lt (pBox s) R k (by omega)) (by omega)).1
      have hwp := wrap_pow k (by omega)
      by_cases hp : pBox s x = true
      · have HS : Hid (whU (pBox s) R (k + 1) = whU (pBox s) R k ||| p2 k) := Lib.hid (by rw [whU_succ, hx, if_pos hp])
        rw [hp] at hbt
        clear hp hx
        go_wp2
        go_roundw
        case rel => exact ⟨k + 1, by omega, by go_num, by rw [HS.out], by first | rfl | trivial⟩
        case measure => simp [intOf]; omega
      · have HS : Hid (whU (pBox s) R (k + 1) = whU (pBox s) R k) := Lib.hid (by rw [whU_succ, hx, if_neg hp])
        have hp' : pBox s x = false := by simpa using hp
        rw [hp'] at hbt
        clear hp hp' hx
        go_wp2
        go_roundw
        case rel => exact ⟨k + 1, by omega, by go_num, by rw [HS.out], by first | rfl | trivial⟩
        case measure => simp [intOf]; omega
    · obtain rfl : m = k := by omega
      clear hlt
      go_wp2
      go_ret
      exact ⟨rfl, by first | rfl | trivial⟩
set_option maxHeartbeats 4000000 in
theorem rPaths_any (G : List Nat) (x frm : Nat) (A : Option Addr) (m c : Nat) (w : World) (hR : Reads w w.heap.size 1 A m (us G)) (hw : Words G) (hm : m ≤ 64) (hx : x < 18446744073709551616) (hf : frm < m) :
    Calls Tryz.prog 168 #[.slice A m c, .int .i64 (m : Int), .int .i64 (frm : Int), .int .u64 (x : Int)] w fun e w' => e = .returned (.int .u64 ((pthN (G.map (· &&& x)) m ((G.map (· &&& x)).getD frm 0) m : Nat) : Int)) ∧ w = w' := by
  have HGW := Lib.hid (fun k => words_getD hw k)
  have HTW := Lib.hid (words_and hw x)
  have HTG := Lib.hid (fun k => mapand_getD G x k)
  generalize G.map (· &&& x) = T at *
  obtain ⟨S, hS⟩ : ∃ S, T.getD frm 0 = S := ⟨_, by first | rfl | trivial⟩
  have hS1 : S = G.getD frm 0 &&& x := by rw [← hS, HTG.out]
  have hSw : S < 18446744073709551616 := by rw [← hS]; exact words_getD HTW.out frm
  rw [hS]
  have HPN := Lib.hid (fun k => pthN_w (n := m) hSw HTW.out k)
  have HPT := Lib.hid (fun k j => pthT_w (HPN.out k) HTW.out j)
  have HRR := Lib.hid hR
  obtain ⟨a0, ha0, _, hc0⟩ := hR.word_k hf
  subst ha0
  have hand0 := u64_and_nat (G.getD frm 0) x (HGW.out frm) hx
  rw [← hS1] at hand0
  generalize G.getD frm 0 = g0 at *
  clear hw hS hS1 hR
  go_enter Tryz.func168, Tryz.ntmps168
  go_wp2
  clear hc0 hand0
  go_loopw [9, 10, 11] (fun sv i _ wr => ∃ k : Nat, k ≤ m ∧ i = .int .i64 k ∧ sv = .int .u64 (pthN T m S k : Int) ∧ w = wr) (fun _ i _ _ => m - (intOf i).toNat)
  case atStart => exact ⟨0, Nat.zero_le _, rfl, rfl, by first | rfl | trivial⟩
  case round =>
    obtain ⟨k, hk, rfl, rfl, rfl⟩ := hrel
    by_cases hlt : k < m
    · obtain ⟨U, hU⟩ : ∃ U, pthN T m S k = U := ⟨_, by first | rfl | trivial⟩
      have HU1 : Hid (pthN T m S (k + 1) = pthT T U m) := Lib.hid (by rw [← hU]; rfl)
      have HUT : Hid (∀ j, pthT T U j < 18446744073709551616) := Lib.hid (fun j => by rw [← hU]; exact HPT.out k j)
      rw [hU]
      clear hU
      go_wp2
      go_loopw [9, 11] (fun sv wv wr => ∃ j : Nat, j ≤ m ∧ wv = .int .i64 j ∧ sv = .int .u64 (pthT T U j : Int) ∧ w = wr) (fun _ wv _ => m - (intOf wv).toNat)
      case atStart => exact ⟨0, Nat.zero_le _, rfl, rfl, by first | rfl | trivial⟩
      case round =>
        obtain ⟨j, hj, rfl, rfl, rfl⟩ := hrel
        by_cases hlt2 : j < m
        · obtain ⟨ad, had, _, hcj⟩ := HRR.out.word_k hlt2
          injection had with had
          subst had
          have hz := HUT.out j
          have HS1 : Hid (pthT T U (j + 1) = if (pthT T U j).testBit j then pthT T U j ||| (G.getD j 0 &&& x) else pthT T U j) := Lib.hid (by rw [← HTG.out]; rfl)
          have hand := u64_and_nat (G.getD j 0) x (HGW.out j) hx
          have hgx : G.getD j 0 &&& x < 18446744073709551616 := by rw [← HTG.out]; exact words_getD HTW.out j
          generalize pthT T U j = z at *
          generalize G.getD j 0 = g at *
          have hor := u64_or_nat z (g &&& x) hz hgx
          have HH := Lib.hid (rHas_any z j w hz (by omega))
          generalize g &&& x = gx at *
          cases hbit : z.testBit j with
          | true =>
            rw [hbit] at HH HS1
            clear hbit
            go_wp2_with fail
            refine (HH.out).mono ?_
            rintro e w' ⟨rfl, rfl⟩
            go_wp2
            go_roundw
            case rel => exact ⟨j + 1, by omega, by go_num, by rw [HS1.out]; rfl, by first | rfl | trivial⟩
            case measure => simp [intOf]; omega
          | false =>
            rw [hbit] at HH HS1
            clear hbit hand hor
            go_wp2_with fail
            refine (HH.out).mono ?_
            rintro e w' ⟨rfl, rfl⟩
            go_wp2
            go_roundw
            case rel => exact ⟨j + 1, by omega, by go_num, by rw [HS1.out]; rfl, by first | rfl | trivial⟩
            case measure => simp [intOf]; omega
        · obtain rfl : m = j := by omega
          clear hlt2
          go_wp2
          go_roundw
          case rel => exact ⟨k + 1, by omega, by go_num, by rw [HU1.out], by first | rfl | trivial⟩
          case measure => simp [intOf]; omega
    · obtain rfl : m = k := by omega
      clear hlt
      go_wp2
      go_ret
      exact ⟨rfl, by first | rfl | trivial⟩
set_option maxHeartbeats 4000000 in
theorem rCommonC_any (G : List Nat) (x y : Nat) (A : Option Addr) (m c : Nat) (w : World) (hR : Reads w w.heap.size 1 A m (us G)) (hw : Words G) (hm : m ≤ 64) (hx : x < 18446744073709551616) (hy : y < 18446744073709551616) :
    Calls Tryz.prog 124 #[.slice A m c, .int .i64 (m : Int), .int .u64 (x : Int), .int .u64 (y : Int)] w fun e w' => e = .returned (.int .u64 ((whU (pBox y) ((List.range m).map (fun k => pthN (G.map (· &&& x)) m ((G.map (· &&& x)).getD k 0) m)) m : Nat) : Int)) ∧ w = w' := by
  have HC := Lib.hid (fun k hk => rPaths_any G x k A m c w hR hw hm hx hk)
  have HL : Hid (∀ k, k < m → ((List.range m).map (fun k => pthN (G.map (· &&& x)) m ((G.map (· &&& x)).getD k 0) m)).getD k 0 = pthN (G.map (· &&& x)) m ((G.map (· &&& x)).getD k 0) m) := Lib.hid (fun k hk => by
    rw [List.getD_eq_getElem?_getD, List.getElem?_map, List.getElem?_range hk]
    rfl)
  have HPW : Hid (∀ k, pthN (G.map (· &&& x)) m ((G.map (· &&& x)).getD k 0) m < 18446744073709551616) := Lib.hid (fun k => pthN_w (words_getD (words_and hw x) k) (words_and hw x) m)
  obtain ⟨P, hP⟩ : ∃ P : Nat → Nat, P = fun k => pthN (G.map (· &&& x)) m ((G.map (· &&& x)).getD k 0) m := ⟨_, by first | rfl | trivial⟩
  have HC2 : Hid (∀ k, k < m → Calls Tryz.prog 168 #[.slice A m c, .int .i64 (m : Int), .int .i64 (k : Int), .int .u64 (x : Int)] w fun e w' => e = .returned (.int .u64 (P k : Int)) ∧ w = w') := Lib.hid (fun k hk => by rw [hP]; exact HC.out k hk)
  have HL2 : Hid (∀ k, k < m → ((List.range m).map P).getD k 0 = P k) := Lib.hid (fun k hk => by rw [hP]; exact HL.out k hk)
  have HPW2 : Hid (∀ k, P k < 18446744073709551616) := Lib.hid (fun k => by rw [hP]; exact HPW.out k)
  rw [← hP]
  clear HC HL HPW hP hR hw
  generalize (List.range m).map P = R at *
  go_enter Tryz.func124, Tryz.ntmps124
  go_wp2
  go_loopw [9, 10] (fun sv i wr => ∃ k : Nat, k ≤ m ∧ i = .int .i64 k ∧ sv = .int .u64 (whU (pBox y) R k : Int) ∧ w = wr) (fun _ i _ => m - (intOf i).toNat)
  case atStart => exact ⟨0, Nat.zero_le _, rfl, rfl, by first | rfl | trivial⟩
  case round =>
    obtain ⟨k, hk, rfl, rfl, rfl⟩ := hrel
    by_cases hlt : k < m
    · have HK := Lib.hid (HC2.out k hlt)
      have hx1 := HL2.out k hlt
      have hbt := box_bits (P k) y (HPW2.out k) hy
      generalize P k = z at *
      have hor := (or_pow _ k (whU_lt (pBox y) R k (by omega)) (by omega)).1
      have hwp := wrap_pow k (by omega)
      by_cases hp : pBox y z = true
      · have HS : Hid (whU (pBox y) R (k + 1) = whU (pBox y) R k ||| p2 k) := Lib.hid (by rw [whU_succ, hx1, if_pos hp])
        rw [hp] at hbt
        clear hp hx1
        go_wp2_with fail
        refine (HK.out).mono ?_
        rintro e w' ⟨rfl, rfl⟩
        go_wp2
        go_roundw
        case rel => exact ⟨k + 1, by omega, by go_num, by rw [HS.out], by first | rfl | trivial⟩
        case measure => simp [intOf]; omega
      · have HS : Hid (whU (pBox y) R (k + 1) = whU (pBox y) R k) := Lib.hid (by rw [whU_succ, hx1, if_neg hp])
        have hp' : pBox y z = false := by simpa using hp
        rw [hp'] at hbt
        clear hp hp' hx1
        go_wp2_with fail
        refine (HK.out).mono ?_
        rintro e w' ⟨rfl, rfl⟩
        go_wp2
        go_roundw
        case rel => exact ⟨k + 1, by omega, by go_num, by rw [HS.out], by first | rfl | trivial⟩
        case measure => simp [intOf]; omega
    · obtain rfl : m = k := by omega
      clear hlt
      go_wp2
      go_ret
      exact ⟨rfl, by first | rfl | trivial⟩
def booN (op : Int) (x y all : Nat) : Nat :=
  if op = 1 then all else if op = 4 then anN all x else if op = 5 then x &&& y else if op = 6 then x ||| y else if op = 7 then anN all x ||| y else if op = 8 then anN all (x ^^^ y) else 0
theorem anN_lt (a b : Nat) (ha : a < 18446744073709551616) : anN a b < 18446744073709551616 := Nat.lt_of_le_of_lt Nat.and_le_left ha
theorem rBoolean_any (op : Int) (x y al : Nat) (w : World) (ho : op = 1 ∨ op = 2 ∨ op = 4 ∨ op = 5 ∨ op = 6 ∨ op = 7 ∨ op = 8) (hx : x < 18446744073709551616) (hy : y < 18446744073709551616) (ha : al < 18446744073709551616) :
    Calls Tryz.prog 120 #[.int .i64 op, .int .u64 (x : Int), .int .u64 (y : Int), .int .u64 (al : Int)] w fun e w' => e = .returned (.int .u64 ((booN op x y al : Nat) : Int)) ∧ w = w' := by
  have h1 := u64_andNot_nat al x ha hx
  have h2 := u64_and_nat x y hx hy
  have h3 := u64_or_nat x y hx hy
  have h4 := u64_or_nat (anN al x) y (anN_lt al x ha) hy
  have h5 := u64_xor_nat x y hx hy
  have hxy : x ^^^ y < 18446744073709551616 := Nat.xor_lt_two_pow (n := 64) hx hy
  have h6 := u64_andNot_nat al (x ^^^ y) ha hxy
  unfold anN at h4
  have HS := Lib.hid h1
  rcases ho with rfl | rfl | rfl | rfl | rfl | rfl | rfl
  · go_enter Tryz.func120, Tryz.ntmps120
    go_wp2
    go_ret
    exact ⟨rfl, by first | rfl | trivial⟩
  · go_enter Tryz.func120, Tryz.ntmps120
    go_wp2
    go_ret
    exact ⟨rfl, by first | rfl | trivial⟩
  · go_enter Tryz.func120, Tryz.ntmps120
    go_wp2
    go_ret
    exact ⟨rfl, by first | rfl | trivial⟩
  · go_enter Tryz.func120, Tryz.ntmps120
    go_wp2
    go_ret
    exact ⟨rfl, by first | rfl | trivial⟩
  · go_enter Tryz.func120, Tryz.ntmps120
    go_wp2
    go_ret
    exact ⟨rfl, by first | rfl | trivial⟩
  · go_enter Tryz.func120, Tryz.ntmps120
    go_wp2
    go_ret
    exact ⟨rfl, by first | rfl | trivial⟩
  · go_enter Tryz.func120, Tryz.ntmps120
    go_wp2
    go_ret
    exact ⟨rfl, by first | rfl | trivial⟩
end Go.Proofs.YtjpmhbnikoggaaaGreatDoor
