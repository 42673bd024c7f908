/- Layer 6: texts joined: Ss Rn Ro Rq Rr Rs. -/
import Derived.Test.YtjpmhbnikoggaaaGreatDoorNIc
import Derived.Lib.Walk
import Derived.Lib.SliceRun
import Derived.Laws.AppendOwnNone
/- Contracts of the library's slices.Clone, Equal and Contains at lists of words. -/
namespace Go.Proofs.YtjpmhbnikoggaaaGreatDoor
open Go.RowKit Go.Proofs.Ws
theorem HoldsP.of_own {w : World} {base : Nat} {v : Value} {l : List Nat} (h : w.ownsRow base 37 1 v l.length (us l)) (hv : v ≠ .slice none 0 0) : ∃ g c, v = .slice (some ⟨g, 0, none⟩) l.length c ∧ base ≤ g ∧ HoldsP w g l ∧ l.length ≤ c := by
  rcases h.2 with ⟨e, _⟩ | ⟨g, cap, cur, e, hb, hg, hn, _, hs, ht⟩
  · exact absurd e hv
  · refine ⟨g, cap, e, hb, ⟨cur.toList.drop l.length, ?_⟩, hn⟩
    rw [hg]
    have : cur = (us l ++ cur.toList.drop l.length).toArray := by
      rw [← ht, Nat.mul_one, List.take_append_drop]
    rw [← this]
set_option maxHeartbeats 2000000 in
set_option maxRecDepth 100000 in
theorem clone_any (l : List Nat) (A : Option Addr) (n c : Nat) (w : World) (hR : Reads w w.heap.size 1 A n (us l)) (hn : n ≤ 64) :
    Calls Tryz.prog 125 #[.slice A n c] w fun e w' => ∃ A' c', e = .returned (.slice A' n c') ∧ (0 < n → ∃ g, A' = some ⟨g, 0, none⟩ ∧ w.heap.size ≤ g ∧ HoldsP w' g l) ∧ Below w.heap.size w w' := by
  have e1 := hR.word_len
  have q22 : ∀ (w : World) (a : Option Addr) (n c n' c' : Nat), (binOp .eql 22 (.slice a n c) (.slice none n' c')).run Tryz.prog w = .ok (.bool a.isNone) w := fun w a n c n' c' => Lib.run_eql_slice_nil w _ _ a n c n' c' Tryz.underlying22
  cases A with
  | none =>
    have h0 : n = 0 := by
      apply Classical.byContradiction
      intro h
      obtain ⟨ad, u, hA, _⟩ := hR.at_ (show 0 < n by omega)
      cases hA
    subst h0
    go_enter Tryz.func125, Tryz.ntmps125
    go_wp2
    go_ret
    exact ⟨none, 0, rfl, fun h => absurd h (by omega), Below.refl _ _⟩
  | some a =>
    obtain ⟨i0, hi, hz0, hz1, hz2⟩ := info_parts Tryz.infoU
    have HR : Hid (Reads w w.heap.size 1 (some a) n (us l)) := Lib.hid hR
    clear hR
    go_enter Tryz.func125, Tryz.ntmps125
    go_wp2_with (at_builtin; refine wpList_append_own _ rfl _ _ 22 rfl w.heap.size 37 i0 (.int .u64 0) 1 8 Tryz.underlying22 hi hz0 hz1 hz2 rfl (by decide) _ _ _ rfl (World.ownsRow_made w #[] 0 (Nat.le_refl _) (Nat.zero_le _) (by simp)) a n c (us l) rfl ?qc1 ?qc2 ?qc3 ?qc4 ?qc5 ?qc6 ?_)
    case qc1 => rw [us_length]; omega
    case qc2 =>
      intro j u hj
      obtain ⟨_, h⟩ := HR.out
      have hjn : j < n := by
        unfold us at hj
        rw [List.getElem?_map] at hj
        obtain ⟨k, hk, _⟩ := Option.map_eq_some_iff.1 hj
        have := (List.getElem?_eq_some_iff.1 hk).1
        omega
      obtain ⟨ad, hA, hb, hc⟩ := h (by omega)
      cases hA
      exact Lib.cell?_alloc_some _ (hc j u hj)
    case qc3 =>
      intro u hu
      unfold us at hu
      obtain ⟨k, _, rfl⟩ := List.mem_map.1 hu
      rfl
    case qc4 => unfold maxLen; omega
    case qc5 => omega
    case qc6 => simp
    intro v' w1 hown hgrow hnil
    have hb : Below w.heap.size w w1 := ((Below.refl _ w).alloc (Nat.le_refl _) _).grown hgrow (by simp) (by intro k hk; simp [Value.ownBlock] at hk; omega)
    have hown' : w1.ownsRow w.heap.size 37 1 v' l.length (us l) := by
      have : 0 + n = l.length := by omega
      rw [← this]; simpa using hown
    obtain ⟨g, c', rfl, hg, hH, _⟩ := HoldsP.of_own hown' hnil
    have HB := Lib.hid hb
    have HH := Lib.hid hH
    clear hown hgrow hnil hb hown' hH
    go_wp2
    go_ret
    exact ⟨_, c', by rw [e1]; rfl, fun _ => ⟨g, rfl, hg, HH.out⟩, HB.out⟩
set_option maxRecDepth 100000 in
theorem equal_any (l m : List Nat) (A A2 : Option Addr) (n n2 c c2 B : Nat) (w : World) (hR : Reads w B 1 A n (us l)) (hR2 : Reads w B 1 A2 n2 (us m)) (hn : n ≤ maxLen) (hn2 : n2 ≤ maxLen) :
    Calls Tryz.prog 170 #[.slice A n c, .slice A2 n2 c2] w fun e w' => e = .returned (.bool (decide (l = m))) ∧ ∃ q, w' = w.drewN q := by
  unfold maxLen at hn hn2
  have e1 := hR.word_len
  have e2 := hR2.word_len
  by_cases h : n = n2
  · subst h
    have HL := Lib.hid e1
    have HL2 := Lib.hid e2
    clear e1 e2
    go_enter Tryz.func170, Tryz.ntmps170
    go_wp2
    go_loopw [13] (fun i wr => ∃ k q : Nat, k ≤ n ∧ i = .int .i64 k ∧ Hid (decide (l = m) = decide (l.drop k = m.drop k)) ∧ wr = w.drewN q) (fun i _ => n - (intOf i).toNat)
    case atStart => exact ⟨0, 0, Nat.zero_le _, rfl, Lib.hid rfl, rfl⟩
    case round =>
      obtain ⟨k, q, hk, rfl, HI, rfl⟩ := hrel
      by_cases hlt : k < n
      · obtain ⟨ad, x, rfl, hb, hkl, hx, hxm, hd, hc⟩ := hR.word_at hlt
        obtain ⟨ad2, y, rfl, hb2, hkl2, hy, hym, hd2, hc2⟩ := hR2.word_at hlt
        have HD := Lib.hid hd
        have HD2 := Lib.hid hd2
        clear hkl hx hxm hd hkl2 hy hym hd2
        by_cases hxy : x = y
        · subst hxy
          have HI2 : Hid (decide (l = m) = decide (l.drop (k + 1) = m.drop (k + 1))) := Lib.hid (by rw [HI.out, HD.out, HD2.out]; exact decide_eq_decide.2 (by simp))
          go_wp2
          go_quiet (fail)
          go_wp2
          go_roundw
          case rel => exact ⟨k + 1, q + nq, by omega, by go_num, HI2, by first | rfl | rw [World.drewN_drewN]⟩
          case measure => simp [intOf]; omega
        · have HE : Hid (decide (l = m) = false) := Lib.hid (by rw [HI.out, HD.out, HD2.out]; simp [hxy])
          have hne : ((x : Int) != (y : Int)) = true := by simp; omega
          clear hxy
          go_wp2
          go_quiet (fail)
          go_wp2
          go_ret
          exact ⟨ret_bool HE.out.symm, ⟨q + nq, by first | rfl | rw [World.drewN_drewN]⟩⟩
      · have HE : Hid (decide (l = m) = true) := Lib.hid (by rw [HI.out, List.drop_eq_nil_of_le (by have := HL.out; omega), List.drop_eq_nil_of_le (by have := HL2.out; omega)]; rfl)
        go_wp2
        go_ret
        exact ⟨ret_bool HE.out.symm, ⟨q, rfl⟩⟩
  · have hne : ((n : Int) != (n2 : Int)) = true := by simp; omega
    have HE : Hid (decide (l = m) = false) := Lib.hid (by simp; intro hh; subst hh; omega)
    clear e1 e2
    go_enter Tryz.func170, Tryz.ntmps170
    go_wp2
    go_ret
    exact ⟨ret_bool HE.out.symm, ⟨0, rfl⟩⟩
set_option maxRecDepth 100000 in
theorem index_any (l : List Nat) (x : Nat) (A : Option Addr) (n c B : Nat) (w : World) (hR : Reads w B 1 A n (us l)) (hn : n ≤ maxLen) :
    Calls Tryz.prog 172 #[.slice A n c, .int .u64 x] w fun e w' => ∃ z : Int, e = .returned (.int .i64 z) ∧ decide (0 ≤ z) = decide (x ∈ l) ∧ w = w' := by
  unfold maxLen at hn
  have e1 := hR.word_len
  have HL := Lib.hid e1
  clear e1
  go_enter Tryz.func172, Tryz.ntmps172
  go_wp2
  go_loopw [8] (fun i wr => ∃ k : Nat, k ≤ n ∧ i = .int .i64 k ∧ Hid (decide (x ∈ l) = decide (x ∈ l.drop k)) ∧ wr = w) (fun i _ => n - (intOf i).toNat)
  case atStart => exact ⟨0, Nat.zero_le _, rfl, Lib.hid rfl, rfl⟩
  case round =>
    obtain ⟨k, hk, rfl, HI, rfl⟩ := hrel
    by_cases hlt : k < n
    · obtain ⟨ad, y, rfl, hb, hkl, hy, hym, hd, hc⟩ := hR.word_at hlt
      have HD := Lib.hid hd
      clear hkl hy hym hd
      by_cases hxy : x = y
      · subst hxy
        have HE : Hid (decide (x ∈ l) = true) := Lib.hid (by rw [HI.out, HD.out]; simp)
        go_wp2
        go_ret
        exact ⟨(k : Int), rfl, by rw [HE.out]; simp, rfl⟩
      · have HI2 : Hid (decide (x ∈ l) = decide (x ∈ l.drop (k + 1))) := Lib.hid (by rw [HI.out, HD.out]; simp [hxy])
        have hne : ((x : Int) == (y : Int)) = false := by simp; omega
        have hne2 : decide ((x : Int) = (y : Int)) = false := by simp; omega
        clear hxy
        go_wp2
        go_roundw
        case rel => exact ⟨k + 1, by omega, by go_num, HI2, by first | rfl | trivial⟩
        case measure => simp [intOf]; omega
    · have HE : Hid (decide (x ∈ l) = false) := Lib.hid (by rw [HI.out, List.drop_eq_nil_of_le (by have := HL.out; omega)]; simp)
      go_wp2
      go_ret
      exact ⟨-1, rfl, by rw [HE.out]; rfl, rfl⟩
theorem contains_any (l : List Nat) (x : Nat) (A : Option Addr) (n c B : Nat) (w : World) (hR : Reads w B 1 A n (us l)) (hn : n ≤ maxLen) :
    Calls Tryz.prog 131 #[.slice A n c, .int .u64 x] w fun e w' => e = .returned (.bool (decide (x ∈ l))) ∧ w = w' := by
  have H := Lib.hid (index_any l x A n c B w hR hn)
  clear hR
  go_enter Tryz.func131, Tryz.ntmps131
  go_wp2_with fail
  refine (H.out).mono ?_
  rintro e w' ⟨z, rfl, hz, rfl⟩
  have HZ := Lib.hid hz
  clear hz
  go_wp2
  go_ret
  exact ⟨ret_bool HZ.out, rfl⟩
end Go.Proofs.YtjpmhbnikoggaaaGreatDoor
/- Contracts of layer 2: extend, at each of the steps but the euclidean one. -/
namespace Go.Proofs.YtjpmhbnikoggaaaGreatDoor
open Go.RowKit Go.Proofs.Ws
/-- the words that a slice reads as -/
def rdL (w : World) (v : Value) : List Nat := match v with
  | .slice (some a) n _ => (List.range n).map fun k => match w.cell? (a.add k) with
    | some (.int _ z) => z.toNat
    | _ => 0
  | _ => []
theorem rdL_reads {w : World} {B n c : Nat} {A : Option Addr} {l : List Nat} (h : Reads w B 1 A n (us l)) : rdL w (.slice A n c) = l := by
  have e1 := h.word_len
  cases A with
  | none =>
    have : n = 0 := by
      apply Classical.byContradiction
      intro hn
      obtain ⟨ad, u, hA, _⟩ := h.at_ (show 0 < n by omega)
      cases hA
    subst this
    rw [List.length_eq_zero_iff.1 e1]; rfl
  | some a =>
    unfold rdL
    apply List.ext_getElem
    · simp; omega
    · intro i h1 h2
      obtain ⟨ad, x, hA, _, hk, hx, _, _, hc⟩ := h.word_at (show i < n by omega)
      cases hA
      simp only [List.getElem_map, List.getElem_range, hc]
      rw [List.getD_eq_getElem?_getD, List.getElem?_eq_getElem hk] at hx
      simpa using hx.symm
set_option maxRecDepth 100000 in
theorem extendReflexive_any (l : List Nat) (A : Option Addr) (n c : Nat) (w : World) (hR : Reads w w.heap.size 1 A n (us l)) (hS : Sh n l) (hn : n ≤ 64) (hT : Tab w) :
    Calls Tryz.prog 173 #[.slice A n c, .func (.func 133) #[] #[]] w fun e w' => ∃ A' c', e = .returned (.slice A' n c') ∧ Reads w' w'.heap.size 1 A' n (us (run reflL l n)) ∧ Below w.heap.size w w' := by
  have HC := Lib.hid (clone_any l A n c w hR hn)
  have HS := Lib.hid hS
  have HT := Lib.hid hT
  clear hR hS hT
  go_enter Tryz.func173, Tryz.ntmps173
  go_wp2_with fail
  refine (HC.out).mono ?_
  rintro e w1 ⟨A1, c1, rfl, hg, hb⟩
  have HG := Lib.hid hg
  have HB := Lib.hid hb
  clear hg hb
  by_cases hn0 : n = 0
  · subst hn0
    go_wp2
    go_loopw [11] (fun i wr => i = .int .i64 ((0 : Nat) : Int) ∧ wr = w1) (fun i _ => 0 - (intOf i).toNat)
    case atStart => exact ⟨rfl, rfl⟩
    case round =>
      obtain ⟨rfl, rfl⟩ := hrel
      go_wp2
      go_ret
      exact ⟨A1, c1, rfl, ⟨by simp [run, us, HS.out.1], fun h => absurd h (by omega)⟩, HB.out⟩
  · obtain ⟨g, rfl, hg1, hH1⟩ := HG.out (by omega)
    have HG1 := Lib.hid hg1
    have HH1 := Lib.hid hH1
    clear hg1 hH1 HG
    have hg0 : 0 < g := by have := HG1.out; have := HT.out.2; omega
    have HG0 := Lib.hid hg0
    clear hg0
    have HSTEPS := Lib.hid (reflL_steps n)
    go_wp2
    go_loopw [11] (fun i wr => ∃ k : Nat, k ≤ n ∧ i = .int .i64 k ∧ Hid (HoldsP wr g (run reflL l k) ∧ BelowBut w1.heap.size g w1 wr)) (fun i _ => n - (intOf i).toNat)
    case atStart => exact ⟨0, Nat.zero_le _, rfl, Lib.hid ⟨HH1.out, BelowBut.refl _ _ _⟩⟩
    case round =>
      obtain ⟨k, hk, rfl, HI⟩ := hrel
      by_cases hlt : k < n
      · have HW : Hid (Calls Tryz.prog 133 #[.slice (some ⟨g, 0, none⟩) n c1, .int .i64 k] wr fun e w' => e = .returned (.tuple #[]) ∧ HoldsP w' g (run reflL l (k + 1)) ∧ BelowBut w1.heap.size g w1 w') := Lib.hid (by
          have hH := HI.out.1
          have hB := HI.out.2
          have hS := (HSTEPS.out.run_sh HS.out k (by omega)).1
          have hT : Tab wr := HT.out.below (HB.out.trans ((hB.mono HB.out.size).below HG1.out))
          have hg0 := HG0.out
          have hk := hlt
          generalize hL : run reflL l k = L at hH hS
          refine (stepReflexive_any L g n c1 k wr hH (sh_words hn hS) hS.1 hk hn).mono ?_
          rintro e w' ⟨he, h1, h2⟩
          refine ⟨he, ?_, hB.trans (h2.mono hB.size)⟩
          rw [run_succ, hL]
          exact h1)
        clear HI
        go_wp2_with fail
        refine (HW.out).mono ?_
        rintro e w2 ⟨rfl, h1, h2⟩
        have H2 := Lib.hid (And.intro h1 h2)
        clear h1 h2 HW
        go_wp2
        go_roundw
        case rel => exact ⟨k + 1, by omega, by go_num, H2⟩
        case measure => simp [intOf]; omega
      · have hkn : n = k := by omega
        subst hkn
        go_wp2
        go_ret
        have hl : (run reflL l n).length = n := (HSTEPS.out.run_sh HS.out n (Nat.le_refl _)).1.1
        refine ⟨_, c1, rfl, ?_, HB.out.trans ((HI.out.2.mono HB.out.size).below HG1.out)⟩
        have := HI.out.1.reads
        rw [hl] at this
        exact this
set_option maxRecDepth 100000 in
theorem extendTransitive_any (l : List Nat) (A : Option Addr) (n c : Nat) (w : World) (hR : Reads w w.heap.size 1 A n (us l)) (hS : Sh n l) (hn : n ≤ 64) (hT : Tab w) :
    Calls Tryz.prog 173 #[.slice A n c, .func (.func 135) #[] #[]] w fun e w' => ∃ A' c', e = .returned (.slice A' n c') ∧ Reads w' w'.heap.size 1 A' n (us (run transL l n)) ∧ Below w.heap.size w w' := by
  have HC := Lib.hid (clone_any l A n c w hR hn)
  have HS := Lib.hid hS
  have HT := Lib.hid hT
  clear hR hS hT
  go_enter Tryz.func173, Tryz.ntmps173
  go_wp2_with fail
  refine (HC.out).mono ?_
  rintro e w1 ⟨A1, c1, rfl, hg, hb⟩
  have HG := Lib.hid hg
  have HB := Lib.hid hb
  clear hg hb
  by_cases hn0 : n = 0
  · subst hn0
    go_wp2
    go_loopw [11] (fun i wr => i = .int .i64 ((0 : Nat) : Int) ∧ wr = w1) (fun i _ => 0 - (intOf i).toNat)
    case atStart => exact ⟨rfl, rfl⟩
    case round =>
      obtain ⟨rfl, rfl⟩ := hrel
      go_wp2
      go_ret
      exact ⟨A1, c1, rfl, ⟨by simp [run, us, HS.out.1], fun h => absurd h (by omega)⟩, HB.out⟩
  · obtain ⟨g, rfl, hg1, hH1⟩ := HG.out (by omega)
    have HG1 := Lib.hid hg1
    have HH1 := Lib.hid hH1
    clear hg1 hH1 HG
    have hg0 : 0 < g := by have := HG1.out; have := HT.out.2; omega
    have HG0 := Lib.hid hg0
    clear hg0
    have HSTEPS := Lib.hid (transL_steps n hn)
    go_wp2
    go_loopw [11] (fun i wr => ∃ k : Nat, k ≤ n ∧ i = .int .i64 k ∧ Hid (HoldsP wr g (run transL l k) ∧ BelowBut w1.heap.size g w1 wr)) (fun i _ => n - (intOf i).toNat)
    case atStart => exact ⟨0, Nat.zero_le _, rfl, Lib.hid ⟨HH1.out, BelowBut.refl _ _ _⟩⟩
    case round =>
      obtain ⟨k, hk, rfl, HI⟩ := hrel
      by_cases hlt : k < n
      · have HW : Hid (Calls Tryz.prog 135 #[.slice (some ⟨g, 0, none⟩) n c1, .int .i64 k] wr fun e w' => e = .returned (.tuple #[]) ∧ HoldsP w' g (run transL l (k + 1)) ∧ BelowBut w1.heap.size g w1 w') := Lib.hid (by
          have hH := HI.out.1
          have hB := HI.out.2
          have hS := (HSTEPS.out.run_sh HS.out k (by omega)).1
          have hT : Tab wr := HT.out.below (HB.out.trans ((hB.mono HB.out.size).below HG1.out))
          have hg0 := HG0.out
          have hk := hlt
          generalize hL : run transL l k = L at hH hS
          refine (stepTransitive_any L g n c1 k wr hH (sh_words hn hS) hS.1 hk hn hT).mono ?_
          rintro e w' ⟨he, h1, h2⟩
          refine ⟨he, ?_, hB.trans (h2.mono hB.size)⟩
          rw [run_succ, hL]
          exact h1)
        clear HI
        go_wp2_with fail
        refine (HW.out).mono ?_
        rintro e w2 ⟨rfl, h1, h2⟩
        have H2 := Lib.hid (And.intro h1 h2)
        clear h1 h2 HW
        go_wp2
        go_roundw
        case rel => exact ⟨k + 1, by omega, by go_num, H2⟩
        case measure => simp [intOf]; omega
      · have hkn : n = k := by omega
        subst hkn
        go_wp2
        go_ret
        have hl : (run transL l n).length = n := (HSTEPS.out.run_sh HS.out n (Nat.le_refl _)).1.1
        refine ⟨_, c1, rfl, ?_, HB.out.trans ((HI.out.2.mono HB.out.size).below HG1.out)⟩
        have := HI.out.1.reads
        rw [hl] at this
        exact this
set_option maxRecDepth 100000 in
theorem extendSymmetric_any (l : List Nat) (A : Option Addr) (n c : Nat) (w : World) (hR : Reads w w.heap.size 1 A n (us l)) (hS : Sh n l) (hn : n ≤ 64) (hT : Tab w) :
    Calls Tryz.prog 173 #[.slice A n c, .func (.func 134) #[] #[]] w fun e w' => ∃ A' c', e = .returned (.slice A' n c') ∧ Reads w' w'.heap.size 1 A' n (us (run (fun l k => symL l k n) l n)) ∧ Below w.heap.size w w' := by
  have HC := Lib.hid (clone_any l A n c w hR hn)
  have HS := Lib.hid hS
  have HT := Lib.hid hT
  clear hR hS hT
  go_enter Tryz.func173, Tryz.ntmps173
  go_wp2_with fail
  refine (HC.out).mono ?_
  rintro e w1 ⟨A1, c1, rfl, hg, hb⟩
  have HG := Lib.hid hg
  have HB := Lib.hid hb
  clear hg hb
  by_cases hn0 : n = 0
  · subst hn0
    go_wp2
    go_loopw [11] (fun i wr => i = .int .i64 ((0 : Nat) : Int) ∧ wr = w1) (fun i _ => 0 - (intOf i).toNat)
    case atStart => exact ⟨rfl, rfl⟩
    case round =>
      obtain ⟨rfl, rfl⟩ := hrel
      go_wp2
      go_ret
      exact ⟨A1, c1, rfl, ⟨by simp [run, us, HS.out.1], fun h => absurd h (by omega)⟩, HB.out⟩
  · obtain ⟨g, rfl, hg1, hH1⟩ := HG.out (by omega)
    have HG1 := Lib.hid hg1
    have HH1 := Lib.hid hH1
    clear hg1 hH1 HG
    have hg0 : 0 < g := by have := HG1.out; have := HT.out.2; omega
    have HG0 := Lib.hid hg0
    clear hg0
    have HSTEPS := Lib.hid (symL_steps n)
    go_wp2
    go_loopw [11] (fun i wr => ∃ k : Nat, k ≤ n ∧ i = .int .i64 k ∧ Hid (HoldsP wr g (run (fun l k => symL l k n) l k) ∧ BelowBut w1.heap.size g w1 wr)) (fun i _ => n - (intOf i).toNat)
    case atStart => exact ⟨0, Nat.zero_le _, rfl, Lib.hid ⟨HH1.out, BelowBut.refl _ _ _⟩⟩
    case round =>
      obtain ⟨k, hk, rfl, HI⟩ := hrel
      by_cases hlt : k < n
      · have HW : Hid (Calls Tryz.prog 134 #[.slice (some ⟨g, 0, none⟩) n c1, .int .i64 k] wr fun e w' => e = .returned (.tuple #[]) ∧ HoldsP w' g (run (fun l k => symL l k n) l (k + 1)) ∧ BelowBut w1.heap.size g w1 w') := Lib.hid (by
          have hH := HI.out.1
          have hB := HI.out.2
          have hS := (HSTEPS.out.run_sh HS.out k (by omega)).1
          have hT : Tab wr := HT.out.below (HB.out.trans ((hB.mono HB.out.size).below HG1.out))
          have hg0 := HG0.out
          have hk := hlt
          generalize hL : run (fun l k => symL l k n) l k = L at hH hS
          refine (stepSymmetric_any L g n c1 k wr hH (sh_words hn hS) hS.2 hS.1 hk hn hT hg0).mono ?_
          rintro e w' ⟨he, h1, h2⟩
          refine ⟨he, ?_, hB.trans (h2.mono hB.size)⟩
          rw [run_succ, hL]
          exact h1)
        clear HI
        go_wp2_with fail
        refine (HW.out).mono ?_
        rintro e w2 ⟨rfl, h1, h2⟩
        have H2 := Lib.hid (And.intro h1 h2)
        clear h1 h2 HW
        go_wp2
        go_roundw
        case rel => exact ⟨k + 1, by omega, by go_num, H2⟩
        case measure => simp [intOf]; omega
      · have hkn : n = k := by omega
        subst hkn
        go_wp2
        go_ret
        have hl : (run (fun l k => symL l k n) l n).length = n := (HSTEPS.out.run_sh HS.out n (Nat.le_refl _)).1.1
        refine ⟨_, c1, rfl, ?_, HB.out.trans ((HI.out.2.mono HB.out.size).below HG1.out)⟩
        have := HI.out.1.reads
        rw [hl] at this
        exact this
end Go.Proofs.YtjpmhbnikoggaaaGreatDoor
/- Contracts of layer 2: closed, closure and the closures, at each of the steps but the euclidean one. -/
namespace Go.Proofs.YtjpmhbnikoggaaaGreatDoor
open Go.RowKit Go.Proofs.Ws
set_option maxRecDepth 100000 in
theorem closedReflexive_any (l : List Nat) (A : Option Addr) (n c : Nat) (w : World) (hR : Reads w w.heap.size 1 A n (us l)) (hS : Sh n l) (hn : n ≤ 64) (hT : Tab w) :
    Calls Tryz.prog 132 #[.slice A n c, .func (.func 133) #[] #[]] w fun e w' => (∃ b : Bool, e = .returned (.bool b) ∧ (b = true ↔ (PRefl n) l)) ∧ Below w.heap.size w w' := by
  have HE := Lib.hid (extendReflexive_any l A n c w hR hS hn hT)
  have HR := Lib.hid hR
  have HF := Lib.hid (((reflL_steps n)).run_fixed hS)
  clear hR hS hT
  go_enter Tryz.func132, Tryz.ntmps132
  go_wp2_with fail
  refine (HE.out).mono ?_
  rintro e w1 ⟨A1, c1, rfl, hR1, hb1⟩
  have HQ := Lib.hid (equal_any (run reflL l n) l A1 A n n c1 c w1.heap.size w1 hR1 ((HR.out.below hb1).more hb1.size) (by unfold maxLen; omega) (by unfold maxLen; omega))
  have HB := Lib.hid hb1
  clear hR1 hb1
  go_wp2_with fail
  refine (HQ.out).mono ?_
  rintro e w2 ⟨rfl, q, rfl⟩
  go_wp2
  go_ret
  exact ⟨⟨_, rfl, by rw [decide_eq_true_eq]; exact HF.out⟩, below_drewN HB.out q⟩
set_option maxRecDepth 100000 in
theorem closedTransitive_any (l : List Nat) (A : Option Addr) (n c : Nat) (w : World) (hR : Reads w w.heap.size 1 A n (us l)) (hS : Sh n l) (hn : n ≤ 64) (hT : Tab w) :
    Calls Tryz.prog 132 #[.slice A n c, .func (.func 135) #[] #[]] w fun e w' => (∃ b : Bool, e = .returned (.bool b) ∧ (b = true ↔ PTrans l)) ∧ Below w.heap.size w w' := by
  have HE := Lib.hid (extendTransitive_any l A n c w hR hS hn hT)
  have HR := Lib.hid hR
  have HF := Lib.hid (((transL_steps n hn)).run_fixed hS)
  clear hR hS hT
  go_enter Tryz.func132, Tryz.ntmps132
  go_wp2_with fail
  refine (HE.out).mono ?_
  rintro e w1 ⟨A1, c1, rfl, hR1, hb1⟩
  have HQ := Lib.hid (equal_any (run transL l n) l A1 A n n c1 c w1.heap.size w1 hR1 ((HR.out.below hb1).more hb1.size) (by unfold maxLen; omega) (by unfold maxLen; omega))
  have HB := Lib.hid hb1
  clear hR1 hb1
  go_wp2_with fail
  refine (HQ.out).mono ?_
  rintro e w2 ⟨rfl, q, rfl⟩
  go_wp2
  go_ret
  exact ⟨⟨_, rfl, by rw [decide_eq_true_eq]; exact HF.out⟩, below_drewN HB.out q⟩
set_option maxRecDepth 100000 in
theorem closedSymmetric_any (l : List Nat) (A : Option Addr) (n c : Nat) (w : World) (hR : Reads w w.heap.size 1 A n (us l)) (hS : Sh n l) (hn : n ≤ 64) (hT : Tab w) :
    Calls Tryz.prog 132 #[.slice A n c, .func (.func 134) #[] #[]] w fun e w' => (∃ b : Bool, e = .returned (.bool b) ∧ (b = true ↔ PSym l)) ∧ Below w.heap.size w w' := by
  have HE := Lib.hid (extendSymmetric_any l A n c w hR hS hn hT)
  have HR := Lib.hid hR
  have HF := Lib.hid (((symL_steps n)).run_fixed hS)
  clear hR hS hT
  go_enter Tryz.func132, Tryz.ntmps132
  go_wp2_with fail
  refine (HE.out).mono ?_
  rintro e w1 ⟨A1, c1, rfl, hR1, hb1⟩
  have HQ := Lib.hid (equal_any (run (fun l k => symL l k n) l n) l A1 A n n c1 c w1.heap.size w1 hR1 ((HR.out.below hb1).more hb1.size) (by unfold maxLen; omega) (by unfold maxLen; omega))
  have HB := Lib.hid hb1
  clear hR1 hb1
  go_wp2_with fail
  refine (HQ.out).mono ?_
  rintro e w2 ⟨rfl, q, rfl⟩
  go_wp2
  go_ret
  exact ⟨⟨_, rfl, by rw [decide_eq_true_eq]; exact HF.out⟩, below_drewN HB.out q⟩
end Go.Proofs.YtjpmhbnikoggaaaGreatDoor
/- Contracts of layer 2's reference: the closures. -/
namespace Go.Proofs.YtjpmhbnikoggaaaGreatDoor
open Go.RowKit Go.Proofs.Ws
end Go.Proofs.YtjpmhbnikoggaaaGreatDoor
/- Contracts of layer 2's reference: grow, the transitive and the euclidean closure. -/
namespace Go.Proofs.YtjpmhbnikoggaaaGreatDoor
open Go.RowKit Go.Proofs.Ws
theorem holdsP_drewN {w : World} {g : Nat} {l : List Nat} (h : HoldsP w g l) (q : Nat) : HoldsP (w.drewN q) g l := h
theorem BelowBut.drewN {B g : Nat} {a w : World} (h : BelowBut B g a w) (q : Nat) : BelowBut B g a (w.drewN q) := ⟨h.os, h.tape, h.output, h.size, h.block⟩
end Go.Proofs.YtjpmhbnikoggaaaGreatDoor
/- Contracts of layer 2's reference: the transitive and the euclidean closure. -/
namespace Go.Proofs.YtjpmhbnikoggaaaGreatDoor
open Go.RowKit Go.Proofs.Ws
end Go.Proofs.YtjpmhbnikoggaaaGreatDoor
