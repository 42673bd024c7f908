/- Layer 6: texts joined: Ss Rn Ro Rq Rr Rs. -/
import Derived.Test.YtjpmhbnikoggaaaGreatDoorNIc
import Derived.Lib.Walk
import Derived.Lib.SliceRun
import Derived.Laws.AppendOwnNone
/- Contracts of the library's slices.Clone, Equal and Contains at lists of words. -/
namespace Go.Proofs.YtjpmhbnikoggaaaGreatDoor
open Go.RowKit Go.Proofs.Ws
theorem HoldsP.of_own {w : World} {base : Nat} {v : Value} {l : List Nat} (h : w.ownsRow base 37 1 v l.length (us l)) (hv : v ≠ .slice none 0 0) : ∃ g c, v = .slice (some ⟨g, 0, none⟩) l.length c ∧ base ≤ g ∧ HoldsP w g l ∧ l.length ≤ c := by
  rcases h.2 with ⟨e, _⟩ | ⟨g, cap, cur, e, hb, hg, hn, _, hs, ht⟩
  · exact absurd e hv
  · refine ⟨g, cap, e, hb, ⟨cur.toList.drop l.length, ?_⟩, hn⟩
    rw [hg]
    have : cur = (us l ++ cur.toList.drop l.length).toArray := by
      rw [← ht, Nat.mul_one, List.take_append_drop]
    rw [← this]
set_option maxHeartbeats 2000000 in
set_option maxRecDepth 100000 in
theorem clone_any (l : List Nat) (A : Option Addr) (n c : Nat) (w : World) (hR : Reads w w.heap.size 1 A n (us l)) (hn : n ≤ 64) :
    Calls Tryz.prog 125 #[.slice A n c] w fun e w' => ∃ A' c', e = .returned (.slice A' n c') ∧ (0 < n → ∃ g, A' = some ⟨g, 0, none⟩ ∧ w.heap.size ≤ g ∧ HoldsP w' g l) ∧ Below w.heap.size w w' := by
  have e1 := hR.word_len
  have q22 : ∀ (w : World) (a : Option Addr) (n c n' c' : Nat), (binOp .eql 22 (.slice a n c) (.slice none n' c')).run Tryz.prog w = .ok (.bool a.isNone) w := fun w a n c n' c' => Lib.run_eql_slice_nil w _ _ a n c n' c' Tryz.underlying22
  cases A with
  | none =>
    have h0 : n = 0 := by
      apply Classical.byContradiction
      intro h
      obtain ⟨ad, u, hA, _⟩ := hR.at_ (show 0 < n by omega)
      cases hA
    subst h0
    go_enter Tryz.func125, Tryz.ntmps125
    go_wp2
    go_ret
    exact ⟨none, 0, rfl, fun h => absurd h (by omega), Below.refl _ _⟩
  | some a =>
    obtain ⟨i0, hi, hz0, hz1, hz2⟩ := info_parts Tryz.infoU
    have HR : Hid (Reads w w.heap.size 1 (some a) n (us l)) := Lib.hid hR
    clear hR
    go_enter Tryz.func125, Tryz.ntmps125
    go_wp2_with (at_builtin; refine wpList_append_own _ rfl _ _ 22 rfl w.heap.size 37 i0 (.int .u64 0) 1 8 Tryz.underlying22 hi hz0 hz1 hz2 rfl (by decide) _ _ _ rfl (World.ownsRow_made w #[] 0 (Nat.le_refl _) (Nat.zero_le _) (by simp)) a n c (us l) rfl ?qc1 ?qc2 ?qc3 ?qc4 ?qc5 ?qc6 ?_)
    case qc1 => rw [us_length]; omega
    case qc2 =>
      intro j u hj
      obtain ⟨_, h⟩ := HR.out
      have hjn : j < n := by
        unfold us at hj
        rw [List.getElem?_map] at hj
        obtain ⟨k, hk, _⟩ := Option.map_eq_some_iff.1 hj
        have := (List.getElem?_eq_some_iff.1 hk).1
        omega
      obtain ⟨ad, hA, hb, hc⟩ := h (by omega)
      cases hA
      exact Lib.cell?_alloc_some _ (hc j u hj)
    case qc3 =>
      intro u hu
      unfold us at hu
      obtain ⟨k, _, rfl⟩ := List.mem_map.1 hu
      rfl
    case qc4 => unfold maxLen; omega
    case qc5 => omega
    case qc6 => simp
    intro v' w1 hown hgrow hnil
    have hb : Below w.heap.size w w1 := ((Below.refl _ w).alloc (Nat.le_refl _) _).grown hgrow (by simp) (by intro k hk; simp [Value.ownBlock] at hk; omega)
    have hown' : w1.ownsRow w.heap.size 37 1 v' l.length (us l) := by
      have : 0 + n = l.length := by omega
      rw [← this]; simpa using hown
    obtain ⟨g, c', rfl, hg, hH, _⟩ := HoldsP.of_own hown' hnil
    have HB := Lib.hid hb
    have HH := Lib.hid hH
    clear hown hgrow hnil hb hown' hH
    go_wp2
    go_ret
    exact ⟨_, c', by rw [e1]; rfl, fun _ => ⟨g, rfl, hg, HH.out⟩, HB.out⟩
set_option maxRecDepth 100000 in
theorem equal_any (l m : List Nat) (A A2 : Option Addr) (n n2 c c2 B : Nat) (w : World) (hR : Reads w B 1 A n (us l)) (hR2 : Reads w B 1 A2 n2 (us m)) (hn : n ≤ maxLen) (hn2 : n2 ≤ maxLen) :
    Calls Tryz.prog 170 #[.slice A n c, .slice A2 n2 c2] w fun e w' => e = .returned (.bool (decide (l = m))) ∧ ∃ q, w' = w.drewN q := by
  unfold maxLen at hn hn2
  have e1 := hR.word_len
  have e2 := hR2.word_len
  by_cases h : n = n2
  · subst h
    have HL := Lib.hid e1
    have HL2 := Lib.hid e2
    clear e1 e2
    go_enter Tryz.func170, Tryz.ntmps170
    go_wp2
    go_loopw [13] (fun i wr => ∃ k q : Nat, k ≤ n ∧ i = .int .i64 k ∧ Hid (decide (l = m) = decide (l.drop k = m.drop k)) ∧ wr = w.drewN q) (fun i _ => n - (intOf i).toNat)
    case atStart => exact ⟨0, 0, Nat.zero_le _, rfl, Lib.hid rfl, rfl⟩
    case round =>
      obtain ⟨k, q, hk, rfl, HI, rfl⟩ := hrel
      by_cases hlt : k < n
      · obtain ⟨ad, x, rfl, hb, hkl, hx, hxm, hd, hc⟩ := hR.word_at hlt
        obtain ⟨ad2, y, rfl, hb2, hkl2, hy, hym, hd2, hc2⟩ := hR2.word_at hlt
        have HD := Lib.hid hd
        have HD2 := Lib.hid hd2
        clear hkl hx hxm hd hkl2 hy hym hd2
        by_cases hxy : x = y
        · subst hxy
          have HI2 : Hid (decide (l = m) = decide (l.drop (k + 1) = m.drop (k + 1))) := Lib.hid (by rw [HI.out, HD.out, HD2.out]; exact decide_eq_decide.2 (by simp))
          go_wp2
          go_quiet (fail)
          go_wp2
          go_roundw
          case rel => exact ⟨k + 1, q + nq, by omega, by go_num, HI2, by first | rfl | rw [World.drewN_drewN]⟩
          case measure => simp [intOf]; omega
        · have HE : Hid (decide (l = m) = false) := Lib.hid (by rw [HI.out, HD.out, HD2.out]; simp [hxy])
          have hne : ((x : Int) != (y : Int)) = true := by simp; omega
          clear hxy
          go_wp2
          go_quiet (fail)
          go_wp2
          go_ret
          exact ⟨ret_bool HE.out.symm, ⟨q + nq, by first | rfl | rw [World.drewN_drewN]⟩⟩
      · have HE : Hid (decide (l = m) = true) := Lib.hid (by rw [HI.out, List.drop_eq_nil_of_le (by have := HL.out; omega), List.drop_eq_nil_of_le (by have := HL2.out; omega)]; rfl)
        go_wp2
        go_ret
        exact ⟨ret_bool HE.out.symm, ⟨q, rfl⟩⟩
  · have hne : ((n : Int) != (n2 : Int)) = true := by simp; omega
    have HE : Hid (decide (l = m) = false) := Lib.hid (by simp; intro hh; subst hh; omega)
    clear e1 e2
    go_enter Tryz.func170, Tryz.ntmps170
    go_wp2
    go_ret
    exact ⟨ret_bool HE.out.symm, ⟨0, rfl⟩⟩
set_option maxRecDepth 100000 in
theorem index_any (l : List Nat) (x : Nat) (A : Option Addr) (n c B : Nat) (w : World) (hR : Reads w B 1 A n (us l)) (hn : n ≤ maxLen) :
    Calls Tryz.prog 172 #[.slice A n c, .int .u64 x] w fun e w' => ∃ z : Int, e = .returned (.int .i64 z) ∧ decide (0 ≤ z) = decide (x ∈ l) ∧ w = w' := by
  unfold maxLen at hn
  have e1 := hR.word_len
  have HL := Lib.hid e1
  clear e1
  go_enter Tryz.func172, Tryz.ntmps172
  go_wp2
  go_loopw [8] (fun i wr => ∃ k : Nat, k ≤ n ∧ i = .int .i64 k ∧ Hid (decide (x ∈ l) = decide (x ∈ l.drop k)) ∧ wr = w) (fun i _ => n - (intOf i).toNat)
  case atStart => exact ⟨0, Nat.zero_le _, rfl, Lib.hid rfl, rfl⟩
  case round =>
    obtain ⟨k, hk, rfl, HI, rfl⟩ := hrel
    by_cases hlt : k < n
    · obtain ⟨ad, y, rfl, hb, hkl, hy, hym, hd, hc⟩ := hR.word_at hlt
      have HD := Lib.hid hd
      clear hkl hy hym hd
      by_cases hxy : x = y
      · subst hxy
        have HE : Hid (decide (x ∈ l) = true) := Lib.hid (by rw [HI.out, HD.out]; simp)
        go_wp2
        go_ret
        exact ⟨(k : Int), rfl, by rw [HE.out]; simp, rfl⟩
      · have HI2 : Hid (decide (x ∈ l) = decide (x ∈ l.drop (k + 1))) := Lib.hid (by rw [HI.out, HD.out]; simp [hxy])
        have hne : ((x : Int) == (y : Int)) = false := by simp; omega
        have hne2 : decide ((x : Int) = (y : Int)) = false := by simp; omega
        clear hxy
        go_wp2
        go_roundw
        case rel => exact ⟨k + 1, by omega, by go_num, HI2, by first | rfl | trivial⟩
        case measure => simp [intOf]; omega
    · have HE : Hid (decide (x ∈ l) = false) := Lib.hid (by rw [HI.out, List.drop_eq_nil_of_le (by have := HL.out; omega)]; simp)
      go_wp2
      go_ret
      exact ⟨-1, rfl, by rw [HE.out]; rfl, rfl⟩
theorem contains_any (l : List Nat) (x : Nat) (A : Option Addr) (n c B : Nat) (w : World) (hR : Reads w B 1 A n (us l)) (hn : n ≤ maxLen) :
    Calls Tryz.prog 131 #[.slice A n c, .int .u64 x] w fun e w' => e = .returned (.bool (decide (x ∈ l))) ∧ w = w' := by
  have H := Lib.hid (index_any l x A n c B w hR hn)
  clear hR
  go_enter Tryz.func131, Tryz.ntmps131
  go_wp2_with fail
  refine (H.out).mono ?_
  rintro e w' ⟨z, rfl, hz, rfl⟩
  have HZ := Lib.hid hz
  clear hz
  go_wp2
  go_ret
  exact ⟨ret_bool HZ.out, rfl⟩
end Go.Proofs.YtjpmhbnikoggaaaGreatDoor
/- Contracts of layer 2: extend, at each of the steps but the euclidean one. -/
namespace Go.Proofs.YtjpmhbnikoggaaaGreatDoor
open Go.RowKit Go.Proofs.Ws
/-- the words that a slice reads as -/
def rdL (w : World) (v : Value) : List Nat := match v with
  | .slice (some a) n _ => (List.range n).map fun k => match w.cell? (a.add k) with
    | some (.int _ z) => z.toNat
    | _ => 0
  | _ => []
theorem rdL_reads {w : World} {B n c : Nat} {A : Option Addr} {l : List Nat} (h : Reads w B 1 A n (us l)) : rdL w (.slice A n c) = l := by
  have e1 := h.word_len
  cases A with
  | none =>
    have : n = 0 := by
      apply Classical.byContradiction
      intro hn
      obtain ⟨ad, u, hA, _⟩ := h.at_ (show 0 < n by omega)
      cases hA
    subst this
    rw [List.length_eq_zero_iff.1 e1]; rfl
  | some a =>
    unfold rdL
    apply List.ext_getElem
    · simp; omega
    · intro i h1 h2
      obtain ⟨ad, x, hA, _, hk, hx, _, _, hc⟩ := h.word_at (show i < n by omega)
      cases hA
      simp only [List.getElem_map, List.getElem_range, hc]
      rw [List.getD_eq_getElem?_getD, List.getElem?_eq_getElem hk] at hx
      simpa using hx.symm
set_option maxRecDepth 100000 in
theorem extendReflexive_any (l : List Nat) (A : Option Addr) (n c : Nat) (w : World) (hR : Reads w w.heap.size 1 A n (us l)) (hS : Sh n l) (hn : n ≤ 64) (hT : Tab w) :
    Calls Tryz.prog 173 #[.slice A n c, .func (.func 133) #[] #[]] w fun e w' => ∃ A' c', e = .returned (.slice A' n c') ∧ Reads w' w'.heap.size 1 A' n (us (run reflL l n)) ∧ Below w.heap.size w w' := by
  have HC := Lib.hid (clone_any l A n c w hR hn)
  have HS := Lib.hid hS
  have HT := Lib.hid hT
  clear hR hS hT
  go_enter Tryz.func173, Tryz.ntmps173
  go_wp2_with fail
  refine (HC.out).mono ?_
  rintro e w1 ⟨A1, c1, rfl, hg, hb⟩
  have HG := Lib.hid hg
  have HB := Lib.hid hb
  clear hg hb
  by_cases hn0 : n = 0
  · subst hn0
    go_wp2
    go_loopw [11] (fun i wr => i = .int .i64 ((0 : Nat) : Int) ∧ wr = w1) (fun i _ => 0 - (intOf i).toNat)
    case atStart => exact ⟨rfl, rfl⟩
    case round =>
      obtain ⟨rfl, rfl⟩ := hrel
      go_wp2
      go_ret
      exact ⟨A1, c1, rfl, ⟨by simp [run, us, HS.out.1], fun h => absurd h (by omega)⟩, HB.out⟩
  · obtain ⟨g, rfl, hg1, hH1⟩ := HG.out (by omega)
    have HG1 := Lib.hid hg1
    have HH1 := Lib.hid hH1
    clear hg1 hH1 HG
    have hg0 : 0 < g := by have := HG1.out; have := HT.out.2; omega
    have HG0 := Lib.hid hg0
    clear hg0
    have HSTEPS := Lib.hid (reflL_steps n)
    go_wp2
    go_loopw [11] (fun i wr => ∃ k : Nat, k ≤ n ∧ i = .int .i64 k ∧ Hid (HoldsP wr g (run reflL l k) ∧ BelowBut w1.heap.size g w1 wr)) (fun i _ => n - (intOf i).toNat)
    case atStart => exact ⟨0, Nat.zero_le _, rfl, Lib.hid ⟨HH1.out, BelowBut.refl _ _ _⟩⟩
    case round =>
      obtain ⟨k, hk, rfl, HI⟩ := hrel
      by_cases hlt : k < n
      · have HW : Hid (Calls Tryz.prog 133 #[.slice (some ⟨g, 0, none⟩) n c1, .int .i64 k] wr fun e w' => e = .returned (.tuple #[]) ∧ HoldsP w' g (run reflL l (k + 1)) ∧ BelowBut w1.heap.size g w1 w') := Lib.hid (by
          have hH := HI.out.1
          have hB := HI.out.2
          have hS := (HSTEPS.out.run_sh HS.out k (by omega)).1
          have hT : Tab wr := HT.out.below (HB.out.trans ((hB.mono HB.out.size).below HG1.out))
          have hg0 := HG0.out
          have hk := hlt
          generalize hL : run reflL l k = L at hH hS
          refine (stepReflexive_any L g n c1 k wr hH (sh_words hn hS) hS.1 hk hn).mono ?_
          rintro e w' ⟨he, h1, h2⟩
          refine ⟨he, ?_, hB.trans (h2.mono hB.size)⟩
          rw [run_succ, hL]
          exact h1)
        clear HI
        go_wp2_with fail
        refine (HW.out).mono ?_
        rintro e w2 ⟨rfl, h1, h2⟩
        have H2 := Lib.hid (And.intro h1 h2)
        clear h1 h2 HW
        go_wp2
        go_roundw
        case rel => exact ⟨k + 1, by omega, by go_num, H2⟩
        case measure => simp [intOf]; omega
      · have hkn : n = k := by omega
        subst hkn
        go_wp2
        go_ret
        have hl : (run reflL l n).length = n := (HSTEPS.out.run_sh HS.out n (Nat.le_refl _)).1.1
        refine ⟨_, c1, rfl, ?_, HB.out.trans ((HI.out.2.mono HB.out.size).below HG1.out)⟩
        have := HI.out.1.reads
        rw [hl] at this
        exact this
set_option maxRecDepth 100000 in
theorem extendTransitive_any (l : List Nat) (A : Option Addr) (n c : Nat) (w : World) (hR : Reads w w.heap.size 1 A n (us l)) (hS : Sh n l) (hn : n ≤ 64) (hT : Tab w) :
    Calls Tryz.prog 173 #[.slice A n c, .func (.func 135) #[] #[]] w fun e w' => ∃ A' c', e = .returned (.slice A' n c') ∧ Reads w' w'.heap.size 1 A' n (us (run transL l n)) ∧ Below w.heap.size w w' := by
  have HC := Lib.hid (clone_any l A n c w hR hn)
  have HS := Lib.hid hS
  have HT := Lib.hid hT
  clear hR hS hT
  go_enter Tryz.func173, Tryz.ntmps173
  go_wp2_with fail
  refine (HC.out).mono ?_
  rintro e w1 ⟨A1, c1, rfl, hg, hb⟩
  have HG := Lib.hid hg
  have HB := Lib.hid hb
  clear hg hb
  by_cases hn0 : n = 0
  · subst hn0
    go_wp2
    go_loopw [11] (fun i wr => i = .int .i64 ((0 : Nat) : Int) ∧ wr = w1) (fun i _ => 0 - (intOf i).toNat)
    case atStart => exact ⟨rfl, rfl⟩
    case round =>
      obtain ⟨rfl, rfl⟩ := hrel
      go_wp2
      go_ret
      exact ⟨A1, c1, rfl, ⟨by simp [run, us, HS.out.1], fun h => absurd h (by omega)⟩, HB.out⟩
  · obtain ⟨g, rfl, hg1, hH1⟩ := HG.out (by omega)
    have HG1 := Lib.hid hg1
    have HH1 := Lib.hid hH1
    clear hg1 hH1 HG
    have hg0 : 0 < g := by have := HG1.out; have := HT.out.2; omega
    have HG0 := Lib.hid hg0
    clear hg0
    have HSTEPS := Lib.hid (transL_steps n hn)
    go_wp2
    go_loopw [11] (fun i wr => ∃ k : Nat, k ≤ n ∧ i = .int .i64 k ∧ Hid (HoldsP wr g (run transL l k) ∧ BelowBut w1.heap.size g w1 wr)) (fun i _ => n - (intOf i).toNat)
    case atStart => exact ⟨0, Nat.zero_le _, rfl, Lib.hid ⟨HH1.out, BelowBut.refl _ _ _⟩⟩
    case round =>
      obtain ⟨k, hk, rfl, HI⟩ := hrel
      by_cases hlt : k < n
      · have HW : Hid (Calls Tryz.prog 135 #[.slice (some ⟨g, 0, none⟩) n c1, .int .i64 k] wr fun e w' => e = .returned (.tuple #[]) ∧ HoldsP w' g (run transL l (k + 1)) ∧ BelowBut w1.heap.size g w1 w') := Lib.hid (by
          have hH := HI.out.1
          have hB := HI.out.2
          have hS := (HSTEPS.out.run_sh HS.out k (by omega)).1
          have hT : Tab wr := HT.out.below (HB.out.trans ((hB.mono HB.out.size).below HG1.out))
          have hg0 := HG0.out
          have hk := hlt
          generalize hL : run transL l k = L at hH hS
          refine (stepTransitive_any L g n c1 k wr hH (sh_words hn hS) hS.1 hk hn hT).mono ?_
          rintro e w' ⟨he, h1, h2⟩
          refine ⟨he, ?_, hB.trans (h2.mono hB.size)⟩
          rw [run_succ, hL]
          exact h1)
        clear HI
        go_wp2_with fail
        refine (HW.out).mono ?_
        rintro e w2 ⟨rfl, h1, h2⟩
        have H2 := Lib.hid (And.intro h1 h2)
        clear h1 h2 HW
        go_wp2
        go_roundw
        case rel => exact ⟨k + 1, by omega, by go_num, H2⟩
        case measure => simp [intOf]; omega
      · have hkn : n = k := by omega
        subst hkn
        go_wp2
        go_ret
        have hl : (run transL l n).length = n := (HSTEPS.out.run_sh HS.out n (Nat.le_refl _)).1.1
        refine ⟨_, c1, rfl, ?_, HB.out.trans ((HI.out.2.mono HB.out.size).below HG1.out)⟩
        have := HI.out.1.reads
        rw [hl] at this
        exact this
set_option maxRecDepth 100000 in
theorem extendSymmetric_any (l : List Nat) (A : Option Addr) (n c : Nat) (w : World) (hR : Reads w w.heap.size 1 A n (us l)) (hS : Sh n l) (hn : n ≤ 64) (hT : Tab w) :
    Calls Tryz.prog 173 #[.slice A n c, .func (.func 134) #[] #[]] w fun e w' => ∃ A' c', e = .returned (.slice A' n c') ∧ Reads w' w'.heap.size 1 A' n (us (run (fun l k => symL l k n) l n)) ∧ Below w.heap.size w w' := by
  have HC := Lib.hid (clone_any l A n c w hR hn)
  have HS := Lib.hid hS
  have HT := Lib.hid hT
  clear hR hS hT
  go_enter Tryz.func173, Tryz.ntmps173
  go_wp2_with fail
  refine (HC.out).mono ?_
  rintro e w1 ⟨A1, c1, rfl, hg, hb⟩
  have HG := Lib.hid hg
  have HB := Lib.hid hb
  clear hg hb
  by_cases hn0 : n = 0
  · subst hn0
    go_wp2
    go_loopw [11] (fun i wr => i = .int .i64 ((0 : Nat) : Int) ∧ wr = w1) (fun i _ => 0 - (intOf i).toNat)
    case atStart => exact ⟨rfl, rfl⟩
    case round =>
      obtain ⟨rfl, rfl⟩ := hrel
      go_wp2
      go_ret
      exact ⟨A1, c1, rfl, ⟨by simp [run, us, HS.out.1], fun h => absurd h (by omega)⟩, HB.out⟩
  · obtain ⟨g, rfl, hg1, hH1⟩ := HG.out (by omega)
    have HG1 := Lib.hid hg1
    have HH1 := Lib.hid hH1
    clear hg1 hH1 HG
    have hg0 : 0 < g := by have := HG1.out; have := HT.out.2; omega
    have HG0 := Lib.hid hg0
    clear hg0
    have HSTEPS := Lib.hid (symL_steps n)
    go_wp2
    go_loopw [11] (fun i wr => ∃ k : Nat, k ≤ n ∧ i = .int .i64 k ∧ Hid (HoldsP wr g (run (fun l k => symL l k n) l k) ∧ BelowBut w1.heap.size g w1 wr)) (fun i _ => n - (intOf i).toNat)
    case atStart => exact ⟨0, Nat.zero_le _, rfl, Lib.hid ⟨HH1.out, BelowBut.refl _ _ _⟩⟩
    case round =>
      obtain ⟨k, hk, rfl, HI⟩ := hrel
      by_cases hlt : k < n
      · have HW : Hid (Calls Tryz.prog 134 #[.slice (some ⟨g, 0, none⟩) n c1, .int .i64 k] wr fun e w' => e = .returned (.tuple #[]) ∧ HoldsP w' g (run (fun l k => symL l k n) l (k + 1)) ∧ BelowBut w1.heap.size g w1 w') := Lib.hid (by
          have hH := HI.out.1
          have hB := HI.out.2
          have hS := (HSTEPS.out.run_sh HS.out k (by omega)).1
          have hT : Tab wr := HT.out.below (HB.out.trans ((hB.mono HB.out.size).below HG1.out))
          have hg0 := HG0.out
          have hk := hlt
          generalize hL : run (fun l k => symL l k n) l k = L at hH hS
          refine (stepSymmetric_any L g n c1 k wr hH (sh_words hn hS) hS.2 hS.1 hk hn hT hg0).mono ?_
          rintro e w' ⟨he, h1, h2⟩
          refine ⟨he, ?_, hB.trans (h2.mono hB.size)⟩
          rw [run_succ, hL]
          exact h1)
        clear HI
        go_wp2_with fail
        refine (HW.out).mono ?_
        rintro e w2 ⟨rfl, h1, h2⟩
        have H2 := Lib.hid (And.intro h1 h2)
        clear h1 h2 HW
        go_wp2
        go_roundw
        case rel => exact ⟨k + 1, by omega, by go_num, H2⟩
        case measure => simp [intOf]; omega
      · have hkn : n = k := by omega
        subst hkn
        go_wp2
        go_ret
        have hl : (run (fun l k => symL l k n) l n).length = n := (HSTEPS.out.run_sh HS.out n (Nat.le_refl _)).1.1
        refine ⟨_, c1, rfl, ?_, HB.out.trans ((HI.out.2.mono HB.out.size).below HG1.out)⟩
        have := HI.out.1.reads
        rw [hl] at this
        exact this
end Go.Proofs.YtjpmhbnikoggaaaGreatDoor
/- Contracts of layer 2: closed, closure and the closures, at each of the steps but the euclidean one. -/
namespace Go.Proofs.YtjpmhbnikoggaaaGreatDoor
open Go.RowKit Go.Proofs.Ws
set_option maxRecDepth 100000 in
theorem closedReflexive_any (l : List Nat) (A : Option Addr) (n c : Nat) (w : World) (hR : Reads w w.heap.size 1 A n (us l)) (hS : Sh n l) (hn : n ≤ 64) (hT : Tab w) :
    Calls Tryz.prog 132 #[.slice A n c, .func (.func 133) #[] #[]] w fun e w' => (∃ b : Bool, e = .returned (.bool b) ∧ (b = true ↔ (PRefl n) l)) ∧ Below w.heap.size w w' := by
  have HE := Lib.hid (extendReflexive_any l A n c w hR hS hn hT)
  have HR := Lib.hid hR
  have HF := Lib.hid (((reflL_steps n)).run_fixed hS)
  clear hR hS hT
  go_enter Tryz.func132, Tryz.ntmps132
  go_wp2_with fail
  refine (HE.out).mono ?_
  rintro e w1 ⟨A1, c1, rfl, hR1, hb1⟩
  have HQ := Lib.hid (equal_any (run reflL l n) l A1 A n n c1 c w1.heap.size w1 hR1 ((HR.out.below hb1).more hb1.size) (by unfold maxLen; omega) (by unfold maxLen; omega))
  have HB := Lib.hid hb1
  clear hR1 hb1
  go_wp2_with fail
  refine (HQ.out).mono ?_
  rintro e w2 ⟨rfl, q, rfl⟩
  go_wp2
  go_ret
  exact ⟨⟨_, rfl, by rw [decide_eq_true_eq]; exact HF.out⟩, below_drewN HB.out q⟩
set_option maxRecDepth 100000 in
theorem closedTransitive_any (l : List Nat) (A : Option Addr) (n c : Nat) (w : World) (hR : Reads w w.heap.size 1 A n (us l)) (hS : Sh n l) (hn : n ≤ 64) (hT : Tab w) :
    Calls Tryz.prog 132 #[.slice A n c, .func (.func 135) #[] #[]] w fun e w' => (∃ b : Bool, e = .returned (.bool b) ∧ (b = true ↔ PTrans l)) ∧ Below w.heap.size w w' := by
  have HE := Lib.hid (extendTransitive_any l A n c w hR hS hn hT)
  have HR := Lib.hid hR
  have HF := Lib.hid (((transL_steps n hn)).run_fixed hS)
  clear hR hS hT
  go_enter Tryz.func132, Tryz.ntmps132
  go_wp2_with fail
  refine (HE.out).mono ?_
  rintro e w1 ⟨A1, c1, rfl, hR1, hb1⟩
  have HQ := Lib.hid (equal_any (run transL l n) l A1 A n n c1 c w1.heap.size w1 hR1 ((HR.out.below hb1).more hb1.size) (by unfold maxLen; omega) (by unfold maxLen; omega))
  have HB := Lib.hid hb1
  clear hR1 hb1
  go_wp2_with fail
  refine (HQ.out).mono ?_
  rintro e w2 ⟨rfl, q, rfl⟩
  go_wp2
  go_ret
  exact ⟨⟨_, rfl, by rw [decide_eq_true_eq]; exact HF.out⟩, below_drewN HB.out q⟩
set_option maxRecDepth 100000 in
theorem closedSymmetric_any (l : List Nat) (A : Option Addr) (n c : Nat) (w : World) (hR : Reads w w.heap.size 1 A n (us l)) (hS : Sh n l) (hn : n ≤ 64) (hT : Tab w) :
    Calls Tryz.prog 132 #[.slice A n c, .func (.func 134) #[] #[]] w fun e w' => (∃ b : Bool, e = .returned (.bool b) ∧ (b = true ↔ PSym l)) ∧ Below w.heap.size w w' := by
  have HE := Lib.hid (extendSymmetric_any l A n c w hR hS hn hT)
  have HR := Lib.hid hR
  have HF := Lib.hid (((symL_steps n)).run_fixed hS)
  clear hR hS hT
  go_enter Tryz.func132, Tryz.ntmps132
  go_wp2_with fail
  refine (HE.out).mono ?_
  rintro e w1 ⟨A1, c1, rfl, hR1, hb1⟩
  have HQ := Lib.hid (equal_any (run (fun l k => symL l k n) l n) l A1 A n n c1 c w1.heap.size w1 hR1 ((HR.out.below hb1).more hb1.size) (by unfold maxLen; omega) (by unfold maxLen; omega))
  have HB := Lib.hid hb1
  clear hR1 hb1
  go_wp2_with fail
  refine (HQ.out).mono ?_
  rintro e w2 ⟨rfl, q, rfl⟩
  go_wp2
  go_ret
  exact ⟨⟨_, rfl, by rw [decide_eq_true_eq]; exact HF.out⟩, below_drewN HB.out q⟩
end Go.Proofs.YtjpmhbnikoggaaaGreatDoor
/- Contracts of layer 2's reference: the closures. -/
namespace Go.Proofs.YtjpmhbnikoggaaaGreatDoor
open Go.RowKit Go.Proofs.Ws
/-- append of a list of words to an empty row of the call's own: a copy -/
theorem wp_copy {ops : Array Oper} {rest : List Oper} {o : Oper} {a : Act} {Q : Exit → Act → World → Prop} {l : List Nat} {A : Option Addr} {n c : Nat} (W : World) (hgd : o.guard = none) (s x : Operand)
    (ho : o.op = .call { callee := .builtin .append, args := #[s, x], argTypes := #[22, 22] }) (base g : Nat) (hg : base ≤ g)
    (hown : W.ownsRow base 37 1 (.slice (some ⟨g, 0, none⟩) 0 0) 0 []) (hbase : base ≤ W.heap.size) (hs : a.eval s = .slice (some ⟨g, 0, none⟩) 0 0) (hx : a.eval x = .slice A n c) (hA : A = none → c = 0)
    (hR : Reads W W.heap.size 1 A n (us l)) (hn : n ≤ 64)
    (h : ∀ A' c' w', (0 < n → ∃ g, A' = some ⟨g, 0, none⟩ ∧ base ≤ g ∧ HoldsP w' g l) → Below base W w' → wpList Tryz.prog ops Q rest (a.put o.dst (.slice A' n c')) w') : wpList Tryz.prog ops Q (o :: rest) a W := by
  have e1 := hR.word_len
  obtain ⟨i0, hi, hz0, hz1, hz2⟩ := info_parts Tryz.infoU
  cases A with
  | none =>
    have h0 : n = 0 := by
      apply Classical.byContradiction
      intro h
      obtain ⟨ad, u, hA, _⟩ := hR.at_ (show 0 < n by omega)
      cases hA
    subst h0
    rw [hA rfl] at hx
    exact wpList_append_own_none hgd s x 22 ho base 37 i0 1 Tryz.underlying22 hi _ 0 [] hs hown hx (h _ _ W (fun h => absurd h (by omega)) (Below.refl _ _))
  | some ad =>
    refine wpList_append_own W hgd s x 22 ho base 37 i0 (.int .u64 0) 1 8 Tryz.underlying22 hi hz0 hz1 hz2 rfl (by decide) _ 0 [] hs hown ad n c (us l) hx (by rw [us_length]; omega) ?_ ?_ (by unfold maxLen; omega) (by omega) hbase ?_
    · intro j u hj
      obtain ⟨_, hh⟩ := hR
      have hjn : j < n := by
        unfold us at hj
        rw [List.getElem?_map] at hj
        obtain ⟨k, hk, _⟩ := Option.map_eq_some_iff.1 hj
        have := (List.getElem?_eq_some_iff.1 hk).1
        omega
      obtain ⟨ad', hA', hb, hc⟩ := hh (by omega)
      cases hA'
      exact hc j u hj
    · intro u hu
      unfold us at hu
      obtain ⟨k, _, rfl⟩ := List.mem_map.1 hu
      rfl
    · intro v' w1 hown' hgrow hnil
      have hv : v' ≠ .slice none 0 0 := fun e => by have := (hnil.1 e).1; cases this
      have hown2 : w1.ownsRow base 37 1 v' l.length (us l) := by
        have : 0 + n = l.length := by omega
        rw [← this]; simpa using hown'
      obtain ⟨g', c', rfl, hg', hH, _⟩ := HoldsP.of_own hown2 hv
      have hb : Below base W w1 := (Below.refl _ _).grown hgrow hbase (by intro k hk; simp [Value.ownBlock] at hk; omega)
      rw [e1]
      exact h _ c' w1 (fun _ => ⟨g', rfl, hg', hH⟩) hb
set_option maxRecDepth 100000 in
theorem refReflexive_any (l : List Nat) (A : Option Addr) (n c : Nat) (w : World) (hR : Reads w w.heap.size 1 A n (us l)) (hw : Words l) (hm : n ≤ maxLen) (hA : A = none → c = 0) :
    Calls Tryz.prog 82 #[.slice A n c] w fun e w' => (relErr l.length l = 0 ∧ ∃ C, IsClo n (PRefl n) l C ∧ GivesR C w e w') ∨ (relErr l.length l ≠ 0 ∧ GivesE (relErr l.length l) w e w') := by
  have e1 := hR.word_len
  have HK := Lib.hid (ref2Check_any n l A n c _ w hR hw hm)
  have E1 := Lib.hid e1
  have HR := Lib.hid hR
  rw [e1]
  clear hR hw hm e1
  by_cases h0 : relErr n l = 0
  · have hn : n ≤ 64 := relErr_zero h0
    have HS : Hid (Sh n l) := Lib.hid ⟨E1.out, relErr_rows h0⟩
    rw [h0] at HK
    have H0 := Lib.hid h0
    clear h0
    go_enter Tryz.func82, Tryz.ntmps82
    go_wp2_with fail
    refine (HK.out).mono ?_
    rintro e w0 ⟨rfl, q0, rfl⟩
    go_wp2_with (at_builtin; refine wp_copy _ rfl _ _ rfl (w.drewN q0).heap.size (w.drewN q0).heap.size (Nat.le_refl _) (World.ownsRow_made (w.drewN q0) #[] 0 (Nat.le_refl _) (Nat.zero_le _) (by simp)) (by simp) rfl rfl hA (((HR.out.drewN q0).alloc (Nat.le_refl _) _).more (by simp)) hn ?_)
    intro A1 c1 w1 hg hb
    have HG := Lib.hid hg
    have HB : Hid (Below w.heap.size w w1) := Lib.hid (((below_drewN (Below.refl _ w) q0).alloc (Nat.le_refl _) _).trans hb)
    clear hg hb
    by_cases hn0 : n = 0
    · subst hn0
      go_wp2
      go_loopw [6] (fun i wr => i = .int .i64 ((0 : Nat) : Int) ∧ wr = w1) (fun i _ => 0 - (intOf i).toNat)
      case atStart => exact ⟨rfl, rfl⟩
      case round =>
        obtain ⟨rfl, rfl⟩ := hrel
        go_wp2
        go_ret2
        have hl := List.length_eq_zero_iff.1 E1.out
        refine Or.inl ⟨H0.out, run reflL l 0, reflV_clo l HS.out, A1, c1, ?_, ?_, HB.out⟩
        · rw [hl]; rfl
        · rw [hl]; exact ⟨by simp [run, us], fun h => absurd h (by simp [run])⟩
    · obtain ⟨g, rfl, hg1, hH1⟩ := HG.out (by omega)
      have HG1 := Lib.hid hg1
      have HH1 := Lib.hid hH1
      clear hg1 hH1 HG
      go_wp2
      go_loopw [6] (fun i wr => ∃ k q : Nat, k ≤ n ∧ i = .int .i64 k ∧ Hid (HoldsP wr g (run reflL l k) ∧ BelowBut w1.heap.size g w1 wr)) (fun i _ => n - (intOf i).toNat)
      case atStart => exact ⟨0, 0, Nat.zero_le _, rfl, Lib.hid ⟨HH1.out, BelowBut.refl _ _ _⟩⟩
      case round =>
        obtain ⟨k, q, hk, rfl, HI⟩ := hrel
        by_cases hlt : k < n
        · have hS := ((reflL_steps n).run_sh HS.out k (by omega)).1
          have hcz := HI.out.1.cell k (by rw [hS.1]; exact hlt)
          have hf := HI.out.1.free k
          have hwd : (run reflL l k).getD k 0 < 18446744073709551616 := words_getD (sh_words hn hS) k
          have hor := (or_pow ((run reflL l k).getD k 0) k hwd (by omega)).1
          have hpw := wrap_pow k (show k < 64 by omega)
          have H2 : ∀ W, BelowBut w1.heap.size g wr W → True := fun _ _ => trivial
          have HP : Hid (HoldsP (wr.setCell ⟨g, k, none⟩ (.int .u64 (((run reflL l k).getD k 0 ||| p2 k : Nat) : Int))) g (run reflL l (k + 1)) ∧ BelowBut w1.heap.size g w1 (wr.setCell ⟨g, k, none⟩ (.int .u64 (((run reflL l k).getD k 0 ||| p2 k : Nat) : Int)))) := Lib.hid ⟨by rw [run_succ]; exact HI.out.1.put k _, HI.out.2.setCell k _⟩
          generalize (run reflL l k).getD k 0 = x at *
          clear hS hwd H2
          go_wp2
          try simp only [hpw, hor]
          go_wp2
          go_roundw
          case rel => exact ⟨k + 1, q, by omega, by go_num, HP⟩
          case measure => simp [intOf]; omega
        · have hkn : n = k := by omega
          subst hkn
          go_wp2
          go_ret2
          have hl : (run reflL l n).length = n := ((reflL_steps n).run_sh HS.out n (Nat.le_refl _)).1.1
          refine Or.inl ⟨H0.out, run reflL l n, reflV_clo l HS.out, _, c1, ?_, HI.out.1.reads, HB.out.trans ((HI.out.2.mono HB.out.size).below HG1.out)⟩
          rw [hl]; rfl
  · have hne : (relErr n l != 0) = true := by simp [h0]
    have H0 := Lib.hid h0
    clear h0
    go_enter Tryz.func82, Tryz.ntmps82
    go_wp2_with fail
    refine (HK.out).mono ?_
    rintro e w0 ⟨rfl, q0, rfl⟩
    go_wp2
    go_ret2
    exact Or.inr ⟨H0.out, rfl, below_drewN (Below.refl _ _) _⟩
end Go.Proofs.YtjpmhbnikoggaaaGreatDoor
/- Contracts of layer 2's reference: grow, the transitive and the euclidean closure. -/
namespace Go.Proofs.YtjpmhbnikoggaaaGreatDoor
open Go.RowKit Go.Proofs.Ws
theorem growT_no {l : List Nat} {w u : Nat} (h : (l.getD w 0).testBit u = false) : growT l w u = l := by unfold growT; rw [if_neg (by rw [h]; simp)]
theorem growE_no {l : List Nat} {w u : Nat} (h : (l.getD w 0).testBit u = false) : growE l w u = l := by unfold growE; rw [if_neg (by rw [h]; simp)]
theorem set_self (l : List Nat) (k : Nat) : l.set k (l.getD k 0) = l := by
  apply List.ext_getElem
  · simp
  · intro i h1 h2
    rw [List.getElem_set]
    split
    · rename_i e; subst e; rw [List.getD_eq_getElem?_getD, List.getElem?_eq_getElem h2]; rfl
    · rfl
theorem set_ne {l : List Nat} {k x : Nat} (hk : k < l.length) (h : x ≠ l.getD k 0) : l.set k x ≠ l := by
  intro e
  have : (l.set k x).getD k 0 = x := by rw [List.getD_eq_getElem?_getD, List.getElem?_set_self hk]; rfl
  rw [e] at this
  exact h this.symm
theorem growT_yes {l : List Nat} {w u : Nat} (h : (l.getD w 0).testBit u = true) : growT l w u = l.set w (l.getD w 0 ||| l.getD u 0) := by unfold growT; rw [if_pos h]
theorem growE_yes {l : List Nat} {w u : Nat} (h : (l.getD w 0).testBit u = true) : growE l w u = l.set u (l.getD u 0 ||| l.getD w 0) := by unfold growE; rw [if_pos h]
theorem up_ne {m : Nat} {x c d : List Nat} (hx : Sh m x) (hc : Sh m c) (h1 : Le x c) (h2 : Le c d) (hne : d ≠ c) : d ≠ x := fun e => hne (by subst e; exact Le.antisymm hx hc h1 h2)
theorem passT_bound {n : Nat} {x : List Nat} (hx : Sh n x) (k u : Nat) (hk : k < n) (hu : u ≤ n) : Sh n (run (fun l u => growT l k u) (run (passT n) x k) u) ∧ Le x (run (fun l u => growT l k u) (run (passT n) x k) u) := by
  have h1 := (passT_steps n).run_sh hx k (by omega)
  have h2 := (growT_grows n k hk).fix.run_sh h1.1 u hu
  exact ⟨h2.1, h1.2.trans h2.2⟩
theorem passE_bound {n : Nat} {x : List Nat} (hx : Sh n x) (k u : Nat) (hk : k < n) (hu : u ≤ n) : Sh n (run (fun l u => growE l k u) (run (passE n) x k) u) ∧ Le x (run (fun l u => growE l k u) (run (passE n) x k) u) := by
  have h1 := (passE_steps n).run_sh hx k (by omega)
  have h2 := (growE_grows n k).fix.run_sh h1.1 u hu
  exact ⟨h2.1, h1.2.trans h2.2⟩
/-- what a call hands back: a list of words in memory of its own -/
def GivesS (l : List Nat) (w : World) (e : Ending) (w' : World) : Prop :=
  ∃ A c, e = .returned (.slice A l.length c) ∧ Reads w' w'.heap.size 1 A l.length (us l) ∧ Below w.heap.size w w'
theorem holdsP_drewN {w : World} {g : Nat} {l : List Nat} (h : HoldsP w g l) (q : Nat) : HoldsP (w.drewN q) g l := h
theorem BelowBut.drewN {B g : Nat} {a w : World} (h : BelowBut B g a w) (q : Nat) : BelowBut B g a (w.drewN q) := ⟨h.os, h.tape, h.output, h.size, h.block⟩
set_option maxRecDepth 100000 in
theorem refGrowT_any (l : List Nat) (A : Option Addr) (n c : Nat) (w : World) (hR : Reads w w.heap.size 1 A n (us l)) (hS : Sh n l) (hn : n ≤ 64) (hA : A = none → c = 0) :
    Calls Tryz.prog 139 #[.slice A n c, .bool false] w fun e w' => ∃ C, IsClo n PTrans l C ∧ GivesS C w e w' := by
  have HR := Lib.hid hR
  have HS := Lib.hid hS
  clear hR hS
  go_enter Tryz.func139, Tryz.ntmps139
  go_wp2_with (at_builtin; refine wp_copy _ rfl _ _ rfl w.heap.size w.heap.size (Nat.le_refl _) (World.ownsRow_made w #[] 0 (Nat.le_refl _) (Nat.zero_le _) (by simp)) (by simp) rfl rfl hA ((HR.out.alloc (Nat.le_refl _) _).more (by simp)) hn ?_)
  intro A1 c1 w1 hg hb
  have HG := Lib.hid hg
  have HB : Hid (Below w.heap.size w w1) := Lib.hid (((Below.refl _ w).alloc (Nat.le_refl _) _).trans hb)
  clear hg hb hA
  by_cases hn0 : n = 0
  · subst hn0
    go_wp2
    go_loopw [6] (fun i wr => ∃ b : Bool, i = .bool b ∧ wr = w1) (fun i _ => match i with | .bool true => 1 | _ => 0)
    case atStart => exact ⟨true, rfl, rfl⟩
    case round =>
      obtain ⟨b, rfl, rfl⟩ := hrel
      cases b
      · go_wp2
        go_ret
        exact ⟨l, (Mid.start HS.out).done (passT_steps 0) rfl, A1, c1, by rw [HS.out.1]; rfl, ⟨by rw [List.length_eq_zero_iff.1 HS.out.1]; rfl, fun h => absurd h (by have := HS.out.1; omega)⟩, HB.out⟩
      · go_wp2
        go_loopw [7, 6] (fun j i wr' => j = .int .i64 ((0 : Nat) : Int) ∧ i = .bool false ∧ wr' = wr) (fun j _ _ => 0 - (intOf j).toNat)
        case atStart => exact ⟨rfl, rfl, rfl⟩
        case round =>
          obtain ⟨rfl, rfl, rfl⟩ := hrel
          go_wp2
          go_roundw
          case rel => exact ⟨false, rfl, by first | rfl | trivial⟩
          case measure => simp
  · obtain ⟨g, rfl, hg1, hH1⟩ := HG.out (by omega)
    have HG1 := Lib.hid hg1
    have HH1 := Lib.hid hH1
    clear hg1 hH1 HG
    go_wp2
    go_loopw [6] (fun i wr => ∃ (b : Bool) (x : List Nat), i = .bool b ∧ Hid (HoldsP wr g x ∧ BelowBut w1.heap.size g w1 wr ∧ Mid n PTrans l x ∧ (b = false → run (passT n) x n = x))) (fun i wr => match i with | .bool true => 64 * n + 1 - wt (rdL wr (.slice (some ⟨g, 0, none⟩) n 0)) | _ => 0)
    case atStart => exact ⟨true, l, rfl, Lib.hid ⟨HH1.out, BelowBut.refl _ _ _, Mid.start HS.out, fun h => by cases h⟩⟩
    case round =>
      clear HH1
      obtain ⟨b, x, rfl, HI⟩ := hrel
      cases b
      · have HC : Hid (IsClo n PTrans l x) := Lib.hid (HI.out.2.2.1.done (passT_steps n) (HI.out.2.2.2 rfl))
        go_wp2
        go_ret
        have hl := HC.out.sh.1
        exact ⟨x, HC.out, _, c1, by rw [hl]; rfl, HI.out.1.reads, HB.out.trans ((HI.out.2.1.mono HB.out.size).below HG1.out)⟩
      · have HX : Hid (Sh n x) := Lib.hid HI.out.2.2.1.sh
        have HRD : Hid (rdL wr (.slice (some ⟨g, 0, none⟩) n 0) = x) := Lib.hid (by
          have := HI.out.1.reads
          rw [HX.out.1] at this
          exact rdL_reads this)
        have HM : Hid (Mid n PTrans l x) := Lib.hid HI.out.2.2.1
        have HI0 : Hid (HoldsP wr g (run (passT n) x 0) ∧ BelowBut w1.heap.size g w1 wr) := Lib.hid ⟨HI.out.1, HI.out.2.1⟩
        clear HI
        go_wp2
        go_loopw [7, 6] (fun j i wr' => ∃ (k : Nat) (b : Bool), k ≤ n ∧ j = .int .i64 k ∧ i = .bool b ∧ Hid (HoldsP wr' g (run (passT n) x k) ∧ BelowBut w1.heap.size g w1 wr') ∧ Hid (b = true ↔ run (passT n) x k ≠ x)) (fun j _ _ => n - (intOf j).toNat)
        case atStart => exact ⟨0, false, Nat.zero_le _, rfl, rfl, HI0, Lib.hid ⟨fun h => (by cases h), fun h => absurd rfl h⟩⟩
        case round =>
          clear HI0
          obtain ⟨j, b, hj, rfl, rfl, HI, HF⟩ := hrel
          by_cases hjn : j < n
          · have HI0 : Hid (HoldsP wr g (run (fun l u => growT l j u) (run (passT n) x j) 0) ∧ BelowBut w1.heap.size g w1 wr) := Lib.hid HI.out
            have HF0 : Hid (b = true ↔ run (fun l u => growT l j u) (run (passT n) x j) 0 ≠ x) := Lib.hid HF.out
            clear HI HF
            go_wp2
            go_loopw [8, 6] (fun v i wr' => ∃ (u : Nat) (b : Bool), u ≤ n ∧ v = .int .i64 u ∧ i = .bool b ∧ Hid (HoldsP wr' g (run (fun l u => growT l j u) (run (passT n) x j) u) ∧ BelowBut w1.heap.size g w1 wr') ∧ Hid (b = true ↔ run (fun l u => growT l j u) (run (passT n) x j) u ≠ x)) (fun v _ _ => n - (intOf v).toNat)
            case atStart => exact ⟨0, b, Nat.zero_le _, rfl, rfl, HI0, HF0⟩
            case round =>
              clear HI0 HF0
              obtain ⟨u, b, hu, rfl, rfl, HI, HF⟩ := hrel
              by_cases hul : u < n
              · obtain ⟨cur, hcur⟩ : ∃ cur, run (fun l u => growT l j u) (run (passT n) x j) u = cur := ⟨_, rfl⟩
                have HCN : Hid (run (fun l u => growT l j u) (run (passT n) x j) (u + 1) = growT cur j u) := Lib.hid (by rw [run_succ, hcur])
                have hbd := passT_bound HX.out j u hjn (by omega)
                rw [hcur] at HI HF hbd
                clear hcur
                have hlen : cur.length = n := hbd.1.1
                have hcj := HI.out.1.cell j (by omega)
                have hcu := HI.out.1.cell u (by omega)
                have hfr := HI.out.1.free j
                have hxw := words_getD (sh_words hn hbd.1) j
                have hyw := words_getD (sh_words hn hbd.1) u
                have HIN := Lib.hid (in_any (cur.getD j 0) u wr hxw (by omega))
                by_cases ht : (cur.getD j 0).testBit u = true
                · have HY : Hid (growT cur j u = cur.set j (cur.getD j 0 ||| cur.getD u 0)) := Lib.hid (growT_yes ht)
                  rw [ht] at HIN
                  clear ht
                  have hor : bits .or .u64 ((cur.getD j 0 : Nat) : Int) ((cur.getD u 0 : Nat) : Int) = ((cur.getD j 0 ||| cur.getD u 0 : Nat) : Int) := u64_or_nat _ _ (by assumption) (by assumption)
                  by_cases he : cur.getD j 0 ||| cur.getD u 0 = cur.getD j 0
                  · have hne : (((cur.getD j 0 ||| cur.getD u 0 : Nat) : Int) != ((cur.getD j 0 : Nat) : Int)) = false := by rw [he]; simp
                    have HC : Hid (run (fun l u => growT l j u) (run (passT n) x j) (u + 1) = cur) := Lib.hid (by rw [HCN.out, HY.out, he, set_self])
                    have HD : Hid (HoldsP wr g (run (fun l u => growT l j u) (run (passT n) x j) (u + 1)) ∧ BelowBut w1.heap.size g w1 wr) := Lib.hid (by rw [HC.out]; exact HI.out)
                    have HF2 : Hid (b = true ↔ run (fun l u => growT l j u) (run (passT n) x j) (u + 1) ≠ x) := Lib.hid (by rw [HC.out]; exact HF.out)
                    generalize cur.getD j 0 ||| cur.getD u 0 = t at *
                    generalize cur.getD j 0 = xj at *
                    generalize cur.getD u 0 = xu at *
                    clear HCN HY HC HI HF hbd hlen hxw hyw he
                    go_wp2_with (go_at_call 148; refine (HIN.out).mono ?_; rintro e w' ⟨rfl, rfl⟩)
                    go_quiet (fail)
                    go_wp2
                    go_quiet (fail)
                    go_wp2
                    try (go_quiet (fail))
                    go_wp2
                    go_roundw
                    case rel => exact ⟨u + 1, b, by omega, by go_num, rfl, Lib.hid ⟨holdsP_drewN HD.out.1 _, HD.out.2.drewN _⟩, HF2⟩
                    case measure => simp [intOf]; omega
                  · have hne : (((cur.getD j 0 ||| cur.getD u 0 : Nat) : Int) != ((cur.getD j 0 : Nat) : Int)) = true := by rw [bne_iff_ne]; intro h; exact he (Int.ofNat.inj h)
                    have hnx : growT cur j u ≠ x := by
                      rw [HY.out]
                      refine up_ne HX.out hbd.1 hbd.2 ?_ (set_ne (by omega) he)
                      have := ((growT_grows n j hjn).up cur u hbd.1 hul)
                      simp only [HY.out] at this
                      exact this
                    have HD : Hid (HoldsP (wr.setCell ⟨g, j, none⟩ (.int .u64 ((cur.getD j 0 ||| cur.getD u 0 : Nat) : Int))) g (run (fun l u => growT l j u) (run (passT n) x j) (u + 1)) ∧ BelowBut w1.heap.size g w1 (wr.setCell ⟨g, j, none⟩ (.int .u64 ((cur.getD j 0 ||| cur.getD u 0 : Nat) : Int)))) := Lib.hid (by rw [HCN.out, HY.out]; exact ⟨HI.out.1.put j _, HI.out.2.setCell j _⟩)
                    have HF2 : Hid (true = true ↔ run (fun l u => growT l j u) (run (passT n) x j) (u + 1) ≠ x) := Lib.hid (by rw [HCN.out]; exact ⟨fun _ => hnx, fun _ => rfl⟩)
                    generalize cur.getD j 0 ||| cur.getD u 0 = t at *
                    generalize cur.getD j 0 = xj at *
                    generalize cur.getD u 0 = xu at *
                    clear HCN HY HI HF hbd hlen hxw hyw he hnx
                    go_wp2_with (go_at_call 148; refine (HIN.out).mono ?_; rintro e w' ⟨rfl, rfl⟩)
                    go_quiet (fail)
                    go_wp2
                    go_quiet (fail)
                    go_wp2
                    try (go_quiet (fail))
                    go_wp2
                    go_roundw
                    case rel => exact ⟨u + 1, true, by omega, by go_num, rfl, Lib.hid ⟨HD.out.1, ⟨HD.out.2.os, HD.out.2.tape, HD.out.2.output, HD.out.2.size, HD.out.2.block⟩⟩, Lib.hid ⟨fun _ => by first | exact HF2.out.1 trivial | exact HF2.out.1 rfl, fun _ => rfl⟩⟩
                    case measure => simp [intOf]; omega
                · have ht' : (cur.getD j 0).testBit u = false := by simpa using ht
                  have HC : Hid (run (fun l u => growT l j u) (run (passT n) x j) (u + 1) = cur) := Lib.hid (by rw [HCN.out]; exact growT_no ht')
                  have HD : Hid (HoldsP wr g (run (fun l u => growT l j u) (run (passT n) x j) (u + 1)) ∧ BelowBut w1.heap.size g w1 wr) := Lib.hid (by rw [HC.out]; exact HI.out)
                  have HF2 : Hid (b = true ↔ run (fun l u => growT l j u) (run (passT n) x j) (u + 1) ≠ x) := Lib.hid (by rw [HC.out]; exact HF.out)
                  rw [ht'] at HIN
                  clear ht ht' HC HCN HI HF hbd
                  generalize cur.getD j 0 = xj at *
                  generalize cur.getD u 0 = xu at *
                  go_wp2_with (go_at_call 148; refine (HIN.out).mono ?_; rintro e w' ⟨rfl, rfl⟩)
                  go_roundw
                  case rel => exact ⟨u + 1, b, by omega, by go_num, rfl, HD, HF2⟩
                  case measure => simp [intOf]; omega
              · have hun : n = u := by omega
                subst hun
                have HD : Hid (HoldsP wr g (run (passT n) x (j + 1)) ∧ BelowBut w1.heap.size g w1 wr) := Lib.hid (by rw [run_succ]; exact HI.out)
                have HF2 : Hid (b = true ↔ run (passT n) x (j + 1) ≠ x) := Lib.hid (by rw [run_succ]; exact HF.out)
                clear HI HF
                go_wp2
                go_roundw
                case rel => exact ⟨j + 1, b, by omega, by go_num, rfl, HD, HF2⟩
                case measure => simp [intOf]; omega
          · have hjn' : n = j := by omega
            subst hjn'
            go_wp2
            go_roundw
            case rel =>
              refine ⟨b, run (passT n) x n, rfl, Lib.hid ⟨HI.out.1, HI.out.2, HM.out.next (passT_steps n), fun hb => ?_⟩⟩
              have hx : run (passT n) x n = x := Classical.byContradiction (fun h => by have := HF.out.2 h; rw [hb] at this; cases this)
              rw [hx]; exact hx
            case measure =>
              cases b
              · have := wt_top HX.out
                rw [HRD.out]
                simp
                omega
              · have hne := HF.out.1 rfl
                have hmo := HM.out.more (passT_steps n) hn hne
                have hrd : rdL wr (.slice (some ⟨g, 0, none⟩) n 0) = run (passT n) x n := by
                  have := HI.out.1.reads
                  rw [(HM.out.next (passT_steps n)).sh.1] at this
                  exact rdL_reads this
                rw [HRD.out, hrd]
                simp only
                omega
set_option maxRecDepth 100000 in
theorem refGrowE_any (l : List Nat) (A : Option Addr) (n c : Nat) (w : World) (hR : Reads w w.heap.size 1 A n (us l)) (hS : Sh n l) (hn : n ≤ 64) (hA : A = none → c = 0) :
    Calls Tryz.prog 139 #[.slice A n c, .bool true] w fun e w' => ∃ C, IsClo n PEucl l C ∧ GivesS C w e w' := by
  have HR := Lib.hid hR
  have HS := Lib.hid hS
  clear hR hS
  go_enter Tryz.func139, Tryz.ntmps139
  go_wp2_with (at_builtin; refine wp_copy _ rfl _ _ rfl w.heap.size w.heap.size (Nat.le_refl _) (World.ownsRow_made w #[] 0 (Nat.le_refl _) (Nat.zero_le _) (by simp)) (by simp) rfl rfl hA ((HR.out.alloc (Nat.le_refl _) _).more (by simp)) hn ?_)
  intro A1 c1 w1 hg hb
  have HG := Lib.hid hg
  have HB : Hid (Below w.heap.size w w1) := Lib.hid (((Below.refl _ w).alloc (Nat.le_refl _) _).trans hb)
  clear hg hb hA
  by_cases hn0 : n = 0
  · subst hn0
    go_wp2
    go_loopw [6] (fun i wr => ∃ b : Bool, i = .bool b ∧ wr = w1) (fun i _ => match i with | .bool true => 1 | _ => 0)
    case atStart => exact ⟨true, rfl, rfl⟩
    case round =>
      obtain ⟨b, rfl, rfl⟩ := hrel
      cases b
      · go_wp2
        go_ret
        exact ⟨l, (Mid.start HS.out).done (passE_steps 0) rfl, A1, c1, by rw [HS.out.1]; rfl, ⟨by rw [List.length_eq_zero_iff.1 HS.out.1]; rfl, fun h => absurd h (by have := HS.out.1; omega)⟩, HB.out⟩
      · go_wp2
        go_loopw [7, 6] (fun j i wr' => j = .int .i64 ((0 : Nat) : Int) ∧ i = .bool false ∧ wr' = wr) (fun j _ _ => 0 - (intOf j).toNat)
        case atStart => exact ⟨rfl, rfl, rfl⟩
        case round =>
          obtain ⟨rfl, rfl, rfl⟩ := hrel
          go_wp2
          go_roundw
          case rel => exact ⟨false, rfl, by first | rfl | trivial⟩
          case measure => simp
  · obtain ⟨g, rfl, hg1, hH1⟩ := HG.out (by omega)
    have HG1 := Lib.hid hg1
    have HH1 := Lib.hid hH1
    clear hg1 hH1 HG
    go_wp2
    go_loopw [6] (fun i wr => ∃ (b : Bool) (x : List Nat), i = .bool b ∧ Hid (HoldsP wr g x ∧ BelowBut w1.heap.size g w1 wr ∧ Mid n PEucl l x ∧ (b = false → run (passE n) x n = x))) (fun i wr => match i with | .bool true => 64 * n + 1 - wt (rdL wr (.slice (some ⟨g, 0, none⟩) n 0)) | _ => 0)
    case atStart => exact ⟨true, l, rfl, Lib.hid ⟨HH1.out, BelowBut.refl _ _ _, Mid.start HS.out, fun h => by cases h⟩⟩
    case round =>
      clear HH1
      obtain ⟨b, x, rfl, HI⟩ := hrel
      cases b
      · have HC : Hid (IsClo n PEucl l x) := Lib.hid (HI.out.2.2.1.done (passE_steps n) (HI.out.2.2.2 rfl))
        go_wp2
        go_ret
        have hl := HC.out.sh.1
        exact ⟨x, HC.out, _, c1, by rw [hl]; rfl, HI.out.1.reads, HB.out.trans ((HI.out.2.1.mono HB.out.size).below HG1.out)⟩
      · have HX : Hid (Sh n x) := Lib.hid HI.out.2.2.1.sh
        have HRD : Hid (rdL wr (.slice (some ⟨g, 0, none⟩) n 0) = x) := Lib.hid (by
          have := HI.out.1.reads
          rw [HX.out.1] at this
          exact rdL_reads this)
        have HM : Hid (Mid n PEucl l x) := Lib.hid HI.out.2.2.1
        have HI0 : Hid (HoldsP wr g (run (passE n) x 0) ∧ BelowBut w1.heap.size g w1 wr) := Lib.hid ⟨HI.out.1, HI.out.2.1⟩
        clear HI
        go_wp2
        go_loopw [7, 6] (fun j i wr' => ∃ (k : Nat) (b : Bool), k ≤ n ∧ j = .int .i64 k ∧ i = .bool b ∧ Hid (HoldsP wr' g (run (passE n) x k) ∧ BelowBut w1.heap.size g w1 wr') ∧ Hid (b = true ↔ run (passE n) x k ≠ x)) (fun j _ _ => n - (intOf j).toNat)
        case atStart => exact ⟨0, false, Nat.zero_le _, rfl, rfl, HI0, Lib.hid ⟨fun h => (by cases h), fun h => absurd rfl h⟩⟩
        case round =>
          clear HI0
          obtain ⟨j, b, hj, rfl, rfl, HI, HF⟩ := hrel
          by_cases hjn : j < n
          · have HI0 : Hid (HoldsP wr g (run (fun l u => growE l j u) (run (passE n) x j) 0) ∧ BelowBut w1.heap.size g w1 wr) := Lib.hid HI.out
            have HF0 : Hid (b = true ↔ run (fun l u => growE l j u) (run (passE n) x j) 0 ≠ x) := Lib.hid HF.out
            clear HI HF
            go_wp2
            go_loopw [8, 6] (fun v i wr' => ∃ (u : Nat) (b : Bool), u ≤ n ∧ v = .int .i64 u ∧ i = .bool b ∧ Hid (HoldsP wr' g (run (fun l u => growE l j u) (run (passE n) x j) u) ∧ BelowBut w1.heap.size g w1 wr') ∧ Hid (b = true ↔ run (fun l u => growE l j u) (run (passE n) x j) u ≠ x)) (fun v _ _ => n - (intOf v).toNat)
            case atStart => exact ⟨0, b, Nat.zero_le _, rfl, rfl, HI0, HF0⟩
            case round =>
              clear HI0 HF0
              obtain ⟨u, b, hu, rfl, rfl, HI, HF⟩ := hrel
              by_cases hul : u < n
              · obtain ⟨cur, hcur⟩ : ∃ cur, run (fun l u => growE l j u) (run (passE n) x j) u = cur := ⟨_, rfl⟩
                have HCN : Hid (run (fun l u => growE l j u) (run (passE n) x j) (u + 1) = growE cur j u) := Lib.hid (by rw [run_succ, hcur])
                have hbd := passE_bound HX.out j u hjn (by omega)
                rw [hcur] at HI HF hbd
                clear hcur
                have hlen : cur.length = n := hbd.1.1
                have hcj := HI.out.1.cell j (by omega)
                have hcu := HI.out.1.cell u (by omega)
                have hfr := HI.out.1.free u
                have hxw := words_getD (sh_words hn hbd.1) j
                have hyw := words_getD (sh_words hn hbd.1) u
                have HIN := Lib.hid (in_any (cur.getD j 0) u wr hxw (by omega))
                by_cases ht : (cur.getD j 0).testBit u = true
                · have HY : Hid (growE cur j u = cur.set u (cur.getD u 0 ||| cur.getD j 0)) := Lib.hid (growE_yes ht)
                  rw [ht] at HIN
                  clear ht
                  have hor : bits .or .u64 ((cur.getD u 0 : Nat) : Int) ((cur.getD j 0 : Nat) : Int) = ((cur.getD u 0 ||| cur.getD j 0 : Nat) : Int) := u64_or_nat _ _ (by assumption) (by assumption)
                  by_cases he : cur.getD u 0 ||| cur.getD j 0 = cur.getD u 0
                  · have hne : (((cur.getD u 0 ||| cur.getD j 0 : Nat) : Int) != ((cur.getD u 0 : Nat) : Int)) = false := by rw [he]; simp
                    have HC : Hid (run (fun l u => growE l j u) (run (passE n) x j) (u + 1) = cur) := Lib.hid (by rw [HCN.out, HY.out, he, set_self])
                    have HD : Hid (HoldsP wr g (run (fun l u => growE l j u) (run (passE n) x j) (u + 1)) ∧ BelowBut w1.heap.size g w1 wr) := Lib.hid (by rw [HC.out]; exact HI.out)
                    have HF2 : Hid (b = true ↔ run (fun l u => growE l j u) (run (passE n) x j) (u + 1) ≠ x) := Lib.hid (by rw [HC.out]; exact HF.out)
                    generalize cur.getD u 0 ||| cur.getD j 0 = t at *
                    generalize cur.getD j 0 = xj at *
                    generalize cur.getD u 0 = xu at *
                    clear HCN HY HC HI HF hbd hlen hxw hyw he
                    go_wp2_with (go_at_call 148; refine (HIN.out).mono ?_; rintro e w' ⟨rfl, rfl⟩)
                    go_quiet (fail)
                    go_wp2
                    go_quiet (fail)
                    go_wp2
                    try (go_quiet (fail))
                    go_wp2
                    go_roundw
                    case rel => exact ⟨u + 1, b, by omega, by go_num, rfl, Lib.hid ⟨holdsP_drewN HD.out.1 _, HD.out.2.drewN _⟩, HF2⟩
                    case measure => simp [intOf]; omega
                  · have hne : (((cur.getD u 0 ||| cur.getD j 0 : Nat) : Int) != ((cur.getD u 0 : Nat) : Int)) = true := by rw [bne_iff_ne]; intro h; exact he (Int.ofNat.inj h)
                    have hnx : growE cur j u ≠ x := by
                      rw [HY.out]
                      refine up_ne HX.out hbd.1 hbd.2 ?_ (set_ne (by omega) he)
                      have := ((growE_grows n j).up cur u hbd.1 hul)
                      simp only [HY.out] at this
                      exact this
                    have HD : Hid (HoldsP (wr.setCell ⟨g, u, none⟩ (.int .u64 ((cur.getD u 0 ||| cur.getD j 0 : Nat) : Int))) g (run (fun l u => growE l j u) (run (passE n) x j) (u + 1)) ∧ BelowBut w1.heap.size g w1 (wr.setCell ⟨g, u, none⟩ (.int .u64 ((cur.getD u 0 ||| cur.getD j 0 : Nat) : Int)))) := Lib.hid (by rw [HCN.out, HY.out]; exact ⟨HI.out.1.put u _, HI.out.2.setCell u _⟩)
                    have HF2 : Hid (true = true ↔ run (fun l u => growE l j u) (run (passE n) x j) (u + 1) ≠ x) := Lib.hid (by rw [HCN.out]; exact ⟨fun _ => hnx, fun _ => rfl⟩)
                    generalize cur.getD u 0 ||| cur.getD j 0 = t at *
                    generalize cur.getD j 0 = xj at *
                    generalize cur.getD u 0 = xu at *
                    clear HCN HY HI HF hbd hlen hxw hyw he hnx
                    go_wp2_with (go_at_call 148; refine (HIN.out).mono ?_; rintro e w' ⟨rfl, rfl⟩)
                    go_quiet (fail)
                    go_wp2
                    go_quiet (fail)
                    go_wp2
                    try (go_quiet (fail))
                    go_wp2
                    go_roundw
                    case rel => exact ⟨u + 1, true, by omega, by go_num, rfl, Lib.hid ⟨HD.out.1, ⟨HD.out.2.os, HD.out.2.tape, HD.out.2.output, HD.out.2.size, HD.out.2.block⟩⟩, Lib.hid ⟨fun _ => by first | exact HF2.out.1 trivial | exact HF2.out.1 rfl, fun _ => rfl⟩⟩
                    case measure => simp [intOf]; omega
                · have ht' : (cur.getD j 0).testBit u = false := by simpa using ht
                  have HC : Hid (run (fun l u => growE l j u) (run (passE n) x j) (u + 1) = cur) := Lib.hid (by rw [HCN.out]; exact growE_no ht')
                  have HD : Hid (HoldsP wr g (run (fun l u => growE l j u) (run (passE n) x j) (u + 1)) ∧ BelowBut w1.heap.size g w1 wr) := Lib.hid (by rw [HC.out]; exact HI.out)
                  have HF2 : Hid (b = true ↔ run (fun l u => growE l j u) (run (passE n) x j) (u + 1) ≠ x) := Lib.hid (by rw [HC.out]; exact HF.out)
                  rw [ht'] at HIN
                  clear ht ht' HC HCN HI HF hbd
                  generalize cur.getD j 0 = xj at *
                  generalize cur.getD u 0 = xu at *
                  go_wp2_with (go_at_call 148; refine (HIN.out).mono ?_; rintro e w' ⟨rfl, rfl⟩)
                  go_roundw
                  case rel => exact ⟨u + 1, b, by omega, by go_num, rfl, HD, HF2⟩
                  case measure => simp [intOf]; omega
              · have hun : n = u := by omega
                subst hun
                have HD : Hid (HoldsP wr g (run (passE n) x (j + 1)) ∧ BelowBut w1.heap.size g w1 wr) := Lib.hid (by rw [run_succ]; exact HI.out)
                have HF2 : Hid (b = true ↔ run (passE n) x (j + 1) ≠ x) := Lib.hid (by rw [run_succ]; exact HF.out)
                clear HI HF
                go_wp2
                go_roundw
                case rel => exact ⟨j + 1, b, by omega, by go_num, rfl, HD, HF2⟩
                case measure => simp [intOf]; omega
          · have hjn' : n = j := by omega
            subst hjn'
            go_wp2
            go_roundw
            case rel =>
              refine ⟨b, run (passE n) x n, rfl, Lib.hid ⟨HI.out.1, HI.out.2, HM.out.next (passE_steps n), fun hb => ?_⟩⟩
              have hx : run (passE n) x n = x := Classical.byContradiction (fun h => by have := HF.out.2 h; rw [hb] at this; cases this)
              rw [hx]; exact hx
            case measure =>
              cases b
              · have := wt_top HX.out
                rw [HRD.out]
                simp
                omega
              · have hne := HF.out.1 rfl
                have hmo := HM.out.more (passE_steps n) hn hne
                have hrd : rdL wr (.slice (some ⟨g, 0, none⟩) n 0) = run (passE n) x n := by
                  have := HI.out.1.reads
                  rw [(HM.out.next (passE_steps n)).sh.1] at this
                  exact rdL_reads this
                rw [HRD.out, hrd]
                simp only
                omega
end Go.Proofs.YtjpmhbnikoggaaaGreatDoor
/- Contracts of layer 2's reference: the transitive and the euclidean closure. -/
namespace Go.Proofs.YtjpmhbnikoggaaaGreatDoor
open Go.RowKit Go.Proofs.Ws
set_option maxRecDepth 100000 in
theorem refTransitive_any (l : List Nat) (A : Option Addr) (n c : Nat) (w : World) (hR : Reads w w.heap.size 1 A n (us l)) (hw : Words l) (hm : n ≤ maxLen) (hA : A = none → c = 0) :
    Calls Tryz.prog 84 #[.slice A n c] w fun e w' => (relErr l.length l = 0 ∧ ∃ C, IsClo n PTrans l C ∧ GivesR C w e w') ∨ (relErr l.length l ≠ 0 ∧ GivesE (relErr l.length l) w e w') := by
  have e1 := hR.word_len
  have HK := Lib.hid (ref2Check_any n l A n c _ w hR hw hm)
  have E1 := Lib.hid e1
  have HR := Lib.hid hR
  rw [e1]
  clear hR hw hm e1
  by_cases h0 : relErr n l = 0
  · have hn : n ≤ 64 := relErr_zero h0
    have HS : Hid (Sh n l) := Lib.hid ⟨E1.out, relErr_rows h0⟩
    rw [h0] at HK
    have H0 := Lib.hid h0
    clear h0
    go_enter Tryz.func84, Tryz.ntmps84
    go_wp2_with fail
    refine (HK.out).mono ?_
    rintro e w0 ⟨rfl, q0, rfl⟩
    have HX := Lib.hid (refGrowT_any l A n c (w.drewN q0) (HR.out.drewN q0) HS.out hn hA)
    go_wp2_with fail
    refine (HX.out).mono ?_
    rintro e w1 ⟨C, hC, A1, c1, rfl, hR1, hb1⟩
    have HH := Lib.hid (And.intro hC (And.intro hR1 ((below_drewN (Below.refl _ w) q0).trans hb1)))
    clear hC hR1 hb1
    go_wp2
    go_ret2
    exact Or.inl ⟨H0.out, C, HH.out.1, A1, c1, rfl, HH.out.2.1, HH.out.2.2⟩
  · have hne : (relErr n l != 0) = true := by simp [h0]
    have H0 := Lib.hid h0
    clear h0
    go_enter Tryz.func84, Tryz.ntmps84
    go_wp2_with fail
    refine (HK.out).mono ?_
    rintro e w0 ⟨rfl, q0, rfl⟩
    go_wp2
    go_ret2
    exact Or.inr ⟨H0.out, rfl, below_drewN (Below.refl _ _) _⟩
set_option maxRecDepth 100000 in
theorem refEuclidean_any (l : List Nat) (A : Option Addr) (n c : Nat) (w : World) (hR : Reads w w.heap.size 1 A n (us l)) (hw : Words l) (hm : n ≤ maxLen) (hA : A = none → c = 0) :
    Calls Tryz.prog 85 #[.slice A n c] w fun e w' => (relErr l.length l = 0 ∧ ∃ C, IsClo n PEucl l C ∧ GivesR C w e w') ∨ (relErr l.length l ≠ 0 ∧ GivesE (relErr l.length l) w e w') := by
  have e1 := hR.word_len
  have HK := Lib.hid (ref2Check_any n l A n c _ w hR hw hm)
  have E1 := Lib.hid e1
  have HR := Lib.hid hR
  rw [e1]
  clear hR hw hm e1
  by_cases h0 : relErr n l = 0
  · have hn : n ≤ 64 := relErr_zero h0
    have HS : Hid (Sh n l) := Lib.hid ⟨E1.out, relErr_rows h0⟩
    rw [h0] at HK
    have H0 := Lib.hid h0
    clear h0
    go_enter Tryz.func85, Tryz.ntmps85
    go_wp2_with fail
    refine (HK.out).mono ?_
    rintro e w0 ⟨rfl, q0, rfl⟩
    have HX := Lib.hid (refGrowE_any l A n c (w.drewN q0) (HR.out.drewN q0) HS.out hn hA)
    go_wp2_with fail
    refine (HX.out).mono ?_
    rintro e w1 ⟨C, hC, A1, c1, rfl, hR1, hb1⟩
    have HH := Lib.hid (And.intro hC (And.intro hR1 ((below_drewN (Below.refl _ w) q0).trans hb1)))
    clear hC hR1 hb1
    go_wp2
    go_ret2
    exact Or.inl ⟨H0.out, C, HH.out.1, A1, c1, rfl, HH.out.2.1, HH.out.2.2⟩
  · have hne : (relErr n l != 0) = true := by simp [h0]
    have H0 := Lib.hid h0
    clear h0
    go_enter Tryz.func85, Tryz.ntmps85
    go_wp2_with fail
    refine (HK.out).mono ?_
    rintro e w0 ⟨rfl, q0, rfl⟩
    go_wp2
    go_ret2
    exact Or.inr ⟨H0.out, rfl, below_drewN (Below.refl _ _) _⟩
end Go.Proofs.YtjpmhbnikoggaaaGreatDoor
