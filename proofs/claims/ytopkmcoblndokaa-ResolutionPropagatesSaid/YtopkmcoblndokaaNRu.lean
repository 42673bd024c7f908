/- Layer 6: texts joined: Re Rf. -/
import Derived.Test.YtopkmcoblndokaaNRt
/- Layer 10: the reference's normal, collect, Normal. -/
namespace Go.Proofs.Ws
open Go
def colL (c : List Int) : List Int := if alwB c = true then [] else nrm c
def preL (c : List Int) (v : Nat) : List Int := (litsL v).filter (fun x => decide (x ∈ c))
def bothB (c : List Int) (j : Nat) : Bool := decide ((j : Int) + 1 ∈ c) && decide (-(j : Int) - 1 ∈ c)
theorem litsL_len : ∀ n, (litsL n).length = 2 * n
  | 0 => rfl
  | n + 1 => by
    show (litsL n ++ [-((n : Int) + 1), (n : Int) + 1]).length = _
    rw [List.length_append, litsL_len n]; simp; omega
theorem preL_len (c : List Int) (v : Nat) : (preL c v).length ≤ 2 * v := by
  unfold preL
  have := List.length_filter_le (fun x => decide (x ∈ c)) (litsL v)
  rw [litsL_len] at this
  exact this
theorem preL_step (c : List Int) (v : Nat) : preL c (v + 1) = preL c v ++ ((if -(v : Int) - 1 ∈ c then [-(v : Int) - 1] else []) ++ (if (v : Int) + 1 ∈ c then [(v : Int) + 1] else [])) := by
  unfold preL
  show (litsL v ++ [-((v : Int) + 1), (v : Int) + 1]).filter _ = _
  rw [List.filter_append, show -((v : Int) + 1) = -(v : Int) - 1 from by omega]
  congr 1
  by_cases h1 : -(v : Int) - 1 ∈ c <;> by_cases h2 : (v : Int) + 1 ∈ c <;> simp [h1, h2]
theorem alw_both {c : List Int} (h : Lits c) : alwB c = true ↔ ∃ j, j < 12 ∧ bothB c j = true := by
  unfold alwB
  rw [List.any_eq_true]
  constructor
  · rintro ⟨x, hx, h2⟩
    rw [decide_eq_true_eq] at h2
    have hb := h x hx
    by_cases hp : 0 < x
    · refine ⟨(x - 1).toNat, by omega, ?_⟩
      unfold bothB
      rw [show (((x - 1).toNat : Nat) : Int) + 1 = x from by omega, show -(((x - 1).toNat : Nat) : Int) - 1 = -x from by omega, decide_eq_true hx, decide_eq_true h2]; rfl
    · refine ⟨(-x - 1).toNat, by omega, ?_⟩
      unfold bothB
      rw [show (((-x - 1).toNat : Nat) : Int) + 1 = -x from by omega, show -(((-x - 1).toNat : Nat) : Int) - 1 = x from by omega, decide_eq_true hx, decide_eq_true h2]; rfl
  · rintro ⟨j, _, h2⟩
    unfold bothB at h2
    rw [Bool.and_eq_true, decide_eq_true_eq, decide_eq_true_eq] at h2
    exact ⟨(j : Int) + 1, h2.1, decide_eq_true (by rw [show -((j : Int) + 1) = -(j : Int) - 1 from by omega]; exact h2.2)⟩
theorem col_done {c : List Int} (h : Lits c) (hj : ∀ j, j < 12 → bothB c j = false) : alwB c = false ∧ colL c = preL c 12 := by
  have ha : alwB c = false := by
    rw [Bool.eq_false_iff]; intro h2
    obtain ⟨j, h3, h4⟩ := (alw_both h).1 h2
    rw [hj j h3] at h4; cases h4
  exact ⟨ha, by unfold colL; rw [ha]; rfl⟩
theorem col_alw {c : List Int} (h : Lits c) {j : Nat} (hj : j < 12) (hb : bothB c j = true) : alwB c = true ∧ colL c = [] := by
  have ha := (alw_both h).2 ⟨j, hj, hb⟩
  exact ⟨ha, by unfold colL; rw [if_pos ha]⟩
end Go.Proofs.Ws
namespace Go.Proofs.Ytopkmcoblndokaa
open Go.RowKit Go.Proofs.Ws
set_option maxRecDepth 100000
theorem own_ow {W : World} {base : Nat} {v : Value} {l : List Int} (h : W.ownsRow base 3 1 v l.length (ints l)) : ∃ A c, v = .slice A l.length c ∧ OwJ W base A l ∧ l.length ≤ c := by
  by_cases hv : v = .slice none 0 0
  · subst hv
    rcases h.2 with ⟨_, e⟩ | ⟨g, cap, cur, e, _⟩
    · exact ⟨none, 0, by rw [e], fun h0 => by omega, by omega⟩
    · cases e
  · obtain ⟨g, c, e, hg, hj, hc⟩ := HoldsJ.of_own h hv
    exact ⟨some ⟨g, 0, none⟩, c, e, fun _ => ⟨g, rfl, hg, hj⟩, hc⟩
theorem zs_one (w : World) (c : List Int) (A : Option Addr) (k cap B : Nat) (hR : Reads w B 1 A k (ints c)) (hB : B ≤ w.heap.size) (hk : k ≤ maxLen) :
    ZsR (w.alloc (.cells #[.slice A k cap] 23)) (w.alloc (.cells #[.slice A k cap] 23)).heap.size (some ⟨w.heap.size, 0, none⟩) 1 [c] := by
  have hm := own_made1 w 23 [.slice A k cap] w.heap.size (Nat.le_refl _) (by simp)
  have hlen := hR.int_len
  refine ⟨rfl, _, Reads.of_own hm, fun j hj => ?_⟩
  obtain rfl : j = 0 := by omega
  refine ⟨A, cap, ?_, ?_, ?_⟩
  · show some (Value.slice A k cap) = some (.slice A c.length cap)
    rw [hlen]
  · show Reads _ _ 1 A c.length (ints c)
    rw [hlen]
    exact (hR.below ((Below.refl B w).alloc hB _)).more (by simp; omega)
  · show c.length ≤ maxLen
    omega
theorem rNorm1_any (n : Int) (c : List Int) (A : Option Addr) (k cap B : Nat) (w : World) (h0 : 0 ≤ n) (h1 : n ≤ 12) (hB : B ≤ w.heap.size) (hR : Reads w B 1 A k (ints c)) (hk : k ≤ maxLen) :
    Calls Try.prog 46 #[.slice A k cap, .int .i64 n] w fun e w' => e = .returned (.bool (clE n c == 0)) ∧ Below w.heap.size w w' := by
  have hz := zs_one w c A k cap B hR hB hk
  have e1 : chkR n [c] = clE n c := by
    unfold chkR
    rw [if_neg (by omega), if_neg (by simp)]
    show (if clE n c = 0 then 0 else clE n c) = _
    split
    · rename_i h; exact h.symm
    · rfl
  have HC := Lib.hid (rCheck_any n [c] _ 1 1 _ _ (Nat.le_refl _) hz (by unfold maxLen; omega))
  rw [e1] at HC
  have HB1 : Hid (Below w.heap.size w (w.alloc (.cells #[.slice A k cap] 23))) := Lib.hid ((Below.refl _ w).alloc (Nat.le_refl _) _)
  generalize clE n c = E at *
  clear hz hR e1
  go_enter Try.func46, Try.ntmps46
  go_wp2_with fail
  refine HC.out.mono ?_
  rintro e w2 ⟨rfl, hb⟩
  have HB2 := Lib.hid (belowNext HB1.out hb)
  clear hb
  go_wp2
  go_ret
  exact ⟨rfl, HB2.out⟩
def GivesC (L : List Int) (b : Bool) (w : World) (e : Ending) (w' : World) : Prop := ∃ A c, e = .returned (.tuple #[.slice A L.length c, .bool b]) ∧ OwJ w' w.heap.size A L ∧ L.length ≤ c ∧ Below w.heap.size w w'
set_option maxHeartbeats 8000000 in
theorem rCollect_any (c : List Int) (A : Option Addr) (k cap B : Nat) (w : World) (hl : Lits c) (hB : B ≤ w.heap.size) (hR : Reads w B 1 A k (ints c)) (hk : k ≤ maxLen) :
    Calls Try.prog 39 #[.slice A k cap] w (GivesC (colL c) (alwB c) w) := by
  have HHA : Hid (∀ W x, Below w.heap.size w W → Calls Try.prog 51 #[.slice A k cap, .int .i64 x] W fun e w' => e = .returned (.bool (decide (x ∈ c))) ∧ W = w') := Lib.hid (fun W x hb => rHas_any c x A k cap B W (hR.below (hb.mono hB)) hk)
  have HLC := Lib.hid hl
  obtain ⟨i0, hi, hq0, hq1, hq2⟩ := info_parts Try.infoI
  clear hR hB hl hk
  go_enter Try.func39, Try.ntmps39
  go_wp2
  go_loopw [4, 5] (fun V i wr => ∃ v : Nat, v ≤ 12 ∧ i = .int .i64 v ∧ Hid (wr.ownsRow w.heap.size 3 1 V (preL c v).length (ints (preL c v))) ∧ Hid (Below w.heap.size w wr) ∧ Hid (∀ j, j < v → bothB c j = false)) (fun _ i _ => 12 - (intOf i).toNat)
  case atStart => exact ⟨0, by omega, rfl, Lib.hid (World.ownsRow_nil _ _ _ _), Lib.hid (Below.refl _ _), Lib.hid (fun j hj => absurd hj (by omega))⟩
  case round =>
    obtain ⟨v, hv, rfl, HOW, HO, HJ⟩ := hrel
    by_cases hlt : v < 12
    · have p1 : decide (v < 12) = true := decide_eq_true hlt
      have p2 : decide ((v : Int) < 12) = true := decide_eq_true (by omega)
      have HH1 := Lib.hid (HHA.out wr ((v : Int) + 1) HO.out)
      have HH2 := Lib.hid (HHA.out wr (-(v : Int) - 1) HO.out)
      have hst := preL_step c v
      have hpl := preL_len c v
      have hbo : bothB c v = (decide ((v : Int) + 1 ∈ c) && decide (-(v : Int) - 1 ∈ c)) := rfl
      by_cases hp : (v : Int) + 1 ∈ c
      · rw [decide_eq_true hp] at HH1 hbo
        rw [if_pos hp] at hst
        by_cases hm : -(v : Int) - 1 ∈ c
        · rw [decide_eq_true hm] at HH2 hbo
          obtain ⟨f1, f2⟩ := col_alw HLC.out hlt hbo
          have HF := Lib.hid (⟨f1, f2⟩ : _ ∧ _)
          clear hst hpl hbo hp hm f1 f2 HOW HJ
          go_wp2_with fail
          refine HH1.out.mono ?_
          rintro e w2 ⟨rfl, rfl⟩
          go_wp2_with fail
          refine HH2.out.mono ?_
          rintro e w2 ⟨rfl, rfl⟩
          go_wp2
          go_ret2
          exact ⟨none, 0, by rw [HF.out.1, HF.out.2]; rfl, by rw [HF.out.2]; exact OwJ.nil _ _ _, by rw [HF.out.2]; exact Nat.le_refl _, HO.out⟩
        · rw [decide_eq_false hm] at HH2 hbo
          rw [if_neg hm, List.nil_append] at hst
          have HJ2 : Hid (∀ j, j < v + 1 → bothB c j = false) := Lib.hid (fun j hj => by
            rcases Nat.lt_or_ge j v with h | h
            · exact HJ.out j h
            · obtain rfl : j = v := by omega
              exact hbo)
          have HST : Hid (preL c (v + 1) = preL c v ++ [(v : Int) + 1]) := Lib.hid hst
          generalize hPL : preL c v = PL at *
          clear hst hbo hp hm HJ
          go_wp2_with fail
          refine HH1.out.mono ?_
          rintro e w2 ⟨rfl, rfl⟩
          go_wp2_with fail
          refine HH2.out.mono ?_
          rintro e w2 ⟨rfl, rfl⟩
          clear HH1 HH2
          go_wp2_with (at_builtin; refine wpList_append_own _ rfl _ _ 23 rfl w.heap.size 3 i0 (.int .i64 0) 1 8 Try.underlying23 hi hq0 hq1 hq2 rfl (by decide) _ _ _ rfl (HOW.out.alloc _) ⟨wr.heap.size, 0, none⟩ 1 1 [.int .i64 ((v : Int) + 1)] rfl rfl ?c1 ?c2 ?c3 ?c4 ?c5 ?_)
          case c1 =>
            intro j u hj
            match j, hj with
            | 0, hj => simp at hj; subst hj; simp [Addr.add]
          case c2 => intro u hu; simp at hu; subst hu; rfl
          case c3 => unfold maxLen; omega
          case c4 => omega
          case c5 => have := HO.out.size; simp; omega
          intro v' w6 hown' hgrow _
          have HB6 := Lib.hid ((HO.out.alloc HO.out.size _).grown hgrow (by have := HO.out.size; simp; omega) (fun j hj => (HOW.out.lt j hj).1))
          have HO6 : Hid (w6.ownsRow w.heap.size 3 1 v' (preL c (v + 1)).length (ints (preL c (v + 1)))) := Lib.hid (by rw [HST.out, List.length_append, ints_append]; exact hown')
          clear hgrow hown' HOW HO hPL HST
          go_wp2
          go_roundw
          case rel => exact ⟨v + 1, by omega, by go_num, HO6, HB6, HJ2⟩
          case measure => first | (simp [intOf]; done) | (simp [intOf]; omega)
      · rw [decide_eq_false hp] at HH1 hbo
        rw [if_neg hp, List.append_nil] at hst
        have HJ2 : Hid (∀ j, j < v + 1 → bothB c j = false) := Lib.hid (fun j hj => by
          rcases Nat.lt_or_ge j v with h | h
          · exact HJ.out j h
          · obtain rfl : j = v := by omega
            exact hbo)
        by_cases hm : -(v : Int) - 1 ∈ c
        · rw [decide_eq_true hm] at HH2
          rw [if_pos hm] at hst
          have HST : Hid (preL c (v + 1) = preL c v ++ [-(v : Int) - 1]) := Lib.hid hst
          generalize hPL : preL c v = PL at *
          clear hst hbo hp hm HJ
          go_wp2_with fail
          refine HH1.out.mono ?_
          rintro e w2 ⟨rfl, rfl⟩
          go_wp2_with fail
          refine HH2.out.mono ?_
          rintro e w2 ⟨rfl, rfl⟩
          clear HH1 HH2
          go_wp2_with (at_builtin; refine wpList_append_own _ rfl _ _ 23 rfl w.heap.size 3 i0 (.int .i64 0) 1 8 Try.underlying23 hi hq0 hq1 hq2 rfl (by decide) _ _ _ rfl (HOW.out.alloc _) ⟨wr.heap.size, 0, none⟩ 1 1 [.int .i64 (-(v : Int) - 1)] rfl rfl ?c1 ?c2 ?c3 ?c4 ?c5 ?_)
          case c1 =>
            intro j u hj
            match j, hj with
            | 0, hj => simp at hj; subst hj; simp [Addr.add]
          case c2 => intro u hu; simp at hu; subst hu; rfl
          case c3 => unfold maxLen; omega
          case c4 => omega
          case c5 => have := HO.out.size; simp; omega
          intro v' w6 hown' hgrow _
          have HB6 := Lib.hid ((HO.out.alloc HO.out.size _).grown hgrow (by have := HO.out.size; simp; omega) (fun j hj => (HOW.out.lt j hj).1))
          have HO6 : Hid (w6.ownsRow w.heap.size 3 1 v' (preL c (v + 1)).length (ints (preL c (v + 1)))) := Lib.hid (by rw [HST.out, List.length_append, ints_append]; exact hown')
          clear hgrow hown' HOW HO hPL HST
          go_wp2
          go_roundw
          case rel => exact ⟨v + 1, by omega, by go_num, HO6, HB6, HJ2⟩
          case measure => first | (simp [intOf]; done) | (simp [intOf]; omega)
        · rw [decide_eq_false hm] at HH2
          rw [if_neg hm, List.append_nil] at hst
          have HO6 := HOW
          rw [← hst] at HO6
          clear hst hbo hp hm HJ HOW
          go_wp2_with fail
          refine HH1.out.mono ?_
          rintro e w2 ⟨rfl, rfl⟩
          go_wp2_with fail
          refine HH2.out.mono ?_
          rintro e w2 ⟨rfl, rfl⟩
          clear HH1 HH2
          go_wp2
          go_roundw
          case rel => exact ⟨v + 1, by omega, by go_num, HO6, HO, HJ2⟩
          case measure => first | (simp [intOf]; done) | (simp [intOf]; omega)
    · obtain rfl : v = 12 := by omega
      obtain ⟨f1, f2⟩ := col_done HLC.out HJ.out
      have h9 := HOW.out
      rw [← f2] at h9
      obtain ⟨A9, c9, e9, h10, h11⟩ := own_ow h9
      have HF := Lib.hid (⟨f1, h10, h11⟩ : _ ∧ _ ∧ _)
      subst e9
      clear h9 h10 h11 f1 f2 HOW HJ
      go_wp2
      go_ret2
      exact ⟨A9, c9, by rw [HF.out.1]; rfl, HF.out.2.1, HF.out.2.2, HO.out⟩
end Go.Proofs.Ytopkmcoblndokaa
/- Layer 10: the reference's Normal; two lists compared. -/
namespace Go.Proofs.Ytopkmcoblndokaa
open Go.RowKit Go.Proofs.Ws
set_option maxRecDepth 100000
theorem lits_of_all {c : List Int} (h : c.all (litB 12) = true) : Lits c := fun x hx => by
  have h2 := List.all_eq_true.1 h x hx
  unfold litB at h2
  have := of_decide_eq_true h2
  omega
set_option maxHeartbeats 4000000 in
theorem rNormal_any (c : List Int) (A : Option Addr) (k cap B : Nat) (w : World) (hB : B ≤ w.heap.size) (hR : Reads w B 1 A k (ints c)) (hk : k ≤ maxLen) :
    Calls Try.prog 13 #[.slice A k cap] w (GivesN (nL c) (nA c) (nE c) w) := by
  have hlen := hR.int_len
  have hk0 := hk
  unfold maxLen at hk
  by_cases h64 : 64 < k
  · have hE : nE c = 8 := by unfold nE; rw [if_pos (by omega)]
    have HF : Hid (nE c = 8 ∧ nA c = false ∧ nL c = []) := Lib.hid ⟨hE, by unfold nA; rw [hE]; rfl, by unfold nL; rw [hE]; rfl⟩
    have q1 : decide ((64 : Int) < (k : Int)) = true := decide_eq_true (by omega)
    have q2 : decide (64 < k) = true := decide_eq_true h64
    clear hE hR hlen
    go_enter Try.func13, Try.ntmps13
    go_wp2
    go_ret3
    exact ⟨none, 0, by rw [HF.out.1, HF.out.2.1, HF.out.2.2]; rfl, by rw [HF.out.2.2]; exact OwJ.nil _ _ _, by rw [HF.out.2.2]; exact Nat.le_refl _, Below.refl _ _⟩
  · have q1 : decide ((64 : Int) < (k : Int)) = false := decide_eq_false (by omega)
    have q2 : decide (64 < k) = false := decide_eq_false h64
    have HG : Hid (nE c = if c.all (litB 12) = true then 0 else 2) := Lib.hid (by unfold nE; rw [if_neg (by omega)])
    have HLI := Lib.hid (fun x W => rLit_any 12 x W (by omega) (by omega))
    have HL := Lib.hid hlen
    have HR := Lib.hid hR
    have HCO := Lib.hid (fun W (hb : Below w.heap.size w W) (h : Lits c) => rCollect_any c A k cap B W h (Nat.le_trans hB hb.size) (hR.below (hb.mono hB)) hk0)
    have HI0 : Hid (c.all (litB 12) = (c.drop 0).all (litB 12)) := Lib.hid rfl
    clear hlen hR hk0
    go_enter Try.func13, Try.ntmps13
    go_wp2
    go_loopw [5] (fun i wr => ∃ j : Nat, j ≤ k ∧ i = .int .i64 j ∧ Hid (c.all (litB 12) = (c.drop j).all (litB 12)) ∧ w = wr) (fun i _ => k - (intOf i).toNat)
    case atStart => exact ⟨0, Nat.zero_le _, rfl, HI0, by first | rfl | trivial⟩
    case round =>
      obtain ⟨j, hj, rfl, HI, rfl⟩ := hrel
      by_cases hlt : j < k
      · obtain ⟨ad, rfl, _, hcj⟩ := HR.out.int_at hlt
        have HD := Lib.hid (drop_getD c j (by have := HL.out; omega))
        generalize c.getD j 0 = x at *
        have HLX := Lib.hid (HLI.out x)
        cases hq : litB 12 x with
        | true =>
          rw [hq] at HLX
          have HI2 : Hid (c.all (litB 12) = (c.drop (j + 1)).all (litB 12)) := Lib.hid (by rw [HI.out, HD.out, List.all_cons, hq, Bool.true_and])
          clear hq HI HD
          go_wp2_with fail
          refine (HLX.out _).mono ?_
          rintro e w2 ⟨rfl, rfl⟩
          go_wp2
          go_roundw
          case rel => exact ⟨j + 1, by omega, by go_num, HI2, by first | rfl | trivial⟩
          case measure => first | (simp [intOf]; done) | (simp [intOf]; omega)
        | false =>
          rw [hq] at HLX
          have HE : Hid (c.all (litB 12) = false) := Lib.hid (by rw [HI.out, HD.out, List.all_cons, hq, Bool.false_and])
          have hE : nE c = 2 := by rw [HG.out, HE.out]; rfl
          have HF : Hid (nE c = 2 ∧ nA c = false ∧ nL c = []) := Lib.hid ⟨hE, by unfold nA; rw [hE]; rfl, by unfold nL; rw [hE]; rfl⟩
          clear hq HI HD hE
          go_wp2_with fail
          refine (HLX.out _).mono ?_
          rintro e w2 ⟨rfl, rfl⟩
          go_wp2
          go_ret3
          exact ⟨none, 0, by rw [HF.out.1, HF.out.2.1, HF.out.2.2]; rfl, by rw [HF.out.2.2]; exact OwJ.nil _ _ _, by rw [HF.out.2.2]; exact Nat.le_refl _, Below.refl _ _⟩
      · have hall : c.all (litB 12) = true := by rw [HI.out, List.drop_eq_nil_of_le (by have := HL.out; omega)]; rfl
        have hE : nE c = 0 := by rw [HG.out, if_pos hall]
        have hla : nL c = colL c := by
          unfold nL colL
          rw [hE]
          cases alwB c <;> rfl
        have HF : Hid (nE c = 0 ∧ nA c = alwB c ∧ nL c = colL c) := Lib.hid ⟨hE, by unfold nA; rw [hE]; rfl, hla⟩
        have HC := Lib.hid (HCO.out w (Below.refl _ _) (lits_of_all hall))
        clear hall hE hla HI
        go_wp2_with fail
        refine HC.out.mono ?_
        rintro e w2 ⟨A5, c5, rfl, ho, hc, hb⟩
        have HX := Lib.hid (⟨ho, hc, hb⟩ : _ ∧ _ ∧ _)
        clear ho hc hb
        go_wp2
        go_ret3
        exact ⟨A5, c5, by rw [HF.out.1, HF.out.2.1, HF.out.2.2]; rfl, by rw [HF.out.2.2]; exact HX.out.1, by rw [HF.out.2.2]; exact HX.out.2.1, HX.out.2.2⟩
theorem same_ow (L : List Int) (A A2 : Option Addr) (c c2 b b2 : Nat) (W : World) (h : OwJ W b A L) (h2 : OwJ W b2 A2 L) (hL : L.length ≤ maxLen) :
    Calls Try.prog 16 #[.slice A L.length c, .slice A2 L.length c2] W fun e w' => e = .returned (.bool true) ∧ Below W.heap.size W w' := by
  refine (rSame_any L L A A2 _ _ c c2 W.heap.size W h.reads h2.reads hL hL).mono ?_
  rintro e w' ⟨rfl, q, rfl⟩
  exact ⟨by rw [decide_eq_true rfl], bl_drew W q⟩
end Go.Proofs.Ytopkmcoblndokaa
