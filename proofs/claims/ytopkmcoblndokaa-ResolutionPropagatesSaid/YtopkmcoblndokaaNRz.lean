/- Layer 6: texts joined: Rk Rl Rm. -/
import Derived.Test.YtopkmcoblndokaaNRs
import Derived.Test.YtopkmcoblndokaaNRy
/- Layer 10: a list of literals and the truth values of the variables say the same (plain mathematics). -/
namespace Go.Proofs.Ytopkmcoblndokaa
open Go.RowKit Go.Proofs.Ws
/-- the literals listed are the truth values set -/
structure Agr (s t : List Int) : Prop where
  tok : TOk t
  lits : Lits s
  mem : ∀ x, x ≠ 0 → -12 ≤ x → x ≤ 12 → (x ∈ s ↔ tget t x = x)
  len : s.length + zcL t ≤ 12
theorem Agr.nil : Agr [] t00 := by
  refine ⟨TOk.zero, fun x hx => absurd hx (by simp), fun x h0 _ _ => ⟨fun h => absurd h (by simp), fun h => ?_⟩, by decide⟩
  unfold tget at h
  rw [t00_get] at h
  exact absurd h.symm h0
theorem Agr.add {s t : List Int} (h : Agr s t) {x : Int} (h0 : x ≠ 0) (h1 : -12 ≤ x) (h2 : x ≤ 12) (hz : tget t x = 0) : Agr (s ++ [x]) (tset t x) := by
  have hv : varOf x < t.length := by rw [h.tok.len]; unfold varOf; omega
  refine ⟨h.tok.set x, fun y hy => ?_, fun y y0 y1 y2 => ?_, ?_⟩
  · rcases List.mem_append.1 hy with hy | hy
    · exact h.lits y hy
    · rw [List.mem_singleton.1 hy]; exact ⟨h0, h1, h2⟩
  · rw [List.mem_append, List.mem_singleton, h.mem y y0 y1 y2]
    unfold tget
    rw [set_get hv]
    by_cases e : varOf x = varOf y
    · rw [if_pos e, ← e]
      have hz2 : t.getD (varOf x) 0 = 0 := hz
      rw [hz2]
      rcases var_eq h0 y0 e with e2 | e2
      · exact ⟨fun _ => e2, fun _ => .inr e2.symm⟩
      · exact ⟨fun h => by rcases h with h | h <;> omega, fun h => by omega⟩
    · rw [if_neg e]
      exact ⟨fun h => h.elim id (fun h => absurd (by rw [h]) e), .inl⟩
  · have := zcL_set h.tok h0 (by omega) hz
    rw [List.length_append, List.length_singleton]
    have := h.len
    omega
theorem tget_other {t : List Int} (ht : TOk t) {x y : Int} (hx : varOf x < 12) (h : varOf x ≠ varOf y) : tget (tset t x) y = tget t y := by
  unfold tget
  rw [set_get (by rw [ht.len]; exact hx), if_neg h]
theorem Agr.addL : ∀ (c : List Int) {s t : List Int}, Agr s t → (∀ x ∈ c, x ≠ 0 ∧ -12 ≤ x ∧ x ≤ 12 ∧ tget t x = 0) → c.Pairwise (fun a b => varOf a < varOf b) → Agr (s ++ c) (tsetL t c)
  | [], s, t, h, _, _ => by rw [List.append_nil]; exact h
  | x :: c, s, t, h, hc, hp => by
    obtain ⟨x0, x1, x2, xz⟩ := hc x (List.mem_cons_self ..)
    rw [List.pairwise_cons] at hp
    have := Agr.addL c (h.add x0 x1 x2 xz) (fun y hy => by
      obtain ⟨y0, y1, y2, yz⟩ := hc y (List.mem_cons_of_mem _ hy)
      exact ⟨y0, y1, y2, by rw [tget_other h.tok (by unfold varOf; omega) (Nat.ne_of_lt (hp.1 y hy))]; exact yz⟩) hp.2
    rw [List.append_assoc] at this
    exact this
theorem Agr.fixed {fx : List Int} (h : ClOk 12 fx) : Agr fx (tsetL t00 fx) := by
  have := Agr.addL fx Agr.nil (fun x hx => by
    have := h.lits x hx
    exact ⟨this.1, by omega, by omega, by unfold tget; exact t00_get _⟩) h.sorted
  exact this
theorem Agr.pos {s t : List Int} (h : Agr s t) {x : Int} (hx : x ≠ 0 ∧ -12 ≤ x ∧ x ≤ 12) : decide (x ∈ s) = decide (tget t x = x) := decide_eq_decide.2 (h.mem x hx.1 hx.2.1 hx.2.2)
theorem Agr.neg {s t : List Int} (h : Agr s t) {x : Int} (hx : x ≠ 0 ∧ -12 ≤ x ∧ x ≤ 12) : decide (-x ∈ s) = decide (tget t x = -x) := by
  have := h.pos (x := -x) ⟨by omega, by omega, by omega⟩
  rw [this]
  unfold tget
  rw [varOf_neg]
/-- the state of a clause -/
def stD (s c : List Int) : Bool := c.any (fun y => decide (y ∈ s))
def stO (s c : List Int) : List Int := c.filter (fun y => !decide (-y ∈ s))
def cfB (s c : List Int) : Bool := !stD s c && decide ((stO s c).length = 0)
def unC (s c : List Int) : Bool := !stD s c && decide ((stO s c).length = 1)
def lastD : List Int → Int
  | [] => 0
  | [x] => x
  | _ :: y :: l => lastD (y :: l)
theorem lastD_snoc (l : List Int) (x : Int) : lastD (l ++ [x]) = x := by
  induction l with
  | nil => rfl
  | cons a l ih =>
    cases l with
    | nil => rfl
    | cons b l => exact ih
theorem cf_ref {s t c : List Int} (h : Agr s t) (hc : ∀ x ∈ c, x ≠ 0 ∧ -12 ≤ x ∧ x ≤ 12) : cfB s c = refB t c := by
  unfold cfB refB stD stO
  rw [Bool.eq_iff_iff, Bool.and_eq_true, Bool.not_eq_true', decide_eq_true_eq, List.all_eq_true, List.length_eq_zero_iff, List.filter_eq_nil_iff]
  constructor
  · rintro ⟨_, h2⟩ x hx
    have := h2 x hx
    rw [h.neg (hc x hx)] at this
    simpa using this
  · intro h2
    refine ⟨?_, fun x hx => ?_⟩
    · rw [List.any_eq_false]
      intro x hx
      rw [h.pos (hc x hx)]
      have h3 := eq_of_beq (h2 x hx)
      have := (hc x hx).1
      simp only [decide_eq_true_eq]
      omega
    · rw [h.neg (hc x hx)]
      simpa using h2 x hx
theorem st_all {s t : List Int} (h : Agr s t) : ∀ (c : List Int), (∀ x ∈ c, x ≠ 0 ∧ -12 ≤ x ∧ x ≤ 12) → ∀ o, o ≠ 0 → unitGo t o c = if stD s c = false ∧ stO s c = [] then o else 0
  | [], _, o, _ => by unfold unitGo stD stO; simp
  | x :: c, hc, o, ho => by
    have hx := hc x (List.mem_cons_self ..)
    have ih := st_all h c (fun y hy => hc y (List.mem_cons_of_mem _ hy)) o ho
    have p := h.pos hx
    have q := h.neg hx
    unfold unitGo
    by_cases e : tget t x = -x
    · rw [if_pos e, ih]
      have e2 : ¬ tget t x = x := by omega
      rw [decide_eq_false e2] at p
      rw [decide_eq_true e] at q
      have h1 : stD s (x :: c) = stD s c := by unfold stD; rw [List.any_cons, p, Bool.false_or]
      have h2 : stO s (x :: c) = stO s c := by unfold stO; rw [List.filter_cons, q]; rfl
      rw [h1, h2]
    · rw [if_neg e]
      rw [decide_eq_false e] at q
      have h2 : stO s (x :: c) = x :: stO s c := by unfold stO; rw [List.filter_cons, q]; rfl
      rw [if_neg (c := stD s (x :: c) = false ∧ stO s (x :: c) = []) (by rw [h2]; rintro ⟨_, k⟩; cases k)]
      by_cases e2 : tget t x = x
      · rw [if_pos e2]
      · rw [if_neg e2, if_pos ho]
theorem st_unit {s t : List Int} (h : Agr s t) : ∀ (c : List Int), (∀ x ∈ c, x ≠ 0 ∧ -12 ≤ x ∧ x ≤ 12) → unitGo t 0 c = if unC s c = true then lastD (stO s c) else 0
  | [], _ => by unfold unitGo unC stD stO; simp
  | x :: c, hc => by
    have hx := hc x (List.mem_cons_self ..)
    have hc2 : ∀ y ∈ c, y ≠ 0 ∧ -12 ≤ y ∧ y ≤ 12 := fun y hy => hc y (List.mem_cons_of_mem _ hy)
    have ih := st_unit h c hc2
    have p := h.pos hx
    have q := h.neg hx
    unfold unitGo
    by_cases e : tget t x = -x
    · rw [if_pos e, ih]
      have e2 : ¬ tget t x = x := by omega
      rw [decide_eq_false e2] at p
      rw [decide_eq_true e] at q
      have h1 : stD s (x :: c) = stD s c := by unfold stD; rw [List.any_cons, p, Bool.false_or]
      have h2 : stO s (x :: c) = stO s c := by unfold stO; rw [List.filter_cons, q]; rfl
      unfold unC
      rw [h1, h2]
    · rw [if_neg e]
      rw [decide_eq_false e] at q
      have h2 : stO s (x :: c) = x :: stO s c := by unfold stO; rw [List.filter_cons, q]; rfl
      by_cases e2 : tget t x = x
      · rw [if_pos e2]
        rw [decide_eq_true e2] at p
        have h1 : stD s (x :: c) = true := by unfold stD; rw [List.any_cons, p, Bool.true_or]
        unfold unC
        rw [h1]; rfl
      · rw [if_neg e2, if_neg (by simp)]
        rw [decide_eq_false e2] at p
        have h1 : stD s (x :: c) = stD s c := by unfold stD; rw [List.any_cons, p, Bool.false_or]
        rw [st_all h c hc2 x hx.1]
        unfold unC
        rw [h1, h2]
        by_cases hh : stD s c = false ∧ stO s c = []
        · rw [if_pos hh, hh.1, hh.2]; rfl
        · rw [if_neg hh, if_neg]
          intro k
          rw [Bool.and_eq_true, Bool.not_eq_true', decide_eq_true_eq, List.length_cons] at k
          exact hh ⟨k.1, List.length_eq_zero_iff.1 (by omega)⟩
theorem un_ref {s t c : List Int} (h : Agr s t) (hc : ∀ x ∈ c, x ≠ 0 ∧ -12 ≤ x ∧ x ≤ 12) : unC s c = (unitV t c != 0) := by
  have e := st_unit h c hc
  unfold unitV
  rw [e]
  cases hu : unC s c with
  | false => rw [if_neg (by decide)]; rfl
  | true =>
    rw [if_pos rfl]
    unfold unC at hu
    rw [Bool.and_eq_true, decide_eq_true_eq] at hu
    obtain ⟨x, hx⟩ := List.length_eq_one_iff.1 hu.2
    rw [hx]
    have hm : x ∈ c := (List.mem_filter.1 (show x ∈ stO s c from by rw [hx]; exact List.mem_singleton.2 rfl)).1
    exact (bne_iff_ne.2 (hc x hm).1).symm
theorem un_val {s t c : List Int} (h : Agr s t) (hc : ∀ x ∈ c, x ≠ 0 ∧ -12 ≤ x ∧ x ≤ 12) (hu : unC s c = true) : lastD (stO s c) = unitV t c := by
  have e := st_unit h c hc
  rw [hu, if_pos rfl] at e
  exact e.symm
/-- what is listed in normal form is what is set -/
theorem Agr.nrm {s t : List Int} (h : Agr s t) : alwB s = false ∧ colL s = litsT t := by
  have ha : alwB s = false := by
    rw [Bool.eq_false_iff]
    intro hx
    unfold alwB at hx
    obtain ⟨x, hx, hy⟩ := List.any_eq_true.1 hx
    have hb := h.lits x hx
    rw [h.neg hb, decide_eq_true_eq] at hy
    have := (h.mem x hb.1 hb.2.1 hb.2.2).1 hx
    omega
  refine ⟨ha, ?_⟩
  unfold colL
  rw [ha, if_neg (by decide)]
  refine (nrm_unique h.lits ?_ (fun x => ?_)).symm
  · unfold litsT
    rw [List.pairwise_filter, List.pairwise_iff_getElem]
    intro i j hi hj hij h1 h2
    have g1 := h.tok.own i
    have g2 := h.tok.own j
    rw [List.getD_eq_getElem?_getD, List.getElem?_eq_getElem hi] at g1
    rw [List.getD_eq_getElem?_getD, List.getElem?_eq_getElem hj] at g2
    have h1 : t[i] ≠ 0 := by simpa using h1
    have h2 : t[j] ≠ 0 := by simpa using h2
    have k1 := g1 h1
    have k2 := g2 h2
    have e1 := varI_var h1
    have e2 := varI_var h2
    simp only [Option.getD_some] at k1 k2
    unfold lLt
    omega
  · constructor
    · intro hx
      obtain ⟨h0, j, rfl⟩ := litsT_mem hx
      have k := h.tok.own j h0
      have hj : j < t.length := by
        rcases Nat.lt_or_ge j t.length with h' | h'
        · exact h'
        · rw [List.getD_eq_getElem?_getD, List.getElem?_eq_none h'] at h0; exact absurd rfl h0
      rw [h.tok.len] at hj
      have hb : -12 ≤ t.getD j 0 ∧ t.getD j 0 ≤ 12 := by unfold varOf at k; omega
      refine (h.mem _ h0 hb.1 hb.2).2 ?_
      unfold tget
      rw [k]
    · intro hx
      have hb := h.lits x hx
      have := (h.mem x hb.1 hb.2.1 hb.2.2).1 hx
      unfold tget at this
      have hj : varOf x < t.length := by rw [h.tok.len]; unfold varOf; omega
      unfold litsT
      rw [List.mem_filter]
      refine ⟨?_, by simpa using hb.1⟩
      rw [List.getD_eq_getElem?_getD, List.getElem?_eq_getElem hj] at this
      simp only [Option.getD_some] at this
      rw [← this]
      exact List.getElem_mem hj
end Go.Proofs.Ytopkmcoblndokaa
/- Layer 10: the reference's state, conflict, unit. -/
namespace Go.Proofs.Ytopkmcoblndokaa
open Go.RowKit Go.Proofs.Ws
set_option maxRecDepth 100000
def stV (s c : List Int) : Value := if stD s c = true then .tuple #[.bool true, .int .i64 0, .int .i64 0] else .tuple #[.bool false, .int .i64 ((stO s c).length : Int), .int .i64 (lastD (stO s c))]
theorem stO_len (s c : List Int) : (stO s c).length ≤ c.length := List.length_filter_le _ _
theorem stO_take {s c : List Int} {j : Nat} (h : j < c.length) : stO s (c.take (j + 1)) = stO s (c.take j) ++ (if -(c.getD j 0) ∈ s then [] else [c.getD j 0]) := by
  have e : c.take (j + 1) = c.take j ++ [c.getD j 0] := by
    rw [List.take_succ_eq_append_getElem h, List.getD_eq_getElem?_getD, List.getElem?_eq_getElem h]; rfl
  unfold stO
  rw [e, List.filter_append]
  congr 1
  generalize c.getD j 0 = x
  by_cases h2 : -x ∈ s
  · rw [if_pos h2]; simp [h2]
  · rw [if_neg h2]; simp [h2]
set_option maxHeartbeats 4000000 in
theorem rState_any (c s : List Int) (A : Option Addr) (k cap : Nat) (A2 : Option Addr) (k2 cap2 B : Nat) (w : World) (hc : ∀ x ∈ c, x ≠ 0 ∧ -12 ≤ x ∧ x ≤ 12) (hk12 : k ≤ 64) (hR : Reads w B 1 A k (ints c)) (hR2 : Reads w B 1 A2 k2 (ints s)) (hk2 : k2 ≤ maxLen) :
    Calls Try.prog 71 #[.slice A k cap, .slice A2 k2 cap2] w fun e w' => e = .returned (stV s c) ∧ w = w' := by
  have HL := Lib.hid hR.int_len
  have HR := Lib.hid hR
  have HC := Lib.hid hc
  have HHA := Lib.hid (fun x => rHas_any s x A2 k2 cap2 B w hR2 hk2)
  have HJ0 : Hid (stD s (c.take 0) = false) := Lib.hid rfl
  clear hR hR2 hc hk2
  go_enter Try.func71, Try.ntmps71
  go_wp2
  go_loopw [7, 8, 9] (fun a b i wr => ∃ j : Nat, j ≤ k ∧ i = .int .i64 j ∧ a = .int .i64 ((stO s (c.take j)).length : Int) ∧ b = .int .i64 (lastD (stO s (c.take j))) ∧ Hid (stD s (c.take j) = false) ∧ w = wr) (fun _ _ i _ => k - (intOf i).toNat)
  case atStart => exact ⟨0, Nat.zero_le _, rfl, rfl, rfl, HJ0, by first | rfl | trivial⟩
  case round =>
    obtain ⟨j, hj, rfl, rfl, rfl, HJ, rfl⟩ := hrel
    by_cases hlt : j < k
    · obtain ⟨ad, rfl, _, hcj⟩ := HR.out.int_at hlt
      have hjl : j < c.length := by have := HL.out; omega
      have hst := stO_take (s := s) hjl
      have hln := stO_len s (c.take j)
      rw [List.length_take] at hln
      have hx := HC.out (c.getD j 0) (getD_mem0 hjl)
      have hdn : stD s (c.take (j + 1)) = decide (c.getD j 0 ∈ s) := by
        have e : c.take (j + 1) = c.take j ++ [c.getD j 0] := by
          rw [List.take_succ_eq_append_getElem hjl, List.getD_eq_getElem?_getD, List.getElem?_eq_getElem hjl]; rfl
        have h2 := HJ.out
        unfold stD at h2 ⊢
        rw [e, List.any_append, h2, Bool.false_or]; simp
      have HD : Hid (c.getD j 0 ∈ s → stD s c = true) := Lib.hid (fun h => by
        unfold stD
        rw [List.any_eq_true]
        exact ⟨_, getD_mem0 hjl, decide_eq_true h⟩)
      generalize c.getD j 0 = x at *
      have HH1 := Lib.hid (HHA.out x)
      have HH2 := Lib.hid (HHA.out (-x))
      have p1 : IntKind.i64.wrap (-x) = -x := by simp [IntKind.wrap, IntKind.bits, IntKind.signed]; omega
      clear HJ hx hjl
      by_cases hp : x ∈ s
      · rw [decide_eq_true hp] at HH1
        have HV : Hid (stV s c = .tuple #[.bool true, .int .i64 0, .int .i64 0]) := Lib.hid (by unfold stV; rw [if_pos (HD.out hp)])
        clear hst hln hdn hp
        generalize lastD (stO s (c.take j)) = z0 at *
        generalize (stO s (c.take j)).length = n0 at *
        go_wp2_with fail
        refine HH1.out.mono ?_
        rintro e w2 ⟨rfl, rfl⟩
        go_wp2
        go_ret3
        exact ⟨by rw [HV.out]; rfl, rfl⟩
      · rw [decide_eq_false hp] at HH1
        rw [decide_eq_false hp] at hdn
        have HJ2 := Lib.hid hdn
        by_cases hm : -x ∈ s
        · rw [decide_eq_true hm] at HH2
          rw [if_pos hm, List.append_nil] at hst
          rw [← hst] at hln
          have HST := Lib.hid hst
          clear hp hm hdn hst
          generalize hz : lastD (stO s (c.take j)) = z0 at *
          generalize hn : (stO s (c.take j)).length = n0 at *
          have HZ := Lib.hid (⟨hz, hn⟩ : _ ∧ _)
          clear hz hn
          go_wp2_with fail
          refine HH1.out.mono ?_
          rintro e w2 ⟨rfl, rfl⟩
          go_wp2_with fail
          refine HH2.out.mono ?_
          rintro e w2 ⟨rfl, rfl⟩
          go_wp2
          go_roundw
          case rel => exact ⟨j + 1, by omega, by go_num, by rw [HST.out, HZ.out.2], by rw [HST.out, HZ.out.1], HJ2, by first | rfl | trivial⟩
          case measure => first | (simp [intOf]; done) | (simp [intOf]; omega)
        · rw [decide_eq_false hm] at HH2
          rw [if_neg hm] at hst
          have HST := Lib.hid hst
          have hn64 : (stO s (c.take j)).length ≤ 64 := by omega
          clear hp hm hdn hst hln
          generalize hz : lastD (stO s (c.take j)) = z0 at *
          generalize hn : (stO s (c.take j)).length = n0 at *
          have HZ := Lib.hid (⟨hz, hn⟩ : _ ∧ _)
          clear hz hn
          go_wp2_with fail
          refine HH1.out.mono ?_
          rintro e w2 ⟨rfl, rfl⟩
          go_wp2_with fail
          refine HH2.out.mono ?_
          rintro e w2 ⟨rfl, rfl⟩
          go_wp2
          go_roundw
          case rel => exact ⟨j + 1, by omega, by go_num, by rw [HST.out, List.length_append, HZ.out.2]; go_num, by rw [HST.out, lastD_snoc], HJ2, by first | rfl | trivial⟩
          case measure => first | (simp [intOf]; done) | (simp [intOf]; omega)
    · have h9 : c.take j = c := List.take_of_length_le (by have := HL.out; omega)
      rw [h9] at HJ ⊢
      have HV : Hid (stV s c = .tuple #[.bool false, .int .i64 ((stO s c).length : Int), .int .i64 (lastD (stO s c))]) := Lib.hid (by unfold stV; rw [if_neg (by rw [HJ.out]; decide)])
      clear h9 HJ
      generalize lastD (stO s c) = z0 at *
      generalize (stO s c).length = n0 at *
      go_wp2
      go_ret3
      exact ⟨by rw [HV.out]; rfl, rfl⟩
def idxI (p : List Int → Bool) (l : List (List Int)) : Int := match l.findIdx? p with
  | some i => (i : Int)
  | none => -1
theorem idxI_some {p : List Int → Bool} {l : List (List Int)} {j : Nat} (hj : j < l.length) (h : ∀ i, i < j → p (l.getD i []) = false) (hp : p (l.getD j []) = true) : l.findIdx? p = some j := by
  rw [List.findIdx?_eq_some_iff_getElem]
  refine ⟨hj, ?_, fun i hi => ?_⟩
  · rw [List.getD_eq_getElem?_getD, List.getElem?_eq_getElem hj] at hp; exact hp
  · have := h i hi
    rw [List.getD_eq_getElem?_getD, List.getElem?_eq_getElem (show i < l.length by omega)] at this
    simpa using this
theorem idxI_none {p : List Int → Bool} {l : List (List Int)} (h : ∀ i, i < l.length → p (l.getD i []) = false) : l.findIdx? p = none := by
  rw [List.findIdx?_eq_none_iff]
  intro x hx
  obtain ⟨i, hi, rfl⟩ := List.getElem_of_mem hx
  have := h i hi
  rw [List.getD_eq_getElem?_getD, List.getElem?_eq_getElem hi] at this
  exact this
def unI (s : List Int) (l : List (List Int)) : Int := match l.findIdx? (unC s) with
  | some i => lastD (stO s (l.getD i []))
  | none => 0
set_option maxHeartbeats 4000000 in
theorem rConf_any (l : List (List Int)) (s : List Int) (A : Option Addr) (k cap : Nat) (A2 : Option Addr) (k2 cap2 B : Nat) (w : World) (hS : Small l) (hk : k ≤ 1000000) (hR : ZsR w B A k l) (hR2 : Reads w B 1 A2 k2 (ints s)) (hk2 : k2 ≤ maxLen) :
    Calls Try.prog 47 #[.slice A k cap, .slice A2 k2 cap2] w fun e w' => e = .returned (.int .i64 (idxI (cfB s) l)) ∧ w = w' := by
  have HL := Lib.hid hR.len
  have HR := Lib.hid hR
  have HST := Lib.hid (fun j (hj : j < k) Aj cj (hr : Reads w B 1 Aj (l.getD j []).length (ints (l.getD j []))) => rState_any (l.getD j []) s Aj (l.getD j []).length cj A2 k2 cap2 B w (hS _ (getDZ_mem (by have := hR.len; omega))).1 (Nat.le_trans (hS _ (getDZ_mem (by have := hR.len; omega))).2 (by decide)) hr hR2 hk2)
  have HE1 : Hid (∀ j, j < k → (∀ i, i < j → cfB s (l.getD i []) = false) → cfB s (l.getD j []) = true → idxI (cfB s) l = (j : Int)) := Lib.hid (fun j hj h h2 => by
    have e := idxI_some (p := cfB s) (l := l) (j := j) (by have := hR.len; omega) h h2
    unfold idxI
    rw [e])
  have HE2 : Hid ((∀ i, i < k → cfB s (l.getD i []) = false) → idxI (cfB s) l = -1) := Lib.hid (fun h => by
    have e := idxI_none (p := cfB s) (l := l) (fun i hi => h i (by have := hR.len; omega))
    unfold idxI
    rw [e])
  generalize idxI (cfB s) l = E at *
  clear hS hR hR2 hk2
  go_enter Try.func47, Try.ntmps47
  go_wp2
  go_loopw [5] (fun i wr => ∃ j : Nat, j ≤ k ∧ i = .int .i64 j ∧ Hid (∀ i, i < j → cfB s (l.getD i []) = false) ∧ w = wr) (fun i _ => k - (intOf i).toNat)
  case atStart => exact ⟨0, Nat.zero_le _, rfl, Lib.hid (fun i hi => absurd hi (Nat.not_lt_zero _)), by first | rfl | trivial⟩
  case round =>
    obtain ⟨j, hj, rfl, HJ, rfl⟩ := hrel
    by_cases hlt : j < k
    · obtain ⟨ad, Aj, cj, rfl, _, hcell, hrd, _⟩ := HR.out.at_ hlt
      have HSJ := Lib.hid (HST.out j hlt Aj cj hrd)
      have HF := Lib.hid (HE1.out j hlt HJ.out)
      have HN : Hid (cfB s (l.getD j []) = false → ∀ i, i < j + 1 → cfB s (l.getD i []) = false) := Lib.hid (fun h i hi => by
        by_cases e : i = j
        · rw [e]; exact h
        · exact HJ.out i (by omega))
      clear HJ hrd
      generalize l.getD j [] = c at *
      have hln := stO_len s c
      generalize hncl : c.length = ncl at *
      cases hd : stD s c with
      | true =>
        have HN2 := Lib.hid (HN.out (by unfold cfB; rw [hd]; rfl))
        have e1 : stV s c = .tuple #[.bool true, .int .i64 0, .int .i64 0] := by unfold stV; rw [if_pos hd]
        rw [e1] at HSJ
        clear HN HF hd e1 hncl
        go_wp2_with fail
        refine HSJ.out.mono ?_
        rintro e w2 ⟨rfl, rfl⟩
        go_wp2
        go_roundw
        case rel => exact ⟨j + 1, by omega, by go_num, HN2, by first | rfl | trivial⟩
        case measure => first | (simp [intOf]; done) | (simp [intOf]; omega)
      | false =>
        have e1 : stV s c = .tuple #[.bool false, .int .i64 ((stO s c).length : Int), .int .i64 (lastD (stO s c))] := by unfold stV; rw [if_neg (by rw [hd]; decide)]
        rw [e1] at HSJ
        by_cases hq : (stO s c).length = 0
        · have HF2 := Lib.hid (HF.out (by unfold cfB; rw [hd, decide_eq_true hq]; rfl))
          have q1 : (((stO s c).length : Int) == 0) = true := by rw [hq]; rfl
          clear HN HF hd e1 hq hncl
          generalize lastD (stO s c) = z0 at *
          generalize (stO s c).length = n0 at *
          go_wp2_with fail
          refine HSJ.out.mono ?_
          rintro e w2 ⟨rfl, rfl⟩
          go_wp2
          go_ret
          exact ⟨ret_i64 HF2.out.symm, rfl⟩
        · have HN2 := Lib.hid (HN.out (by unfold cfB; rw [hd, decide_eq_false hq]; rfl))
          have q1 : (((stO s c).length : Int) == 0) = false := by rw [beq_eq_false_iff_ne]; omega
          clear HN HF hd e1 hq hncl
          generalize lastD (stO s c) = z0 at *
          generalize (stO s c).length = n0 at *
          go_wp2_with fail
          refine HSJ.out.mono ?_
          rintro e w2 ⟨rfl, rfl⟩
          go_wp2
          go_roundw
          case rel => exact ⟨j + 1, by omega, by go_num, HN2, by first | rfl | trivial⟩
          case measure => first | (simp [intOf]; done) | (simp [intOf]; omega)
    · have HF := Lib.hid (HE2.out (fun i hi => HJ.out i (by omega)))
      go_wp2
      go_ret
      exact ⟨ret_i64 HF.out.symm, rfl⟩
set_option maxHeartbeats 4000000 in
theorem rUnit_any (l : List (List Int)) (s : List Int) (A : Option Addr) (k cap : Nat) (A2 : Option Addr) (k2 cap2 B : Nat) (w : World) (hS : Small l) (hk : k ≤ 1000000) (hR : ZsR w B A k l) (hR2 : Reads w B 1 A2 k2 (ints s)) (hk2 : k2 ≤ maxLen) :
    Calls Try.prog 48 #[.slice A k cap, .slice A2 k2 cap2] w fun e w' => e = .returned (.int .i64 (unI s l)) ∧ w = w' := by
  have HL := Lib.hid hR.len
  have HR := Lib.hid hR
  have HST := Lib.hid (fun j (hj : j < k) Aj cj (hr : Reads w B 1 Aj (l.getD j []).length (ints (l.getD j []))) => rState_any (l.getD j []) s Aj (l.getD j []).length cj A2 k2 cap2 B w (hS _ (getDZ_mem (by have := hR.len; omega))).1 (Nat.le_trans (hS _ (getDZ_mem (by have := hR.len; omega))).2 (by decide)) hr hR2 hk2)
  have HE1 : Hid (∀ j, j < k → (∀ i, i < j → unC s (l.getD i []) = false) → unC s (l.getD j []) = true → unI s l = lastD (stO s (l.getD j []))) := Lib.hid (fun j hj h h2 => by
    have e := idxI_some (p := unC s) (l := l) (j := j) (by have := hR.len; omega) h h2
    unfold unI
    rw [e])
  have HE2 : Hid ((∀ i, i < k → unC s (l.getD i []) = false) → unI s l = 0) := Lib.hid (fun h => by
    have e := idxI_none (p := unC s) (l := l) (fun i hi => h i (by have := hR.len; omega))
    unfold unI
    rw [e])
  generalize unI s l = E at *
  clear hS hR hR2 hk2
  go_enter Try.func48, Try.ntmps48
  go_wp2
  go_loopw [5] (fun i wr => ∃ j : Nat, j ≤ k ∧ i = .int .i64 j ∧ Hid (∀ i, i < j → unC s (l.getD i []) = false) ∧ w = wr) (fun i _ => k - (intOf i).toNat)
  case atStart => exact ⟨0, Nat.zero_le _, rfl, Lib.hid (fun i hi => absurd hi (Nat.not_lt_zero _)), by first | rfl | trivial⟩
  case round =>
    obtain ⟨j, hj, rfl, HJ, rfl⟩ := hrel
    by_cases hlt : j < k
    · obtain ⟨ad, Aj, cj, rfl, _, hcell, hrd, _⟩ := HR.out.at_ hlt
      have HSJ := Lib.hid (HST.out j hlt Aj cj hrd)
      have HF := Lib.hid (HE1.out j hlt HJ.out)
      have HN : Hid (unC s (l.getD j []) = false → ∀ i, i < j + 1 → unC s (l.getD i []) = false) := Lib.hid (fun h i hi => by
        by_cases e : i = j
        · rw [e]; exact h
        · exact HJ.out i (by omega))
      clear HJ hrd
      generalize l.getD j [] = c at *
      have hln := stO_len s c
      generalize hncl : c.length = ncl at *
      cases hd : stD s c with
      | true =>
        have HN2 := Lib.hid (HN.out (by unfold unC; rw [hd]; rfl))
        have e1 : stV s c = .tuple #[.bool true, .int .i64 0, .int .i64 0] := by unfold stV; rw [if_pos hd]
        rw [e1] at HSJ
        clear HN HF hd e1 hncl
        go_wp2_with fail
        refine HSJ.out.mono ?_
        rintro e w2 ⟨rfl, rfl⟩
        go_wp2
        go_roundw
        case rel => exact ⟨j + 1, by omega, by go_num, HN2, by first | rfl | trivial⟩
        case measure => first | (simp [intOf]; done) | (simp [intOf]; omega)
      | false =>
        have e1 : stV s c = .tuple #[.bool false, .int .i64 ((stO s c).length : Int), .int .i64 (lastD (stO s c))] := by unfold stV; rw [if_neg (by rw [hd]; decide)]
        rw [e1] at HSJ
        by_cases hq : (stO s c).length = 1
        · have HF2 := Lib.hid (HF.out (by unfold unC; rw [hd, decide_eq_true hq]; rfl))
          have q1 : (((stO s c).length : Int) == 1) = true := by rw [hq]; rfl
          clear HN HF hd e1 hq hncl
          generalize lastD (stO s c) = z0 at *
          generalize (stO s c).length = n0 at *
          go_wp2_with fail
          refine HSJ.out.mono ?_
          rintro e w2 ⟨rfl, rfl⟩
          go_wp2
          go_ret
          exact ⟨ret_i64 HF2.out.symm, rfl⟩
        · have HN2 := Lib.hid (HN.out (by unfold unC; rw [hd, decide_eq_false hq]; rfl))
          have q1 : (((stO s c).length : Int) == 1) = false := by rw [beq_eq_false_iff_ne]; omega
          clear HN HF hd e1 hq hncl
          generalize lastD (stO s c) = z0 at *
          generalize (stO s c).length = n0 at *
          go_wp2_with fail
          refine HSJ.out.mono ?_
          rintro e w2 ⟨rfl, rfl⟩
          go_wp2
          go_roundw
          case rel => exact ⟨j + 1, by omega, by go_num, HN2, by first | rfl | trivial⟩
          case measure => first | (simp [intOf]; done) | (simp [intOf]; omega)
    · have HF := Lib.hid (HE2.out (fun i hi => HJ.out i (by omega)))
      go_wp2
      go_ret
      exact ⟨ret_i64 HF.out.symm, rfl⟩
end Go.Proofs.Ytopkmcoblndokaa
/- Layer 10: the reference's Propagate. -/
namespace Go.Proofs.Ytopkmcoblndokaa
open Go.ChangeShapes Go.WideShapes Go.ChangeAt Go.RowKit Go.Proofs.Ws Go.Deep
set_option maxRecDepth 100000
section
variable {H : Type} {enc : TypeId × Value → H} {w : World} {base : Nat} {spare : Nat → Bool} {held : Bool}
theorem open_is1 {fuel : Nat} {v : Value} {x : DataW H × List MemPlace} (h : DataW.trod enc Try.prog w base spare held fuel 23 [v] = some x) : ∃ A n c l, v = .slice A n c ∧ IRow w A n c l ∧ (A = none → c = 0) := by
  rcases open_ints Try.underlying23 Try.underlying3 (by kernel_rfl) h with ⟨hcs, _⟩ | ⟨a, len, cap, zs, hcs, _, hl, hm, hz, _, hcell, _⟩
  · simp at hcs
    exact ⟨none, 0, 0, [], hcs, ⟨(by unfold ints; exact Reads.none_), Nat.le_refl _, Nat.zero_le _⟩, fun _ => rfl⟩
  · simp at hcs
    have hlz : len ≤ zs.length := by rw [hz]; split <;> omega
    refine ⟨some a, len, cap, zs.take len, hcs, ⟨⟨by rw [ints_length, List.length_take]; omega, fun h0 => ⟨a, rfl, ?_, fun j u hj => ?_⟩⟩, hl, by omega⟩, fun h => by cases h⟩
    · have h1 := hcell 0 (by omega)
      have := lt_of_cell _ _ h1
      rwa [block_of_add] at this
    · unfold ints at hj
      rw [List.getElem?_map, List.getElem?_take] at hj
      split at hj
      · rename_i hjl
        have hjz : j < zs.length := by omega
        rw [List.getElem?_eq_getElem hjz] at hj
        simp at hj
        rw [hcell j hjz, List.getD_eq_getElem?_getD, List.getElem?_eq_getElem hjz, ← hj]
        rfl
      · cases hj
end
def lenV : Value → Nat
  | .slice _ n _ => n
  | _ => 0
/-- what one round of the reference finds -/
theorem conf_same {s t : List Int} {l : List (List Int)} (h : Agr s t) (hS : Small l) : l.findIdx? (cfB s) = l.findIdx? (refB t) := findIdx_congr (fun c hc => cf_ref h (hS c hc).1)
theorem unit_same {s t : List Int} {l : List (List Int)} (h : Agr s t) (hS : Small l) : l.findIdx? (unC s) = l.findIdx? (fun c => unitV t c != 0) := findIdx_congr (fun c hc => un_ref h (hS c hc).1)
theorem round_step {s t : List Int} {l : List (List Int)} (h : Agr s t) (hS : Small l) {i : Nat} (h2 : l.findIdx? (fun c => unitV t c != 0) = some i) :
    unI s l = unitV t (l.getD i []) ∧ unitV t (l.getD i []) ≠ 0 ∧ Agr (s ++ [unitV t (l.getD i [])]) (tset t (unitV t (l.getD i []))) := by
  obtain ⟨hi, h3, _⟩ := List.findIdx?_eq_some_iff_getElem.1 h2
  have he : l.getD i [] = l[i] := by rw [List.getD_eq_getElem?_getD, List.getElem?_eq_getElem hi]; rfl
  have hx : unitV t (l.getD i []) ≠ 0 := by rw [he]; simpa using h3
  have hm : l.getD i [] ∈ l := by rw [he]; exact List.getElem_mem hi
  have hc := (hS _ hm).1
  obtain ⟨g1, g2, g3⟩ := unitV_in hx
  have hb := hc _ g1
  refine ⟨?_, hx, h.add hb.1 hb.2.1 hb.2.2 (h.tok.open_ hx g2 g3)⟩
  unfold unI
  rw [unit_same h hS, h2]
  exact un_val h hc (by rw [un_ref h hc]; exact bne_iff_ne.2 hx)
set_option maxHeartbeats 16000000 in
theorem rPropagate_any (n : Int) (l : List (List Int)) (fx : List Int) (A : Option Addr) (k cap : Nat) (A2 : Option Addr) (k2 cap2 : Nat) (w : World) (hR : ZsR w w.heap.size A k l) (hk : k ≤ maxLen) (hR2 : Reads w w.heap.size 1 A2 k2 (ints fx)) (hk2 : k2 ≤ maxLen) (hz2 : A2 = none → cap2 = 0) :
    Calls Try.prog 25 #[.int .i64 n, .slice A k cap, .slice A2 k2 cap2] w (GivesP n l fx w) := by
  have HC := Lib.hid (rCheck_any n l A k cap w.heap.size w (Nat.le_refl _) hR hk)
  by_cases hz : chkR n l = 0
  case neg =>
    have HE : Hid (ppE n l fx = chkR n l) := Lib.hid (by unfold ppE; rw [if_neg hz])
    have q1 : (chkR n l != 0) = true := by rw [bne_iff_ne]; exact hz
    have HZ := Lib.hid hz
    clear hz hR hR2 hz2
    generalize chkR n l = ee at *
    go_enter Try.func25, Try.ntmps25
    go_wp2_with fail
    refine (HC.out).mono ?_
    rintro e w2 ⟨rfl, hb⟩
    have HB := Lib.hid hb
    clear hb
    go_wp2
    go_ret3
    exact ⟨none, 0, [], 0, by rw [HE.out]; rfl, OwJ.nil _ _ _, fun _ => ⟨rfl, rfl⟩, fun h => absurd (HE.out.symm.trans h) HZ.out, HB.out⟩
  case pos =>
  obtain ⟨m, rfl, hm, hln, hcl⟩ := chkR_ok hz
  rw [hz] at HC
  have HN := Lib.hid (fun W (hw : Below w.heap.size w W) => rNorm1_any m fx A2 k2 cap2 w.heap.size W (by omega) (by omega) hw.size (hR2.below hw) hk2)
  by_cases hy : clE (m : Int) fx = 0
  case neg =>
    have HE : Hid (ppE (m : Int) l fx = 1) := Lib.hid (by unfold ppE; rw [if_pos hz, if_neg hy])
    have q0 : (clE (m : Int) fx == 0) = false := by simp [hy]
    rw [q0] at HN
    clear hz hy hR hR2 hcl hz2 q0
    go_enter Try.func25, Try.ntmps25
    go_wp2_with fail
    refine (HC.out).mono ?_
    rintro e w2 ⟨rfl, hb⟩
    have HB := Lib.hid hb
    clear hb
    go_wp2_with fail
    refine (HN.out _ HB.out).mono ?_
    rintro e w3 ⟨rfl, hb⟩
    have HB3 := Lib.hid (belowNext HB.out hb)
    clear hb
    go_wp2
    go_ret3
    exact ⟨none, 0, [], 0, by rw [HE.out]; rfl, OwJ.nil _ _ _, fun _ => ⟨rfl, rfl⟩, fun h => absurd (HE.out.symm.trans h) (by decide), HB3.out⟩
  case pos =>
  have HE : Hid (ppE (m : Int) l fx = 0) := Lib.hid (by unfold ppE; rw [if_pos hz, if_pos hy])
  have q0 : (clE (m : Int) fx == 0) = true := by simp [hy]
  rw [q0] at HN
  clear q0
  have hfo := (clE_ok.1 hy).mono hm
  have HAG := Lib.hid (Agr.fixed hfo)
  have HSM := Lib.hid (small_of hm hcl)
  have hl := hR.len
  have hl2 := hR2.int_len
  have hk12 : k2 ≤ 12 := by have := hfo.len; omega
  have HRZ := Lib.hid (fun W (hw : Below w.heap.size w W) => hR.below hw hw.size)
  have HR2 := Lib.hid hR2
  have hk64 : k ≤ 64 := by omega
  obtain ⟨i0, hi, hq0, hq1, hq2⟩ := info_parts Try.infoI
  have HL2 := Lib.hid hl2
  clear hz hy hR hR2 hcl hl hfo hl2
  have HCF := Lib.hid (fun s t W A9 c9 (h : Agr s t) (hw : Below w.heap.size w W) (hr : OwJ W w.heap.size A9 s) (hs : s.length ≤ 12) => (rConf_any l s A k cap A9 s.length c9 W.heap.size W HSM.out (by omega) (HRZ.out W hw) hr.reads (by unfold maxLen; omega)))
  have HUN := Lib.hid (fun s t W A9 c9 (h : Agr s t) (hw : Below w.heap.size w W) (hr : OwJ W w.heap.size A9 s) (hs : s.length ≤ 12) => (rUnit_any l s A k cap A9 s.length c9 W.heap.size W HSM.out (by omega) (HRZ.out W hw) hr.reads (by unfold maxLen; omega)))
  have HCO := Lib.hid (fun s t W A9 c9 (h : Agr s t) (hr : OwJ W w.heap.size A9 s) (hs : s.length ≤ 12) => (rCollect_any s A9 s.length c9 W.heap.size W h.lits (Nat.le_refl _) hr.reads (by unfold maxLen; omega)))
  cases A2 with
  | none =>
    obtain rfl := hz2 rfl
    have hfx : k2 = 0 := by
      rcases Nat.eq_zero_or_pos k2 with h | h
      · exact h
      · obtain ⟨ad, e, _⟩ := HR2.out.2 h; cases e
    subst hfx
    have hfx0 : fx = [] := List.eq_nil_of_length_eq_zero HL2.out
    have HFX0 := Lib.hid hfx0
    clear hfx0
    go_enter Try.func25, Try.ntmps25
    go_wp2_with fail
    refine (HC.out).mono ?_
    rintro e w2 ⟨rfl, hb⟩
    have HB := Lib.hid hb
    clear hb
    go_wp2_with fail
    refine (HN.out _ HB.out).mono ?_
    rintro e w3 ⟨rfl, hb⟩
    have HB3 := Lib.hid (belowNext HB.out hb)
    have hmade := World.ownsRow_made (base := w.heap.size) (e := 3) (size := 1) w3 #[] 0 HB3.out.size (Nat.zero_le _) (by simp)
    have HMB : Hid (Below w.heap.size w (w3.alloc (.cells #[] 3))) := Lib.hid (HB3.out.alloc HB3.out.size _)
    clear hb
    go_wp2_with (at_builtin; refine wpList_append_own_none rfl _ _ 23 rfl w.heap.size 3 i0 1 Try.underlying23 hi _ _ _ rfl hmade rfl ?_)
    have HST : Hid ((w3.alloc (.cells #[] 3)).ownsRow w.heap.size 3 1 (.slice (some ⟨w3.heap.size, 0, none⟩) 0 0) fx.length (ints fx)) := Lib.hid (by rw [HFX0.out]; exact hmade)
    clear hmade
    have HBS := HMB
    generalize w3.alloc (.cells #[] 3) = w4 at *
    go_wp2
    go_loopw [10] (fun V wr => ∃ s t, Hid (Agr s t) ∧ Hid (∀ u i, PropTo l t u i → PropTo l (tsetL t00 fx) u i) ∧ Hid (wr.ownsRow w.heap.size 3 1 V s.length (ints s)) ∧ Hid (Below w.heap.size w wr)) (fun V _ => 13 - lenV V)
    case atStart => exact ⟨fx, tsetL t00 fx, HAG, Lib.hid (fun u i h => h), HST, HBS⟩
    case round =>
      obtain ⟨s, t, HAGR, HPR, HROW, HO⟩ := hrel
      obtain ⟨A9, c9, e9, how, hcap⟩ := own_ow HROW.out
      subst e9
      have HOW := Lib.hid how
      have hs12 : s.length ≤ 12 := by have := HAGR.out.len; omega
      have HCJ := Lib.hid (HCO.out s t _ A9 c9 HAGR.out how hs12)
      have HFJ := Lib.hid (HCF.out s t _ A9 c9 HAGR.out HO.out how hs12)
      have HUJ := Lib.hid (HUN.out s t _ A9 c9 HAGR.out HO.out how hs12)
      have hcs := conf_same HAGR.out HSM.out
      have hus := unit_same HAGR.out HSM.out
      clear how hcap
      cases hcf : l.findIdx? (refB t) with
      | some i =>
        have he1 : idxI (cfB s) l = (i : Int) := by unfold idxI; rw [hcs, hcf]
        have HDONE := Lib.hid (HPR.out t (i : Int) (.conf hcf))
        rw [he1] at HFJ
        have q1 : decide ((i : Int) < 0) = false := decide_eq_false (by omega)
        clear hcs hus hcf HROW
        go_wp2_with fail
        refine HFJ.out.mono ?_
        rintro e w9 ⟨rfl, rfl⟩
        have HFIN := Lib.hid (HAGR.out.nrm)
        rw [HFIN.out.1, HFIN.out.2] at HCJ
        have HCN := Lib.hid (fun W (hw : Below w.heap.size w W) (hr : OwJ W w.heap.size A9 s) => HCF.out s t W A9 c9 HAGR.out hw hr hs12)
        rw [he1] at HCN
        generalize idxI (cfB s) l = E1 at *
        clear he1
        go_wp2_with fail
        refine HCJ.out.mono ?_
        rintro e w5 ⟨A5, c5, rfl, ho, _, hb⟩
        have HB5 := Lib.hid (belowNext HO.out hb)
        have HO5 := Lib.hid (OwJ.up ho HO.out.size)
        have HS5 := Lib.hid (HOW.out.below hb)
        clear ho hb
        go_wp2_with fail
        refine (HCN.out _ HB5.out HS5.out).mono ?_
        rintro e w9 ⟨rfl, rfl⟩
        go_wp2
        go_ret3
        exact ⟨A5, c5, litsT t, (i : Int), by rw [HE.out]; rfl, HO5.out, fun h => absurd HE.out h, fun _ => ⟨t, HDONE.out, rfl⟩, HB5.out⟩
      | none =>
        have he1 : idxI (cfB s) l = -1 := by unfold idxI; rw [hcs, hcf]
        cases hun : l.findIdx? (fun c => unitV t c != 0) with
        | none =>
          have he2 : unI s l = 0 := by unfold unI; rw [hus, hun]
          have HDONE := Lib.hid (HPR.out t (-1) (.stop hcf hun))
          rw [he1] at HFJ
          rw [he2] at HUJ
          clear hcs hus hcf HROW hun he2
          go_wp2_with fail
          refine HFJ.out.mono ?_
          rintro e w9 ⟨rfl, rfl⟩
          go_wp2_with fail
          refine HUJ.out.mono ?_
          rintro e w9 ⟨rfl, rfl⟩
          have HFIN := Lib.hid (HAGR.out.nrm)
          rw [HFIN.out.1, HFIN.out.2] at HCJ
          have HCN := Lib.hid (fun W (hw : Below w.heap.size w W) (hr : OwJ W w.heap.size A9 s) => HCF.out s t W A9 c9 HAGR.out hw hr hs12)
          rw [he1] at HCN
          generalize idxI (cfB s) l = E1 at *
          clear he1
          go_wp2_with fail
          refine HCJ.out.mono ?_
          rintro e w5 ⟨A5, c5, rfl, ho, _, hb⟩
          have HB5 := Lib.hid (belowNext HO.out hb)
          have HO5 := Lib.hid (OwJ.up ho HO.out.size)
          have HS5 := Lib.hid (HOW.out.below hb)
          clear ho hb
          go_wp2_with fail
          refine (HCN.out _ HB5.out HS5.out).mono ?_
          rintro e w9 ⟨rfl, rfl⟩
          go_wp2
          go_ret3
          exact ⟨A5, c5, litsT t, -1, by rw [HE.out]; rfl, HO5.out, fun h => absurd HE.out h, fun _ => ⟨t, HDONE.out, rfl⟩, HB5.out⟩
        | some i =>
          obtain ⟨r1, r2, r3⟩ := round_step HAGR.out HSM.out hun
          have HPR2 : Hid (∀ u j, PropTo l (tset t (unitV t (l.getD i []))) u j → PropTo l (tsetL t00 fx) u j) := Lib.hid (fun u j h => HPR.out u j (.step hcf hun h))
          have HAG2 := Lib.hid r3
          have hs2 := r3.len
          rw [he1] at HFJ
          rw [r1] at HUJ
          generalize unitV t (l.getD i []) = x at *
          have q2 : (x != 0) = true := bne_iff_ne.2 r2
          rw [List.length_append, List.length_singleton] at hs2
          have hs11 : s.length ≤ 11 := by omega
          clear hcs hus hcf hun r1 r2 r3 he1 HPR HCJ hs2
          go_wp2_with fail
          refine HFJ.out.mono ?_
          rintro e w9 ⟨rfl, rfl⟩
          go_wp2_with fail
          refine HUJ.out.mono ?_
          rintro e w9 ⟨rfl, rfl⟩
          go_wp2_with fail
          refine HUJ.out.mono ?_
          rintro e w9 ⟨rfl, rfl⟩
          generalize hsl : s.length = ns at *
          go_wp2_with (at_builtin; refine wpList_append_own _ rfl _ _ 23 rfl w.heap.size 3 i0 (.int .i64 0) 1 8 Try.underlying23 hi hq0 hq1 hq2 rfl (by decide) _ _ _ rfl (HROW.out.alloc _) ⟨wr.heap.size, 0, none⟩ 1 1 [.int .i64 x] rfl rfl ?c1 ?c2 ?c3 ?c4 ?c5 ?_)
          case c1 =>
            intro j u hj
            match j, hj with
            | 0, hj => simp at hj; subst hj; simp [Addr.add]
          case c2 => intro u hu; simp at hu; subst hu; rfl
          case c3 => unfold maxLen; omega
          case c4 => omega
          case c5 => have := HO.out.size; simp; omega
          intro v' w6 hown' hgrow _
          have HB6 := Lib.hid ((HO.out.alloc HO.out.size _).grown hgrow (by have := HO.out.size; simp; omega) (fun j hj => (HROW.out.lt j hj).1))
          have HO6 : Hid (w6.ownsRow w.heap.size 3 1 v' (s ++ [x]).length (ints (s ++ [x]))) := Lib.hid (by rw [List.length_append, ints_append, hsl]; exact hown')
          have hlv : lenV v' = ns + 1 := by
            obtain ⟨A7, c7, e7, _⟩ := own_ow HO6.out
            rw [e7, List.length_append, hsl]; rfl
          have HSL := Lib.hid hsl
          clear hgrow hown' HROW HO hsl HOW HCF HUN HCO HFJ HUJ
          go_wp2
          go_roundw
          case rel => exact ⟨s ++ [x], tset t x, HAG2, HPR2, HO6, HB6⟩
          case measure => rw [show lenV _ = _ from hlv]; show 13 - (ns + 1) < 13 - s.length; have := HSL.out; omega
  | some a2 =>
    go_enter Try.func25, Try.ntmps25
    go_wp2_with fail
    refine (HC.out).mono ?_
    rintro e w2 ⟨rfl, hb⟩
    have HB := Lib.hid hb
    clear hb
    go_wp2_with fail
    refine (HN.out _ HB.out).mono ?_
    rintro e w3 ⟨rfl, hb⟩
    have HB3 := Lib.hid (belowNext HB.out hb)
    have hmade := World.ownsRow_made (base := w.heap.size) (e := 3) (size := 1) w3 #[] 0 HB3.out.size (Nat.zero_le _) (by simp)
    have HMB : Hid (Below w.heap.size w (w3.alloc (.cells #[] 3))) := Lib.hid (HB3.out.alloc HB3.out.size _)
    clear hb
    have HRA := Lib.hid (HR2.out.below HMB.out)
    go_wp2_with (at_builtin; refine wpList_append_own _ rfl _ _ 23 rfl w.heap.size 3 i0 (.int .i64 0) 1 8 Try.underlying23 hi hq0 hq1 hq2 rfl (by decide) _ _ _ rfl hmade a2 k2 cap2 (ints fx) rfl ?d1 ?d2 ?d3 ?d4 ?d5 ?d6 ?_)
    case d1 => rw [ints_length]; have := HL2.out; omega
    case d2 =>
      intro j u hu
      have hj : j < (ints fx).length := (List.getElem?_eq_some_iff.1 hu).1
      rw [ints_length] at hj
      obtain ⟨ad', e, _, hc'⟩ := HRA.out.2 (by have := HL2.out; omega)
      injection e with e
      subst e
      exact hc' j u hu
    case d3 =>
      intro u hu
      unfold ints at hu
      obtain ⟨z, _, rfl⟩ := List.mem_map.1 hu
      rfl
    case d4 => unfold maxLen; omega
    case d5 => omega
    case d6 => have := HB3.out.size; simp; omega
    intro v' w4 hown' hgrow _
    have HBS := Lib.hid (HMB.out.grown hgrow (by have := HB3.out.size; simp; omega) (fun j hj => (hmade.lt j hj).1))
    have HST : Hid (w4.ownsRow w.heap.size 3 1 v' fx.length (ints fx)) := Lib.hid (by
      rw [HL2.out]
      first | exact hown' | simpa using hown')
    clear hgrow hown' hmade HMB HRA
    go_wp2
    go_loopw [10] (fun V wr => ∃ s t, Hid (Agr s t) ∧ Hid (∀ u i, PropTo l t u i → PropTo l (tsetL t00 fx) u i) ∧ Hid (wr.ownsRow w.heap.size 3 1 V s.length (ints s)) ∧ Hid (Below w.heap.size w wr)) (fun V _ => 13 - lenV V)
    case atStart => exact ⟨fx, tsetL t00 fx, HAG, Lib.hid (fun u i h => h), HST, HBS⟩
    case round =>
      obtain ⟨s, t, HAGR, HPR, HROW, HO⟩ := hrel
      obtain ⟨A9, c9, e9, how, hcap⟩ := own_ow HROW.out
      subst e9
      have HOW := Lib.hid how
      have hs12 : s.length ≤ 12 := by have := HAGR.out.len; omega
      have HCJ := Lib.hid (HCO.out s t _ A9 c9 HAGR.out how hs12)
      have HFJ := Lib.hid (HCF.out s t _ A9 c9 HAGR.out HO.out how hs12)
      have HUJ := Lib.hid (HUN.out s t _ A9 c9 HAGR.out HO.out how hs12)
      have hcs := conf_same HAGR.out HSM.out
      have hus := unit_same HAGR.out HSM.out
      clear how hcap
      cases hcf : l.findIdx? (refB t) with
      | some i =>
        have he1 : idxI (cfB s) l = (i : Int) := by unfold idxI; rw [hcs, hcf]
        have HDONE := Lib.hid (HPR.out t (i : Int) (.conf hcf))
        rw [he1] at HFJ
        have q1 : decide ((i : Int) < 0) = false := decide_eq_false (by omega)
        clear hcs hus hcf HROW
        go_wp2_with fail
        refine HFJ.out.mono ?_
        rintro e w9 ⟨rfl, rfl⟩
        have HFIN := Lib.hid (HAGR.out.nrm)
        rw [HFIN.out.1, HFIN.out.2] at HCJ
        have HCN := Lib.hid (fun W (hw : Below w.heap.size w W) (hr : OwJ W w.heap.size A9 s) => HCF.out s t W A9 c9 HAGR.out hw hr hs12)
        rw [he1] at HCN
        generalize idxI (cfB s) l = E1 at *
        clear he1
        go_wp2_with fail
        refine HCJ.out.mono ?_
        rintro e w5 ⟨A5, c5, rfl, ho, _, hb⟩
        have HB5 := Lib.hid (belowNext HO.out hb)
        have HO5 := Lib.hid (OwJ.up ho HO.out.size)
        have HS5 := Lib.hid (HOW.out.below hb)
        clear ho hb
        go_wp2_with fail
        refine (HCN.out _ HB5.out HS5.out).mono ?_
        rintro e w9 ⟨rfl, rfl⟩
        go_wp2
        go_ret3
        exact ⟨A5, c5, litsT t, (i : Int), by rw [HE.out]; rfl, HO5.out, fun h => absurd HE.out h, fun _ => ⟨t, HDONE.out, rfl⟩, HB5.out⟩
      | none =>
        have he1 : idxI (cfB s) l = -1 := by unfold idxI; rw [hcs, hcf]
        cases hun : l.findIdx? (fun c => unitV t c != 0) with
        | none =>
          have he2 : unI s l = 0 := by unfold unI; rw [hus, hun]
          have HDONE := Lib.hid (HPR.out t (-1) (.stop hcf hun))
          rw [he1] at HFJ
          rw [he2] at HUJ
          clear hcs hus hcf HROW hun he2
          go_wp2_with fail
          refine HFJ.out.mono ?_
          rintro e w9 ⟨rfl, rfl⟩
          go_wp2_with fail
          refine HUJ.out.mono ?_
          rintro e w9 ⟨rfl, rfl⟩
          have HFIN := Lib.hid (HAGR.out.nrm)
          rw [HFIN.out.1, HFIN.out.2] at HCJ
          have HCN := Lib.hid (fun W (hw : Below w.heap.size w W) (hr : OwJ W w.heap.size A9 s) => HCF.out s t W A9 c9 HAGR.out hw hr hs12)
          rw [he1] at HCN
          generalize idxI (cfB s) l = E1 at *
          clear he1
          go_wp2_with fail
          refine HCJ.out.mono ?_
          rintro e w5 ⟨A5, c5, rfl, ho, _, hb⟩
          have HB5 := Lib.hid (belowNext HO.out hb)
          have HO5 := Lib.hid (OwJ.up ho HO.out.size)
          have HS5 := Lib.hid (HOW.out.below hb)
          clear ho hb
          go_wp2_with fail
          refine (HCN.out _ HB5.out HS5.out).mono ?_
          rintro e w9 ⟨rfl, rfl⟩
          go_wp2
          go_ret3
          exact ⟨A5, c5, litsT t, -1, by rw [HE.out]; rfl, HO5.out, fun h => absurd HE.out h, fun _ => ⟨t, HDONE.out, rfl⟩, HB5.out⟩
        | some i =>
          obtain ⟨r1, r2, r3⟩ := round_step HAGR.out HSM.out hun
          have HPR2 : Hid (∀ u j, PropTo l (tset t (unitV t (l.getD i []))) u j → PropTo l (tsetL t00 fx) u j) := Lib.hid (fun u j h => HPR.out u j (.step hcf hun h))
          have HAG2 := Lib.hid r3
          have hs2 := r3.len
          rw [he1] at HFJ
          rw [r1] at HUJ
          generalize unitV t (l.getD i []) = x at *
          have q2 : (x != 0) = true := bne_iff_ne.2 r2
          rw [List.length_append, List.length_singleton] at hs2
          have hs11 : s.length ≤ 11 := by omega
          clear hcs hus hcf hun r1 r2 r3 he1 HPR HCJ hs2
          go_wp2_with fail
          refine HFJ.out.mono ?_
          rintro e w9 ⟨rfl, rfl⟩
          go_wp2_with fail
          refine HUJ.out.mono ?_
          rintro e w9 ⟨rfl, rfl⟩
          go_wp2_with fail
          refine HUJ.out.mono ?_
          rintro e w9 ⟨rfl, rfl⟩
          generalize hsl : s.length = ns at *
          go_wp2_with (at_builtin; refine wpList_append_own _ rfl _ _ 23 rfl w.heap.size 3 i0 (.int .i64 0) 1 8 Try.underlying23 hi hq0 hq1 hq2 rfl (by decide) _ _ _ rfl (HROW.out.alloc _) ⟨wr.heap.size, 0, none⟩ 1 1 [.int .i64 x] rfl rfl ?c1 ?c2 ?c3 ?c4 ?c5 ?_)
          case c1 =>
            intro j u hj
            match j, hj with
            | 0, hj => simp at hj; subst hj; simp [Addr.add]
          case c2 => intro u hu; simp at hu; subst hu; rfl
          case c3 => unfold maxLen; omega
          case c4 => omega
          case c5 => have := HO.out.size; simp; omega
          intro v' w6 hown' hgrow _
          have HB6 := Lib.hid ((HO.out.alloc HO.out.size _).grown hgrow (by have := HO.out.size; simp; omega) (fun j hj => (HROW.out.lt j hj).1))
          have HO6 : Hid (w6.ownsRow w.heap.size 3 1 v' (s ++ [x]).length (ints (s ++ [x]))) := Lib.hid (by rw [List.length_append, ints_append, hsl]; exact hown')
          have hlv : lenV v' = ns + 1 := by
            obtain ⟨A7, c7, e7, _⟩ := own_ow HO6.out
            rw [e7, List.length_append, hsl]; rfl
          have HSL := Lib.hid hsl
          clear hgrow hown' HROW HO hsl HOW HCF HUN HCO HFJ HUJ
          go_wp2
          go_roundw
          case rel => exact ⟨s ++ [x], tset t x, HAG2, HPR2, HO6, HB6⟩
          case measure => rw [show lenV _ = _ from hlv]; show 13 - (ns + 1) < 13 - s.length; have := HSL.out; omega
end Go.Proofs.Ytopkmcoblndokaa
