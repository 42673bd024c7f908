/- Layer 5: the masks of the program: fragments, facts, agents. -/
import Derived.Test.YtcbmncafmofcpaaMa
import Derived.Laws.BitsLemmas
namespace Go.Proofs.Ws
open Go
def fragN (op : Int) : Nat :=
  if op = 9 ∨ op = 10 then 1 else if op = 11 then 2 else if op = 12 then 4 else if op = 13 then 8 else if op = 14 then 16 else if op = 15 then 32 else if op = 16 then 64 else if op = 17 then 128 else if 18 ≤ op then 256 else 0
def fragD (n : Nd) : Nat := fragN n.op
def factD (n : Nd) : Nat := if n.op = 3 then 2 ^ n.i.toNat else 0
def agentD (n : Nd) : Nat := if hasAgent n.op = true then 2 ^ n.i.toNat else n.g.toNat
/-- the union of the masks of nodes -/
def maskL (g : Nd → Nat) (l : List Nd) : Nat := l.foldl (fun m n => m ||| g n) 0
theorem maskL_take (g : Nd → Nat) (l : List Nd) (k : Nat) (h : k < l.length) : maskL g (l.take (k + 1)) = maskL g (l.take k) ||| g (l.getD k nd0) := by
  unfold maskL
  rw [List.take_succ_eq_append_getElem h, List.foldl_append, show l.getD k nd0 = l[k] from by simp [h]]
  rfl
theorem maskL_lt (g : Nd → Nat) : ∀ (l : List Nd), (∀ n ∈ l, g n < 512) → maskL g l < 512 := by
  have : ∀ (l : List Nd) (a : Nat), a < 512 → (∀ n ∈ l, g n < 512) → l.foldl (fun m n => m ||| g n) a < 512 := by
    intro l
    induction l with
    | nil => intro a h _; exact h
    | cons n l ih =>
      intro a h hl
      exact ih _ (Nat.or_lt_two_pow (n := 9) h (hl n (by simp))) (fun m hm => hl m (by simp [hm]))
  exact fun l h => this l 0 (by decide) h
theorem fragN_lt (op : Int) : fragN op < 512 := by
  unfold fragN
  repeat (split; decide)
  decide
theorem fld_i {n : Nd} (h : fldOk n) : (n.op = 3 → 0 ≤ n.i ∧ n.i < 8) ∧ (hasAgent n.op = true → 0 ≤ n.i ∧ n.i < 4) ∧ (hasGroup n.op = true → 1 ≤ n.g ∧ n.g ≤ 15) ∧ (hasGroup n.op = false → n.g = 0) := by
  obtain ⟨_, ⟨_, _, hg⟩, hr⟩ := h
  unfold rangeOk shN shE shG at hr
  simp only [Bool.and_eq_true, Bool.or_eq_true, decide_eq_true_eq, beq_iff_eq] at hr
  obtain ⟨⟨hi, _⟩, hgg⟩ := hr
  refine ⟨fun h3 => ?_, fun ha => ?_, fun hgr => ?_, fun hgr => ?_⟩
  · rw [if_pos h3] at hi; omega
  · by_cases h3 : n.op = 3
    · rw [h3] at ha; exact absurd ha (by decide)
    · rw [if_neg h3, if_pos ha] at hi; omega
  · rw [if_pos hgr] at hgg; omega
  · rcases hg with h | h
    · rw [h] at hgr; cases hgr
    · exact h
theorem factD_lt {n : Nd} (h : fldOk n) : factD n < 512 := by
  unfold factD
  split
  · rename_i h3
    have := (fld_i h).1 h3
    exact Nat.pow_lt_pow_right (by decide) (show n.i.toNat < 9 by omega)
  · decide
theorem agentD_lt {n : Nd} (h : fldOk n) : agentD n < 512 := by
  unfold agentD
  obtain ⟨_, h2, h3, h4⟩ := fld_i h
  split
  · rename_i ha
    have := h2 ha
    exact Nat.pow_lt_pow_right (by decide) (show n.i.toNat < 9 by omega)
  · cases hg : hasGroup n.op
    · have := h4 hg; omega
    · have := h3 hg; omega
end Go.Proofs.Ws
namespace Go.Proofs.Ytcbmncafmofcpaa
open Go.RowKit Go.Proofs.Ws Go.Maps
theorem or_small (a b : Nat) (ha : a < 512) (hb : b < 512) : bits .or .i64 (a : Int) (b : Int) = ((a ||| b : Nat) : Int) :=
  (bits_nat .i64 9 (by decide) (fun n h0 h1 => by rw [IntKind.wrap_i64]; omega) a b ha hb).2
theorem fragOf_any (op : Int) (hk : known op = true) (w : World) : Calls Try.prog 58 #[.int .i64 op] w fun e w' => e = .returned (.int .i64 (fragN op : Int)) ∧ w = w' := by
  rcases known_cases op hk with rfl | rfl | rfl | rfl | rfl | rfl | rfl | rfl | rfl | rfl | rfl | rfl | rfl | rfl | rfl | rfl | rfl | rfl | rfl | rfl | rfl
  all_goals
    go_enter Try.func58, Try.ntmps58
    go_wp2
    go_ret
    exact ⟨rfl, rfl⟩
set_option maxRecDepth 100000 in
theorem fragCl_any (n : Nd) (hk : fldOk n) (w : World) : Calls Try.prog 57 #[nv n] w fun e w' => e = .returned (.int .i64 (fragD n : Int)) ∧ Below w.heap.size w w' := by
  have HB : Hid (∀ o, Below w.heap.size w (w.alloc o)) := Lib.hid (fun o => (Below.refl _ w).alloc (Nat.le_refl _) o)
  have HF := Lib.hid (fun W => fragOf_any n.op hk.1 W)
  unfold nv fragD
  clear hk
  generalize fragN n.op = z at *
  go_enter Try.func57, Try.ntmps57
  go_wp2_with fail
  refine (HF.out _).mono ?_
  rintro e w1 ⟨rfl, rfl⟩
  go_wp2
  go_ret
  exact ⟨rfl, HB.out _⟩
set_option maxRecDepth 100000 in
theorem factsOf_any (n : Nd) (hk : fldOk n) (w : World) : Calls Try.prog 60 #[nv n] w fun e w' => e = .returned (.int .i64 (factD n : Int)) ∧ Below w.heap.size w w' := by
  have HB : Hid (∀ o, Below w.heap.size w (w.alloc o)) := Lib.hid (fun o => (Below.refl _ w).alloc (Nat.le_refl _) o)
  by_cases h3 : n.op = 3
  · obtain ⟨hi0, hi8⟩ := (fld_i hk).1 h3
    have HV : Hid (factD n = 2 ^ n.i.toNat) := Lib.hid (by unfold factD; rw [if_pos h3])
    obtain ⟨op, i, e, g, x, y⟩ := n
    have h3 : op = 3 := h3
    subst h3
    have hi0 : 0 ≤ i := hi0
    have hi8 : i < 8 := hi8
    obtain ⟨k, rfl⟩ : ∃ k : Nat, i = (k : Int) := ⟨i.toNat, by omega⟩
    have hk8 : k < 8 := by omega
    rw [HV.out]
    clear HV hk
    have hcases : k = 0 ∨ k = 1 ∨ k = 2 ∨ k = 3 ∨ k = 4 ∨ k = 5 ∨ k = 6 ∨ k = 7 := by omega
    unfold nv
    clear hi0 hi8 hk8
    rcases hcases with rfl | rfl | rfl | rfl | rfl | rfl | rfl | rfl
    all_goals
      go_enter Try.func60, Try.ntmps60
      go_wp2
      go_ret
      exact ⟨rfl, HB.out _⟩
  · have HV : Hid (factD n = 0) := Lib.hid (by unfold factD; rw [if_neg h3])
    have hb : (n.op == 3) = false := by simpa using h3
    rw [HV.out]
    unfold nv
    clear HV hk h3
    go_enter Try.func60, Try.ntmps60
    go_wp2
    go_ret
    exact ⟨rfl, HB.out _⟩
set_option maxRecDepth 100000 in
theorem agentsOf_any (n : Nd) (hk : fldOk n) (w : World) : Calls Try.prog 61 #[nv n] w fun e w' => e = .returned (.int .i64 (agentD n : Int)) ∧ Below w.heap.size w w' := by
  have HB : Hid (∀ o, Below w.heap.size w (w.alloc o)) := Lib.hid (fun o => (Below.refl _ w).alloc (Nat.le_refl _) o)
  cases ha : hasAgent n.op
  · obtain ⟨_, _, h3, h4⟩ := fld_i hk
    have hg : ((n.g.toNat : Nat) : Int) = n.g := by
      cases hgr : hasGroup n.op
      · have := h4 hgr; omega
      · have := h3 hgr; omega
    have HV : Hid (((agentD n : Nat) : Int) = n.g) := Lib.hid (by unfold agentD; rw [ha]; simpa using hg)
    have hne : n.op ≠ 9 ∧ n.op ≠ 10 ∧ n.op ≠ 14 ∧ n.op ≠ 15 := by
      unfold hasAgent at ha
      simp only [Bool.or_eq_false_iff, decide_eq_false_iff_not] at ha
      omega
    have b1 : (n.op == 9) = false := by simpa using hne.1
    have b2 : (n.op == 10) = false := by simpa using hne.2.1
    have b3 : (n.op == 14) = false := by simpa using hne.2.2.1
    have b4 : (n.op == 15) = false := by simpa using hne.2.2.2
    rw [HV.out]
    unfold nv
    clear HV hk ha h3 h4 hg hne
    go_enter Try.func61, Try.ntmps61
    go_wp2
    go_ret
    exact ⟨rfl, HB.out _⟩
  · obtain ⟨hi0, hi4⟩ := (fld_i hk).2.1 ha
    have HV : Hid (agentD n = 2 ^ n.i.toNat) := Lib.hid (by unfold agentD; rw [if_pos ha])
    have hop : n.op = 9 ∨ n.op = 10 ∨ n.op = 14 ∨ n.op = 15 := by
      unfold hasAgent at ha
      simp only [Bool.or_eq_true, decide_eq_true_eq] at ha
      omega
    obtain ⟨op, i, e, g, x, y⟩ := n
    have hi0 : 0 ≤ i := hi0
    have hi4 : i < 4 := hi4
    obtain ⟨k, rfl⟩ : ∃ k : Nat, i = (k : Int) := ⟨i.toNat, by omega⟩
    have hcases : k = 0 ∨ k = 1 ∨ k = 2 ∨ k = 3 := by omega
    have hop : op = 9 ∨ op = 10 ∨ op = 14 ∨ op = 15 := hop
    rw [HV.out]
    unfold nv
    clear HV hk ha hi0 hi4
    rcases hop with rfl | rfl | rfl | rfl <;> rcases hcases with rfl | rfl | rfl | rfl
    all_goals
      go_enter Try.func61, Try.ntmps61
      go_wp2
      go_ret
      exact ⟨rfl, HB.out _⟩
set_option maxRecDepth 100000 in
set_option maxHeartbeats 4000000 in
theorem col_frag (f : List Nd) (A : Option Addr) (n c : Nat) (w : World) (hR : Reads w w.heap.size 6 A n (nds f)) (hm : n ≤ maxLen) :
    Calls Try.prog 56 #[.slice A n c, .func (Fn.func 57) #[] #[]] w fun e w' => e = .returned (.int .i64 (maskL fragD (compF f) : Int)) ∧ Below w.heap.size w w' := by
  have HC := Lib.hid (pCompact_any f A n c w hR hm)
  have HG : Hid (∀ x, x ∈ compF f → ∀ W, Calls Try.prog 57 #[.agg #[.int .i64 x.op, .int .i64 x.i, .int .i64 x.e, .int .i64 x.g, .int .i64 x.x, .int .i64 x.y]] W fun e w' => e = .returned (.int .i64 (fragD x : Int)) ∧ Below W.heap.size W w') := Lib.hid (fun x hx W => fragCl_any x (compF_fld f x hx) W)
  have HLT : Hid (∀ x, x ∈ compF f → fragD x < 512) := Lib.hid (fun x hx => fragN_lt _)
  have hq63 : (compF f).length ≤ maxLen := Nat.le_trans (compF_le f) (by rw [hR.nd_len]; exact hm)
  unfold maxLen at hq63
  generalize compF f = q at *
  have HTK : Hid (∀ k, maskL fragD (q.take k) < 512) := Lib.hid (fun k => maskL_lt _ _ (fun x hx => HLT.out x (List.mem_of_mem_take hx)))
  clear hR
  go_enter Try.func56, Try.ntmps56
  go_wp2_with fail
  refine (HC.out).mono ?_
  rintro e w1 ⟨A3, c3, rfl, hR3, hb1⟩
  have HR3 := Lib.hid hR3
  have HB1 := Lib.hid hb1
  clear hR3 hb1
  go_wp2
  go_loopw [5, 7, 11] (fun v u i wr => ∃ k : Nat, k ≤ q.length ∧ i = .int .i64 k ∧ v = .int .i64 ((maskL fragD (q.take k) : Nat) : Int) ∧ Hid (Below w1.heap.size w1 wr)) (fun _ _ i _ => q.length - (intOf i).toNat)
  case atStart => exact ⟨0, Nat.zero_le _, rfl, rfl, Lib.hid (Below.refl _ _)⟩
  case round =>
    obtain ⟨k, hk, rfl, rfl, HB⟩ := hrel
    by_cases hlt : k < q.length
    · obtain ⟨ad, rfl, hb, m0, m1, m2, m3, m4, m5⟩ := (HR3.out.below HB.out).nd_at hlt
      have HT := Lib.hid (maskL_take fragD q k hlt)
      have hmem := getD_mem hlt
      obtain ⟨x, hx⟩ : ∃ x, q.getD k nd0 = x := ⟨_, rfl⟩
      rw [hx] at m0 m1 m2 m3 m4 m5 HT hmem
      have l1 := add_cell m1
      have l2 := add_cell m2
      have l3 := add_cell m3
      have l4 := add_cell m4
      have l5 := add_cell m5
      have HGX := Lib.hid (HG.out x hmem)
      have hor := or_small (maskL fragD (q.take k)) (fragD x) (HTK.out k) (HLT.out x hmem)
      rw [← HT.out] at hor
      have HA : Hid (∀ o w', Below (wr.alloc o).heap.size (wr.alloc o) w' → Below w1.heap.size w1 w') := Lib.hid (fun o w' h => (HB.out.alloc HB.out.size o).trans (h.mono (by have := HB.out.size; simp; omega)))
      clear hx hmem
      generalize fragD x = z at *
      generalize maskL fragD (q.take k) = mk at *
      generalize hmk : maskL fragD (q.take (k + 1)) = mk2 at *
      have HMK := Lib.hid hmk
      clear hmk
      go_wp2_with fail
      refine (HGX.out _).mono ?_
      rintro e w3 ⟨rfl, hb3⟩
      have HB3 := Lib.hid (HA.out _ _ hb3)
      clear hb3 m0 m1 m2 m3 m4 m5 l1 l2 l3 l4 l5
      go_wp2
      go_roundw
      case rel => exact ⟨k + 1, by omega, by go_num, by rw [HMK.out], HB3⟩
      case measure => simp [intOf]; omega
    · have hkq : k = q.length := by omega
      have HE : Hid (q.take k = q) := Lib.hid (by rw [hkq, List.take_length])
      rw [HE.out]
      clear hlt
      go_wp2
      go_ret
      exact ⟨rfl, HB1.out.trans (HB.out.mono HB1.out.size)⟩
theorem pFrags_any (f : List Nd) (A : Option Addr) (n c : Nat) (w : World) (hR : Reads w w.heap.size 6 A n (nds f)) (hm : n ≤ maxLen) :
    Calls Try.prog 16 #[.slice A n c] w fun e w' => e = .returned (.int .i64 (maskL fragD (compF f) : Int)) ∧ Below w.heap.size w w' := by
  have HC := Lib.hid (col_frag f A n c w hR hm)
  generalize maskL fragD (compF f) = z at *
  clear hR
  go_enter Try.func16, Try.ntmps16
  go_wp2_with fail
  refine (HC.out).mono ?_
  rintro e w1 ⟨rfl, hb1⟩
  have HB1 := Lib.hid hb1
  clear hb1
  go_wp2
  go_ret
  exact ⟨rfl, HB1.out⟩
set_option maxRecDepth 100000 in
set_option maxHeartbeats 4000000 in
theorem col_fact (f : List Nd) (A : Option Addr) (n c : Nat) (w : World) (hR : Reads w w.heap.size 6 A n (nds f)) (hm : n ≤ maxLen) :
    Calls Try.prog 56 #[.slice A n c, .func (Fn.func 60) #[] #[]] w fun e w' => e = .returned (.int .i64 (maskL factD (compF f) : Int)) ∧ Below w.heap.size w w' := by
  have HC := Lib.hid (pCompact_any f A n c w hR hm)
  have HG : Hid (∀ x, x ∈ compF f → ∀ W, Calls Try.prog 60 #[.agg #[.int .i64 x.op, .int .i64 x.i, .int .i64 x.e, .int .i64 x.g, .int .i64 x.x, .int .i64 x.y]] W fun e w' => e = .returned (.int .i64 (factD x : Int)) ∧ Below W.heap.size W w') := Lib.hid (fun x hx W => factsOf_any x (compF_fld f x hx) W)
  have HLT : Hid (∀ x, x ∈ compF f → factD x < 512) := Lib.hid (fun x hx => factD_lt (compF_fld f x hx))
  have hq63 : (compF f).length ≤ maxLen := Nat.le_trans (compF_le f) (by rw [hR.nd_len]; exact hm)
  unfold maxLen at hq63
  generalize compF f = q at *
  have HTK : Hid (∀ k, maskL factD (q.take k) < 512) := Lib.hid (fun k => maskL_lt _ _ (fun x hx => HLT.out x (List.mem_of_mem_take hx)))
  clear hR
  go_enter Try.func56, Try.ntmps56
  go_wp2_with fail
  refine (HC.out).mono ?_
  rintro e w1 ⟨A3, c3, rfl, hR3, hb1⟩
  have HR3 := Lib.hid hR3
  have HB1 := Lib.hid hb1
  clear hR3 hb1
  go_wp2
  go_loopw [5, 7, 11] (fun v u i wr => ∃ k : Nat, k ≤ q.length ∧ i = .int .i64 k ∧ v = .int .i64 ((maskL factD (q.take k) : Nat) : Int) ∧ Hid (Below w1.heap.size w1 wr)) (fun _ _ i _ => q.length - (intOf i).toNat)
  case atStart => exact ⟨0, Nat.zero_le _, rfl, rfl, Lib.hid (Below.refl _ _)⟩
  case round =>
    obtain ⟨k, hk, rfl, rfl, HB⟩ := hrel
    by_cases hlt : k < q.length
    · obtain ⟨ad, rfl, hb, m0, m1, m2, m3, m4, m5⟩ := (HR3.out.below HB.out).nd_at hlt
      have HT := Lib.hid (maskL_take factD q k hlt)
      have hmem := getD_mem hlt
      obtain ⟨x, hx⟩ : ∃ x, q.getD k nd0 = x := ⟨_, rfl⟩
      rw [hx] at m0 m1 m2 m3 m4 m5 HT hmem
      have l1 := add_cell m1
      have l2 := add_cell m2
      have l3 := add_cell m3
      have l4 := add_cell m4
      have l5 := add_cell m5
      have HGX := Lib.hid (HG.out x hmem)
      have hor := or_small (maskL factD (q.take k)) (factD x) (HTK.out k) (HLT.out x hmem)
      rw [← HT.out] at hor
      have HA : Hid (∀ o w', Below (wr.alloc o).heap.size (wr.alloc o) w' → Below w1.heap.size w1 w') := Lib.hid (fun o w' h => (HB.out.alloc HB.out.size o).trans (h.mono (by have := HB.out.size; simp; omega)))
      clear hx hmem
      generalize factD x = z at *
      generalize maskL factD (q.take k) = mk at *
      generalize hmk : maskL factD (q.take (k + 1)) = mk2 at *
      have HMK := Lib.hid hmk
      clear hmk
      go_wp2_with fail
      refine (HGX.out _).mono ?_
      rintro e w3 ⟨rfl, hb3⟩
      have HB3 := Lib.hid (HA.out _ _ hb3)
      clear hb3 m0 m1 m2 m3 m4 m5 l1 l2 l3 l4 l5
      go_wp2
      go_roundw
      case rel => exact ⟨k + 1, by omega, by go_num, by rw [HMK.out], HB3⟩
      case measure => simp [intOf]; omega
    · have hkq : k = q.length := by omega
      have HE : Hid (q.take k = q) := Lib.hid (by rw [hkq, List.take_length])
      rw [HE.out]
      clear hlt
      go_wp2
      go_ret
      exact ⟨rfl, HB1.out.trans (HB.out.mono HB1.out.size)⟩
theorem pFacts_any (f : List Nd) (A : Option Addr) (n c : Nat) (w : World) (hR : Reads w w.heap.size 6 A n (nds f)) (hm : n ≤ maxLen) :
    Calls Try.prog 18 #[.slice A n c] w fun e w' => e = .returned (.int .i64 (maskL factD (compF f) : Int)) ∧ Below w.heap.size w w' := by
  have HC := Lib.hid (col_fact f A n c w hR hm)
  generalize maskL factD (compF f) = z at *
  clear hR
  go_enter Try.func18, Try.ntmps18
  go_wp2_with fail
  refine (HC.out).mono ?_
  rintro e w1 ⟨rfl, hb1⟩
  have HB1 := Lib.hid hb1
  clear hb1
  go_wp2
  go_ret
  exact ⟨rfl, HB1.out⟩
set_option maxRecDepth 100000 in
set_option maxHeartbeats 4000000 in
theorem col_agent (f : List Nd) (A : Option Addr) (n c : Nat) (w : World) (hR : Reads w w.heap.size 6 A n (nds f)) (hm : n ≤ maxLen) :
    Calls Try.prog 56 #[.slice A n c, .func (Fn.func 61) #[] #[]] w fun e w' => e = .returned (.int .i64 (maskL agentD (compF f) : Int)) ∧ Below w.heap.size w w' := by
  have HC := Lib.hid (pCompact_any f A n c w hR hm)
  have HG : Hid (∀ x, x ∈ compF f → ∀ W, Calls Try.prog 61 #[.agg #[.int .i64 x.op, .int .i64 x.i, .int .i64 x.e, .int .i64 x.g, .int .i64 x.x, .int .i64 x.y]] W fun e w' => e = .returned (.int .i64 (agentD x : Int)) ∧ Below W.heap.size W w') := Lib.hid (fun x hx W => agentsOf_any x (compF_fld f x hx) W)
  have HLT : Hid (∀ x, x ∈ compF f → agentD x < 512) := Lib.hid (fun x hx => agentD_lt (compF_fld f x hx))
  have hq63 : (compF f).length ≤ maxLen := Nat.le_trans (compF_le f) (by rw [hR.nd_len]; exact hm)
  unfold maxLen at hq63
  generalize compF f = q at *
  have HTK : Hid (∀ k, maskL agentD (q.take k) < 512) := Lib.hid (fun k => maskL_lt _ _ (fun x hx => HLT.out x (List.mem_of_mem_take hx)))
  clear hR
  go_enter Try.func56, Try.ntmps56
  go_wp2_with fail
  refine (HC.out).mono ?_
  rintro e w1 ⟨A3, c3, rfl, hR3, hb1⟩
  have HR3 := Lib.hid hR3
  have HB1 := Lib.hid hb1
  clear hR3 hb1
  go_wp2
  go_loopw [5, 7, 11] (fun v u i wr => ∃ k : Nat, k ≤ q.length ∧ i = .int .i64 k ∧ v = .int .i64 ((maskL agentD (q.take k) : Nat) : Int) ∧ Hid (Below w1.heap.size w1 wr)) (fun _ _ i _ => q.length - (intOf i).toNat)
  case atStart => exact ⟨0, Nat.zero_le _, rfl, rfl, Lib.hid (Below.refl _ _)⟩
  case round =>
    obtain ⟨k, hk, rfl, rfl, HB⟩ := hrel
    by_cases hlt : k < q.length
    · obtain ⟨ad, rfl, hb, m0, m1, m2, m3, m4, m5⟩ := (HR3.out.below HB.out).nd_at hlt
      have HT := Lib.hid (maskL_take agentD q k hlt)
      have hmem := getD_mem hlt
      obtain ⟨x, hx⟩ : ∃ x, q.getD k nd0 = x := ⟨_, rfl⟩
      rw [hx] at m0 m1 m2 m3 m4 m5 HT hmem
      have l1 := add_cell m1
      have l2 := add_cell m2
      have l3 := add_cell m3
      have l4 := add_cell m4
      have l5 := add_cell m5
      have HGX := Lib.hid (HG.out x hmem)
      have hor := or_small (maskL agentD (q.take k)) (agentD x) (HTK.out k) (HLT.out x hmem)
      rw [← HT.out] at hor
      have HA : Hid (∀ o w', Below (wr.alloc o).heap.size (wr.alloc o) w' → Below w1.heap.size w1 w') := Lib.hid (fun o w' h => (HB.out.alloc HB.out.size o).trans (h.mono (by have := HB.out.size; simp; omega)))
      clear hx hmem
      generalize agentD x = z at *
      generalize maskL agentD (q.take k) = mk at *
      generalize hmk : maskL agentD (q.take (k + 1)) = mk2 at *
      have HMK := Lib.hid hmk
      clear hmk
      go_wp2_with fail
      refine (HGX.out _).mono ?_
      rintro e w3 ⟨rfl, hb3⟩
      have HB3 := Lib.hid (HA.out _ _ hb3)
      clear hb3 m0 m1 m2 m3 m4 m5 l1 l2 l3 l4 l5
      go_wp2
      go_roundw
      case rel => exact ⟨k + 1, by omega, by go_num, by rw [HMK.out], HB3⟩
      case measure => simp [intOf]; omega
    · have hkq : k = q.length := by omega
      have HE : Hid (q.take k = q) := Lib.hid (by rw [hkq, List.take_length])
      rw [HE.out]
      clear hlt
      go_wp2
      go_ret
      exact ⟨rfl, HB1.out.trans (HB.out.mono HB1.out.size)⟩
theorem pAgents_any (f : List Nd) (A : Option Addr) (n c : Nat) (w : World) (hR : Reads w w.heap.size 6 A n (nds f)) (hm : n ≤ maxLen) :
    Calls Try.prog 20 #[.slice A n c] w fun e w' => e = .returned (.int .i64 (maskL agentD (compF f) : Int)) ∧ Below w.heap.size w w' := by
  have HC := Lib.hid (col_agent f A n c w hR hm)
  generalize maskL agentD (compF f) = z at *
  clear hR
  go_enter Try.func20, Try.ntmps20
  go_wp2_with fail
  refine (HC.out).mono ?_
  rintro e w1 ⟨rfl, hb1⟩
  have HB1 := Lib.hid hb1
  clear hb1
  go_wp2
  go_ret
  exact ⟨rfl, HB1.out⟩
end Go.Proofs.Ytcbmncafmofcpaa
