/- Layer 6: texts joined: Mf Mk Tt. -/
import Derived.Test.YtenbhalnpiahaaaGreatDoorJl
import Derived.Test.YtenbhalnpiahaaaGreatDoorJm
import Derived.Laws.BitsLemmas
import Derived.Shelf.Strconv.Itoa0
import Derived.Shelf.Lay
/- Layer 5: the masks of the program: fragments, facts, agents. -/
namespace Go.Proofs.Ws
open Go
def factD (n : Nd) : Nat := if n.op = 3 then 2 ^ n.i.toNat else 0
def agentD (n : Nd) : Nat := if hasAgent n.op = true then 2 ^ n.i.toNat else n.g.toNat
/-- the union of the masks of nodes -/
def maskL (g : Nd → Nat) (l : List Nd) : Nat := l.foldl (fun m n => m ||| g n) 0
theorem maskL_take (g : Nd → Nat) (l : List Nd) (k : Nat) (h : k < l.length) : maskL g (l.take (k + 1)) = maskL g (l.take k) ||| g (l.getD k nd0) := by
  unfold maskL
  rw [List.take_succ_eq_append_getElem h, List.foldl_append, show l.getD k nd0 = l[k] from by simp [h]]
  rfl
theorem maskL_lt (g : Nd → Nat) : ∀ (l : List Nd), (∀ n ∈ l, g n < 512) → maskL g l < 512 := by
  have : ∀ (l : List Nd) (a : Nat), a < 512 → (∀ n ∈ l, g n < 512) → l.foldl (fun m n => m ||| g n) a < 512 := by
    intro l
    induction l with
    | nil => intro a h _; exact h
    | cons n l ih =>
      intro a h hl
      exact ih _ (Nat.or_lt_two_pow (n := 9) h (hl n (by simp))) (fun m hm => hl m (by simp [hm]))
  exact fun l h => this l 0 (by decide) h
theorem fld_i {n : Nd} (h : fldOk n) : (n.op = 3 → 0 ≤ n.i ∧ n.i < 8) ∧ (hasAgent n.op = true → 0 ≤ n.i ∧ n.i < 4) ∧ (hasGroup n.op = true → 1 ≤ n.g ∧ n.g ≤ 15) ∧ (hasGroup n.op = false → n.g = 0) := by
  obtain ⟨_, ⟨_, _, hg⟩, hr⟩ := h
  unfold rangeOk shN shE shG at hr
  simp only [Bool.and_eq_true, Bool.or_eq_true, decide_eq_true_eq, beq_iff_eq] at hr
  obtain ⟨⟨hi, _⟩, hgg⟩ := hr
  refine ⟨fun h3 => ?_, fun ha => ?_, fun hgr => ?_, fun hgr => ?_⟩
  · rw [if_pos h3] at hi; omega
  · by_cases h3 : n.op = 3
    · rw [h3] at ha; exact absurd ha (by decide)
    · rw [if_neg h3, if_pos ha] at hi; omega
  · rw [if_pos hgr] at hgg; omega
  · rcases hg with h | h
    · rw [h] at hgr; cases hgr
    · exact h
theorem factD_lt {n : Nd} (h : fldOk n) : factD n < 512 := by
  unfold factD
  split
  · rename_i h3
    have := (fld_i h).1 h3
    exact Nat.pow_lt_pow_right (by decide) (show n.i.toNat < 9 by omega)
  · decide
theorem agentD_lt {n : Nd} (h : fldOk n) : agentD n < 512 := by
  unfold agentD
  obtain ⟨_, h2, h3, h4⟩ := fld_i h
  split
  · rename_i ha
    have := h2 ha
    exact Nat.pow_lt_pow_right (by decide) (show n.i.toNat < 9 by omega)
  · cases hg : hasGroup n.op
    · have := h4 hg; omega
    · have := h3 hg; omega
end Go.Proofs.Ws
namespace Go.Proofs.YtenbhalnpiahaaaGreatDoor
open Go.RowKit Go.Proofs.Ws Go.Maps
theorem or_small (a b : Nat) (ha : a < 512) (hb : b < 512) : bits .or .i64 (a : Int) (b : Int) = ((a ||| b : Nat) : Int) :=
  (bits_nat .i64 9 (by decide) (fun n h0 h1 => by rw [IntKind.wrap_i64]; omega) a b ha hb).2
set_option maxRecDepth 100000 in
theorem factsOf_any (n : Nd) (hk : fldOk n) (w : World) : Calls Tryz.prog 46 #[nv n] w fun e w' => e = .returned (.int .i64 (factD n : Int)) ∧ Below w.heap.size w w' := by
  have HB : Hid (∀ o, Below w.heap.size w (w.alloc o)) := Lib.hid (fun o => (Below.refl _ w).alloc (Nat.le_refl _) o)
  by_cases h3 : n.op = 3
  · obtain ⟨hi0, hi8⟩ := (fld_i hk).1 h3
    have HV : Hid (factD n = 2 ^ n.i.toNat) := Lib.hid (by unfold factD; rw [if_pos h3])
    obtain ⟨op, i, e, g, x, y⟩ := n
    have h3 : op = 3 := h3
    subst h3
    have hi0 : 0 ≤ i := hi0
    have hi8 : i < 8 := hi8
    obtain ⟨k, rfl⟩ : ∃ k : Nat, i = (k : Int) := ⟨i.toNat, by omega⟩
    have hk8 : k < 8 := by omega
    rw [HV.out]
    clear HV hk
    have hcases : k = 0 ∨ k = 1 ∨ k = 2 ∨ k = 3 ∨ k = 4 ∨ k = 5 ∨ k = 6 ∨ k = 7 := by omega
    unfold nv
    clear hi0 hi8 hk8
    rcases hcases with rfl | rfl | rfl | rfl | rfl | rfl | rfl | rfl
    all_goals
      go_enter Tryz.func46, Tryz.ntmps46
      go_wp2
      go_ret
      exact ⟨rfl, HB.out _⟩
  · have HV : Hid (factD n = 0) := Lib.hid (by unfold factD; rw [if_neg h3])
    have hb : (n.op == 3) = false := by simpa using h3
    rw [HV.out]
    unfold nv
    clear HV hk h3
    go_enter Tryz.func46, Tryz.ntmps46
    go_wp2
    go_ret
    exact ⟨rfl, HB.out _⟩
set_option maxRecDepth 100000 in
theorem agentsOf_any (n : Nd) (hk : fldOk n) (w : World) : Calls Tryz.prog 47 #[nv n] w fun e w' => e = .returned (.int .i64 (agentD n : Int)) ∧ Below w.heap.size w w' := by
  have HB : Hid (∀ o, Below w.heap.size w (w.alloc o)) := Lib.hid (fun o => (Below.refl _ w).alloc (Nat.le_refl _) o)
  cases ha : hasAgent n.op
  · obtain ⟨_, _, h3, h4⟩ := fld_i hk
    have hg : ((n.g.toNat : Nat) : Int) = n.g := by
      cases hgr : hasGroup n.op
      · have := h4 hgr; omega
      · have := h3 hgr; omega
    have HV : Hid (((agentD n : Nat) : Int) = n.g) := Lib.hid (by unfold agentD; rw [ha]; simpa using hg)
    have hne : n.op ≠ 9 ∧ n.op ≠ 10 ∧ n.op ≠ 14 ∧ n.op ≠ 15 := by
      unfold hasAgent at ha
      simp only [Bool.or_eq_false_iff, decide_eq_false_iff_not] at ha
      omega
    have b1 : (n.op == 9) = false := by simpa using hne.1
    have b2 : (n.op == 10) = false := by simpa using hne.2.1
    have b3 : (n.op == 14) = false := by simpa using hne.2.2.1
    have b4 : (n.op == 15) = false := by simpa using hne.2.2.2
    rw [HV.out]
    unfold nv
    clear HV hk ha h3 h4 hg hne
    go_enter Tryz.func47, Tryz.ntmps47
    go_wp2
    go_ret
    exact ⟨rfl, HB.out _⟩
  · obtain ⟨hi0, hi4⟩ := (fld_i hk).2.1 ha
    have HV : Hid (agentD n = 2 ^ n.i.toNat) := Lib.hid (by unfold agentD; rw [if_pos ha])
    have hop : n.op = 9 ∨ n.op = 10 ∨ n.op = 14 ∨ n.op = 15 := by
      unfold hasAgent at ha
      simp only [Bool.or_eq_true, decide_eq_true_eq] at ha
      omega
    obtain ⟨op, i, e, g, x, y⟩ := n
    have hi0 : 0 ≤ i := hi0
    have hi4 : i < 4 := hi4
    obtain ⟨k, rfl⟩ : ∃ k : Nat, i = (k : Int) := ⟨i.toNat, by omega⟩
    have hcases : k = 0 ∨ k = 1 ∨ k = 2 ∨ k = 3 := by omega
    have hop : op = 9 ∨ op = 10 ∨ op = 14 ∨ op = 15 := hop
    rw [HV.out]
    unfold nv
    clear HV hk ha hi0 hi4
    rcases hop with rfl | rfl | rfl | rfl <;> rcases hcases with rfl | rfl | rfl | rfl
    all_goals
      go_enter Tryz.func47, Tryz.ntmps47
      go_wp2
      go_ret
      exact ⟨rfl, HB.out _⟩
set_option maxRecDepth 100000 in
set_option maxHeartbeats 4000000 in
theorem col_fact (f : List Nd) (A : Option Addr) (n c : Nat) (w : World) (hR : Reads w w.heap.size 6 A n (nds f)) (hm : n ≤ maxLen) :
    Calls Tryz.prog 45 #[.slice A n c, .func (Fn.func 46) #[] #[]] w fun e w' => e = .returned (.int .i64 (maskL factD (compF f) : Int)) ∧ Below w.heap.size w w' := by
  have HC := Lib.hid (pCompact_any f A n c w hR hm)
  have HG : Hid (∀ x, x ∈ compF f → ∀ W, Calls Tryz.prog 46 #[.agg #[.int .i64 x.op, .int .i64 x.i, .int .i64 x.e, .int .i64 x.g, .int .i64 x.x, .int .i64 x.y]] W fun e w' => e = .returned (.int .i64 (factD x : Int)) ∧ Below W.heap.size W w') := Lib.hid (fun x hx W => factsOf_any x (compF_fld f x hx) W)
  have HLT : Hid (∀ x, x ∈ compF f → factD x < 512) := Lib.hid (fun x hx => factD_lt (compF_fld f x hx))
  have hq63 : (compF f).length ≤ maxLen := Nat.le_trans (compF_le f) (by rw [hR.nd_len]; exact hm)
  unfold maxLen at hq63
  generalize compF f = q at *
  have HTK : Hid (∀ k, maskL factD (q.take k) < 512) := Lib.hid (fun k => maskL_lt _ _ (fun x hx => HLT.out x (List.mem_of_mem_take hx)))
  clear hR
  go_enter Tryz.func45, Tryz.ntmps45
  go_wp2_with fail
  refine (HC.out).mono ?_
  rintro e w1 ⟨A3, c3, rfl, hR3, hb1⟩
  have HR3 := Lib.hid hR3
  have HB1 := Lib.hid hb1
  clear hR3 hb1
  go_wp2
  go_loopw [5, 7, 11] (fun v u i wr => ∃ k : Nat, k ≤ q.length ∧ i = .int .i64 k ∧ v = .int .i64 ((maskL factD (q.take k) : Nat) : Int) ∧ Hid (Below w1.heap.size w1 wr)) (fun _ _ i _ => q.length - (intOf i).toNat)
  case atStart => exact ⟨0, Nat.zero_le _, rfl, rfl, Lib.hid (Below.refl _ _)⟩
  case round =>
    obtain ⟨k, hk, rfl, rfl, HB⟩ := hrel
    by_cases hlt : k < q.length
    · obtain ⟨ad, rfl, hb, m0, m1, m2, m3, m4, m5⟩ := (HR3.out.below HB.out).nd_at hlt
      have HT := Lib.hid (maskL_take factD q k hlt)
      have hmem := getD_mem hlt
      obtain ⟨x, hx⟩ : ∃ x, q.getD k nd0 = x := ⟨_, rfl⟩
      rw [hx] at m0 m1 m2 m3 m4 m5 HT hmem
      have l1 := add_cell m1
      have l2 := add_cell m2
      have l3 := add_cell m3
      have l4 := add_cell m4
      have l5 := add_cell m5
      have HGX := Lib.hid (HG.out x hmem)
      have hor := or_small (maskL factD (q.take k)) (factD x) (HTK.out k) (HLT.out x hmem)
      rw [← HT.out] at hor
      have HA : Hid (∀ o w', Below (wr.alloc o).heap.size (wr.alloc o) w' → Below w1.heap.size w1 w') := Lib.hid (fun o w' h => (HB.out.alloc HB.out.size o).trans (h.mono (by have := HB.out.size; simp; omega)))
      clear hx hmem
      generalize factD x = z at *
      generalize maskL factD (q.take k) = mk at *
      generalize hmk : maskL factD (q.take (k + 1)) = mk2 at *
      have HMK := Lib.hid hmk
      clear hmk
      go_wp2_with fail
      refine (HGX.out _).mono ?_
      rintro e w3 ⟨rfl, hb3⟩
      have HB3 := Lib.hid (HA.out _ _ hb3)
      clear hb3 m0 m1 m2 m3 m4 m5 l1 l2 l3 l4 l5
      go_wp2
      go_roundw
      case rel => exact ⟨k + 1, by omega, by go_num, by rw [HMK.out], HB3⟩
      case measure => simp [intOf]; omega
    · have hkq : k = q.length := by omega
      have HE : Hid (q.take k = q) := Lib.hid (by rw [hkq, List.take_length])
      rw [HE.out]
      clear hlt
      go_wp2
      go_ret
      exact ⟨rfl, HB1.out.trans (HB.out.mono HB1.out.size)⟩
theorem pFacts_any (f : List Nd) (A : Option Addr) (n c : Nat) (w : World) (hR : Reads w w.heap.size 6 A n (nds f)) (hm : n ≤ maxLen) :
    Calls Tryz.prog 22 #[.slice A n c] w fun e w' => e = .returned (.int .i64 (maskL factD (compF f) : Int)) ∧ Below w.heap.size w w' := by
  have HC := Lib.hid (col_fact f A n c w hR hm)
  generalize maskL factD (compF f) = z at *
  clear hR
  go_enter Tryz.func22, Tryz.ntmps22
  go_wp2_with fail
  refine (HC.out).mono ?_
  rintro e w1 ⟨rfl, hb1⟩
  have HB1 := Lib.hid hb1
  clear hb1
  go_wp2
  go_ret
  exact ⟨rfl, HB1.out⟩
set_option maxRecDepth 100000 in
set_option maxHeartbeats 4000000 in
theorem col_agent (f : List Nd) (A : Option Addr) (n c : Nat) (w : World) (hR : Reads w w.heap.size 6 A n (nds f)) (hm : n ≤ maxLen) :
    Calls Tryz.prog 45 #[.slice A n c, .func (Fn.func 47) #[] #[]] w fun e w' => e = .returned (.int .i64 (maskL agentD (compF f) : Int)) ∧ Below w.heap.size w w' := by
  have HC := Lib.hid (pCompact_any f A n c w hR hm)
  have HG : Hid (∀ x, x ∈ compF f → ∀ W, Calls Tryz.prog 47 #[.agg #[.int .i64 x.op, .int .i64 x.i, .int .i64 x.e, .int .i64 x.g, .int .i64 x.x, .int .i64 x.y]] W fun e w' => e = .returned (.int .i64 (agentD x : Int)) ∧ Below W.heap.size W w') := Lib.hid (fun x hx W => agentsOf_any x (compF_fld f x hx) W)
  have HLT : Hid (∀ x, x ∈ compF f → agentD x < 512) := Lib.hid (fun x hx => agentD_lt (compF_fld f x hx))
  have hq63 : (compF f).length ≤ maxLen := Nat.le_trans (compF_le f) (by rw [hR.nd_len]; exact hm)
  unfold maxLen at hq63
  generalize compF f = q at *
  have HTK : Hid (∀ k, maskL agentD (q.take k) < 512) := Lib.hid (fun k => maskL_lt _ _ (fun x hx => HLT.out x (List.mem_of_mem_take hx)))
  clear hR
  go_enter Tryz.func45, Tryz.ntmps45
  go_wp2_with fail
  refine (HC.out).mono ?_
  rintro e w1 ⟨A3, c3, rfl, hR3, hb1⟩
  have HR3 := Lib.hid hR3
  have HB1 := Lib.hid hb1
  clear hR3 hb1
  go_wp2
  go_loopw [5, 7, 11] (fun v u i wr => ∃ k : Nat, k ≤ q.length ∧ i = .int .i64 k ∧ v = .int .i64 ((maskL agentD (q.take k) : Nat) : Int) ∧ Hid (Below w1.heap.size w1 wr)) (fun _ _ i _ => q.length - (intOf i).toNat)
  case atStart => exact ⟨0, Nat.zero_le _, rfl, rfl, Lib.hid (Below.refl _ _)⟩
  case round =>
    obtain ⟨k, hk, rfl, rfl, HB⟩ := hrel
    by_cases hlt : k < q.length
    · obtain ⟨ad, rfl, hb, m0, m1, m2, m3, m4, m5⟩ := (HR3.out.below HB.out).nd_at hlt
      have HT := Lib.hid (maskL_take agentD q k hlt)
      have hmem := getD_mem hlt
      obtain ⟨x, hx⟩ : ∃ x, q.getD k nd0 = x := ⟨_, rfl⟩
      rw [hx] at m0 m1 m2 m3 m4 m5 HT hmem
      have l1 := add_cell m1
      have l2 := add_cell m2
      have l3 := add_cell m3
      have l4 := add_cell m4
      have l5 := add_cell m5
      have HGX := Lib.hid (HG.out x hmem)
      have hor := or_small (maskL agentD (q.take k)) (agentD x) (HTK.out k) (HLT.out x hmem)
      rw [← HT.out] at hor
      have HA : Hid (∀ o w', Below (wr.alloc o).heap.size (wr.alloc o) w' → Below w1.heap.size w1 w') := Lib.hid (fun o w' h => (HB.out.alloc HB.out.size o).trans (h.mono (by have := HB.out.size; simp; omega)))
      clear hx hmem
      generalize agentD x = z at *
      generalize maskL agentD (q.take k) = mk at *
      generalize hmk : maskL agentD (q.take (k + 1)) = mk2 at *
      have HMK := Lib.hid hmk
      clear hmk
      go_wp2_with fail
      refine (HGX.out _).mono ?_
      rintro e w3 ⟨rfl, hb3⟩
      have HB3 := Lib.hid (HA.out _ _ hb3)
      clear hb3 m0 m1 m2 m3 m4 m5 l1 l2 l3 l4 l5
      go_wp2
      go_roundw
      case rel => exact ⟨k + 1, by omega, by go_num, by rw [HMK.out], HB3⟩
      case measure => simp [intOf]; omega
    · have hkq : k = q.length := by omega
      have HE : Hid (q.take k = q) := Lib.hid (by rw [hkq, List.take_length])
      rw [HE.out]
      clear hlt
      go_wp2
      go_ret
      exact ⟨rfl, HB1.out.trans (HB.out.mono HB1.out.size)⟩
theorem pAgents_any (f : List Nd) (A : Option Addr) (n c : Nat) (w : World) (hR : Reads w w.heap.size 6 A n (nds f)) (hm : n ≤ maxLen) :
    Calls Tryz.prog 23 #[.slice A n c] w fun e w' => e = .returned (.int .i64 (maskL agentD (compF f) : Int)) ∧ Below w.heap.size w w' := by
  have HC := Lib.hid (col_agent f A n c w hR hm)
  generalize maskL agentD (compF f) = z at *
  clear hR
  go_enter Tryz.func23, Tryz.ntmps23
  go_wp2_with fail
  refine (HC.out).mono ?_
  rintro e w1 ⟨rfl, hb1⟩
  have HB1 := Lib.hid hb1
  clear hb1
  go_wp2
  go_ret
  exact ⟨rfl, HB1.out⟩
end Go.Proofs.YtenbhalnpiahaaaGreatDoor
/- Layer 5: Fits of the program. -/
namespace Go.Proofs
open Go.Shelf Go.RowKit
shelf_lay Lays.n129 Nm 129 at Tryz as Tryz.lays129
end Go.Proofs
namespace Go.Proofs.Ws
open Go
def belowM (m : Nat) (l : Int) : Bool := decide (m = 0) || decide (((Lib.bitLen m : Nat) : Int) ≤ l)
def fitsF (f : List Nd) (a b : Int) : Bool := decide (fErr f = 0) && (belowM (maskL agentD (compF f)) a && belowM (maskL factD (compF f)) b)
end Go.Proofs.Ws
namespace Go.Proofs.YtenbhalnpiahaaaGreatDoor
open Go.RowKit Go.Proofs.Ws Go.Maps
theorem len64_any (x : Nat) (w : World) (hx : x < 18446744073709551616) :
    Calls Tryz.prog 110 #[.int .u64 x] w fun e w' => e = .returned (.int .i64 (Lib.bitLen x)) ∧ w = w' := by
  have h := Any.bits_Len64 Tryz.lays129 x w (by omega) (by omega)
  rw [Int.toNat_natCast] at h
  exact h.mono fun e w' ⟨h1, h2⟩ => ⟨h1, h2.symm⟩
theorem len_any (x : Nat) (w : World) (hx : x < 512) :
    Calls Tryz.prog 81 #[.int .u64 x] w fun e w' => e = .returned (.int .i64 (Lib.bitLen x)) ∧ w = w' := by
  have HC := Lib.hid (len64_any x w (by omega))
  generalize Lib.bitLen x = z at *
  go_enter Tryz.func81, Tryz.ntmps81
  go_wp2_with fail
  refine (HC.out).mono ?_
  rintro e w1 ⟨rfl, rfl⟩
  go_wp2
  go_ret
  exact ⟨rfl, rfl⟩
theorem allBelow_any (x : Nat) (l : Int) (w : World) (hx : x < 512) :
    Calls Tryz.prog 44 #[.int .i64 (x : Int), .int .i64 l] w fun e w' => e = .returned (.bool (belowM x l)) ∧ w = w' := by
  by_cases h0 : x = 0
  · have HV : Hid (belowM x l = true) := Lib.hid (by unfold belowM; rw [decide_eq_true h0]; rfl)
    rw [HV.out]
    subst h0
    go_enter Tryz.func44, Tryz.ntmps44
    go_wp2
    go_ret
    exact ⟨rfl, rfl⟩
  · have HC := Lib.hid (len_any x w hx)
    have HV : Hid (belowM x l = decide (((Lib.bitLen x : Nat) : Int) ≤ l)) := Lib.hid (by unfold belowM; rw [decide_eq_false h0]; rfl)
    have hb : ((x : Int) == 0) = false := by simp; omega
    have hw : IntKind.u64.wrap (x : Int) = (x : Int) := by rw [IntKind.wrap_u64]; omega
    rw [HV.out]
    clear HV h0
    generalize Lib.bitLen x = z at *
    generalize hd : decide ((z : Int) ≤ l) = b at *
    go_enter Tryz.func44, Tryz.ntmps44
    go_wp2_with fail
    refine (HC.out).mono ?_
    rintro e w1 ⟨rfl, rfl⟩
    go_wp2
    go_ret
    exact ⟨rfl, rfl⟩
theorem agentM_lt (f : List Nd) : maskL agentD (compF f) < 512 := maskL_lt _ _ (fun x hx => agentD_lt (compF_fld f x hx))
theorem factM_lt (f : List Nd) : maskL factD (compF f) < 512 := maskL_lt _ _ (fun x hx => factD_lt (compF_fld f x hx))
set_option maxRecDepth 100000 in
theorem pFits_any (f : List Nd) (a b : Int) (A : Option Addr) (n c : Nat) (w : World) (hR : Reads w w.heap.size 6 A n (nds f)) (hm : n ≤ maxLen) :
    Calls Tryz.prog 21 #[.slice A n c, .int .i64 a, .int .i64 b] w fun e w' => e = .returned (.bool (fitsF f a b)) ∧ Below w.heap.size w w' := by
  have HV := Lib.hid (pValid_any f A n c w hR hm)
  have HA : Hid (∀ W, Below w.heap.size w W → Calls Tryz.prog 23 #[.slice A n c] W fun e w' => e = .returned (.int .i64 (maskL agentD (compF f) : Int)) ∧ Below W.heap.size W w') := Lib.hid (fun W h => pAgents_any f A n c W ((hR.below h).more h.size) hm)
  have HF : Hid (∀ W, Below w.heap.size w W → Calls Tryz.prog 22 #[.slice A n c] W fun e w' => e = .returned (.int .i64 (maskL factD (compF f) : Int)) ∧ Below W.heap.size W w') := Lib.hid (fun W h => pFacts_any f A n c W ((hR.below h).more h.size) hm)
  have HBA := Lib.hid (fun W => allBelow_any (maskL agentD (compF f)) a W (agentM_lt f))
  have HBF := Lib.hid (fun W => allBelow_any (maskL factD (compF f)) b W (factM_lt f))
  unfold fitsF
  generalize maskL agentD (compF f) = ma at *
  generalize maskL factD (compF f) = mf at *
  have hE : (fErr f == 0) = decide (fErr f = 0) := by cases h : decide (fErr f = 0) <;> simp_all
  rw [hE] at HV
  generalize decide (fErr f = 0) = z at *
  generalize belowM ma a = ba at *
  generalize belowM mf b = bb at *
  clear hR hE
  cases z
  · go_enter Tryz.func21, Tryz.ntmps21
    go_wp2_with fail
    refine (HV.out).mono ?_
    rintro e w1 ⟨rfl, hb1⟩
    have HB1 := Lib.hid hb1
    clear hb1
    go_wp2
    go_ret
    exact ⟨rfl, HB1.out⟩
  · go_enter Tryz.func21, Tryz.ntmps21
    go_wp2_with fail
    refine (HV.out).mono ?_
    rintro e w1 ⟨rfl, hb1⟩
    have HB1 := Lib.hid hb1
    clear hb1
    go_wp2_with fail
    refine (HA.out _ HB1.out).mono ?_
    rintro e w2 ⟨rfl, hb2⟩
    have HB2 := Lib.hid (HB1.out.trans (hb2.mono HB1.out.size))
    clear hb2
    go_wp2_with fail
    refine (HBA.out _).mono ?_
    rintro e w3 ⟨rfl, rfl⟩
    cases ba
    · go_wp2
      go_ret
      exact ⟨rfl, HB2.out⟩
    · go_wp2_with fail
      refine (HF.out _ HB2.out).mono ?_
      rintro e w3 ⟨rfl, hb3⟩
      have HB3 := Lib.hid (HB2.out.trans (hb3.mono HB2.out.size))
      clear hb3
      go_wp2_with fail
      refine (HBF.out _).mono ?_
      rintro e w4 ⟨rfl, rfl⟩
      go_wp2
      go_ret
      exact ⟨by simp, HB3.out⟩
end Go.Proofs.YtenbhalnpiahaaaGreatDoor
/- Layer 6 as plain mathematics: what was read is a formula within the names of the signature. -/
namespace Go.Proofs.Ws
open Go
theorem maskL_pow (g : Nd → Nat) (e : Nat) (l : List Nd) (h : ∀ n ∈ l, g n < 2 ^ e) : maskL g l < 2 ^ e := by
  have : ∀ (l : List Nd) (a : Nat), a < 2 ^ e → (∀ n ∈ l, g n < 2 ^ e) → l.foldl (fun m n => m ||| g n) a < 2 ^ e := by
    intro l
    induction l with
    | nil => intro a ha _; exact ha
    | cons n l ih => intro a ha hl; exact ih _ (Nat.or_lt_two_pow ha (hl n (by simp))) (fun m hm => hl m (by simp [hm]))
  exact this l 0 (Nat.two_pow_pos e) h
theorem belowM_pow {m k : Nat} (hk : k ≤ 64) (h : m < 2 ^ k) : belowM m (k : Int) = true := by
  unfold belowM
  rw [decide_eq_true (show ((Lib.bitLen m : Nat) : Int) ≤ (k : Int) by have := Lib.bitLen_le m k hk h; omega), Bool.or_true]
end Go.Proofs.Ws
namespace Go.Proofs.YtenbhalnpiahaaaGreatDoor
open Go.RowKit Go.Proofs.Ws Go.Maps
theorem tok_formula {E : PEnv} {t : Tr} (h : TOk E t) (hl : (canT t).length ≤ 200) : fErr (canT t) = 0 ∧ compF (canT t) = canT t ∧ (∀ m ∈ canT t, okE E m) ∧ 0 < (canT t).length := by
  have h3 : ∀ m ∈ canT t, okE E m := fun m hm => okE_bare.1 (finT_all (P := okE E) t h.1 h.2 (fun n hn => absurd hn (by simp)) m hm)
  have hok : fErr (canT t) = 0 := fErr_zero (canT_ne t) hl (fun j hj => ⟨canT_ops h.1 j hj, (h3 _ (getD_mem hj)).1⟩)
  exact ⟨hok, by unfold compF; rw [if_pos hok, canonF_canT h.1], h3, List.length_pos_iff.2 (canT_ne t)⟩
theorem fld_num0 {n : Nd} (h : fldOk n) (hi : n.op = 3 ∨ hasAgent n.op = true) : 0 ≤ n.i := by
  have h3 := h.2.2
  unfold rangeOk shN shE shG at h3
  simp only [Bool.and_eq_true, Bool.or_eq_true, decide_eq_true_eq, beq_iff_eq] at h3
  obtain ⟨⟨ri, re⟩, rg⟩ := h3
  by_cases a : n.op = 3
  · rw [if_pos a] at ri; omega
  · have ha : hasAgent n.op = true := hi.resolve_left a
    rw [if_neg a, if_pos ha] at ri; omega
theorem fits_tok {A F X ws : List ByteArray} {t : Tr} (h : TOk ⟨A, F, X, ws⟩ t) (hl : (canT t).length ≤ 200) (hA : A.length ≤ 64) (hF : F.length ≤ 64) : fitsF (canT t) (A.length : Int) (F.length : Int) = true := by
  obtain ⟨h1, h2, h3, _⟩ := tok_formula h hl
  unfold fitsF
  rw [h2, decide_eq_true h1, Bool.true_and]
  have hp : ∀ {i : Int} {k : Nat}, 0 ≤ i → i < (k : Int) → 2 ^ i.toNat < 2 ^ k := fun h0 h => Nat.pow_lt_pow_right (by decide) (by omega)
  have m1 : maskL agentD (canT t) < 2 ^ A.length := maskL_pow _ _ _ (fun n hn => by
    obtain ⟨f1, f2, f3, f4⟩ := h3 n hn
    unfold agentD
    by_cases ha : hasAgent n.op = true
    · rw [if_pos ha]
      exact hp (fld_num0 f1 (.inr ha)) (f3 ha)
    · rw [if_neg ha]
      have : n.g < ((2 ^ A.length : Nat) : Int) := f4
      have := Nat.two_pow_pos A.length
      omega)
  have m2 : maskL factD (canT t) < 2 ^ F.length := maskL_pow _ _ _ (fun n hn => by
    obtain ⟨f1, f2, f3, f4⟩ := h3 n hn
    unfold factD
    by_cases ha : n.op = 3
    · rw [if_pos ha]
      exact hp (fld_num0 f1 (.inl ha)) (f2 ha)
    · rw [if_neg ha]
      exact Nat.two_pow_pos _)
  rw [belowM_pow hA m1, belowM_pow hF m2]
  rfl
end Go.Proofs.YtenbhalnpiahaaaGreatDoor
