/- Layer 6: texts joined: Kpa Mf Me Kzd Mr Mu Mv Mw Mx Na. -/
import Derived.Test.YtjpmhbnikoggaaaDoorNJf
import Derived.Test.YtjpmhbnikoggaaaDoorNJi
import Derived.Test.YtjpmhbnikoggaaaDoorNJk
import Derived.Laws.BitsLemmas
/- Layer 5 as plain mathematics: subtrees, which nodes are used, lengths of canonical lists. -/
namespace Go.Proofs.Ws
open Go
def szT : Tr → Nat
  | .leaf _ => 1
  | .un _ a => szT a + 1
  | .bin _ a b => szT a + szT b + 1
/-- a tree within a tree -/
def subT (s : Tr) : Tr → Prop
  | .leaf n => s = .leaf n
  | .un n a => s = .un n a ∨ subT s a
  | .bin n a b => s = .bin n a b ∨ subT s a ∨ subT s b
theorem subT_sz {s : Tr} : ∀ {t : Tr}, subT s t → szT s ≤ szT t
  | .leaf n, h => by have h : s = .leaf n := h; rw [h]; exact Nat.le_refl _
  | .un n a, h => by
    rcases h with h | h
    · rw [h]; exact Nat.le_refl _
    · have := subT_sz h
      show szT s ≤ szT a + 1
      omega
  | .bin n a b, h => by
    rcases h with h | h | h
    · rw [h]; exact Nat.le_refl _
    · have := subT_sz h
      show szT s ≤ szT a + szT b + 1
      omega
    · have := subT_sz h
      show szT s ≤ szT a + szT b + 1
      omega
theorem subT_ok {s : Tr} : ∀ {t : Tr}, subT s t → trOk t → trOk s
  | .leaf n, h, hk => by have h : s = .leaf n := h; rw [h]; exact hk
  | .un n a, h, hk => by
    rcases h with h | h
    · rw [h]; exact hk
    · exact subT_ok h hk.2.2.2
  | .bin n a b, h, hk => by
    rcases h with h | h | h
    · rw [h]; exact hk
    · exact subT_ok h hk.2.2.2.1
    · exact subT_ok h hk.2.2.2.2
/-- what is put new stands for a tree within the tree -/
theorem finT_sub : ∀ (t : Tr) (o : List Nd) (k : Nat), o.length ≤ k → k < (finT t o).2.length → ∃ s, rep (finT t o).2 k s ∧ subT s t
  | .leaf n, o, k, h1, h2 => by
    have hl := putNd_len o n
    have e2 : (finT (.leaf n) o) = putNd o n := rfl
    rw [e2] at h2 ⊢
    have hk : k = (putNd o n).1 := by
      unfold putNd at h2 ⊢
      split
      · rename_i hm
        rw [if_pos hm] at h2
        have h2 : k < o.length := h2
        omega
      · rename_i hm
        rw [if_neg hm] at h2
        have h2 : k < (o ++ [n]).length := h2
        rw [List.length_append] at h2
        have h2 : k < o.length + 1 := h2
        show k = o.length
        omega
    rw [hk]
    exact ⟨.leaf n, putNd_at o n, rfl⟩
  | .un n a, o, k, h1, h2 => by
    have ih := finT_sub a o
    have e2 : (finT (.un n a) o) = putNd (finT a o).2 { n with x := ((finT a o).1 : Int) } := rfl
    have hrep := finT_rep (.un n a) o
    have hpre := putNd_pre (finT a o).2 { n with x := ((finT a o).1 : Int) }
    by_cases hk : k < (finT a o).2.length
    · obtain ⟨s, h3, h4⟩ := ih k h1 hk
      exact ⟨s, by rw [e2]; exact rep_mono hpre s k h3, .inr h4⟩
    · refine ⟨.un n a, ?_, .inl rfl⟩
      have hk2 : k = (finT (.un n a) o).1 := by
        rw [e2] at h2 ⊢
        unfold putNd at h2 ⊢
        split
        · rename_i hm
          rw [if_pos hm] at h2
          exact absurd h2 hk
        · rename_i hm
          rw [if_neg hm] at h2
          have h2 : k < ((finT a o).2 ++ [_]).length := h2
          rw [List.length_append] at h2
          have h2 : k < (finT a o).2.length + 1 := h2
          show k = (finT a o).2.length
          omega
      rw [hk2]; exact hrep
  | .bin n a b, o, k, h1, h2 => by
    have iha := finT_sub a o
    have ihb := finT_sub b (finT a o).2
    have e2 : (finT (.bin n a b) o) = putNd (finT b (finT a o).2).2 { n with x := ((finT a o).1 : Int), y := ((finT b (finT a o).2).1 : Int) } := rfl
    have hrep := finT_rep (.bin n a b) o
    have hpre := putNd_pre (finT b (finT a o).2).2 { n with x := ((finT a o).1 : Int), y := ((finT b (finT a o).2).1 : Int) }
    by_cases hk : k < (finT b (finT a o).2).2.length
    · by_cases hka : k < (finT a o).2.length
      · obtain ⟨s, h3, h4⟩ := iha k h1 hka
        exact ⟨s, by rw [e2]; exact rep_mono hpre s k (rep_mono (finT_pre b _) s k h3), .inr (.inl h4)⟩
      · obtain ⟨s, h3, h4⟩ := ihb k (by omega) hk
        exact ⟨s, by rw [e2]; exact rep_mono hpre s k h3, .inr (.inr h4)⟩
    · refine ⟨.bin n a b, ?_, .inl rfl⟩
      have hk2 : k = (finT (.bin n a b) o).1 := by
        rw [e2] at h2 ⊢
        unfold putNd at h2 ⊢
        split
        · rename_i hm
          rw [if_pos hm] at h2
          exact absurd h2 hk
        · rename_i hm
          rw [if_neg hm] at h2
          have h2 : k < ((finT b (finT a o).2).2 ++ [_]).length := h2
          rw [List.length_append] at h2
          have h2 : k < (finT b (finT a o).2).2.length + 1 := h2
          show k = (finT b (finT a o).2).2.length
          omega
      rw [hk2]; exact hrep
/-- the root is the last node -/
theorem canT_last {t : Tr} (ht : trOk t) : (finT t []).1 = (canT t).length - 1 := by
  have key : ∀ (o : List Nd) (m : Nd), finT t [] = putNd o m → (∀ k, k < o.length → ∃ s, rep o k s ∧ trOk s ∧ szT s < szT t) → opsL o → (finT t []).1 = (canT t).length - 1 := by
    intro o m he hs ho
    unfold canT
    rw [he]
    rcases putNd_lastOr o m with hm | h
    · exfalso
      have hrep := finT_rep t []
      rw [he] at hrep
      have e : putNd o m = (o.idxOf m, o) := by unfold putNd; rw [if_pos hm]
      rw [e] at hrep
      have hk : o.idxOf m < o.length := List.idxOf_lt_length_of_mem hm
      obtain ⟨s, h1, h2, h3⟩ := hs _ hk
      have t1 := rep_tree ho s _ h2 h1
      have t2 := rep_tree ho t _ ht hrep
      rw [t1] at t2
      rw [t2] at h3
      omega
    · exact h
  cases t with
  | leaf n =>
    exact key [] n rfl (fun k hk => absurd hk (by simp)) (fun i hi => absurd hi (by simp))
  | un n a =>
    have ha : trOk a := ht.2.2.2
    refine key (finT a []).2 _ rfl (fun k hk => ?_) (canT_ops ha)
    obtain ⟨s, h1, h2⟩ := finT_sub a [] k (Nat.zero_le _) hk
    have := subT_sz h2
    exact ⟨s, h1, subT_ok h2 ha, by show szT s < szT a + 1; omega⟩
  | bin n a b =>
    have ha : trOk a := ht.2.2.2.1
    have hb : trOk b := ht.2.2.2.2
    refine key (finT b (finT a []).2).2 _ rfl (fun k hk => ?_) (finT_ops b hb (canT_ops ha))
    by_cases hka : k < (finT a []).2.length
    · obtain ⟨s, h1, h2⟩ := finT_sub a [] k (Nat.zero_le _) hka
      have := subT_sz h2
      exact ⟨s, rep_mono (finT_pre b _) s k h1, subT_ok h2 ha, by show szT s < szT a + szT b + 1; omega⟩
    · obtain ⟨s, h1, h2⟩ := finT_sub b (finT a []).2 k (by omega) hk
      have := subT_sz h2
      exact ⟨s, h1, subT_ok h2 hb, by show szT s < szT a + szT b + 1; omega⟩
/-- the canonical list stands for the tree -/
theorem canT_tree {t : Tr} (ht : trOk t) : treeAt (canT t) ((canT t).length - 1) = t := by
  have h := finT_rep t []
  rw [canT_last ht] at h
  exact rep_tree (canT_ops ht) t _ ht h
theorem canT_ne (t : Tr) : canT t ≠ [] := fun e => by have := finT_lt t []; unfold canT at e; rw [e] at this; simp at this
end Go.Proofs.Ws
namespace Go.Proofs.Ws
open Go
/-- node j uses node k -/
def uses (o : List Nd) (j k : Nat) : Prop := j < o.length ∧ ((usesX (o.getD j nd0).op = true ∧ (o.getD j nd0).x = (k : Int)) ∨ (usesY (o.getD j nd0).op = true ∧ (o.getD j nd0).y = (k : Int)))
end Go.Proofs.Ws
namespace Go.Proofs.Ws
open Go
end Go.Proofs.Ws
/- Layer 5: the masks of the program: fragments, facts, agents. -/
namespace Go.Proofs.Ws
open Go
def fragN (op : Int) : Nat :=
  if op = 9 ∨ op = 10 then 1 else if op = 11 then 2 else if op = 12 then 4 else if op = 13 then 8 else if op = 14 then 16 else if op = 15 then 32 else if op = 16 then 64 else if op = 17 then 128 else if 18 ≤ op then 256 else 0
def fragD (n : Nd) : Nat := fragN n.op
def factD (n : Nd) : Nat := if n.op = 3 then 2 ^ n.i.toNat else 0
def agentD (n : Nd) : Nat := if hasAgent n.op = true then 2 ^ n.i.toNat else n.g.toNat
/-- the union of the masks of nodes -/
def maskL (g : Nd → Nat) (l : List Nd) : Nat := l.foldl (fun m n => m ||| g n) 0
theorem maskL_take (g : Nd → Nat) (l : List Nd) (k : Nat) (h : k < l.length) : maskL g (l.take (k + 1)) = maskL g (l.take k) ||| g (l.getD k nd0) := by
  unfold maskL
  rw [List.take_succ_eq_append_getElem h, List.foldl_append, show l.getD k nd0 = l[k] from by simp [h]]
  rfl
theorem maskL_lt (g : Nd → Nat) : ∀ (l : List Nd), (∀ n ∈ l, g n < 512) → maskL g l < 512 := by
  have : ∀ (l : List Nd) (a : Nat), a < 512 → (∀ n ∈ l, g n < 512) → l.foldl (fun m n => m ||| g n) a < 512 := by
    intro l
    induction l with
    | nil => intro a h _; exact h
    | cons n l ih =>
      intro a h hl
      exact ih _ (Nat.or_lt_two_pow (n := 9) h (hl n (by simp))) (fun m hm => hl m (by simp [hm]))
  exact fun l h => this l 0 (by decide) h
theorem fragN_lt (op : Int) : fragN op < 512 := by
  unfold fragN
  repeat (split; decide)
  decide
theorem fld_i {n : Nd} (h : fldOk n) : (n.op = 3 → 0 ≤ n.i ∧ n.i < 8) ∧ (hasAgent n.op = true → 0 ≤ n.i ∧ n.i < 4) ∧ (hasGroup n.op = true → 1 ≤ n.g ∧ n.g ≤ 15) ∧ (hasGroup n.op = false → n.g = 0) := by
  obtain ⟨_, ⟨_, _, hg⟩, hr⟩ := h
  unfold rangeOk shN shE shG at hr
  simp only [Bool.and_eq_true, Bool.or_eq_true, decide_eq_true_eq, beq_iff_eq] at hr
  obtain ⟨⟨hi, _⟩, hgg⟩ := hr
  refine ⟨fun h3 => ?_, fun ha => ?_, fun hgr => ?_, fun hgr => ?_⟩
  · rw [if_pos h3] at hi; omega
  · by_cases h3 : n.op = 3
    · rw [h3] at ha; exact absurd ha (by decide)
    · rw [if_neg h3, if_pos ha] at hi; omega
  · rw [if_pos hgr] at hgg; omega
  · rcases hg with h | h
    · rw [h] at hgr; cases hgr
    · exact h
theorem factD_lt {n : Nd} (h : fldOk n) : factD n < 512 := by
  unfold factD
  split
  · rename_i h3
    have := (fld_i h).1 h3
    exact Nat.pow_lt_pow_right (by decide) (show n.i.toNat < 9 by omega)
  · decide
theorem agentD_lt {n : Nd} (h : fldOk n) : agentD n < 512 := by
  unfold agentD
  obtain ⟨_, h2, h3, h4⟩ := fld_i h
  split
  · rename_i ha
    have := h2 ha
    exact Nat.pow_lt_pow_right (by decide) (show n.i.toNat < 9 by omega)
  · cases hg : hasGroup n.op
    · have := h4 hg; omega
    · have := h3 hg; omega
end Go.Proofs.Ws
namespace Go.Proofs.YtjpmhbnikoggaaaDoor
open Go.RowKit Go.Proofs.Ws Go.Maps
theorem or_small (a b : Nat) (ha : a < 512) (hb : b < 512) : bits .or .i64 (a : Int) (b : Int) = ((a ||| b : Nat) : Int) :=
  (bits_nat .i64 9 (by decide) (fun n h0 h1 => by rw [IntKind.wrap_i64]; omega) a b ha hb).2
theorem fragOf_any (op : Int) (hk : known op = true) (w : World) : Calls Tryd.prog 72 #[.int .i64 op] w fun e w' => e = .returned (.int .i64 (fragN op : Int)) ∧ w = w' := by
  rcases known_cases op hk with rfl | rfl | rfl | rfl | rfl | rfl | rfl | rfl | rfl | rfl | rfl | rfl | rfl | rfl | rfl | rfl | rfl | rfl | rfl | rfl | rfl
  all_goals
    go_enter Tryd.func72, Tryd.ntmps72
    go_wp2
    go_ret
    exact ⟨rfl, rfl⟩
set_option maxRecDepth 100000 in
theorem fragCl_any (n : Nd) (hk : fldOk n) (w : World) : Calls Tryd.prog 71 #[nv n] w fun e w' => e = .returned (.int .i64 (fragD n : Int)) ∧ Below w.heap.size w w' := by
  have HB : Hid (∀ o, Below w.heap.size w (w.alloc o)) := Lib.hid (fun o => (Below.refl _ w).alloc (Nat.le_refl _) o)
  have HF := Lib.hid (fun W => fragOf_any n.op hk.1 W)
  unfold nv fragD
  clear hk
  generalize fragN n.op = z at *
  go_enter Tryd.func71, Tryd.ntmps71
  go_wp2_with fail
  refine (HF.out _).mono ?_
  rintro e w1 ⟨rfl, rfl⟩
  go_wp2
  go_ret
  exact ⟨rfl, HB.out _⟩
set_option maxRecDepth 100000 in
theorem factsOf_any (n : Nd) (hk : fldOk n) (w : World) : Calls Tryd.prog 87 #[nv n] w fun e w' => e = .returned (.int .i64 (factD n : Int)) ∧ Below w.heap.size w w' := by
  have HB : Hid (∀ o, Below w.heap.size w (w.alloc o)) := Lib.hid (fun o => (Below.refl _ w).alloc (Nat.le_refl _) o)
  by_cases h3 : n.op = 3
  · obtain ⟨hi0, hi8⟩ := (fld_i hk).1 h3
    have HV : Hid (factD n = 2 ^ n.i.toNat) := Lib.hid (by unfold factD; rw [if_pos h3])
    obtain ⟨op, i, e, g, x, y⟩ := n
    have h3 : op = 3 := h3
    subst h3
    have hi0 : 0 ≤ i := hi0
    have hi8 : i < 8 := hi8
    obtain ⟨k, rfl⟩ : ∃ k : Nat, i = (k : Int) := ⟨i.toNat, by omega⟩
    have hk8 : k < 8 := by omega
    rw [HV.out]
    clear HV hk
    have hcases : k = 0 ∨ k = 1 ∨ k = 2 ∨ k = 3 ∨ k = 4 ∨ k = 5 ∨ k = 6 ∨ k = 7 := by omega
    unfold nv
    clear hi0 hi8 hk8
    rcases hcases with rfl | rfl | rfl | rfl | rfl | rfl | rfl | rfl
    all_goals
      go_enter Tryd.func87, Tryd.ntmps87
      go_wp2
      go_ret
      exact ⟨rfl, HB.out _⟩
  · have HV : Hid (factD n = 0) := Lib.hid (by unfold factD; rw [if_neg h3])
    have hb : (n.op == 3) = false := by simpa using h3
    rw [HV.out]
    unfold nv
    clear HV hk h3
    go_enter Tryd.func87, Tryd.ntmps87
    go_wp2
    go_ret
    exact ⟨rfl, HB.out _⟩
set_option maxRecDepth 100000 in
theorem agentsOf_any (n : Nd) (hk : fldOk n) (w : World) : Calls Tryd.prog 86 #[nv n] w fun e w' => e = .returned (.int .i64 (agentD n : Int)) ∧ Below w.heap.size w w' := by
  have HB : Hid (∀ o, Below w.heap.size w (w.alloc o)) := Lib.hid (fun o => (Below.refl _ w).alloc (Nat.le_refl _) o)
  cases ha : hasAgent n.op
  · obtain ⟨_, _, h3, h4⟩ := fld_i hk
    have hg : ((n.g.toNat : Nat) : Int) = n.g := by
      cases hgr : hasGroup n.op
      · have := h4 hgr; omega
      · have := h3 hgr; omega
    have HV : Hid (((agentD n : Nat) : Int) = n.g) := Lib.hid (by unfold agentD; rw [ha]; simpa using hg)
    have hne : n.op ≠ 9 ∧ n.op ≠ 10 ∧ n.op ≠ 14 ∧ n.op ≠ 15 := by
      unfold hasAgent at ha
      simp only [Bool.or_eq_false_iff, decide_eq_false_iff_not] at ha
      omega
    have b1 : (n.op == 9) = false := by simpa using hne.1
    have b2 : (n.op == 10) = false := by simpa using hne.2.1
    have b3 : (n.op == 14) = false := by simpa using hne.2.2.1
    have b4 : (n.op == 15) = false := by simpa using hne.2.2.2
    rw [HV.out]
    unfold nv
    clear HV hk ha h3 h4 hg hne
    go_enter Tryd.func86, Tryd.ntmps86
    go_wp2
    go_ret
    exact ⟨rfl, HB.out _⟩
  · obtain ⟨hi0, hi4⟩ := (fld_i hk).2.1 ha
    have HV : Hid (agentD n = 2 ^ n.i.toNat) := Lib.hid (by unfold agentD; rw [if_pos ha])
    have hop : n.op = 9 ∨ n.op = 10 ∨ n.op = 14 ∨ n.op = 15 := by
      unfold hasAgent at ha
      simp only [Bool.or_eq_true, decide_eq_true_eq] at ha
      omega
    obtain ⟨op, i, e, g, x, y⟩ := n
    have hi0 : 0 ≤ i := hi0
    have hi4 : i < 4 := hi4
    obtain ⟨k, rfl⟩ : ∃ k : Nat, i = (k : Int) := ⟨i.toNat, by omega⟩
    have hcases : k = 0 ∨ k = 1 ∨ k = 2 ∨ k = 3 := by omega
    have hop : op = 9 ∨ op = 10 ∨ op = 14 ∨ op = 15 := hop
    rw [HV.out]
    unfold nv
    clear HV hk ha hi0 hi4
    rcases hop with rfl | rfl | rfl | rfl <;> rcases hcases with rfl | rfl | rfl | rfl
    all_goals
      go_enter Tryd.func86, Tryd.ntmps86
      go_wp2
      go_ret
      exact ⟨rfl, HB.out _⟩
set_option maxRecDepth 100000 in
set_option maxHeartbeats 4000000 in
theorem col_frag (f : List Nd) (A : Option Addr) (n c : Nat) (w : World) (hR : Reads w w.heap.size 6 A n (nds f)) (hm : n ≤ maxLen) :
    Calls Tryd.prog 70 #[.slice A n c, .func (Fn.func 71) #[] #[]] w fun e w' => e = .returned (.int .i64 (maskL fragD (compF f) : Int)) ∧ Below w.heap.size w w' := by
  have HC := Lib.hid (pCompact_any f A n c w hR hm)
  have HG : Hid (∀ x, x ∈ compF f → ∀ W, Calls Tryd.prog 71 #[.agg #[.int .i64 x.op, .int .i64 x.i, .int .i64 x.e, .int .i64 x.g, .int .i64 x.x, .int .i64 x.y]] W fun e w' => e = .returned (.int .i64 (fragD x : Int)) ∧ Below W.heap.size W w') := Lib.hid (fun x hx W => fragCl_any x (compF_fld f x hx) W)
  have HLT : Hid (∀ x, x ∈ compF f → fragD x < 512) := Lib.hid (fun x hx => fragN_lt _)
  have hq63 : (compF f).length ≤ maxLen := Nat.le_trans (compF_le f) (by rw [hR.nd_len]; exact hm)
  unfold maxLen at hq63
  generalize compF f = q at *
  have HTK : Hid (∀ k, maskL fragD (q.take k) < 512) := Lib.hid (fun k => maskL_lt _ _ (fun x hx => HLT.out x (List.mem_of_mem_take hx)))
  clear hR
  go_enter Tryd.func70, Tryd.ntmps70
  go_wp2_with fail
  refine (HC.out).mono ?_
  rintro e w1 ⟨A3, c3, rfl, hR3, hb1⟩
  have HR3 := Lib.hid hR3
  have HB1 := Lib.hid hb1
  clear hR3 hb1
  go_wp2
  go_loopw [5, 7, 11] (fun v u i wr => ∃ k : Nat, k ≤ q.length ∧ i = .int .i64 k ∧ v = .int .i64 ((maskL fragD (q.take k) : Nat) : Int) ∧ Hid (Below w1.heap.size w1 wr)) (fun _ _ i _ => q.length - (intOf i).toNat)
  case atStart => exact ⟨0, Nat.zero_le _, rfl, rfl, Lib.hid (Below.refl _ _)⟩
  case round =>
    obtain ⟨k, hk, rfl, rfl, HB⟩ := hrel
    by_cases hlt : k < q.length
    · obtain ⟨ad, rfl, hb, m0, m1, m2, m3, m4, m5⟩ := (HR3.out.below HB.out).nd_at hlt
      have HT := Lib.hid (maskL_take fragD q k hlt)
      have hmem := getD_mem hlt
      obtain ⟨x, hx⟩ : ∃ x, q.getD k nd0 = x := ⟨_, rfl⟩
      rw [hx] at m0 m1 m2 m3 m4 m5 HT hmem
      have l1 := add_cell m1
      have l2 := add_cell m2
      have l3 := add_cell m3
      have l4 := add_cell m4
      have l5 := add_cell m5
      have HGX := Lib.hid (HG.out x hmem)
      have hor := or_small (maskL fragD (q.take k)) (fragD x) (HTK.out k) (HLT.out x hmem)
      rw [← HT.out] at hor
      have HA : Hid (∀ o w', Below (wr.alloc o).heap.size (wr.alloc o) w' → Below w1.heap.size w1 w') := Lib.hid (fun o w' h => (HB.out.alloc HB.out.size o).trans (h.mono (by have := HB.out.size; simp; omega)))
      clear hx hmem
      generalize fragD x = z at *
      generalize maskL fragD (q.take k) = mk at *
      generalize hmk : maskL fragD (q.take (k + 1)) = mk2 at *
      have HMK := Lib.hid hmk
      clear hmk
      go_wp2_with fail
      refine (HGX.out _).mono ?_
      rintro e w3 ⟨rfl, hb3⟩
      have HB3 := Lib.hid (HA.out _ _ hb3)
      clear hb3 m0 m1 m2 m3 m4 m5 l1 l2 l3 l4 l5
      go_wp2
      go_roundw
      case rel => exact ⟨k + 1, by omega, by go_num, by rw [HMK.out], HB3⟩
      case measure => simp [intOf]; omega
    · have hkq : k = q.length := by omega
      have HE : Hid (q.take k = q) := Lib.hid (by rw [hkq, List.take_length])
      rw [HE.out]
      clear hlt
      go_wp2
      go_ret
      exact ⟨rfl, HB1.out.trans (HB.out.mono HB1.out.size)⟩
theorem pFrags_any (f : List Nd) (A : Option Addr) (n c : Nat) (w : World) (hR : Reads w w.heap.size 6 A n (nds f)) (hm : n ≤ maxLen) :
    Calls Tryd.prog 64 #[.slice A n c] w fun e w' => e = .returned (.int .i64 (maskL fragD (compF f) : Int)) ∧ Below w.heap.size w w' := by
  have HC := Lib.hid (col_frag f A n c w hR hm)
  generalize maskL fragD (compF f) = z at *
  clear hR
  go_enter Tryd.func64, Tryd.ntmps64
  go_wp2_with fail
  refine (HC.out).mono ?_
  rintro e w1 ⟨rfl, hb1⟩
  have HB1 := Lib.hid hb1
  clear hb1
  go_wp2
  go_ret
  exact ⟨rfl, HB1.out⟩
set_option maxRecDepth 100000 in
set_option maxHeartbeats 4000000 in
theorem col_fact (f : List Nd) (A : Option Addr) (n c : Nat) (w : World) (hR : Reads w w.heap.size 6 A n (nds f)) (hm : n ≤ maxLen) :
    Calls Tryd.prog 70 #[.slice A n c, .func (Fn.func 87) #[] #[]] w fun e w' => e = .returned (.int .i64 (maskL factD (compF f) : Int)) ∧ Below w.heap.size w w' := by
  have HC := Lib.hid (pCompact_any f A n c w hR hm)
  have HG : Hid (∀ x, x ∈ compF f → ∀ W, Calls Tryd.prog 87 #[.agg #[.int .i64 x.op, .int .i64 x.i, .int .i64 x.e, .int .i64 x.g, .int .i64 x.x, .int .i64 x.y]] W fun e w' => e = .returned (.int .i64 (factD x : Int)) ∧ Below W.heap.size W w') := Lib.hid (fun x hx W => factsOf_any x (compF_fld f x hx) W)
  have HLT : Hid (∀ x, x ∈ compF f → factD x < 512) := Lib.hid (fun x hx => factD_lt (compF_fld f x hx))
  have hq63 : (compF f).length ≤ maxLen := Nat.le_trans (compF_le f) (by rw [hR.nd_len]; exact hm)
  unfold maxLen at hq63
  generalize compF f = q at *
  have HTK : Hid (∀ k, maskL factD (q.take k) < 512) := Lib.hid (fun k => maskL_lt _ _ (fun x hx => HLT.out x (List.mem_of_mem_take hx)))
  clear hR
  go_enter Tryd.func70, Tryd.ntmps70
  go_wp2_with fail
  refine (HC.out).mono ?_
  rintro e w1 ⟨A3, c3, rfl, hR3, hb1⟩
  have HR3 := Lib.hid hR3
  have HB1 := Lib.hid hb1
  clear hR3 hb1
  go_wp2
  go_loopw [5, 7, 11] (fun v u i wr => ∃ k : Nat, k ≤ q.length ∧ i = .int .i64 k ∧ v = .int .i64 ((maskL factD (q.take k) : Nat) : Int) ∧ Hid (Below w1.heap.size w1 wr)) (fun _ _ i _ => q.length - (intOf i).toNat)
  case atStart => exact ⟨0, Nat.zero_le _, rfl, rfl, Lib.hid (Below.refl _ _)⟩
  case round =>
    obtain ⟨k, hk, rfl, rfl, HB⟩ := hrel
    by_cases hlt : k < q.length
    · obtain ⟨ad, rfl, hb, m0, m1, m2, m3, m4, m5⟩ := (HR3.out.below HB.out).nd_at hlt
      have HT := Lib.hid (maskL_take factD q k hlt)
      have hmem := getD_mem hlt
      obtain ⟨x, hx⟩ : ∃ x, q.getD k nd0 = x := ⟨_, rfl⟩
      rw [hx] at m0 m1 m2 m3 m4 m5 HT hmem
      have l1 := add_cell m1
      have l2 := add_cell m2
      have l3 := add_cell m3
      have l4 := add_cell m4
      have l5 := add_cell m5
      have HGX := Lib.hid (HG.out x hmem)
      have hor := or_small (maskL factD (q.take k)) (factD x) (HTK.out k) (HLT.out x hmem)
      rw [← HT.out] at hor
      have HA : Hid (∀ o w', Below (wr.alloc o).heap.size (wr.alloc o) w' → Below w1.heap.size w1 w') := Lib.hid (fun o w' h => (HB.out.alloc HB.out.size o).trans (h.mono (by have := HB.out.size; simp; omega)))
      clear hx hmem
      generalize factD x = z at *
      generalize maskL factD (q.take k) = mk at *
      generalize hmk : maskL factD (q.take (k + 1)) = mk2 at *
      have HMK := Lib.hid hmk
      clear hmk
      go_wp2_with fail
      refine (HGX.out _).mono ?_
      rintro e w3 ⟨rfl, hb3⟩
      have HB3 := Lib.hid (HA.out _ _ hb3)
      clear hb3 m0 m1 m2 m3 m4 m5 l1 l2 l3 l4 l5
      go_wp2
      go_roundw
      case rel => exact ⟨k + 1, by omega, by go_num, by rw [HMK.out], HB3⟩
      case measure => simp [intOf]; omega
    · have hkq : k = q.length := by omega
      have HE : Hid (q.take k = q) := Lib.hid (by rw [hkq, List.take_length])
      rw [HE.out]
      clear hlt
      go_wp2
      go_ret
      exact ⟨rfl, HB1.out.trans (HB.out.mono HB1.out.size)⟩
theorem pFacts_any (f : List Nd) (A : Option Addr) (n c : Nat) (w : World) (hR : Reads w w.heap.size 6 A n (nds f)) (hm : n ≤ maxLen) :
    Calls Tryd.prog 75 #[.slice A n c] w fun e w' => e = .returned (.int .i64 (maskL factD (compF f) : Int)) ∧ Below w.heap.size w w' := by
  have HC := Lib.hid (col_fact f A n c w hR hm)
  generalize maskL factD (compF f) = z at *
  clear hR
  go_enter Tryd.func75, Tryd.ntmps75
  go_wp2_with fail
  refine (HC.out).mono ?_
  rintro e w1 ⟨rfl, hb1⟩
  have HB1 := Lib.hid hb1
  clear hb1
  go_wp2
  go_ret
  exact ⟨rfl, HB1.out⟩
set_option maxRecDepth 100000 in
set_option maxHeartbeats 4000000 in
theorem col_agent (f : List Nd) (A : Option Addr) (n c : Nat) (w : World) (hR : Reads w w.heap.size 6 A n (nds f)) (hm : n ≤ maxLen) :
    Calls Tryd.prog 70 #[.slice A n c, .func (Fn.func 86) #[] #[]] w fun e w' => e = .returned (.int .i64 (maskL agentD (compF f) : Int)) ∧ Below w.heap.size w w' := by
  have HC := Lib.hid (pCompact_any f A n c w hR hm)
  have HG : Hid (∀ x, x ∈ compF f → ∀ W, Calls Tryd.prog 86 #[.agg #[.int .i64 x.op, .int .i64 x.i, .int .i64 x.e, .int .i64 x.g, .int .i64 x.x, .int .i64 x.y]] W fun e w' => e = .returned (.int .i64 (agentD x : Int)) ∧ Below W.heap.size W w') := Lib.hid (fun x hx W => agentsOf_any x (compF_fld f x hx) W)
  have HLT : Hid (∀ x, x ∈ compF f → agentD x < 512) := Lib.hid (fun x hx => agentD_lt (compF_fld f x hx))
  have hq63 : (compF f).length ≤ maxLen := Nat.le_trans (compF_le f) (by rw [hR.nd_len]; exact hm)
  unfold maxLen at hq63
  generalize compF f = q at *
  have HTK : Hid (∀ k, maskL agentD (q.take k) < 512) := Lib.hid (fun k => maskL_lt _ _ (fun x hx => HLT.out x (List.mem_of_mem_take hx)))
  clear hR
  go_enter Tryd.func70, Tryd.ntmps70
  go_wp2_with fail
  refine (HC.out).mono ?_
  rintro e w1 ⟨A3, c3, rfl, hR3, hb1⟩
  have HR3 := Lib.hid hR3
  have HB1 := Lib.hid hb1
  clear hR3 hb1
  go_wp2
  go_loopw [5, 7, 11] (fun v u i wr => ∃ k : Nat, k ≤ q.length ∧ i = .int .i64 k ∧ v = .int .i64 ((maskL agentD (q.take k) : Nat) : Int) ∧ Hid (Below w1.heap.size w1 wr)) (fun _ _ i _ => q.length - (intOf i).toNat)
  case atStart => exact ⟨0, Nat.zero_le _, rfl, rfl, Lib.hid (Below.refl _ _)⟩
  case round =>
    obtain ⟨k, hk, rfl, rfl, HB⟩ := hrel
    by_cases hlt : k < q.length
    · obtain ⟨ad, rfl, hb, m0, m1, m2, m3, m4, m5⟩ := (HR3.out.below HB.out).nd_at hlt
      have HT := Lib.hid (maskL_take agentD q k hlt)
      have hmem := getD_mem hlt
      obtain ⟨x, hx⟩ : ∃ x, q.getD k nd0 = x := ⟨_, rfl⟩
      rw [hx] at m0 m1 m2 m3 m4 m5 HT hmem
      have l1 := add_cell m1
      have l2 := add_cell m2
      have l3 := add_cell m3
      have l4 := add_cell m4
      have l5 := add_cell m5
      have HGX := Lib.hid (HG.out x hmem)
      have hor := or_small (maskL agentD (q.take k)) (agentD x) (HTK.out k) (HLT.out x hmem)
      rw [← HT.out] at hor
      have HA : Hid (∀ o w', Below (wr.alloc o).heap.size (wr.alloc o) w' → Below w1.heap.size w1 w') := Lib.hid (fun o w' h => (HB.out.alloc HB.out.size o).trans (h.mono (by have := HB.out.size; simp; omega)))
      clear hx hmem
      generalize agentD x = z at *
      generalize maskL agentD (q.take k) = mk at *
      generalize hmk : maskL agentD (q.take (k + 1)) = mk2 at *
      have HMK := Lib.hid hmk
      clear hmk
      go_wp2_with fail
      refine (HGX.out _).mono ?_
      rintro e w3 ⟨rfl, hb3⟩
      have HB3 := Lib.hid (HA.out _ _ hb3)
      clear hb3 m0 m1 m2 m3 m4 m5 l1 l2 l3 l4 l5
      go_wp2
      go_roundw
      case rel => exact ⟨k + 1, by omega, by go_num, by rw [HMK.out], HB3⟩
      case measure => simp [intOf]; omega
    · have hkq : k = q.length := by omega
      have HE : Hid (q.take k = q) := Lib.hid (by rw [hkq, List.take_length])
      rw [HE.out]
      clear hlt
      go_wp2
      go_ret
      exact ⟨rfl, HB1.out.trans (HB.out.mono HB1.out.size)⟩
theorem pAgents_any (f : List Nd) (A : Option Addr) (n c : Nat) (w : World) (hR : Reads w w.heap.size 6 A n (nds f)) (hm : n ≤ maxLen) :
    Calls Tryd.prog 74 #[.slice A n c] w fun e w' => e = .returned (.int .i64 (maskL agentD (compF f) : Int)) ∧ Below w.heap.size w w' := by
  have HC := Lib.hid (col_agent f A n c w hR hm)
  generalize maskL agentD (compF f) = z at *
  clear hR
  go_enter Tryd.func74, Tryd.ntmps74
  go_wp2_with fail
  refine (HC.out).mono ?_
  rintro e w1 ⟨rfl, hb1⟩
  have HB1 := Lib.hid hb1
  clear hb1
  go_wp2
  go_ret
  exact ⟨rfl, HB1.out⟩
end Go.Proofs.YtjpmhbnikoggaaaDoor
/- Layer 5: Depth of the program. -/
namespace Go.Proofs.Ws
open Go
end Go.Proofs.Ws
namespace Go.Proofs.YtjpmhbnikoggaaaDoor
open Go.RowKit Go.Proofs.Ws Go.Maps
/-- block g holds just these numbers -/
def DS (W : World) (g : Nat) (l : List Int) : Prop := W.heap[g]? = some (.cells (is l).toArray 3 (0, 0))
theorem DS.cell {W : World} {g : Nat} {l : List Int} (h : DS W g l) {k : Nat} (hk : k < l.length) : W.cell? ⟨g, k, none⟩ = some (.int .i64 (l.getD k 0)) := by
  rw [Lib.cell_of_heap h]
  simp [is, hk]
theorem DS.free {W : World} {g : Nat} {l : List Int} (h : DS W g l) (k : Nat) : W.frozen? ⟨g, k, none⟩ = false := Lib.frozen_of_heap h k
theorem DS.put {W : World} {g : Nat} {l : List Int} (h : DS W g l) (k : Nat) (x : Int) : DS (W.setCell ⟨g, k, none⟩ (.int .i64 x)) g (l.set k x) := by
  unfold DS at h ⊢
  have e : (is (l.set k x)).toArray = (is l).toArray.setIfInBounds k (.int .i64 x) := by
    unfold is
    rw [List.map_set]
    simp
  rw [e]
  simp [World.setCell, Array.getElem?_modify, h]
theorem DS.keep {W W' : World} {g : Nat} {l : List Int} (h : DS W g l) (hb : W'.heap[g]? = W.heap[g]?) : DS W' g l := hb.trans h
end Go.Proofs.YtjpmhbnikoggaaaDoor
/-! Compare is an order (mathematics). -/
namespace Go.Proofs.Ws
open Go
/-- a comparison that is an order: -1, 0, 1 -/
structure Ord3 {α : Type} (c : α → α → Int) : Prop where
  vals : ∀ a b, c a b = -1 ∨ c a b = 0 ∨ c a b = 1
  anti : ∀ a b, c b a = -c a b
  trans : ∀ a b d, c a b ≤ 0 → c b d ≤ 0 → c a d = min (c a b) (c b d)
theorem Ord3.on {α β : Type} {c : β → β → Int} (h : Ord3 c) (f : α → β) : Ord3 (fun a b => c (f a) (f b)) :=
  ⟨fun _ _ => h.vals _ _, fun _ _ => h.anti _ _, fun _ _ _ => h.trans _ _ _⟩
end Go.Proofs.Ws
/- Layer 5: subformulas: depth, fragments, order (mathematics). -/
namespace Go.Proofs.YtjpmhbnikoggaaaDoor
open Go.RowKit Go.Proofs.Ws Go.Maps
theorem maskL_bit (g : Nd → Nat) (b : Nat) : ∀ (l : List Nd), (maskL g l).testBit b = true ↔ ∃ n ∈ l, (g n).testBit b = true := by
  have key : ∀ (l : List Nd) (a : Nat), (l.foldl (fun m n => m ||| g n) a).testBit b = true ↔ a.testBit b = true ∨ ∃ n ∈ l, (g n).testBit b = true := by
    intro l
    induction l with
    | nil => intro a; simp
    | cons n l ih =>
      intro a
      rw [List.foldl_cons, ih, Nat.testBit_or, Bool.or_eq_true]
      simp only [List.mem_cons, exists_eq_or_imp, or_assoc]
  intro l
  unfold maskL
  rw [key l 0]
  simp
end Go.Proofs.YtjpmhbnikoggaaaDoor
/- Layer 5: the builders of the reference: short, One, Unary, Binary. -/
namespace Go.Proofs.Ws
open Go
end Go.Proofs.Ws
namespace Go.Proofs.YtjpmhbnikoggaaaDoor
open Go.RowKit Go.Proofs.Ws Go.Maps
end Go.Proofs.YtjpmhbnikoggaaaDoor
/- Layer 5: Binary of the reference. -/
namespace Go.Proofs.YtjpmhbnikoggaaaDoor
open Go.RowKit Go.Proofs.Ws Go.Maps
theorem catL_ok {f g : List Nd} (hf : fErr f = 0) (hg : fErr g = 0) : opsL (f ++ g.map (shiftN f.length)) ∧ ∀ m ∈ f ++ g.map (shiftN f.length), fldOk m := by
  have h := catK_ok [f, g] (by intro h hh; simp at hh; rcases hh with rfl | rfl <;> assumption) 2 (by simp)
  have e : catK [f, g] 2 = f ++ g.map (shiftN f.length) := by
    have hs : f.map (shiftN 0) = f := by
      have : ∀ l : List Nd, l.map (shiftN 0) = l := by
        intro l
        induction l with
        | nil => rfl
        | cons a l ih =>
          rw [List.map_cons, ih]
          congr 1
          obtain ⟨o, i, e, g', x, y⟩ := a
          simp [shiftN]
      exact this f
    simp [catK, catS, hs]
  rw [e] at h
  exact ⟨h.1, h.2.1⟩
end Go.Proofs.YtjpmhbnikoggaaaDoor
/- Layer 5: both ways of building give the same formula. -/
namespace Go.Proofs.YtjpmhbnikoggaaaDoor
open Go.RowKit Go.Proofs.Ws Go.Maps
/-- the fields that an operator does not use are 0, but for its operands -/
def cleanN (n : Nd) : Prop := (n.op = 3 ∨ hasAgent n.op = true ∨ n.op = 17 ∨ n.i = 0) ∧ (n.op = 17 ∨ n.e = 0) ∧ (hasGroup n.op = true ∨ n.g = 0)
theorem map_shift0 : ∀ l : List Nd, l.map (shiftN 0) = l := by
  intro l
  induction l with
  | nil => rfl
  | cons a l ih =>
    rw [List.map_cons, ih]
    congr 1
    obtain ⟨o, i, e, g', x, y⟩ := a
    simp [shiftN]
end Go.Proofs.YtjpmhbnikoggaaaDoor
/- Layer 5: the law's own ways to build: with a constructor of the program, and as specified. -/
namespace Go.Proofs.Ws
open Go
end Go.Proofs.Ws
namespace Go.Proofs.YtjpmhbnikoggaaaDoor
open Go.RowKit Go.Proofs.Ws Go.Maps
end Go.Proofs.YtjpmhbnikoggaaaDoor
/- Layer 5: what building means for trees; every formula is built from its operands. -/
namespace Go.Proofs.YtjpmhbnikoggaaaDoor
open Go.RowKit Go.Proofs.Ws Go.Maps
theorem bare_shift (s : Nat) (n : Nd) : bare (shiftN s n) = bare n := rfl
/-- a list that stands behind another one keeps its trees -/
theorem treeAt_app {l f : List Nd} (h : opsL (l ++ f.map (shiftN l.length))) (hf : opsL f) : ∀ (k i : Nat), i < k → i < f.length → treeAt (l ++ f.map (shiftN l.length)) (l.length + i) = treeAt f i := by
  intro k
  induction k with
  | zero => intro i h; omega
  | succ k ih =>
    intro i hk hi
    have ho := hf i hi
    have hlen : l.length + i < (l ++ f.map (shiftN l.length)).length := by rw [List.length_append, List.length_map]; omega
    have hg : (l ++ f.map (shiftN l.length)).getD (l.length + i) nd0 = shiftN l.length (f.getD i nd0) := by
      rw [List.getD_eq_getElem?_getD, List.getElem?_append_right (by omega), show l.length + i - l.length = i from by omega, List.getElem?_map]
      simp [hi]
    rw [treeAt_eq h hlen, treeAt_eq hf hi, hg, bare_shift]
    have hop : (shiftN l.length (f.getD i nd0)).op = (f.getD i nd0).op := rfl
    rw [hop]
    by_cases hy : usesY (f.getD i nd0).op = true
    · rw [if_pos hy, if_pos hy]
      have hx := usesY_X hy
      have h1 := opsOk_x ho hx
      have h2 := opsOk_y ho hy
      have e1 : (shiftN l.length (f.getD i nd0)).x.toNat = l.length + (f.getD i nd0).x.toNat := by
        show (if usesX (f.getD i nd0).op = true then (f.getD i nd0).x + (l.length : Int) else _).toNat = _
        rw [if_pos hx]; omega
      have e2 : (shiftN l.length (f.getD i nd0)).y.toNat = l.length + (f.getD i nd0).y.toNat := by
        show (if usesY (f.getD i nd0).op = true then (f.getD i nd0).y + (l.length : Int) else _).toNat = _
        rw [if_pos hy]; omega
      rw [e1, e2, ih _ (by omega) (by omega), ih _ (by omega) (by omega)]
    · rw [if_neg hy, if_neg hy]
      by_cases hx : usesX (f.getD i nd0).op = true
      · rw [if_pos hx, if_pos hx]
        have h1 := opsOk_x ho hx
        have e1 : (shiftN l.length (f.getD i nd0)).x.toNat = l.length + (f.getD i nd0).x.toNat := by
          show (if usesX (f.getD i nd0).op = true then (f.getD i nd0).x + (l.length : Int) else _).toNat = _
          rw [if_pos hx]; omega
        rw [e1, ih _ (by omega) (by omega)]
      · rw [if_neg hx, if_neg hx]
theorem treeAt_left {l r : List Nd} (h : opsL (l ++ r)) {i : Nat} (hi : i < l.length) : treeAt (l ++ r) i = treeAt l i := by
  have := treeAt_take h l.length (i + 1) i (by omega) hi (by rw [List.length_append]; omega)
  rw [List.take_left] at this
  exact this.symm
/-- the tree of a formula -/
def treeOf (f : List Nd) : Tr := treeAt f (f.length - 1)
def shortT (t : Tr) : List Nd := if 200 < (canT t).length then [] else canT t
theorem treeOf_snoc {l : List Nd} {n : Nd} (h : opsL (l ++ [n])) : treeOf (l ++ [n]) = (if usesY n.op = true then .bin (bare n) (treeAt l n.x.toNat) (treeAt l n.y.toNat) else if usesX n.op = true then .un (bare n) (treeAt l n.x.toNat) else .leaf (bare n)) := by
  unfold treeOf
  have hl : (l ++ [n]).length - 1 = l.length := by simp
  have hg : (l ++ [n]).getD l.length nd0 = n := getD_some (by simp)
  have ho := h l.length (by simp)
  rw [hg] at ho
  rw [hl, treeAt_eq h (by simp), hg]
  by_cases hy : usesY n.op = true
  · rw [if_pos hy, if_pos hy]
    have h1 := opsOk_x ho (usesY_X hy)
    have h2 := opsOk_y ho hy
    rw [treeAt_left h h1.2, treeAt_left h h2.2]
  · rw [if_neg hy, if_neg hy]
    by_cases hx : usesX n.op = true
    · rw [if_pos hx, if_pos hx]
      have h1 := opsOk_x ho hx
      rw [treeAt_left h h1.2]
    · rw [if_neg hx, if_neg hx]
theorem build_un {n : Nd} {f : List Nd} (hk : known n.op = true) (hc : cleanN n) (hr : rangeOk n = true) (hb : bare n = n) (hux : usesX n.op = true) (huy : usesY n.op = false) (hf : fErr f = 0) : buildF n [f] = shortT (.un n (treeOf f)) := by
  obtain ⟨hx, hy⟩ := bare_x hb
  have hne : f.length ≠ 0 := by simpa using (fErr_ok hf).1
  have hok := (fin_1 n f hk hc hy hux huy hr (by intro g hg; simp at hg; rw [hg]; exact hf)).1
  have e : catK [f] [f].length = f := by simp [catK, catS, map_shift0]
  rw [e] at hok
  unfold buildF
  rw [if_neg (by rw [hr]; decide), if_neg (by simp [hf])]
  have e2 : catS [f] [] = f := by simp [catS, map_shift0]
  rw [e2]
  have hcan : canonF (f ++ [lastN n [f]]) = canT (.un n (treeOf f)) := by
    rw [canonF_tree hok.ops hok.ne]
    show canT (treeOf (f ++ [lastN n [f]])) = _
    rw [treeOf_snoc hok.ops]
    have ho : (lastN n [f]).op = n.op := rfl
    rw [ho, if_neg (by rw [huy]; decide), if_pos hux]
    have hbx : bare (lastN n [f]) = n := by rw [← hb]; rfl
    have hxx : (lastN n [f]).x.toNat = f.length - 1 := by show ((f.length : Int) - 1).toNat = _; omega
    rw [hbx, hxx]; rfl
  rw [hcan]; rfl
theorem build_bin {n : Nd} {f g : List Nd} (hk : known n.op = true) (hc : cleanN n) (hr : rangeOk n = true) (hb : bare n = n) (hux : usesX n.op = true) (huy : usesY n.op = true) (hf : fErr f = 0) (hg : fErr g = 0) : buildF n [f, g] = shortT (.bin n (treeOf f) (treeOf g)) := by
  have hne : f.length ≠ 0 := by simpa using (fErr_ok hf).1
  have hne2 : g.length ≠ 0 := by simpa using (fErr_ok hg).1
  have hok := (fin_2 n f g hk hc hux huy hr (by intro h hh; simp at hh; rcases hh with rfl | rfl <;> assumption)).1
  have e : catK [f, g] [f, g].length = f ++ g.map (shiftN f.length) := by simp [catK, catS, map_shift0]
  rw [e] at hok
  unfold buildF
  rw [if_neg (by rw [hr]; decide), if_neg (by simp [hf, hg])]
  have e2 : catS [f, g] [] = f ++ g.map (shiftN f.length) := by simp [catS, map_shift0]
  rw [e2]
  obtain ⟨hol, _⟩ := catL_ok hf hg
  have hcan : canonF (f ++ g.map (shiftN f.length) ++ [lastN n [f, g]]) = canT (.bin n (treeOf f) (treeOf g)) := by
    rw [canonF_tree hok.ops hok.ne]
    show canT (treeOf (f ++ g.map (shiftN f.length) ++ [lastN n [f, g]])) = _
    rw [treeOf_snoc hok.ops]
    have ho : (lastN n [f, g]).op = n.op := rfl
    rw [ho, if_pos huy]
    have hbx : bare (lastN n [f, g]) = n := by rw [← hb]; rfl
    have hxx : (lastN n [f, g]).x.toNat = f.length - 1 := by show ((f.length : Int) - 1).toNat = _; omega
    have hyy : (lastN n [f, g]).y.toNat = f.length + (g.length - 1) := by show ((f.length + g.length : Int) - 1).toNat = _; omega
    rw [hbx, hxx, hyy, treeAt_left hol (by omega), treeAt_app hol (fErr_ops hg) _ _ (Nat.lt_succ_self _) (by omega)]
    rfl
  rw [hcan]; rfl
end Go.Proofs.YtjpmhbnikoggaaaDoor
