/- Layer 6: texts joined: Dc Dd De Df Dg Dh. -/
import Derived.Test.YtjpmhbnikoggaaaDoorNIa
import Derived.Test.YtjpmhbnikoggaaaDoorNIf
import Derived.Laws.BitsAllLaws
/- Layer 13: slices of words and of lists of words, a model in memory; small functions of both sides. -/
namespace Go.Proofs.YtjpmhbnikoggaaaDoor
open Go.RowKit Go.Proofs.Ws
set_option maxRecDepth 100000
/-- a slice of lists of words -/
structure UsR (W : World) (B : Nat) (A : Option Addr) (n : Nat) (ls : List (List Nat)) : Prop where
  len : ls.length = n
  ex : ∃ vs, Reads W B 1 A n vs ∧ ∀ j, j < n → ∃ Aj cj, vs[j]? = some (.slice Aj (ls.getD j []).length cj) ∧ Reads W B 1 Aj (ls.getD j []).length (us (ls.getD j [])) ∧ (ls.getD j []).length ≤ maxLen
theorem UsR.below {W W' : World} {B B2 : Nat} {A : Option Addr} {n : Nat} {ls : List (List Nat)} (h : UsR W B A n ls) (hb : Below B W W') (h2 : B ≤ B2) : UsR W' B2 A n ls := by
  obtain ⟨vs, h1, h3⟩ := h.ex
  refine ⟨h.len, vs, (h1.below hb).more h2, fun j hj => ?_⟩
  obtain ⟨Aj, cj, e1, e2, e3⟩ := h3 j hj
  exact ⟨Aj, cj, e1, (e2.below hb).more h2, e3⟩
theorem UsR.at_ {W : World} {B : Nat} {A : Option Addr} {n k : Nat} {ls : List (List Nat)} (h : UsR W B A n ls) (hk : k < n) :
    ∃ ad Aj cj, A = some ad ∧ ad.block < B ∧ W.cell? (ad.add k) = some (.slice Aj (ls.getD k []).length cj) ∧ Reads W B 1 Aj (ls.getD k []).length (us (ls.getD k [])) ∧ (ls.getD k []).length ≤ maxLen := by
  obtain ⟨vs, h1, h3⟩ := h.ex
  obtain ⟨Aj, cj, e1, e2, e3⟩ := h3 k hk
  obtain ⟨ad, rfl, hb, hc⟩ := h1.2 (by omega)
  exact ⟨ad, Aj, cj, rfl, hb, hc k _ e1, e2, e3⟩
/-- a model in memory -/
structure MoR (W : World) (B : Nat) (v : Value) (m : Mo) : Prop where
  ex : ∃ A1 c1 A2 c2, v = .agg #[.int .i64 m.n, .slice A1 m.val.length c1, .slice A2 m.rel.length c2] ∧ Reads W B 1 A1 m.val.length (us m.val) ∧ UsR W B A2 m.rel.length m.rel
  lim : m.val.length ≤ maxLen ∧ m.rel.length ≤ maxLen
  num : -9223372036854775808 ≤ m.n ∧ m.n < 9223372036854775808
  wval : Words m.val
  wrel : ∀ r ∈ m.rel, Words r
theorem MoR.below {W W' : World} {B B2 : Nat} {v : Value} {m : Mo} (h : MoR W B v m) (hb : Below B W W') (h2 : B ≤ B2) : MoR W' B2 v m := by
  obtain ⟨A1, c1, A2, c2, e, h1, h3⟩ := h.ex
  exact ⟨⟨A1, c1, A2, c2, e, (h1.below hb).more h2, h3.below hb h2⟩, h.lim, h.num, h.wval, h.wrel⟩
theorem shr_zero (x n : Nat) : ((x : Int) / 2 ^ n != 0) = !decide (x < 2 ^ n) := by
  have hp := Nat.two_pow_pos n
  rw [show ((x : Int) / 2 ^ n) = ((x / 2 ^ n : Nat) : Int) by simp]
  by_cases h : x < 2 ^ n
  · rw [Nat.div_eq_of_lt h, decide_eq_true h]; rfl
  · have : 0 < x / 2 ^ n := Nat.div_pos (by omega) hp
    rw [decide_eq_false h, Bool.not_false, bne_iff_ne]; omega
set_option maxHeartbeats 2000000 in
theorem within_any (n : Nat) (l : List Nat) (A : Option Addr) (k c B : Nat) (w : World) (hn : n ≤ 64) (hR : Reads w B 1 A k (us l)) (hw : Words l) (hk : k ≤ maxLen) :
    Calls Tryd.prog 52 #[.int .i64 (n : Int), .slice A k c] w fun e w' => e = .returned (.bool (inW n l)) ∧ w = w' := by
  unfold maxLen at hk
  have hl := hR.word_len
  have HR := Lib.hid hR
  have HW := Lib.hid hw
  have HL := Lib.hid hl
  clear hR hw hl
  go_enter Tryd.func52, Tryd.ntmps52
  go_wp2
  go_loopw [6, 9] (fun _ i wr => ∃ j : Nat, j ≤ k ∧ i = .int .i64 j ∧ Hid (∀ x ∈ l.take j, x < 2 ^ n) ∧ w = wr) (fun _ i _ => k - (intOf i).toNat)
  case atStart => exact ⟨0, Nat.zero_le _, rfl, Lib.hid (by simp), rfl⟩
  case round =>
    obtain ⟨j, hj, rfl, HF, rfl⟩ := hrel
    by_cases hlt : j < k
    · obtain ⟨ad, x, rfl, hb, hj2, hx, hxm, _, hc⟩ := HR.out.word_at hlt
      have hs := shr_zero x n
      by_cases h : x < 2 ^ n
      · rw [decide_eq_true h, Bool.not_true] at hs
        have HF2 : Hid (∀ x ∈ l.take (j + 1), x < 2 ^ n) := Lib.hid (by
          rw [List.take_succ_eq_append_getElem hj2]
          intro y hy
          rcases List.mem_append.1 hy with hy | hy
          · exact HF.out y hy
          · rw [List.mem_singleton.1 hy]
            rw [List.getD_eq_getElem?_getD, List.getElem?_eq_getElem hj2] at hx
            simp at hx
            rw [hx]; exact h)
        clear h hx hxm HF
        go_wp2
        go_roundw
        case rel => exact ⟨j + 1, by omega, by go_num, HF2, by first | rfl | trivial⟩
        case measure => simp [intOf]; omega
      · rw [decide_eq_false h, Bool.not_false] at hs
        have HD : Hid (inW n l = false) := Lib.hid (by
          unfold inW
          rw [List.all_eq_false]
          exact ⟨x, hxm, by simpa using h⟩)
        clear h hx hxm HF
        go_wp2
        go_ret
        exact ⟨ret_bool HD.out.symm, rfl⟩
    · have HD : Hid (inW n l = true) := Lib.hid (by
        have e : l.take j = l := List.take_of_length_le (by have := HL.out; omega)
        have := HF.out
        rw [e] at this
        unfold inW
        rw [List.all_eq_true]
        exact fun x hx => decide_eq_true (this x hx))
      clear HF
      go_wp2
      go_ret
      exact ⟨ret_bool HD.out.symm, rfl⟩
theorem rAll_any (n : Nat) (w : World) (h : n ≤ 64) :
    Calls Tryd.prog 18 #[.int .i64 (n : Int)] w fun e w' => e = .returned (.int .u64 ((2 ^ n - 1 : Nat) : Int)) ∧ w = w' := by
  have hv := wrap_allV n h
  rw [allV_nat n h] at hv
  by_cases h64 : n = 64
  · subst h64
    clear hv
    go_enter Tryd.func18, Tryd.ntmps18
    go_wp2
    go_ret
    exact ⟨ret_u64 (by decide), rfl⟩
  · have hd : decide ((64 : Int) ≤ (n : Int)) = false := decide_eq_false (by omega)
    go_enter Tryd.func18, Tryd.ntmps18
    go_wp2
    go_ret
    exact ⟨rfl, rfl⟩
end Go.Proofs.YtjpmhbnikoggaaaDoor
/- Layer 13: the check of a model on both sides. -/
namespace Go.Proofs.Ws
theorem chkM_rng {m : Mo} (h : m.n < 1 ∨ 64 < m.n) : chkM m = 2 := by unfold chkM; rw [if_pos h]
theorem chkM_lim {m : Mo} (h : ¬ (m.n < 1 ∨ 64 < m.n)) (h2 : 4 < m.rel.length ∨ 8 < m.val.length) : chkM m = 8 := by unfold chkM; rw [if_neg h, if_pos h2]
theorem chkM_form {m : Mo} (h : ¬ (m.n < 1 ∨ 64 < m.n)) (h2 : ¬ (4 < m.rel.length ∨ 8 < m.val.length)) (h3 : ∃ r ∈ m.rel, (r.length : Int) ≠ m.n) : chkM m = 3 := by
  unfold chkM; rw [if_neg h, if_neg h2, if_neg]
  obtain ⟨r, hr, hne⟩ := h3
  intro h
  rw [List.all_eq_true] at h
  exact hne (of_decide_eq_true (h r hr))
theorem chkM_last {m : Mo} (h : ¬ (m.n < 1 ∨ 64 < m.n)) (h2 : ¬ (4 < m.rel.length ∨ 8 < m.val.length)) (h3 : ∀ r ∈ m.rel, (r.length : Int) = m.n) : chkM m = if inW m.n.toNat m.val && m.rel.all (inW m.n.toNat) then 0 else 2 := by
  unfold chkM; rw [if_neg h, if_neg h2, if_pos]
  rw [List.all_eq_true]
  exact fun r hr => decide_eq_true (h3 r hr)
theorem take_one {α : Type} {l : List α} {j : Nat} {d : α} (h : j < l.length) {P : α → Prop} (h1 : ∀ x ∈ l.take j, P x) (h2 : P (l.getD j d)) : ∀ x ∈ l.take (j + 1), P x := by
  rw [List.take_succ_eq_append_getElem h]
  intro y hy
  rcases List.mem_append.1 hy with hy | hy
  · exact h1 y hy
  · rw [List.mem_singleton.1 hy]
    rw [List.getD_eq_getElem?_getD, List.getElem?_eq_getElem h] at h2
    exact h2
theorem getD_mem' {α : Type} {l : List α} {j : Nat} {d : α} (h : j < l.length) : l.getD j d ∈ l := by
  rw [List.getD_eq_getElem?_getD, List.getElem?_eq_getElem h]; exact List.getElem_mem h
end Go.Proofs.Ws
namespace Go.Proofs.YtjpmhbnikoggaaaDoor
open Go.RowKit Go.Proofs.Ws
set_option maxRecDepth 100000
/-- a box of a model -/
def MBox (W : World) (g : Nat) (n : Int) (v1 v2 : Value) : Prop := W.heap[g]? = some (.cells #[.int .i64 n, v1, v2] 25 (0, 0))
section
variable {W W' : World} {g : Nat} {n : Int} {v1 v2 : Value}
theorem MBox.c0 (h : MBox W g n v1 v2) : W.cell? ⟨g, 0, none⟩ = some (.int .i64 n) := by rw [Lib.cell_of_heap h]; rfl
theorem MBox.c1 (h : MBox W g n v1 v2) : W.cell? ⟨g, 1, none⟩ = some v1 := by rw [Lib.cell_of_heap h]; rfl
theorem MBox.c2 (h : MBox W g n v1 v2) : W.cell? ⟨g, 2, none⟩ = some v2 := by rw [Lib.cell_of_heap h]; rfl
theorem MBox.free (h : MBox W g n v1 v2) (k : Nat) : W.frozen? ⟨g, k, none⟩ = false := Lib.frozen_of_heap h k
theorem MBox.lt (h : MBox W g n v1 v2) : g < W.heap.size := (Array.getElem?_eq_some_iff.1 h).1
theorem MBox.below {B : Nat} (h : MBox W g n v1 v2) (hb : Below B W W') (hg : g < B) : MBox W' g n v1 v2 := (hb.block g hg).trans h
theorem MBox.made (W : World) (n : Int) (v1 v2 : Value) : MBox (W.alloc (.cells #[.int .i64 n, v1, v2] 25)) W.heap.size n v1 v2 := heap_alloc_new W _
end
set_option maxHeartbeats 4000000 in
theorem pCheck_any (m : Mo) (v : Value) (w : World) (hM : MoR w w.heap.size v m) :
    Calls Tryd.prog 38 #[v] w fun e w' => e = .returned (.int .i64 (chkM m)) ∧ Below w.heap.size w w' := by
  obtain ⟨A1, c1, A2, c2, rfl, hv, hr⟩ := hM.ex
  have hlm := hM.lim
  have hwv := hM.wval
  have hwr := hM.wrel
  obtain ⟨n, val, rel⟩ := m
  dsimp only at hv hr hlm hwv hwr ⊢
  unfold maxLen at hlm
  by_cases h0 : n < 1 ∨ 64 < n
  · have HV := Lib.hid (chkM_rng (m := ⟨n, val, rel⟩) h0)
    clear hM hv hr hwv hwr
    by_cases h1 : n < 1
    · have d0 : decide (n < 1) = true := decide_eq_true h1
      go_enter Tryd.func38, Tryd.ntmps38
      go_wp2
      go_ret
      exact ⟨ret_i64 HV.out.symm, (Below.refl _ w).alloc (Nat.le_refl _) _⟩
    · have d0 : decide (n < 1) = false := decide_eq_false h1
      have d1 : decide (64 < n) = true := decide_eq_true (by omega)
      go_enter Tryd.func38, Tryd.ntmps38
      go_wp2
      go_ret
      exact ⟨ret_i64 HV.out.symm, (Below.refl _ w).alloc (Nat.le_refl _) _⟩
  · have d0 : decide (n < 1) = false := decide_eq_false (by omega)
    have d1 : decide (64 < n) = false := decide_eq_false (by omega)
    by_cases h2 : 4 < rel.length ∨ 8 < val.length
    · have HV := Lib.hid (chkM_lim (m := ⟨n, val, rel⟩) h0 h2)
      clear hM hv hr hwv hwr
      by_cases h3 : 4 < rel.length
      · have d2 : decide ((4 : Int) < (rel.length : Int)) = true := decide_eq_true (by omega)
        go_enter Tryd.func38, Tryd.ntmps38
        go_wp2
        go_ret
        exact ⟨ret_i64 HV.out.symm, (Below.refl _ w).alloc (Nat.le_refl _) _⟩
      · have d2 : decide ((4 : Int) < (rel.length : Int)) = false := decide_eq_false (by omega)
        have d3 : decide ((8 : Int) < (val.length : Int)) = true := decide_eq_true (by omega)
        go_enter Tryd.func38, Tryd.ntmps38
        go_wp2
        go_ret
        exact ⟨ret_i64 HV.out.symm, (Below.refl _ w).alloc (Nat.le_refl _) _⟩
    · have d2 : decide ((4 : Int) < (rel.length : Int)) = false := decide_eq_false (by omega)
      have d3 : decide ((8 : Int) < (val.length : Int)) = false := decide_eq_false (by omega)
      have HF := Lib.hid (fun h => chkM_form (m := ⟨n, val, rel⟩) h0 h2 h)
      have HL := Lib.hid (fun h => chkM_last (m := ⟨n, val, rel⟩) h0 h2 h)
      obtain ⟨k, rfl⟩ : ∃ k : Nat, n = (k : Int) := ⟨n.toNat, by omega⟩
      have hk : k ≤ 64 := by omega
      have HB := Lib.hid (MBox.made w (k : Int) (.slice A1 val.length c1) (.slice A2 rel.length c2))
      have HBe : Hid (Below w.heap.size w (w.alloc (.cells #[.int .i64 (k : Int), .slice A1 val.length c1, .slice A2 rel.length c2] 25))) := Lib.hid ((Below.refl _ w).alloc (Nat.le_refl _) _)
      have HRV := Lib.hid hv
      have HRR := Lib.hid hr
      have HWV := Lib.hid hwv
      have HWR := Lib.hid hwr
      have hl1 : val.length ≤ 8 := by omega
      have hl2 : rel.length ≤ 4 := by omega
      clear hM hv hr hwv hwr h0 h2 hlm
      go_enter Tryd.func38, Tryd.ntmps38
      go_wp2
      generalize w.alloc (.cells #[.int .i64 (k : Int), .slice A1 val.length c1, .slice A2 rel.length c2] 25) = w1 at *
      have b0 := HB.out.c0
      have b1 := HB.out.c1
      have b2 := HB.out.c2
      generalize hq : rel.length = q at *
      have HQ := Lib.hid hq
      clear hq d2 d0 d1
      go_loopw [4, 28] (fun _ i wr => ∃ j : Nat, j ≤ q ∧ i = .int .i64 j ∧ Hid (∀ r ∈ rel.take j, (r.length : Int) = k) ∧ w1 = wr) (fun _ i _ => q - (intOf i).toNat)
      case atStart => exact ⟨0, Nat.zero_le _, rfl, Lib.hid (by simp), by first | rfl | trivial⟩
      case round =>
        obtain ⟨j, hj, rfl, HT, rfl⟩ := hrel
        by_cases hlt : j < q
        · obtain ⟨ad, Aj, cj, rfl, had, hcell, hrj, hlj⟩ := (HRR.out.below HBe.out (Nat.le_refl _)).at_ hlt
          clear hrj
          unfold maxLen at hlj
          generalize hrd : rel.getD j [] = rj at *
          have HRJ := Lib.hid hrd
          clear hrd
          by_cases he : rj.length = k
          · have HT2 : Hid (∀ r ∈ rel.take (j + 1), (r.length : Int) = k) := Lib.hid (take_one (d := []) (by have := HQ.out; omega) HT.out (by rw [HRJ.out, he]))
            have hn : ((rj.length : Int) != (k : Int)) = false := by rw [he]; simp
            clear HT he
            go_wp2
            go_roundw
            case rel => exact ⟨j + 1, by omega, by go_num, HT2, by first | rfl | trivial⟩
            case measure => first | (simp [intOf]; done) | (simp [intOf]; omega)
          · have hn : ((rj.length : Int) != (k : Int)) = true := by rw [bne_iff_ne]; omega
            have HV := Lib.hid (HF.out ⟨rj, by rw [← HRJ.out]; exact getD_mem' (by have := HQ.out; omega), by omega⟩)
            clear HT he
            go_wp2
            go_ret
            exact ⟨ret_i64 HV.out.symm, HBe.out⟩
        · have hjq : j = q := by omega
          subst hjq
          have HV := Lib.hid (HL.out (fun r hr => HT.out r (by rw [List.take_of_length_le (by have := HQ.out; omega)]; exact hr)))
          have hsz := HBe.out.size
          have HW := Lib.hid (within_any k val A1 val.length c1 w1.heap.size w1 hk ((HRV.out.below HBe.out).more hsz) HWV.out (by unfold maxLen; omega))
          rw [show (((k : Nat) : Int)).toNat = k from rfl] at HV
          clear HT
          by_cases hiv : inW k val = true
          · rw [hiv] at HW HV
            clear hiv
            go_wp2_with fail
            refine (HW.out).mono ?_
            rintro e w2 ⟨rfl, rfl⟩
            go_wp2
            go_loopw [6, 47] (fun _ i wr => ∃ i' : Nat, i' ≤ j ∧ i = .int .i64 i' ∧ Hid (∀ r ∈ rel.take i', inW k r = true) ∧ w1 = wr) (fun _ i _ => j - (intOf i).toNat)
            case atStart => exact ⟨0, Nat.zero_le _, rfl, Lib.hid (by simp), by first | rfl | trivial⟩
            case round =>
              obtain ⟨i, hi, rfl, HT, rfl⟩ := hrel
              by_cases hlt2 : i < j
              · obtain ⟨ad, Ai, ci, rfl, had, hcell, hri, hli⟩ := (HRR.out.below HBe.out hsz).at_ hlt2
                have HW2 := Lib.hid (within_any k (rel.getD i []) Ai _ ci w1.heap.size w1 hk hri (HWR.out _ (getD_mem' (by have := HQ.out; omega))) hli)
                clear hri hli
                generalize hrd : rel.getD i [] = ri at *
                have HRI := Lib.hid hrd
                clear hrd
                by_cases he : inW k ri = true
                · rw [he] at HW2
                  have HT2 : Hid (∀ r ∈ rel.take (i + 1), inW k r = true) := Lib.hid (take_one (d := []) (by have := HQ.out; omega) HT.out (by rw [HRI.out, he]))
                  clear HT he
                  go_wp2_with fail
                  refine (HW2.out).mono ?_
                  rintro e w3 ⟨rfl, rfl⟩
                  go_wp2
                  go_roundw
                  case rel => exact ⟨i + 1, by omega, by go_num, HT2, by first | rfl | trivial⟩
                  case measure => first | (simp [intOf]; done) | (simp [intOf]; omega)
                · have he2 : inW k ri = false := by simpa using he
                  rw [he2] at HW2
                  have HV2 : Hid (chkM ⟨(k : Int), val, rel⟩ = 2) := Lib.hid (by
                    rw [HV.out]
                    rw [if_neg]
                    rw [Bool.true_and, List.all_eq_true]
                    intro h
                    exact he (h ri (by rw [← HRI.out]; exact getD_mem' (by have := HQ.out; omega))))
                  clear HT he he2
                  go_wp2_with fail
                  refine (HW2.out).mono ?_
                  rintro e w3 ⟨rfl, rfl⟩
                  go_wp2
                  go_ret
                  exact ⟨ret_i64 HV2.out.symm, HBe.out⟩
              · have hij : i = j := by omega
                subst hij
                have HV2 : Hid (chkM ⟨(k : Int), val, rel⟩ = 0) := Lib.hid (by
                  rw [HV.out, if_pos]
                  rw [Bool.true_and, List.all_eq_true]
                  intro r hr
                  exact HT.out r (by rw [List.take_of_length_le (by have := HQ.out; omega)]; exact hr))
                clear HT
                go_wp2
                go_ret
                exact ⟨ret_i64 HV2.out.symm, HBe.out⟩
          · have hiv2 : inW k val = false := by simpa using hiv
            rw [hiv2] at HW HV
            have HV2 : Hid (chkM ⟨(k : Int), val, rel⟩ = 2) := Lib.hid (by rw [HV.out]; rfl)
            clear hiv hiv2
            go_wp2_with fail
            refine (HW.out).mono ?_
            rintro e w2 ⟨rfl, rfl⟩
            go_wp2
            go_ret
            exact ⟨ret_i64 HV2.out.symm, HBe.out⟩
end Go.Proofs.YtjpmhbnikoggaaaDoor
/- Layer 13: the reference's check of a model; the facts at a world. -/
namespace Go.Proofs.YtjpmhbnikoggaaaDoor
open Go.RowKit Go.Proofs.Ws
set_option maxRecDepth 100000
theorem quiet_add {P : Program} {f : FuncId} {args : Array Value} {w : World} {p n : Nat} {v : Value} (h : Calls P f args (w.drewN (p + n)) fun e w' => e = .returned v ∧ ∃ k, w' = (w.drewN (p + n)).drewN k) :
    Calls P f args (w.drewN (p + n)) fun e w'' => e = .returned v ∧ ∃ m, w'' = w.drewN (p + m) := h.mono fun _ _ ⟨he, k, hm⟩ => ⟨he, n + k, by rw [hm, World.drewN_drewN, Nat.add_assoc]⟩
theorem out_fact (x n : Nat) (hx : x < 18446744073709551616) (hn : n ≤ 64) : (bits .andNot .u64 (x : Int) ((2 ^ n - 1 : Nat) : Int) != 0) = !decide (x < 2 ^ n) := by
  have h := outside_in x n hx ⟨by omega, by omega⟩
  rw [allV_nat n hn] at h
  exact h
set_option maxHeartbeats 4000000 in
theorem rBeyond_any (n : Nat) (l : List Nat) (A : Option Addr) (k c B : Nat) (w : World) (hn : n ≤ 64) (hR : Reads w B 1 A k (us l)) (hw : Words l) (hk : k ≤ maxLen) :
    Calls Tryd.prog 36 #[.slice A k c, .int .i64 (n : Int)] w fun e w' => e = .returned (.bool (!inW n l)) ∧ ∃ q, w' = w.drewN q := by
  unfold maxLen at hk
  have HA := Lib.hid (fun w => rAll_any n w hn)
  have HR := Lib.hid hR
  have HW := Lib.hid hw
  have HL := Lib.hid hR.word_len
  have HO := Lib.hid (fun x hx => out_fact x n hx hn)
  clear hR hw
  generalize 2 ^ n - 1 = z at *
  go_enter Tryd.func36, Tryd.ntmps36
  go_wp2
  go_loopw [5] (fun i wr => ∃ j q : Nat, j ≤ k ∧ i = .int .i64 j ∧ Hid (∀ x ∈ l.take j, x < 2 ^ n) ∧ wr = w.drewN q) (fun i _ => k - (intOf i).toNat)
  case atStart => exact ⟨0, 0, Nat.zero_le _, rfl, Lib.hid (by simp), rfl⟩
  case round =>
    obtain ⟨j, q, hj, rfl, HF, rfl⟩ := hrel
    by_cases hlt : j < k
    · obtain ⟨ad, x, rfl, hb, hj2, hx, hxm, _, hc⟩ := HR.out.word_at hlt
      have hs := HO.out x (HW.out x hxm)
      by_cases h : x < 2 ^ n
      · rw [decide_eq_true h, Bool.not_true] at hs
        have HF2 : Hid (∀ x ∈ l.take (j + 1), x < 2 ^ n) := Lib.hid (take_one hj2 HF.out (by rw [hx]; exact h))
        clear h hx hxm HF
        go_wp2
        go_quiet (first | (go_at_call 18; exact quiet_same (HA.out _)))
        go_wp2
        go_roundw
        case rel => exact ⟨j + 1, q + nq, by omega, by go_num, HF2, by first | rfl | rw [World.drewN_drewN]⟩
        case measure => first | (simp [intOf]; done) | (simp [intOf]; omega)
      · rw [decide_eq_false h, Bool.not_false] at hs
        have HD : Hid ((!inW n l) = true) := Lib.hid (by
          have : inW n l = false := by unfold inW; rw [List.all_eq_false]; exact ⟨x, hxm, by simpa using h⟩
          rw [this]; rfl)
        clear h hx hxm HF
        go_wp2
        go_quiet (first | (go_at_call 18; exact quiet_same (HA.out _)))
        go_wp2
        go_ret
        exact ⟨ret_bool HD.out.symm, ⟨q + nq, by first | rfl | rw [World.drewN_drewN]⟩⟩
    · have HD : Hid ((!inW n l) = false) := Lib.hid (by
        have e : l.take j = l := List.take_of_length_le (by have := HL.out; omega)
        have h2 := HF.out
        rw [e] at h2
        have : inW n l = true := by unfold inW; rw [List.all_eq_true]; exact fun x hx => decide_eq_true (h2 x hx)
        rw [this]; rfl)
      clear HF
      go_wp2
      go_ret
      exact ⟨ret_bool HD.out.symm, ⟨_, rfl⟩⟩
set_option maxHeartbeats 4000000 in
theorem rCheck_any (m : Mo) (v : Value) (w : World) (hM : MoR w w.heap.size v m) :
    Calls Tryd.prog 11 #[v] w fun e w' => e = .returned (.int .i64 (chkM m)) ∧ Below w.heap.size w w' := by
  obtain ⟨A1, c1, A2, c2, rfl, hv, hr⟩ := hM.ex
  have hlm := hM.lim
  have hwv := hM.wval
  have hwr := hM.wrel
  obtain ⟨n, val, rel⟩ := m
  dsimp only at hv hr hlm hwv hwr ⊢
  unfold maxLen at hlm
  by_cases h0 : n < 1 ∨ 64 < n
  · have HV := Lib.hid (chkM_rng (m := ⟨n, val, rel⟩) h0)
    clear hM hv hr hwv hwr
    by_cases h1 : n < 1
    · have d0 : decide (n < 1) = true := decide_eq_true h1
      go_enter Tryd.func11, Tryd.ntmps11
      go_wp2
      go_ret
      exact ⟨ret_i64 HV.out.symm, (Below.refl _ w).alloc (Nat.le_refl _) _⟩
    · have d0 : decide (n < 1) = false := decide_eq_false h1
      have d1 : decide (64 < n) = true := decide_eq_true (by omega)
      go_enter Tryd.func11, Tryd.ntmps11
      go_wp2
      go_ret
      exact ⟨ret_i64 HV.out.symm, (Below.refl _ w).alloc (Nat.le_refl _) _⟩
  · have d0 : decide (n < 1) = false := decide_eq_false (by omega)
    have d1 : decide (64 < n) = false := decide_eq_false (by omega)
    by_cases h2 : 4 < rel.length ∨ 8 < val.length
    · have HV := Lib.hid (chkM_lim (m := ⟨n, val, rel⟩) h0 h2)
      clear hM hv hr hwv hwr
      by_cases h3 : 4 < rel.length
      · have d2 : decide ((4 : Int) < (rel.length : Int)) = true := decide_eq_true (by omega)
        go_enter Tryd.func11, Tryd.ntmps11
        go_wp2
        go_ret
        exact ⟨ret_i64 HV.out.symm, (Below.refl _ w).alloc (Nat.le_refl _) _⟩
      · have d2 : decide ((4 : Int) < (rel.length : Int)) = false := decide_eq_false (by omega)
        have d3 : decide ((8 : Int) < (val.length : Int)) = true := decide_eq_true (by omega)
        go_enter Tryd.func11, Tryd.ntmps11
        go_wp2
        go_ret
        exact ⟨ret_i64 HV.out.symm, (Below.refl _ w).alloc (Nat.le_refl _) _⟩
    · have d2 : decide ((4 : Int) < (rel.length : Int)) = false := decide_eq_false (by omega)
      have d3 : decide ((8 : Int) < (val.length : Int)) = false := decide_eq_false (by omega)
      have HF := Lib.hid (fun h => chkM_form (m := ⟨n, val, rel⟩) h0 h2 h)
      have HL := Lib.hid (fun h => chkM_last (m := ⟨n, val, rel⟩) h0 h2 h)
      obtain ⟨k, rfl⟩ : ∃ k : Nat, n = (k : Int) := ⟨n.toNat, by omega⟩
      have hk : k ≤ 64 := by omega
      have HB := Lib.hid (MBox.made w (k : Int) (.slice A1 val.length c1) (.slice A2 rel.length c2))
      have HBe : Hid (Below w.heap.size w (w.alloc (.cells #[.int .i64 (k : Int), .slice A1 val.length c1, .slice A2 rel.length c2] 25))) := Lib.hid ((Below.refl _ w).alloc (Nat.le_refl _) _)
      have HRV := Lib.hid hv
      have HRR := Lib.hid hr
      have HWV := Lib.hid hwv
      have HWR := Lib.hid hwr
      have hl1 : val.length ≤ 8 := by omega
      have hl2 : rel.length ≤ 4 := by omega
      clear hM hv hr hwv hwr h0 h2 hlm
      go_enter Tryd.func11, Tryd.ntmps11
      go_wp2
      generalize w.alloc (.cells #[.int .i64 (k : Int), .slice A1 val.length c1, .slice A2 rel.length c2] 25) = w1 at *
      have b0 := HB.out.c0
      have b1 := HB.out.c1
      have b2 := HB.out.c2
      generalize hq : rel.length = q at *
      have HQ := Lib.hid hq
      clear hq d2 d0 d1
      go_loopw [3] (fun i wr => ∃ j p : Nat, j ≤ q ∧ i = .int .i64 j ∧ Hid (∀ r ∈ rel.take j, (r.length : Int) = k) ∧ wr = w1.drewN p) (fun i _ => q - (intOf i).toNat)
      case atStart => exact ⟨0, 0, Nat.zero_le _, rfl, Lib.hid (by simp), rfl⟩
      case round =>
        obtain ⟨j, p, hj, rfl, HT, rfl⟩ := hrel
        by_cases hlt : j < q
        · obtain ⟨ad, Aj, cj, rfl, had, hcell, hrj, hlj⟩ := (HRR.out.below HBe.out (Nat.le_refl _)).at_ hlt
          clear hrj
          unfold maxLen at hlj
          generalize hrd : rel.getD j [] = rj at *
          have HRJ := Lib.hid hrd
          clear hrd
          by_cases he : rj.length = k
          · have HT2 : Hid (∀ r ∈ rel.take (j + 1), (r.length : Int) = k) := Lib.hid (take_one (d := []) (by have := HQ.out; omega) HT.out (by rw [HRJ.out, he]))
            have hn : ((rj.length : Int) != (k : Int)) = false := by rw [he]; simp
            clear HT he
            go_wp2
            go_quiet (fail)
            go_wp2
            go_roundw
            case rel => exact ⟨j + 1, p + nq, by omega, by go_num, HT2, by first | rfl | rw [World.drewN_drewN]⟩
            case measure => first | (simp [intOf]; done) | (simp [intOf]; omega)
          · have hn : ((rj.length : Int) != (k : Int)) = true := by rw [bne_iff_ne]; omega
            have HV := Lib.hid (HF.out ⟨rj, by rw [← HRJ.out]; exact getD_mem' (by have := HQ.out; omega), by omega⟩)
            clear HT he
            go_wp2
            go_quiet (fail)
            go_wp2
            go_ret
            exact ⟨ret_i64 HV.out.symm, below_drewN (below_drewN HBe.out _) _⟩
        · have hjq : j = q := by omega
          subst hjq
          have HV := Lib.hid (HL.out (fun r hr => HT.out r (by rw [List.take_of_length_le (by have := HQ.out; omega)]; exact hr)))
          have hsz := HBe.out.size
          have HW := Lib.hid (rBeyond_any k val A1 val.length c1 w1.heap.size (w1.drewN p) hk (((HRV.out.below HBe.out).more hsz).drewN p) HWV.out (by unfold maxLen; omega))
          rw [show (((k : Nat) : Int)).toNat = k from rfl] at HV
          clear HT
          by_cases hiv : inW k val = true
          · rw [hiv] at HW HV
            clear hiv
            go_wp2_with fail
            refine (HW.out).mono ?_
            rintro e w2 ⟨rfl, p2, rfl⟩
            rw [World.drewN_drewN]
            go_wp2
            go_loopw [4] (fun i wr => ∃ i' p : Nat, i' ≤ j ∧ i = .int .i64 i' ∧ Hid (∀ r ∈ rel.take i', inW k r = true) ∧ wr = w1.drewN p) (fun i _ => j - (intOf i).toNat)
            case atStart => exact ⟨0, _, Nat.zero_le _, rfl, Lib.hid (by simp), rfl⟩
            case round =>
              obtain ⟨i, p3, hi, rfl, HT, rfl⟩ := hrel
              by_cases hlt2 : i < j
              · obtain ⟨ad, Ai, ci, rfl, had, hcell, hri, hli⟩ := (HRR.out.below HBe.out hsz).at_ hlt2
                have HW2 := Lib.hid (fun q2 => rBeyond_any k (rel.getD i []) Ai _ ci w1.heap.size (w1.drewN q2) hk (hri.drewN q2) (HWR.out _ (getD_mem' (by have := HQ.out; omega))) hli)
                clear hri hli
                generalize hrd : rel.getD i [] = ri at *
                have HRI := Lib.hid hrd
                clear hrd
                by_cases he : inW k ri = true
                · rw [he] at HW2
                  have HT2 : Hid (∀ r ∈ rel.take (i + 1), inW k r = true) := Lib.hid (take_one (d := []) (by have := HQ.out; omega) HT.out (by rw [HRI.out, he]))
                  clear HT he
                  go_wp2
                  go_quiet (first | (go_at_call 36; exact quiet_add (HW2.out _)))
                  go_wp2
                  go_roundw
                  case rel => exact ⟨i + 1, _, by omega, by go_num, HT2, by first | rfl | rw [World.drewN_drewN] | simp⟩
                  case measure => first | (simp [intOf]; done) | (simp [intOf]; omega)
                · have he2 : inW k ri = false := by simpa using he
                  rw [he2] at HW2
                  have HV2 : Hid (chkM ⟨(k : Int), val, rel⟩ = 2) := Lib.hid (by
                    rw [HV.out]
                    rw [if_neg]
                    rw [Bool.true_and, List.all_eq_true]
                    intro h
                    exact he (h ri (by rw [← HRI.out]; exact getD_mem' (by have := HQ.out; omega))))
                  clear HT he he2
                  go_wp2
                  go_quiet (first | (go_at_call 36; exact quiet_add (HW2.out _)))
                  go_wp2
                  go_ret
                  exact ⟨ret_i64 HV2.out.symm, by first | exact below_drewN HBe.out _ | exact below_drewN (below_drewN HBe.out _) _ | exact HBe.out⟩
              · have hij : i = j := by omega
                subst hij
                have HV2 : Hid (chkM ⟨(k : Int), val, rel⟩ = 0) := Lib.hid (by
                  rw [HV.out, if_pos]
                  rw [Bool.true_and, List.all_eq_true]
                  intro r hr
                  exact HT.out r (by rw [List.take_of_length_le (by have := HQ.out; omega)]; exact hr))
                clear HT
                go_wp2
                go_ret
                exact ⟨ret_i64 HV2.out.symm, by first | exact below_drewN HBe.out _ | exact below_drewN (below_drewN HBe.out _) _ | exact HBe.out⟩
          · have hiv2 : inW k val = false := by simpa using hiv
            rw [hiv2] at HW HV
            have HV2 : Hid (chkM ⟨(k : Int), val, rel⟩ = 2) := Lib.hid (by rw [HV.out]; rfl)
            clear hiv hiv2
            go_wp2_with fail
            refine (HW.out).mono ?_
            rintro e w2 ⟨rfl, p2, rfl⟩
            rw [World.drewN_drewN]
            go_wp2
            go_ret
            exact ⟨ret_i64 HV2.out.symm, by first | exact below_drewN HBe.out _ | exact below_drewN (below_drewN HBe.out _) _ | exact HBe.out⟩
end Go.Proofs.YtjpmhbnikoggaaaDoor
/- Layer 13: the facts at a world, on both sides. -/
namespace Go.Proofs.YtjpmhbnikoggaaaDoor
open Go.RowKit Go.Proofs.Ws
set_option maxRecDepth 100000
end Go.Proofs.YtjpmhbnikoggaaaDoor
/- Layer 13: equality of sets, lists, models; what is small. -/
namespace Go.Proofs.YtjpmhbnikoggaaaDoor
open Go.RowKit Go.Proofs.Ws
set_option maxRecDepth 100000
end Go.Proofs.YtjpmhbnikoggaaaDoor
/- Layer 13: equality of models; what is small. -/
namespace Go.Proofs.YtjpmhbnikoggaaaDoor
open Go.RowKit Go.Proofs.Ws
set_option maxRecDepth 100000
theorem BoxBox (w : World) (n : Int) (v1 v2 : Value) (n' : Int) (v1' v2' : Value) :
    MBox ((w.alloc (.cells #[.int .i64 n, v1, v2] 25)).alloc (.cells #[.int .i64 n', v1', v2'] 25)) w.heap.size n v1 v2 ∧ MBox ((w.alloc (.cells #[.int .i64 n, v1, v2] 25)).alloc (.cells #[.int .i64 n', v1', v2'] 25)) (w.heap.size + 1) n' v1' v2' ∧ Below w.heap.size w ((w.alloc (.cells #[.int .i64 n, v1, v2] 25)).alloc (.cells #[.int .i64 n', v1', v2'] 25)) := by
  have h1 := MBox.made w n v1 v2
  have h2 := MBox.made (w.alloc (.cells #[.int .i64 n, v1, v2] 25)) n' v1' v2'
  have hs : (w.alloc (.cells #[.int .i64 n, v1, v2] 25)).heap.size = w.heap.size + 1 := by simp
  rw [hs] at h2
  exact ⟨(Below.heap_alloc _ _ _ h1.lt).trans h1, h2, ((Below.refl _ w).alloc (Nat.le_refl _) _).alloc (by simp) _⟩
/-- few of everything -/
def fewM (m : Mo) : Bool := decide (m.val.length ≤ 20) && decide (m.rel.length ≤ 10) && m.rel.all (fun r => decide (r.length ≤ 70))
end Go.Proofs.YtjpmhbnikoggaaaDoor
