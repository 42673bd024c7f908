/- Contracts of layer 2's reference: grow, the transitive and the euclidean closure. -/
import Derived.Test.YtogjbghieoifjaaDoorRq
namespace Go.Proofs.YtogjbghieoifjaaDoor
open Go.RowKit Go.Proofs.Ws
theorem growT_no {l : List Nat} {w u : Nat} (h : (l.getD w 0).testBit u = false) : growT l w u = l := by unfold growT; rw [if_neg (by rw [h]; simp)]
theorem growE_no {l : List Nat} {w u : Nat} (h : (l.getD w 0).testBit u = false) : growE l w u = l := by unfold growE; rw [if_neg (by rw [h]; simp)]
theorem set_self (l : List Nat) (k : Nat) : l.set k (l.getD k 0) = l := by
  apply List.ext_getElem
  · simp
  · intro i h1 h2
    rw [List.getElem_set]
    split
    · rename_i e; subst e; rw [List.getD_eq_getElem?_getD, List.getElem?_eq_getElem h2]; rfl
    · rfl
theorem set_ne {l : List Nat} {k x : Nat} (hk : k < l.length) (h : x ≠ l.getD k 0) : l.set k x ≠ l := by
  intro e
  have : (l.set k x).getD k 0 = x := by rw [List.getD_eq_getElem?_getD, List.getElem?_set_self hk]; rfl
  rw [e] at this
  exact h this.symm
theorem growT_yes {l : List Nat} {w u : Nat} (h : (l.getD w 0).testBit u = true) : growT l w u = l.set w (l.getD w 0 ||| l.getD u 0) := by unfold growT; rw [if_pos h]
theorem growE_yes {l : List Nat} {w u : Nat} (h : (l.getD w 0).testBit u = true) : growE l w u = l.set u (l.getD u 0 ||| l.getD w 0) := by unfold growE; rw [if_pos h]
theorem up_ne {m : Nat} {x c d : List Nat} (hx : Sh m x) (hc : Sh m c) (h1 : Le x c) (h2 : Le c d) (hne : d ≠ c) : d ≠ x := fun e => hne (by subst e; exact Le.antisymm hx hc h1 h2)
theorem passT_bound {n : Nat} {x : List Nat} (hx : Sh n x) (k u : Nat) (hk : k < n) (hu : u ≤ n) : Sh n (run (fun l u => growT l k u) (run (passT n) x k) u) ∧ Le x (run (fun l u => growT l k u) (run (passT n) x k) u) := by
  have h1 := (passT_steps n).run_sh hx k (by omega)
  have h2 := (growT_grows n k hk).fix.run_sh h1.1 u hu
  exact ⟨h2.1, h1.2.trans h2.2⟩
theorem passE_bound {n : Nat} {x : List Nat} (hx : Sh n x) (k u : Nat) (hk : k < n) (hu : u ≤ n) : Sh n (run (fun l u => growE l k u) (run (passE n) x k) u) ∧ Le x (run (fun l u => growE l k u) (run (passE n) x k) u) := by
  have h1 := (passE_steps n).run_sh hx k (by omega)
  have h2 := (growE_grows n k).fix.run_sh h1.1 u hu
  exact ⟨h2.1, h1.2.trans h2.2⟩
/-- what a call hands back: a list of words in memory of its own -/
def GivesS (l : List Nat) (w : World) (e : Ending) (w' : World) : Prop :=
  ∃ A c, e = .returned (.slice A l.length c) ∧ Reads w' w'.heap.size 1 A l.length (us l) ∧ Below w.heap.size w w'
theorem holdsP_drewN {w : World} {g : Nat} {l : List Nat} (h : HoldsP w g l) (q : Nat) : HoldsP (w.drewN q) g l := h
theorem BelowBut.drewN {B g : Nat} {a w : World} (h : BelowBut B g a w) (q : Nat) : BelowBut B g a (w.drewN q) := ⟨h.os, h.tape, h.output, h.size, h.block⟩
set_option maxRecDepth 100000 in
theorem refGrowT_any (l : List Nat) (A : Option Addr) (n c : Nat) (w : World) (hR : Reads w w.heap.size 1 A n (us l)) (hS : Sh n l) (hn : n ≤ 64) (hA : A = none → c = 0) :
    Calls Tryd.prog 64 #[.slice A n c, .bool false] w fun e w' => ∃ C, IsClo n PTrans l C ∧ GivesS C w e w' := by
  have HR := Lib.hid hR
  have HS := Lib.hid hS
  clear hR hS
  go_enter Tryd.func64, Tryd.ntmps64
  go_wp2_with (at_builtin; refine wp_copy _ rfl _ _ rfl w.heap.size w.heap.size (Nat.le_refl _) (World.ownsRow_made w #[] 0 (Nat.le_refl _) (Nat.zero_le _) (by simp)) (by simp) rfl rfl hA ((HR.out.alloc (Nat.le_refl _) _).more (by simp)) hn ?_)
  intro A1 c1 w1 hg hb
  have HG := Lib.hid hg
  have HB : Hid (Below w.heap.size w w1) := Lib.hid (((Below.refl _ w).alloc (Nat.le_refl _) _).trans hb)
  clear hg hb hA
  by_cases hn0 : n = 0
  · subst hn0
    go_wp2
    go_loopw [6] (fun i wr => ∃ b : Bool, i = .bool b ∧ wr = w1) (fun i _ => match i with | .bool true => 1 | _ => 0)
    case atStart => exact ⟨true, rfl, rfl⟩
    case round =>
      obtain ⟨b, rfl, rfl⟩ := hrel
      cases b
      · go_wp2
        go_ret
        exact ⟨l, (Mid.start HS.out).done (passT_steps 0) rfl, A1, c1, by rw [HS.out.1]; rfl, ⟨by rw [List.length_eq_zero_iff.1 HS.out.1]; rfl, fun h => absurd h (by have := HS.out.1; omega)⟩, HB.out⟩
      · go_wp2
        go_loopw [7, 6] (fun j i wr' => j = .int .i64 ((0 : Nat) : Int) ∧ i = .bool false ∧ wr' = wr) (fun j _ _ => 0 - (intOf j).toNat)
        case atStart => exact ⟨rfl, rfl, rfl⟩
        case round =>
          obtain ⟨rfl, rfl, rfl⟩ := hrel
          go_wp2
          go_roundw
          case rel => exact ⟨false, rfl, by first | rfl | trivial⟩
          case measure => simp
  · obtain ⟨g, rfl, hg1, hH1⟩ := HG.out (by omega)
    have HG1 := Lib.hid hg1
    have HH1 := Lib.hid hH1
    clear hg1 hH1 HG
    go_wp2
    go_loopw [6] (fun i wr => ∃ (b : Bool) (x : List Nat), i = .bool b ∧ Hid (HoldsP wr g x ∧ BelowBut w1.heap.size g w1 wr ∧ Mid n PTrans l x ∧ (b = false → run (passT n) x n = x))) (fun i wr => match i with | .bool true => 64 * n + 1 - wt (rdL wr (.slice (some ⟨g, 0, none⟩) n 0)) | _ => 0)
    case atStart => exact ⟨true, l, rfl, Lib.hid ⟨HH1.out, BelowBut.refl _ _ _, Mid.start HS.out, fun h => by cases h⟩⟩
    case round =>
      clear HH1
      obtain ⟨b, x, rfl, HI⟩ := hrel
      cases b
      · have HC : Hid (IsClo n PTrans l x) := Lib.hid (HI.out.2.2.1.done (passT_steps n) (HI.out.2.2.2 rfl))
        go_wp2
        go_ret
        have hl := HC.out.sh.1
        exact ⟨x, HC.out, _, c1, by rw [hl]; rfl, HI.out.1.reads, HB.out.trans ((HI.out.2.1.mono HB.out.size).below HG1.out)⟩
      · have HX : Hid (Sh n x) := Lib.hid HI.out.2.2.1.sh
        have HRD : Hid (rdL wr (.slice (some ⟨g, 0, none⟩) n 0) = x) := Lib.hid (by
          have := HI.out.1.reads
          rw [HX.out.1] at this
          exact rdL_reads this)
        have HM : Hid (Mid n PTrans l x) := Lib.hid HI.out.2.2.1
        have HI0 : Hid (HoldsP wr g (run (passT n) x 0) ∧ BelowBut w1.heap.size g w1 wr) := Lib.hid ⟨HI.out.1, HI.out.2.1⟩
        clear HI
        go_wp2
        go_loopw [7, 6] (fun j i wr' => ∃ (k : Nat) (b : Bool), k ≤ n ∧ j = .int .i64 k ∧ i = .bool b ∧ Hid (HoldsP wr' g (run (passT n) x k) ∧ BelowBut w1.heap.size g w1 wr') ∧ Hid (b = true ↔ run (passT n) x k ≠ x)) (fun j _ _ => n - (intOf j).toNat)
        case atStart => exact ⟨0, false, Nat.zero_le _, rfl, rfl, HI0, Lib.hid ⟨fun h => (by cases h), fun h => absurd rfl h⟩⟩
        case round =>
          clear HI0
          obtain ⟨j, b, hj, rfl, rfl, HI, HF⟩ := hrel
          by_cases hjn : j < n
          · have HI0 : Hid (HoldsP wr g (run (fun l u => growT l j u) (run (passT n) x j) 0) ∧ BelowBut w1.heap.size g w1 wr) := Lib.hid HI.out
            have HF0 : Hid (b = true ↔ run (fun l u => growT l j u) (run (passT n) x j) 0 ≠ x) := Lib.hid HF.out
            clear HI HF
            go_wp2
            go_loopw [8, 6] (fun v i wr' => ∃ (u : Nat) (b : Bool), u ≤ n ∧ v = .int .i64 u ∧ i = .bool b ∧ Hid (HoldsP wr' g (run (fun l u => growT l j u) (run (passT n) x j) u) ∧ BelowBut w1.heap.size g w1 wr') ∧ Hid (b = true ↔ run (fun l u => growT l j u) (run (passT n) x j) u ≠ x)) (fun v _ _ => n - (intOf v).toNat)
            case atStart => exact ⟨0, b, Nat.zero_le _, rfl, rfl, HI0, HF0⟩
            case round =>
              clear HI0 HF0
              obtain ⟨u, b, hu, rfl, rfl, HI, HF⟩ := hrel
              by_cases hul : u < n
              · obtain ⟨cur, hcur⟩ : ∃ cur, run (fun l u => growT l j u) (run (passT n) x j) u = cur := ⟨_, rfl⟩
                have HCN : Hid (run (fun l u => growT l j u) (run (passT n) x j) (u + 1) = growT cur j u) := Lib.hid (by rw [run_succ, hcur])
                have hbd := passT_bound HX.out j u hjn (by omega)
                rw [hcur] at HI HF hbd
                clear hcur
                have hlen : cur.length = n := hbd.1.1
                have hcj := HI.out.1.cell j (by omega)
                have hcu := HI.out.1.cell u (by omega)
                have hfr := HI.out.1.free j
                have hxw := words_getD (sh_words hn hbd.1) j
                have hyw := words_getD (sh_words hn hbd.1) u
                have HIN := Lib.hid (in_any (cur.getD j 0) u wr hxw (by omega))
                by_cases ht : (cur.getD j 0).testBit u = true
                · have HY : Hid (growT cur j u = cur.set j (cur.getD j 0 ||| cur.getD u 0)) := Lib.hid (growT_yes ht)
                  rw [ht] at HIN
                  clear ht
                  have hor : bits .or .u64 ((cur.getD j 0 : Nat) : Int) ((cur.getD u 0 : Nat) : Int) = ((cur.getD j 0 ||| cur.getD u 0 : Nat) : Int) := u64_or_nat _ _ (by assumption) (by assumption)
                  by_cases he : cur.getD j 0 ||| cur.getD u 0 = cur.getD j 0
                  · have hne : (((cur.getD j 0 ||| cur.getD u 0 : Nat) : Int) != ((cur.getD j 0 : Nat) : Int)) = false := by rw [he]; simp
                    have HC : Hid (run (fun l u => growT l j u) (run (passT n) x j) (u + 1) = cur) := Lib.hid (by rw [HCN.out, HY.out, he, set_self])
                    have HD : Hid (HoldsP wr g (run (fun l u => growT l j u) (run (passT n) x j) (u + 1)) ∧ BelowBut w1.heap.size g w1 wr) := Lib.hid (by rw [HC.out]; exact HI.out)
                    have HF2 : Hid (b = true ↔ run (fun l u => growT l j u) (run (passT n) x j) (u + 1) ≠ x) := Lib.hid (by rw [HC.out]; exact HF.out)
                    generalize cur.getD j 0 ||| cur.getD u 0 = t at *
                    generalize cur.getD j 0 = xj at *
                    generalize cur.getD u 0 = xu at *
                    clear HCN HY HC HI HF hbd hlen hxw hyw he
                    go_wp2_with (go_at_call 58; refine (HIN.out).mono ?_; rintro e w' ⟨rfl, rfl⟩)
                    go_quiet (fail)
                    go_wp2
                    go_quiet (fail)
                    go_wp2
                    try (go_quiet (fail))
                    go_wp2
                    go_roundw
                    case rel => exact ⟨u + 1, b, by omega, by go_num, rfl, Lib.hid ⟨holdsP_drewN HD.out.1 _, HD.out.2.drewN _⟩, HF2⟩
                    case measure => simp [intOf]; omega
                  · have hne : (((cur.getD j 0 ||| cur.getD u 0 : Nat) : Int) != ((cur.getD j 0 : Nat) : Int)) = true := by rw [bne_iff_ne]; intro h; exact he (Int.ofNat.inj h)
                    have hnx : growT cur j u ≠ x := by
                      rw [HY.out]
                      refine up_ne HX.out hbd.1 hbd.2 ?_ (set_ne (by omega) he)
                      have := ((growT_grows n j hjn).up cur u hbd.1 hul)
                      simp only [HY.out] at this
                      exact this
                    have HD : Hid (HoldsP (wr.setCell ⟨g, j, none⟩ (.int .u64 ((cur.getD j 0 ||| cur.getD u 0 : Nat) : Int))) g (run (fun l u => growT l j u) (run (passT n) x j) (u + 1)) ∧ BelowBut w1.heap.size g w1 (wr.setCell ⟨g, j, none⟩ (.int .u64 ((cur.getD j 0 ||| cur.getD u 0 : Nat) : Int)))) := Lib.hid (by rw [HCN.out, HY.out]; exact ⟨HI.out.1.put j _, HI.out.2.setCell j _⟩)
                    have HF2 : Hid (true = true ↔ run (fun l u => growT l j u) (run (passT n) x j) (u + 1) ≠ x) := Lib.hid (by rw [HCN.out]; exact ⟨fun _ => hnx, fun _ => rfl⟩)
                    generalize cur.getD j 0 ||| cur.getD u 0 = t at *
                    generalize cur.getD j 0 = xj at *
                    generalize cur.getD u 0 = xu at *
                    clear HCN HY HI HF hbd hlen hxw hyw he hnx
                    go_wp2_with (go_at_call 58; refine (HIN.out).mono ?_; rintro e w' ⟨rfl, rfl⟩)
                    go_quiet (fail)
                    go_wp2
                    go_quiet (fail)
                    go_wp2
                    try (go_quiet (fail))
                    go_wp2
                    go_roundw
                    case rel => exact ⟨u + 1, true, by omega, by go_num, rfl, Lib.hid ⟨HD.out.1, ⟨HD.out.2.os, HD.out.2.tape, HD.out.2.output, HD.out.2.size, HD.out.2.block⟩⟩, Lib.hid ⟨fun _ => by first | exact HF2.out.1 trivial | exact HF2.out.1 rfl, fun _ => rfl⟩⟩
                    case measure => simp [intOf]; omega
                · have ht' : (cur.getD j 0).testBit u = false := by simpa using ht
                  have HC : Hid (run (fun l u => growT l j u) (run (passT n) x j) (u + 1) = cur) := Lib.hid (by rw [HCN.out]; exact growT_no ht')
                  have HD : Hid (HoldsP wr g (run (fun l u => growT l j u) (run (passT n) x j) (u + 1)) ∧ BelowBut w1.heap.size g w1 wr) := Lib.hid (by rw [HC.out]; exact HI.out)
                  have HF2 : Hid (b = true ↔ run (fun l u => growT l j u) (run (passT n) x j) (u + 1) ≠ x) := Lib.hid (by rw [HC.out]; exact HF.out)
                  rw [ht'] at HIN
                  clear ht ht' HC HCN HI HF hbd
                  generalize cur.getD j 0 = xj at *
                  generalize cur.getD u 0 = xu at *
                  go_wp2_with (go_at_call 58; refine (HIN.out).mono ?_; rintro e w' ⟨rfl, rfl⟩)
                  go_roundw
                  case rel => exact ⟨u + 1, b, by omega, by go_num, rfl, HD, HF2⟩
                  case measure => simp [intOf]; omega
              · have hun : n = u := by omega
                subst hun
                have HD : Hid (HoldsP wr g (run (passT n) x (j + 1)) ∧ BelowBut w1.heap.size g w1 wr) := Lib.hid (by rw [run_succ]; exact HI.out)
                have HF2 : Hid (b = true ↔ run (passT n) x (j + 1) ≠ x) := Lib.hid (by rw [run_succ]; exact HF.out)
                clear HI HF
                go_wp2
                go_roundw
                case rel => exact ⟨j + 1, b, by omega, by go_num, rfl, HD, HF2⟩
                case measure => simp [intOf]; omega
          · have hjn' : n = j := by omega
            subst hjn'
            go_wp2
            go_roundw
            case rel =>
              refine ⟨b, run (passT n) x n, rfl, Lib.hid ⟨HI.out.1, HI.out.2, HM.out.next (passT_steps n), fun hb => ?_⟩⟩
              have hx : run (passT n) x n = x := Classical.byContradiction (fun h => by have := HF.out.2 h; rw [hb] at this; cases this)
              rw [hx]; exact hx
            case measure =>
              cases b
              · have := wt_top HX.out
                rw [HRD.out]
                simp
                omega
              · have hne := HF.out.1 rfl
                have hmo := HM.out.more (passT_steps n) hn hne
                have hrd : rdL wr (.slice (some ⟨g, 0, none⟩) n 0) = run (passT n) x n := by
                  have := HI.out.1.reads
                  rw [(HM.out.next (passT_steps n)).sh.1] at this
                  exact rdL_reads this
                rw [HRD.out, hrd]
                simp only
                omega
set_option maxRecDepth 100000 in
theorem refGrowE_any (l : List Nat) (A : Option Addr) (n c : Nat) (w : World) (hR : Reads w w.heap.size 1 A n (us l)) (hS : Sh n l) (hn : n ≤ 64) (hA : A = none → c = 0) :
    Calls Tryd.prog 64 #[.slice A n c, .bool true] w fun e w' => ∃ C, IsClo n PEucl l C ∧ GivesS C w e w' := by
  have HR := Lib.hid hR
  have HS := Lib.hid hS
  clear hR hS
  go_enter Tryd.func64, Tryd.ntmps64
  go_wp2_with (at_builtin; refine wp_copy _ rfl _ _ rfl w.heap.size w.heap.size (Nat.le_refl _) (World.ownsRow_made w #[] 0 (Nat.le_refl _) (Nat.zero_le _) (by simp)) (by simp) rfl rfl hA ((HR.out.alloc (Nat.le_refl _) _).more (by simp)) hn ?_)
  intro A1 c1 w1 hg hb
  have HG := Lib.hid hg
  have HB : Hid (Below w.heap.size w w1) := Lib.hid (((Below.refl _ w).alloc (Nat.le_refl _) _).trans hb)
  clear hg hb hA
  by_cases hn0 : n = 0
  · subst hn0
    go_wp2
    go_loopw [6] (fun i wr => ∃ b : Bool, i = .bool b ∧ wr = w1) (fun i _ => match i with | .bool true => 1 | _ => 0)
    case atStart => exact ⟨true, rfl, rfl⟩
    case round =>
      obtain ⟨b, rfl, rfl⟩ := hrel
      cases b
      · go_wp2
        go_ret
        exact ⟨l, (Mid.start HS.out).done (passE_steps 0) rfl, A1, c1, by rw [HS.out.1]; rfl, ⟨by rw [List.length_eq_zero_iff.1 HS.out.1]; rfl, fun h => absurd h (by have := HS.out.1; omega)⟩, HB.out⟩
      · go_wp2
        go_loopw [7, 6] (fun j i wr' => j = .int .i64 ((0 : Nat) : Int) ∧ i = .bool false ∧ wr' = wr) (fun j _ _ => 0 - (intOf j).toNat)
        case atStart => exact ⟨rfl, rfl, rfl⟩
        case round =>
          obtain ⟨rfl, rfl, rfl⟩ := hrel
          go_wp2
          go_roundw
          case rel => exact ⟨false, rfl, by first | rfl | trivial⟩
          case measure => simp
  · obtain ⟨g, rfl, hg1, hH1⟩ := HG.out (by omega)
    have HG1 := Lib.hid hg1
    have HH1 := Lib.hid hH1
    clear hg1 hH1 HG
    go_wp2
    go_loopw [6] (fun i wr => ∃ (b : Bool) (x : List Nat), i = .bool b ∧ Hid (HoldsP wr g x ∧ BelowBut w1.heap.size g w1 wr ∧ Mid n PEucl l x ∧ (b = false → run (passE n) x n = x))) (fun i wr => match i with | .bool true => 64 * n + 1 - wt (rdL wr (.slice (some ⟨g, 0, none⟩) n 0)) | _ => 0)
    case atStart => exact ⟨true, l, rfl, Lib.hid ⟨HH1.out, BelowBut.refl _ _ _, Mid.start HS.out, fun h => by cases h⟩⟩
    case round =>
      clear HH1
      obtain ⟨b, x, rfl, HI⟩ := hrel
      cases b
      · have HC : Hid (IsClo n PEucl l x) := Lib.hid (HI.out.2.2.1.done (passE_steps n) (HI.out.2.2.2 rfl))
        go_wp2
        go_ret
        have hl := HC.out.sh.1
        exact ⟨x, HC.out, _, c1, by rw [hl]; rfl, HI.out.1.reads, HB.out.trans ((HI.out.2.1.mono HB.out.size).below HG1.out)⟩
      · have HX : Hid (Sh n x) := Lib.hid HI.out.2.2.1.sh
        have HRD : Hid (rdL wr (.slice (some ⟨g, 0, none⟩) n 0) = x) := Lib.hid (by
          have := HI.out.1.reads
          rw [HX.out.1] at this
          exact rdL_reads this)
        have HM : Hid (Mid n PEucl l x) := Lib.hid HI.out.2.2.1
        have HI0 : Hid (HoldsP wr g (run (passE n) x 0) ∧ BelowBut w1.heap.size g w1 wr) := Lib.hid ⟨HI.out.1, HI.out.2.1⟩
        clear HI
        go_wp2
        go_loopw [7, 6] (fun j i wr' => ∃ (k : Nat) (b : Bool), k ≤ n ∧ j = .int .i64 k ∧ i = .bool b ∧ Hid (HoldsP wr' g (run (passE n) x k) ∧ BelowBut w1.heap.size g w1 wr') ∧ Hid (b = true ↔ run (passE n) x k ≠ x)) (fun j _ _ => n - (intOf j).toNat)
        case atStart => exact ⟨0, false, Nat.zero_le _, rfl, rfl, HI0, Lib.hid ⟨fun h => (by cases h), fun h => absurd rfl h⟩⟩
        case round =>
          clear HI0
          obtain ⟨j, b, hj, rfl, rfl, HI, HF⟩ := hrel
          by_cases hjn : j < n
          · have HI0 : Hid (HoldsP wr g (run (fun l u => growE l j u) (run (passE n) x j) 0) ∧ BelowBut w1.heap.size g w1 wr) := Lib.hid HI.out
            have HF0 : Hid (b = true ↔ run (fun l u => growE l j u) (run (passE n) x j) 0 ≠ x) := Lib.hid HF.out
            clear HI HF
            go_wp2
            go_loopw [8, 6] (fun v i wr' => ∃ (u : Nat) (b : Bool), u ≤ n ∧ v = .int .i64 u ∧ i = .bool b ∧ Hid (HoldsP wr' g (run (fun l u => growE l j u) (run (passE n) x j) u) ∧ BelowBut w1.heap.size g w1 wr') ∧ Hid (b = true ↔ run (fun l u => growE l j u) (run (passE n) x j) u ≠ x)) (fun v _ _ => n - (intOf v).toNat)
            case atStart => exact ⟨0, b, Nat.zero_le _, rfl, rfl, HI0, HF0⟩
            case round =>
              clear HI0 HF0
              obtain ⟨u, b, hu, rfl, rfl, HI, HF⟩ := hrel
              by_cases hul : u < n
              · obtain ⟨cur, hcur⟩ : ∃ cur, run (fun l u => growE l j u) (run (passE n) x j) u = cur := ⟨_, rfl⟩
                have HCN : Hid (run (fun l u => growE l j u) (run (passE n) x j) (u + 1) = growE cur j u) := Lib.hid (by rw [run_succ, hcur])
                have hbd := passE_bound HX.out j u hjn (by omega)
                rw [hcur] at HI HF hbd
                clear hcur
                have hlen : cur.length = n := hbd.1.1
                have hcj := HI.out.1.cell j (by omega)
                have hcu := HI.out.1.cell u (by omega)
                have hfr := HI.out.1.free u
                have hxw := words_getD (sh_words hn hbd.1) j
                have hyw := words_getD (sh_words hn hbd.1) u
                have HIN := Lib.hid (in_any (cur.getD j 0) u wr hxw (by omega))
                by_cases ht : (cur.getD j 0).testBit u = true
                · have HY : Hid (growE cur j u = cur.set u (cur.getD u 0 ||| cur.getD j 0)) := Lib.hid (growE_yes ht)
                  rw [ht] at HIN
                  clear ht
                  have hor : bits .or .u64 ((cur.getD u 0 : Nat) : Int) ((cur.getD j 0 : Nat) : Int) = ((cur.getD u 0 ||| cur.getD j 0 : Nat) : Int) := u64_or_nat _ _ (by assumption) (by assumption)
                  by_cases he : cur.getD u 0 ||| cur.getD j 0 = cur.getD u 0
                  · have hne : (((cur.getD u 0 ||| cur.getD j 0 : Nat) : Int) != ((cur.getD u 0 : Nat) : Int)) = false := by rw [he]; simp
                    have HC : Hid (run (fun l u => growE l j u) (run (passE n) x j) (u + 1) = cur) := Lib.hid (by rw [HCN.out, HY.out, he, set_self])
                    have HD : Hid (HoldsP wr g (run (fun l u => growE l j u) (run (passE n) x j) (u + 1)) ∧ BelowBut w1.heap.size g w1 wr) := Lib.hid (by rw [HC.out]; exact HI.out)
                    have HF2 : Hid (b = true ↔ run (fun l u => growE l j u) (run (passE n) x j) (u + 1) ≠ x) := Lib.hid (by rw [HC.out]; exact HF.out)
                    generalize cur.getD u 0 ||| cur.getD j 0 = t at *
                    generalize cur.getD j 0 = xj at *
                    generalize cur.getD u 0 = xu at *
                    clear HCN HY HC HI HF hbd hlen hxw hyw he
                    go_wp2_with (go_at_call 58; refine (HIN.out).mono ?_; rintro e w' ⟨rfl, rfl⟩)
                    go_quiet (fail)
                    go_wp2
                    go_quiet (fail)
                    go_wp2
                    try (go_quiet (fail))
                    go_wp2
                    go_roundw
                    case rel => exact ⟨u + 1, b, by omega, by go_num, rfl, Lib.hid ⟨holdsP_drewN HD.out.1 _, HD.out.2.drewN _⟩, HF2⟩
                    case measure => simp [intOf]; omega
                  · have hne : (((cur.getD u 0 ||| cur.getD j 0 : Nat) : Int) != ((cur.getD u 0 : Nat) : Int)) = true := by rw [bne_iff_ne]; intro h; exact he (Int.ofNat.inj h)
                    have hnx : growE cur j u ≠ x := by
                      rw [HY.out]
                      refine up_ne HX.out hbd.1 hbd.2 ?_ (set_ne (by omega) he)
                      have := ((growE_grows n j).up cur u hbd.1 hul)
                      simp only [HY.out] at this
                      exact this
                    have HD : Hid (HoldsP (wr.setCell ⟨g, u, none⟩ (.int .u64 ((cur.getD u 0 ||| cur.getD j 0 : Nat) : Int))) g (run (fun l u => growE l j u) (run (passE n) x j) (u + 1)) ∧ BelowBut w1.heap.size g w1 (wr.setCell ⟨g, u, none⟩ (.int .u64 ((cur.getD u 0 ||| cur.getD j 0 : Nat) : Int)))) := Lib.hid (by rw [HCN.out, HY.out]; exact ⟨HI.out.1.put u _, HI.out.2.setCell u _⟩)
                    have HF2 : Hid (true = true ↔ run (fun l u => growE l j u) (run (passE n) x j) (u + 1) ≠ x) := Lib.hid (by rw [HCN.out]; exact ⟨fun _ => hnx, fun _ => rfl⟩)
                    generalize cur.getD u 0 ||| cur.getD j 0 = t at *
                    generalize cur.getD j 0 = xj at *
                    generalize cur.getD u 0 = xu at *
                    clear HCN HY HI HF hbd hlen hxw hyw he hnx
                    go_wp2_with (go_at_call 58; refine (HIN.out).mono ?_; rintro e w' ⟨rfl, rfl⟩)
                    go_quiet (fail)
                    go_wp2
                    go_quiet (fail)
                    go_wp2
                    try (go_quiet (fail))
                    go_wp2
                    go_roundw
                    case rel => exact ⟨u + 1, true, by omega, by go_num, rfl, Lib.hid ⟨HD.out.1, ⟨HD.out.2.os, HD.out.2.tape, HD.out.2.output, HD.out.2.size, HD.out.2.block⟩⟩, Lib.hid ⟨fun _ => by first | exact HF2.out.1 trivial | exact HF2.out.1 rfl, fun _ => rfl⟩⟩
                    case measure => simp [intOf]; omega
                · have ht' : (cur.getD j 0).testBit u = false := by simpa using ht
                  have HC : Hid (run (fun l u => growE l j u) (run (passE n) x j) (u + 1) = cur) := Lib.hid (by rw [HCN.out]; exact growE_no ht')
                  have HD : Hid (HoldsP wr g (run (fun l u => growE l j u) (run (passE n) x j) (u + 1)) ∧ BelowBut w1.heap.size g w1 wr) := Lib.hid (by rw [HC.out]; exact HI.out)
                  have HF2 : Hid (b = true ↔ run (fun l u => growE l j u) (run (passE n) x j) (u + 1) ≠ x) := Lib.hid (by rw [HC.out]; exact HF.out)
                  rw [ht'] at HIN
                  clear ht ht' HC HCN HI HF hbd
                  generalize cur.getD j 0 = xj at *
                  generalize cur.getD u 0 = xu at *
                  go_wp2_with (go_at_call 58; refine (HIN.out).mono ?_; rintro e w' ⟨rfl, rfl⟩)
                  go_roundw
                  case rel => exact ⟨u + 1, b, by omega, by go_num, rfl, HD, HF2⟩
                  case measure => simp [intOf]; omega
              · have hun : n = u := by omega
                subst hun
                have HD : Hid (HoldsP wr g (run (passE n) x (j + 1)) ∧ BelowBut w1.heap.size g w1 wr) := Lib.hid (by rw [run_succ]; exact HI.out)
                have HF2 : Hid (b = true ↔ run (passE n) x (j + 1) ≠ x) := Lib.hid (by rw [run_succ]; exact HF.out)
                clear HI HF
                go_wp2
                go_roundw
                case rel => exact ⟨j + 1, b, by omega, by go_num, rfl, HD, HF2⟩
                case measure => simp [intOf]; omega
          · have hjn' : n = j := by omega
            subst hjn'
            go_wp2
            go_roundw
            case rel =>
              refine ⟨b, run (passE n) x n, rfl, Lib.hid ⟨HI.out.1, HI.out.2, HM.out.next (passE_steps n), fun hb => ?_⟩⟩
              have hx : run (passE n) x n = x := Classical.byContradiction (fun h => by have := HF.out.2 h; rw [hb] at this; cases this)
              rw [hx]; exact hx
            case measure =>
              cases b
              · have := wt_top HX.out
                rw [HRD.out]
                simp
                omega
              · have hne := HF.out.1 rfl
                have hmo := HM.out.more (passE_steps n) hn hne
                have hrd : rdL wr (.slice (some ⟨g, 0, none⟩) n 0) = run (passE n) x n := by
                  have := HI.out.1.reads
                  rw [(HM.out.next (passE_steps n)).sh.1] at this
                  exact rdL_reads this
                rw [HRD.out, hrd]
                simp only
                omega
end Go.Proofs.YtogjbghieoifjaaDoor
