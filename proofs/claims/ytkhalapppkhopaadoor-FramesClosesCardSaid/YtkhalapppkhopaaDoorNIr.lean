/- Layer 6: texts joined: Fr30 Fr31 Fr32 Fr33. -/
import Derived.Test.YtkhalapppkhopaaDoorNIi
import Derived.Test.YtkhalapppkhopaaDoorNIp
/- Layer 15: shows by the reference. -/
namespace Go.Proofs.YtkhalapppkhopaaDoor
open Go.RowKit Go.Proofs.Ws
set_option maxRecDepth 100000
end Go.Proofs.YtkhalapppkhopaaDoor
/- Layer 15: Witness by the reference. -/
namespace Go.Proofs.YtkhalapppkhopaaDoor
open Go.RowKit Go.Proofs.Ws
set_option maxRecDepth 100000
/-- all lists of worlds that are less than a number have been tried -/
def TriedN (n : Nat) (p : Int) (l : List Nat) (N : Nat) : Prop := ∀ y, DigL n (lenP p) y → numV n y < N → shB p l y = false
theorem TriedN.zero (n : Nat) (p : Int) (l : List Nat) : TriedN n p l 0 := fun y _ h => absurd h (by omega)
theorem TriedN.step {n : Nat} {p : Int} {l x : List Nat} {N : Nat} (h : TriedN n p l N) (hx : DigL n (lenP p) x) (e : numV n x = N) (hs : shB p l x = false) : TriedN n p l (N + 1) := fun y hy hl => by
  by_cases k : numV n y = N
  · rw [numV_inj y x (by rw [hy.1, hx.1]) hy.2 hx.2 (by omega)]; exact hs
  · exact h y hy (by omega)
theorem TriedN.hit {n : Nat} {p : Int} {l x : List Nat} {N : Nat} (h : TriedN n p l N) (hx : DigL n (lenP p) x) (e : numV n x = N) (hs : shB p l x = true) : WitP n p l x := ⟨hx, hs, fun y hy hys => by
  rcases Nat.lt_or_ge (numV n y) (numV n x) with k | k
  · rw [h y hy (by omega)] at hys; cases hys
  · exact k⟩
theorem TriedN.all {n : Nat} {p : Int} {l : List Nat} {N : Nat} (h : TriedN n p l N) (hN : n ^ lenP p ≤ N) : ∀ y, DigL n (lenP p) y → shB p l y = false := fun y hy => by
  have := numV_lt y hy.2
  rw [hy.1] at this
  exact h y hy (by omega)
end Go.Proofs.YtkhalapppkhopaaDoor
/- Layer 15: Defects by the reference. -/
namespace Go.Proofs.YtkhalapppkhopaaDoor
open Go.RowKit Go.Proofs.Ws
set_option maxRecDepth 100000
set_option maxHeartbeats 4000000 in
theorem rReq_any (m : Mo) (v : Value) (g : Int) (w : World) (hM : MoR w w.heap.size v m) :
    Calls Tryd.prog 40 #[v, .int .i64 g] w fun e w' => e = .returned (.int .i64 (ckE m g)) ∧ Below w.heap.size w w' := by
  obtain ⟨A1, c1, A2, c2, rfl, hv, hr⟩ := hM.ex
  have HB0 := Lib.hid ((Below.refl w.heap.size w).alloc (Nat.le_refl _) (.cells #[.int .i64 m.n, .slice A1 m.val.length c1, .slice A2 m.rel.length c2] 25))
  have HC := Lib.hid (fun W (hb : Below w.heap.size w W) => rCheck_any m _ W (hM.below hb hb.size))
  have HP := Lib.hid (fun W => rPro_any g W)
  unfold GivesP at HP
  have HE : Hid (ckE m g = if chkM m = 0 then proE g else chkM m) := Lib.hid rfl
  clear hM hv hr
  generalize ckE m g = er at *
  by_cases hz : chkM m = 0
  · rw [if_pos hz] at HE
    rw [hz] at HC
    have HZ := HE
    clear hz
    generalize proE g = pe at *
    generalize (proL g).length = k at *
    go_enter Tryd.func40, Tryd.ntmps40
    go_wp2_with fail
    refine (HC.out _ HB0.out).mono ?_
    rintro e w1 ⟨rfl, hb⟩
    have HB1 := Lib.hid (HB0.out.trans (hb.mono HB0.out.size))
    clear hb
    go_wp2_with fail
    refine (HP.out _).mono ?_
    rintro e w2 ⟨D, d, rfl, _, hb⟩
    have HB2 := Lib.hid (HB1.out.trans (hb.mono HB1.out.size))
    clear hb
    go_wp2
    go_ret
    exact ⟨by rw [HE.out]; rfl, HB2.out⟩
  · rw [if_neg hz] at HE
    have hz1 : (chkM m != 0) = true := by rw [bne_iff_ne]; exact hz
    clear hz
    generalize chkM m = cm at *
    go_enter Tryd.func40, Tryd.ntmps40
    go_wp2_with fail
    refine (HC.out _ HB0.out).mono ?_
    rintro e w1 ⟨rfl, hb⟩
    have HB1 := Lib.hid (HB0.out.trans (hb.mono HB0.out.size))
    clear hb
    go_wp2
    go_ret
    exact ⟨by rw [HE.out]; rfl, HB1.out⟩
end Go.Proofs.YtkhalapppkhopaaDoor
/- Layer 15: the closure of a relation by the reference. -/
namespace Go.Proofs.YtkhalapppkhopaaDoor
open Go.RowKit Go.Proofs.Ws
set_option maxRecDepth 100000
theorem rHas_any (P : List Int) (x : Int) (D : Option Addr) (k d : Nat) (w : World) (hP : Reads w w.heap.size 1 D k (ints P)) (hk : k ≤ 1000) :
    Calls Tryd.prog 71 #[.slice D k d, .int .i64 x] w fun e w' => e = .returned (.bool (decide (x ∈ P))) ∧ w = w' := by
  have hl := hP.int_len
  have HL := Lib.hid hl
  have HP := Lib.hid hP
  clear hl hP
  go_enter Tryd.func71, Tryd.ntmps71
  go_wp2
  go_loopw [5] (fun i wr => ∃ j : Nat, j ≤ k ∧ i = .int .i64 j ∧ Hid (decide (x ∈ P) = decide (x ∈ P.drop j)) ∧ wr = w) (fun i _ => k - (intOf i).toNat)
  case atStart => exact ⟨0, Nat.zero_le _, rfl, Lib.hid rfl, rfl⟩
  case round =>
    obtain ⟨j, hj, rfl, HI, rfl⟩ := hrel
    by_cases hlt : j < k
    · obtain ⟨ad, rfl, _, hcj⟩ := HP.out.int_k hlt
      have hjl : j < P.length := by have := HL.out; omega
      have hg : P.getD j 0 = P[j] := by simp [hjl]
      have HD : Hid (P.drop j = P.getD j 0 :: P.drop (j + 1)) := Lib.hid (by rw [hg]; exact List.drop_eq_getElem_cons hjl)
      clear hg
      generalize P.getD j 0 = y at *
      by_cases hxy : y = x
      · subst hxy
        have HE : Hid (decide (y ∈ P) = true) := Lib.hid (by rw [HI.out, HD.out]; simp)
        have hself : (y == y) = true := by simp
        go_wp2
        go_ret
        exact ⟨ret_bool HE.out.symm, by first | rfl | trivial⟩
      · have HI2 : Hid (decide (x ∈ P) = decide (x ∈ P.drop (j + 1))) := Lib.hid (by rw [HI.out, HD.out]; simp only [List.mem_cons]; exact decide_eq_decide.2 ⟨fun h => h.elim (fun e => absurd e.symm hxy) id, .inr⟩)
        have hne : (y == x) = false := by rw [beq_eq_false_iff_ne]; exact hxy
        clear hxy
        go_wp2
        go_roundw
        case rel => exact ⟨j + 1, by omega, by go_num, HI2, by first | rfl | trivial⟩
        case measure => simp [intOf]; omega
    · have HE : Hid (decide (x ∈ P) = false) := Lib.hid (by rw [HI.out, List.drop_eq_nil_of_le (by have := HL.out; omega)]; simp)
      go_wp2
      go_ret
      exact ⟨ret_bool HE.out.symm, by first | rfl | trivial⟩
theorem no_none {W : World} {B n c : Nat} {A : Option Addr} {l : List Nat} (h : Reads W B 1 A n (us l)) (h1 : 1 ≤ n) : A = none → c = 0 := fun e => by
  obtain ⟨ad, e2, _⟩ := h.word_k (show 0 < n by omega)
  rw [e] at e2
  cases e2
theorem gives_clo {n : Nat} {Pr : List Nat → Prop} {l : List Nat} {w : World} {e : Ending} {w' : World} (hS : Sh n l) (hn : n ≤ 64)
    (h : (relErr l.length l = 0 ∧ ∃ C, IsClo n Pr l C ∧ GivesR C w e w') ∨ (relErr l.length l ≠ 0 ∧ GivesE (relErr l.length l) w e w')) :
    ∃ C A' c', IsClo n Pr l C ∧ e = .returned (.tuple #[.slice A' n c', .int .i64 0]) ∧ Reads w' w'.heap.size 1 A' n (us C) ∧ Below w.heap.size w w' := by
  rcases h with ⟨_, C, hC, A', c', h1, h2, h3⟩ | ⟨h0, _⟩
  · rw [hC.sh.1] at h1 h2
    exact ⟨C, A', c', hC, h1, h2, h3⟩
  · exact absurd (sh_err hS hn) h0
theorem rfReflexive (l : List Nat) (A : Option Addr) (n c : Nat) (w : World) (hR : Reads w w.heap.size 1 A n (us l)) (hS : Sh n l) (h1 : 1 ≤ n) (hn : n ≤ 64) :
    Calls Tryd.prog 72 #[.slice A n c] w fun e w' => ∃ C A' c', IsClo n (PRefl n) l C ∧ e = .returned (.tuple #[.slice A' n c', .int .i64 0]) ∧ Reads w' w'.heap.size 1 A' n (us C) ∧ Below w.heap.size w w' :=
  (refReflexive_any l A n c w hR (sh_words hn hS) (by unfold maxLen; omega) (no_none hR h1)).mono fun _ _ h => gives_clo hS hn h
theorem rfTransitive (l : List Nat) (A : Option Addr) (n c : Nat) (w : World) (hR : Reads w w.heap.size 1 A n (us l)) (hS : Sh n l) (h1 : 1 ≤ n) (hn : n ≤ 64) :
    Calls Tryd.prog 73 #[.slice A n c] w fun e w' => ∃ C A' c', IsClo n PTrans l C ∧ e = .returned (.tuple #[.slice A' n c', .int .i64 0]) ∧ Reads w' w'.heap.size 1 A' n (us C) ∧ Below w.heap.size w w' :=
  (refTransitive_any l A n c w hR (sh_words hn hS) (by unfold maxLen; omega) (no_none hR h1)).mono fun _ _ h => gives_clo hS hn h
theorem rfEuclidean (l : List Nat) (A : Option Addr) (n c : Nat) (w : World) (hR : Reads w w.heap.size 1 A n (us l)) (hS : Sh n l) (h1 : 1 ≤ n) (hn : n ≤ 64) :
    Calls Tryd.prog 74 #[.slice A n c] w fun e w' => ∃ C A' c', IsClo n PEucl l C ∧ e = .returned (.tuple #[.slice A' n c', .int .i64 0]) ∧ Reads w' w'.heap.size 1 A' n (us C) ∧ Below w.heap.size w w' :=
  (refEuclidean_any l A n c w hR (sh_words hn hS) (by unfold maxLen; omega) (no_none hR h1)).mono fun _ _ h => gives_clo hS hn h
set_option maxHeartbeats 8000000 in
theorem rClosure_any (l : List Nat) (A : Option Addr) (n c : Nat) (g : Int) (w : World) (hR : Reads w w.heap.size 1 A n (us l)) (hS : Sh n l) (h1 : 1 ≤ n) (hn : n ≤ 64) :
    Calls Tryd.prog 42 #[.slice A n c, .int .i64 g] w fun e w' => ∃ A' c' C, ClosR n g l C ∧ e = .returned (.slice A' n c') ∧ OwnL w.heap.size w' A' C ∧ Below w.heap.size w w' := by
  have HR0 := Lib.hid hR
  have HS := Lib.hid hS
  have HP := Lib.hid (rPro_any g w)
  unfold GivesP at HP
  have HF : Hid (∀ x D, IsClo n (CloP n (proL g)) l x → D = serIf (proL g) x → ClosR n g l D) := Lib.hid (fun x D h e => ⟨x, h, e⟩)
  have HQ5 := Lib.hid (pro_five g)
  have hk3 := proL_len g
  clear hR hS
  generalize proE g = pe at *
  generalize proL g = PL at *
  generalize hkk : PL.length = k at *
  clear hkk
  go_enter Tryd.func42, Tryd.ntmps42
  go_wp2_with fail
  refine (HP.out).mono ?_
  rintro e w1 ⟨D, d, rfl, hL, hb⟩
  have HB1 := Lib.hid hb
  have HLW := Lib.hid (fun W (h : Below w1.heap.size w1 W) (x : Int) => rHas_any PL x D k d W ((hL.below h).more h.size) (by omega))
  clear hL hb
  by_cases h2 : (2 : Int) ∈ PL
  · have HC2 := Lib.hid (rfReflexive l A n c w1 (HR0.out.below HB1.out |>.more HB1.out.size) HS.out h1 hn)
    have HA2 := Lib.hid (HLW.out w1 (Below.refl _ _) 2)
    rw [decide_eq_true h2] at HA2
    go_wp2_with fail
    refine (HA2.out).mono ?_
    rintro e w1 ⟨rfl, rfl⟩
    go_wp2_with fail
    refine (HC2.out).mono ?_
    rintro e w3 ⟨C2, B2, c2, hC2, rfl, hR2, hb2⟩
    have HRF : Hid (RefR n PL l 0 C2) := Lib.hid (RefR.start HS.out (by rw [if_pos h2]; exact hC2))
    have HRX := Lib.hid hR2
    have HBX := Lib.hid hb2
    clear hC2 hR2 hb2
    go_wp2
    go_loopw [0, 7] (fun r i wr => ∃ (q : Nat) (x : List Nat) (B : Option Addr) (cB : Nat), q ≤ 2 * n + 1 ∧ r = .slice B n cB ∧ i = .int .i64 (q : Int) ∧ Hid (RefR n PL l q x) ∧ Hid (Reads wr wr.heap.size 1 B n (us x)) ∧ Hid (Below w1.heap.size w1 wr)) (fun _ i _ => 2 * n + 1 - (intOf i).toNat)
    case atStart => exact ⟨0, C2, B2, _, Nat.zero_le _, rfl, rfl, HRF, HRX, HBX⟩
    case round =>
      obtain ⟨q, x, B, cB, hq, rfl, rfl, HI, HRr, HBr⟩ := hrel
      have hsx := HI.out.base.sh
      have HSX := Lib.hid hsx
      clear hsx
      by_cases hlt : q ≤ 2 * n
      · have HNX := Lib.hid (fun y => HI.out.next (l' := y) HQ5.out)
        by_cases h4 : (4 : Int) ∈ PL
        · have HC4 := Lib.hid (rfTransitive x B n cB wr HRr.out HSX.out h1 hn)
          have HA4 := Lib.hid (HLW.out wr HBr.out 4)
          rw [decide_eq_true h4] at HA4
          go_wp2_with fail
          refine (HA4.out).mono ?_
          rintro e wr ⟨rfl, rfl⟩
          go_wp2_with fail
          refine (HC4.out).mono ?_
          rintro e w4 ⟨C4, B4, c4, hC4, rfl, hR4, hb4⟩
          have HK4 := Lib.hid hC4
          have HR4 := Lib.hid hR4
          have HB4 := Lib.hid (HBr.out.trans (hb4.mono HBr.out.size))
          clear hC4 hR4 hb4
          by_cases h5 : (5 : Int) ∈ PL
          · have HC5 := Lib.hid (rfEuclidean C4 B4 n c4 w4 HR4.out HK4.out.sh h1 hn)
            have HA5 := Lib.hid (HLW.out w4 HB4.out 5)
            rw [decide_eq_true h5] at HA5
            go_wp2_with fail
            refine (HA5.out).mono ?_
            rintro e w4 ⟨rfl, rfl⟩
            go_wp2_with fail
            refine (HC5.out).mono ?_
            rintro e w5 ⟨C5, B5, c5, hC5, rfl, hR5, hb5⟩
            have HN := Lib.hid (HNX.out C5 ⟨C4, by rw [if_pos h4]; exact HK4.out, by rw [if_pos h5]; exact hC5⟩)
            have HR5 := Lib.hid hR5
            have HB5 := Lib.hid (HB4.out.trans (hb5.mono HB4.out.size))
            clear hC5 hR5 hb5
            go_wp2
            go_roundw
            case rel => exact ⟨q + 1, C5, B5, c5, by omega, rfl, by go_num, HN, HR5, HB5⟩
            case measure => first | (simp [intOf]; done) | (simp [intOf]; omega)
          · have HN := Lib.hid (HNX.out C4 ⟨C4, by rw [if_pos h4]; exact HK4.out, by rw [if_neg h5]⟩)
            have HA5 := Lib.hid (HLW.out w4 HB4.out 5)
            rw [decide_eq_false h5] at HA5
            go_wp2_with fail
            refine (HA5.out).mono ?_
            rintro e w4 ⟨rfl, rfl⟩
            go_wp2
            go_roundw
            case rel => exact ⟨q + 1, C4, B4, c4, by omega, rfl, by go_num, HN, HR4, HB4⟩
            case measure => first | (simp [intOf]; done) | (simp [intOf]; omega)
        · have h5 : (5 : Int) ∉ PL := fun e => h4 (HQ5.out e)
          have HN := Lib.hid (HNX.out x ⟨x, by rw [if_neg h4], by rw [if_neg h5]⟩)
          have HA4 := Lib.hid (HLW.out wr HBr.out 4)
          rw [decide_eq_false h4] at HA4
          go_wp2_with fail
          refine (HA4.out).mono ?_
          rintro e wr ⟨rfl, rfl⟩
          have HA5 := Lib.hid (HLW.out wr HBr.out 5)
          rw [decide_eq_false h5] at HA5
          go_wp2_with fail
          refine (HA5.out).mono ?_
          rintro e wr ⟨rfl, rfl⟩
          go_wp2
          go_roundw
          case rel => exact ⟨q + 1, x, B, cB, by omega, rfl, by go_num, HN, HRr, HBr⟩
          case measure => first | (simp [intOf]; done) | (simp [intOf]; omega)
      · have HCL := Lib.hid (HI.out.fin (by omega))
        clear HI
        have hA := no_none (c := cB) HRr.out h1
        go_wp2_with (at_builtin; refine wp_copy _ rfl _ _ rfl wr.heap.size wr.heap.size (Nat.le_refl _) (World.ownsRow_made wr #[] 0 (Nat.le_refl _) (Nat.zero_le _) (by simp)) (by simp) rfl rfl hA ((HRr.out.alloc (Nat.le_refl _) _).more (by simp)) hn ?_)
        intro A1 c1 w2 hg hb
        obtain ⟨gg, rfl, hgl, hH⟩ := hg (by omega)
        have HG : Hid (w1.heap.size ≤ gg) := Lib.hid (Nat.le_trans HBr.out.size hgl)
        have HH := Lib.hid hH
        have HB2 := Lib.hid ((HBr.out.alloc HBr.out.size _).trans (hb.mono HBr.out.size))
        have hxl := HSX.out.1
        have HXL := Lib.hid hxl
        clear hg hb hgl hH hA
        by_cases hs : (1 : Int) ∈ PL
        · have H0 : Hid (HoldsP w2 gg (serK x 0) ∧ BelowBut w1.heap.size gg w2 w2) := Lib.hid ⟨by rw [serK_zero]; exact HH.out, BelowBut.refl _ _ _⟩
          have HLS := Lib.hid (fun W (h : BelowBut w1.heap.size gg w2 W) => HLW.out W (HB2.out.trans (h.below HG.out)) 1)
          rw [decide_eq_true hs] at HLS
          go_wp2
          go_loopw [9] (fun i wr => ∃ j : Nat, j ≤ n ∧ i = .int .i64 (j : Int) ∧ Hid (HoldsP wr gg (serK x j) ∧ BelowBut w1.heap.size gg w2 wr)) (fun i _ => n - (intOf i).toNat)
          case atStart => exact ⟨0, Nat.zero_le _, rfl, H0⟩
          case round =>
            obtain ⟨j, hj, rfl, HI⟩ := hrel
            by_cases hlj : j < n
            · have hc := HI.out.1.cell j (by rw [serK_len, HXL.out]; exact hlj)
              have hf := HI.out.1.free j
              have hx : (serK x j).getD j 0 = x.getD j 0 := by rw [serK_get (by rw [HXL.out]; exact hlj), if_neg (by omega)]
              rw [hx] at hc
              clear hx
              by_cases hz : x.getD j 0 = 0
              · have HI2 : Hid (∀ v : Value, v = .int .u64 ((p2 j : Nat) : Int) → HoldsP (wr.setCell ⟨gg, j, none⟩ v) gg (serK x (j + 1)) ∧ BelowBut w1.heap.size gg w2 (wr.setCell ⟨gg, j, none⟩ v)) := Lib.hid (fun v hv => by
                  subst hv
                  refine ⟨?_, HI.out.2.setCell j _⟩
                  have := HI.out.1.put j (p2 j)
                  rwa [serK_set (by rw [HXL.out]; exact hlj) hz] at this)
                rw [hz] at hc
                have HCS := Lib.hid (HLS.out wr HI.out.2)
                have hw := wrap_pow j (by omega)
                clear hz HI
                go_wp2_with fail
                refine (HCS.out).mono ?_
                rintro e wy ⟨rfl, rfl⟩
                go_wp2
                go_roundw
                case rel => exact ⟨j + 1, by omega, by go_num, Lib.hid (HI2.out _ (by first | rfl | rw [hw]))⟩
                case measure => first | (simp [intOf]; done) | (simp [intOf]; omega)
              · have HI2 : Hid (HoldsP wr gg (serK x (j + 1)) ∧ BelowBut w1.heap.size gg w2 wr) := Lib.hid ⟨by rw [← serK_keep hz]; exact HI.out.1, HI.out.2⟩
                have hz2 : (((x.getD j 0 : Nat) : Int) == 0) = false := by rw [beq_eq_false_iff_ne]; omega
                clear HI hz
                generalize x.getD j 0 = xj at *
                go_wp2
                go_roundw
                case rel => exact ⟨j + 1, by omega, by go_num, HI2⟩
                case measure => first | (simp [intOf]; done) | (simp [intOf]; omega)
            · obtain rfl : n = j := by omega
              have HE : Hid (HoldsP wr gg (serL x) ∧ BelowBut w1.heap.size gg w2 wr) := Lib.hid (by
                have := HI.out
                rw [← HXL.out, serK_all] at this
                exact this)
              clear HI
              go_wp2
              go_ret
              exact ⟨_, _, serL x, HF.out x _ HCL.out (by unfold serIf; rw [if_pos hs]), rfl, ⟨gg, rfl, Nat.le_trans HB1.out.size HG.out, HE.out.1⟩, HB1.out.trans ((HB2.out.trans (HE.out.2.below HG.out)).mono HB1.out.size)⟩
        · have HLS := Lib.hid (HLW.out w2 HB2.out 1)
          rw [decide_eq_false hs] at HLS
          go_wp2
          go_loopw [9] (fun i wr => ∃ j : Nat, j ≤ n ∧ i = .int .i64 (j : Int) ∧ wr = w2) (fun i _ => n - (intOf i).toNat)
          case atStart => exact ⟨0, Nat.zero_le _, rfl, rfl⟩
          case round =>
            obtain ⟨j, hj, rfl, rfl⟩ := hrel
            by_cases hlj : j < n
            · have hc := HH.out.cell j (by rw [HXL.out]; exact hlj)
              by_cases hz : x.getD j 0 = 0
              · rw [hz] at hc
                clear hz
                go_wp2_with fail
                refine (HLS.out).mono ?_
                rintro e wy ⟨rfl, rfl⟩
                go_wp2
                go_roundw
                case rel => exact ⟨j + 1, by omega, by go_num, by first | rfl | trivial⟩
                case measure => first | (simp [intOf]; done) | (simp [intOf]; omega)
              · have hz2 : (((x.getD j 0 : Nat) : Int) == 0) = false := by rw [beq_eq_false_iff_ne]; omega
                clear hz
                generalize x.getD j 0 = xj at *
                go_wp2
                go_roundw
                case rel => exact ⟨j + 1, by omega, by go_num, by first | rfl | trivial⟩
                case measure => first | (simp [intOf]; done) | (simp [intOf]; omega)
            · obtain rfl : n = j := by omega
              go_wp2
              go_ret
              exact ⟨_, _, x, HF.out x _ HCL.out (by unfold serIf; rw [if_neg hs]), rfl, ⟨gg, rfl, Nat.le_trans HB1.out.size HG.out, HH.out⟩, HB1.out.trans (HB2.out.mono HB1.out.size)⟩
  · have HRF : Hid (RefR n PL l 0 l) := Lib.hid (RefR.start HS.out (by rw [if_neg h2]))
    have HRX : Hid (Reads w1 w1.heap.size 1 A n (us l)) := Lib.hid (HR0.out.below HB1.out |>.more HB1.out.size)
    have HBX : Hid (Below w1.heap.size w1 w1) := Lib.hid (Below.refl _ _)
    have HA2 := Lib.hid (HLW.out w1 (Below.refl _ _) 2)
    rw [decide_eq_false h2] at HA2
    go_wp2_with fail
    refine (HA2.out).mono ?_
    rintro e w1 ⟨rfl, rfl⟩
    go_wp2
    go_loopw [0, 7] (fun r i wr => ∃ (q : Nat) (x : List Nat) (B : Option Addr) (cB : Nat), q ≤ 2 * n + 1 ∧ r = .slice B n cB ∧ i = .int .i64 (q : Int) ∧ Hid (RefR n PL l q x) ∧ Hid (Reads wr wr.heap.size 1 B n (us x)) ∧ Hid (Below w1.heap.size w1 wr)) (fun _ i _ => 2 * n + 1 - (intOf i).toNat)
    case atStart => exact ⟨0, l, A, _, Nat.zero_le _, rfl, rfl, HRF, HRX, HBX⟩
    case round =>
      obtain ⟨q, x, B, cB, hq, rfl, rfl, HI, HRr, HBr⟩ := hrel
      have hsx := HI.out.base.sh
      have HSX := Lib.hid hsx
      clear hsx
      by_cases hlt : q ≤ 2 * n
      · have HNX := Lib.hid (fun y => HI.out.next (l' := y) HQ5.out)
        by_cases h4 : (4 : Int) ∈ PL
        · have HC4 := Lib.hid (rfTransitive x B n cB wr HRr.out HSX.out h1 hn)
          have HA4 := Lib.hid (HLW.out wr HBr.out 4)
          rw [decide_eq_true h4] at HA4
          go_wp2_with fail
          refine (HA4.out).mono ?_
          rintro e wr ⟨rfl, rfl⟩
          go_wp2_with fail
          refine (HC4.out).mono ?_
          rintro e w4 ⟨C4, B4, c4, hC4, rfl, hR4, hb4⟩
          have HK4 := Lib.hid hC4
          have HR4 := Lib.hid hR4
          have HB4 := Lib.hid (HBr.out.trans (hb4.mono HBr.out.size))
          clear hC4 hR4 hb4
          by_cases h5 : (5 : Int) ∈ PL
          · have HC5 := Lib.hid (rfEuclidean C4 B4 n c4 w4 HR4.out HK4.out.sh h1 hn)
            have HA5 := Lib.hid (HLW.out w4 HB4.out 5)
            rw [decide_eq_true h5] at HA5
            go_wp2_with fail
            refine (HA5.out).mono ?_
            rintro e w4 ⟨rfl, rfl⟩
            go_wp2_with fail
            refine (HC5.out).mono ?_
            rintro e w5 ⟨C5, B5, c5, hC5, rfl, hR5, hb5⟩
            have HN := Lib.hid (HNX.out C5 ⟨C4, by rw [if_pos h4]; exact HK4.out, by rw [if_pos h5]; exact hC5⟩)
            have HR5 := Lib.hid hR5
            have HB5 := Lib.hid (HB4.out.trans (hb5.mono HB4.out.size))
            clear hC5 hR5 hb5
            go_wp2
            go_roundw
            case rel => exact ⟨q + 1, C5, B5, c5, by omega, rfl, by go_num, HN, HR5, HB5⟩
            case measure => first | (simp [intOf]; done) | (simp [intOf]; omega)
          · have HN := Lib.hid (HNX.out C4 ⟨C4, by rw [if_pos h4]; exact HK4.out, by rw [if_neg h5]⟩)
            have HA5 := Lib.hid (HLW.out w4 HB4.out 5)
            rw [decide_eq_false h5] at HA5
            go_wp2_with fail
            refine (HA5.out).mono ?_
            rintro e w4 ⟨rfl, rfl⟩
            go_wp2
            go_roundw
            case rel => exact ⟨q + 1, C4, B4, c4, by omega, rfl, by go_num, HN, HR4, HB4⟩
            case measure => first | (simp [intOf]; done) | (simp [intOf]; omega)
        · have h5 : (5 : Int) ∉ PL := fun e => h4 (HQ5.out e)
          have HN := Lib.hid (HNX.out x ⟨x, by rw [if_neg h4], by rw [if_neg h5]⟩)
          have HA4 := Lib.hid (HLW.out wr HBr.out 4)
          rw [decide_eq_false h4] at HA4
          go_wp2_with fail
          refine (HA4.out).mono ?_
          rintro e wr ⟨rfl, rfl⟩
          have HA5 := Lib.hid (HLW.out wr HBr.out 5)
          rw [decide_eq_false h5] at HA5
          go_wp2_with fail
          refine (HA5.out).mono ?_
          rintro e wr ⟨rfl, rfl⟩
          go_wp2
          go_roundw
          case rel => exact ⟨q + 1, x, B, cB, by omega, rfl, by go_num, HN, HRr, HBr⟩
          case measure => first | (simp [intOf]; done) | (simp [intOf]; omega)
      · have HCL := Lib.hid (HI.out.fin (by omega))
        clear HI
        have hA := no_none (c := cB) HRr.out h1
        go_wp2_with (at_builtin; refine wp_copy _ rfl _ _ rfl wr.heap.size wr.heap.size (Nat.le_refl _) (World.ownsRow_made wr #[] 0 (Nat.le_refl _) (Nat.zero_le _) (by simp)) (by simp) rfl rfl hA ((HRr.out.alloc (Nat.le_refl _) _).more (by simp)) hn ?_)
        intro A1 c1 w2 hg hb
        obtain ⟨gg, rfl, hgl, hH⟩ := hg (by omega)
        have HG : Hid (w1.heap.size ≤ gg) := Lib.hid (Nat.le_trans HBr.out.size hgl)
        have HH := Lib.hid hH
        have HB2 := Lib.hid ((HBr.out.alloc HBr.out.size _).trans (hb.mono HBr.out.size))
        have hxl := HSX.out.1
        have HXL := Lib.hid hxl
        clear hg hb hgl hH hA
        by_cases hs : (1 : Int) ∈ PL
        · have H0 : Hid (HoldsP w2 gg (serK x 0) ∧ BelowBut w1.heap.size gg w2 w2) := Lib.hid ⟨by rw [serK_zero]; exact HH.out, BelowBut.refl _ _ _⟩
          have HLS := Lib.hid (fun W (h : BelowBut w1.heap.size gg w2 W) => HLW.out W (HB2.out.trans (h.below HG.out)) 1)
          rw [decide_eq_true hs] at HLS
          go_wp2
          go_loopw [9] (fun i wr => ∃ j : Nat, j ≤ n ∧ i = .int .i64 (j : Int) ∧ Hid (HoldsP wr gg (serK x j) ∧ BelowBut w1.heap.size gg w2 wr)) (fun i _ => n - (intOf i).toNat)
          case atStart => exact ⟨0, Nat.zero_le _, rfl, H0⟩
          case round =>
            obtain ⟨j, hj, rfl, HI⟩ := hrel
            by_cases hlj : j < n
            · have hc := HI.out.1.cell j (by rw [serK_len, HXL.out]; exact hlj)
              have hf := HI.out.1.free j
              have hx : (serK x j).getD j 0 = x.getD j 0 := by rw [serK_get (by rw [HXL.out]; exact hlj), if_neg (by omega)]
              rw [hx] at hc
              clear hx
              by_cases hz : x.getD j 0 = 0
              · have HI2 : Hid (∀ v : Value, v = .int .u64 ((p2 j : Nat) : Int) → HoldsP (wr.setCell ⟨gg, j, none⟩ v) gg (serK x (j + 1)) ∧ BelowBut w1.heap.size gg w2 (wr.setCell ⟨gg, j, none⟩ v)) := Lib.hid (fun v hv => by
                  subst hv
                  refine ⟨?_, HI.out.2.setCell j _⟩
                  have := HI.out.1.put j (p2 j)
                  rwa [serK_set (by rw [HXL.out]; exact hlj) hz] at this)
                rw [hz] at hc
                have HCS := Lib.hid (HLS.out wr HI.out.2)
                have hw := wrap_pow j (by omega)
                clear hz HI
                go_wp2_with fail
                refine (HCS.out).mono ?_
                rintro e wy ⟨rfl, rfl⟩
                go_wp2
                go_roundw
                case rel => exact ⟨j + 1, by omega, by go_num, Lib.hid (HI2.out _ (by first | rfl | rw [hw]))⟩
                case measure => first | (simp [intOf]; done) | (simp [intOf]; omega)
              · have HI2 : Hid (HoldsP wr gg (serK x (j + 1)) ∧ BelowBut w1.heap.size gg w2 wr) := Lib.hid ⟨by rw [← serK_keep hz]; exact HI.out.1, HI.out.2⟩
                have hz2 : (((x.getD j 0 : Nat) : Int) == 0) = false := by rw [beq_eq_false_iff_ne]; omega
                clear HI hz
                generalize x.getD j 0 = xj at *
                go_wp2
                go_roundw
                case rel => exact ⟨j + 1, by omega, by go_num, HI2⟩
                case measure => first | (simp [intOf]; done) | (simp [intOf]; omega)
            · obtain rfl : n = j := by omega
              have HE : Hid (HoldsP wr gg (serL x) ∧ BelowBut w1.heap.size gg w2 wr) := Lib.hid (by
                have := HI.out
                rw [← HXL.out, serK_all] at this
                exact this)
              clear HI
              go_wp2
              go_ret
              exact ⟨_, _, serL x, HF.out x _ HCL.out (by unfold serIf; rw [if_pos hs]), rfl, ⟨gg, rfl, Nat.le_trans HB1.out.size HG.out, HE.out.1⟩, HB1.out.trans ((HB2.out.trans (HE.out.2.below HG.out)).mono HB1.out.size)⟩
        · have HLS := Lib.hid (HLW.out w2 HB2.out 1)
          rw [decide_eq_false hs] at HLS
          go_wp2
          go_loopw [9] (fun i wr => ∃ j : Nat, j ≤ n ∧ i = .int .i64 (j : Int) ∧ wr = w2) (fun i _ => n - (intOf i).toNat)
          case atStart => exact ⟨0, Nat.zero_le _, rfl, rfl⟩
          case round =>
            obtain ⟨j, hj, rfl, rfl⟩ := hrel
            by_cases hlj : j < n
            · have hc := HH.out.cell j (by rw [HXL.out]; exact hlj)
              by_cases hz : x.getD j 0 = 0
              · rw [hz] at hc
                clear hz
                go_wp2_with fail
                refine (HLS.out).mono ?_
                rintro e wy ⟨rfl, rfl⟩
                go_wp2
                go_roundw
                case rel => exact ⟨j + 1, by omega, by go_num, by first | rfl | trivial⟩
                case measure => first | (simp [intOf]; done) | (simp [intOf]; omega)
              · have hz2 : (((x.getD j 0 : Nat) : Int) == 0) = false := by rw [beq_eq_false_iff_ne]; omega
                clear hz
                generalize x.getD j 0 = xj at *
                go_wp2
                go_roundw
                case rel => exact ⟨j + 1, by omega, by go_num, by first | rfl | trivial⟩
                case measure => first | (simp [intOf]; done) | (simp [intOf]; omega)
            · obtain rfl : n = j := by omega
              go_wp2
              go_ret
              exact ⟨_, _, x, HF.out x _ HCL.out (by unfold serIf; rw [if_neg hs]), rfl, ⟨gg, rfl, Nat.le_trans HB1.out.size HG.out, HH.out⟩, HB1.out.trans (HB2.out.mono HB1.out.size)⟩
end Go.Proofs.YtkhalapppkhopaaDoor
