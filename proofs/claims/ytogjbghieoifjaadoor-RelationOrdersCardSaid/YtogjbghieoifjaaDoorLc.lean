/- What valid relations give, told with their number of points; the law's own containment. -/
import Derived.Test.YtogjbghieoifjaaDoorLb
import Derived.Test.YtogjbghieoifjaaDoorBq
namespace Go.Proofs.YtogjbghieoifjaaDoor
open Go.RowKit Go.Proofs.Ws
/-- a list of words over m points, and no error -/
def GivesM (L : List Nat) (m : Nat) (w : World) (e : Ending) (w' : World) : Prop :=
  ∃ A c, e = .returned (.tuple #[.slice A m c, .int .i64 0]) ∧ Reads w' w'.heap.size 1 A m (us L) ∧ Below w.heap.size w w'
theorem GivesM.of {L : List Nat} {m : Nat} (hl : L.length = m) {w w' : World} {e : Ending} (h : GivesR L w e w') : GivesM L m w e w' := by
  obtain ⟨A, c, he, hR, hb⟩ := h
  subst hl
  exact ⟨A, c, he, hR, hb⟩
theorem two_zero {R S : List Nat} {n : Nat} (hn : n ≤ 64) (hR : Sh n R) (hS : Sh n S) : twoErr R S = 0 := by
  have h1 := sh_err hn hR
  have h2 := sh_err hn hS
  unfold twoErr
  rw [hR.1, hS.1, if_neg (by omega), if_neg (by omega), if_neg (by omega)]
theorem k_compose (R S : List Nat) (A A2 : Option Addr) (n c c2 : Nat) (w : World) (hRR : Reads w w.heap.size 1 A n (us R)) (hSS : Reads w w.heap.size 1 A2 n (us S)) (hn : n ≤ 64) (hR : Sh n R) (hS : Sh n S) (hT : Tab w) :
    Calls Tryd.prog 17 #[.slice A n c, .slice A2 n c2] w (GivesM (composeV R S) n w) := by
  refine (compose_any R S A A2 n n c c2 w hRR hSS (sh_words hn hR) (sh_words hn hS) (by unfold maxLen; omega) (by unfold maxLen; omega) hT).mono ?_
  rintro e w' (⟨_, h⟩ | ⟨h, _⟩)
  · exact GivesM.of (compose_sh hR.1 hS).1 h
  · exact absurd (two_zero hn hR hS) h
theorem k_converse (R : List Nat) (A : Option Addr) (n c : Nat) (w : World) (hRR : Reads w w.heap.size 1 A n (us R)) (hn : n ≤ 64) (hR : Sh n R) (hT : Tab w) :
    Calls Tryd.prog 24 #[.slice A n c] w (GivesM (convV R) n w) := by
  refine (converse_any R A n c w hRR (sh_words hn hR) (by unfold maxLen; omega) hT).mono ?_
  rintro e w' (⟨_, h⟩ | ⟨h, _⟩)
  · exact GivesM.of (by rw [conv_len]; exact hR.1) h
  · rw [hR.1] at h; exact absurd (sh_err hn hR) h
theorem k_box (R : List Nat) (s : Nat) (A : Option Addr) (n c : Nat) (w : World) (hRR : Reads w w.heap.size 1 A n (us R)) (hn : n ≤ 64) (hR : Sh n R) (hs : s < 18446744073709551616) :
    Calls Tryd.prog 31 #[.slice A n c, .int .u64 s] w fun e w' => e = .returned (.int .u64 (box R s : Int)) ∧ Below w.heap.size w w' :=
  box_any R s A n c w hRR (sh_words hn hR) (by unfold maxLen; omega) hs
theorem k_dia (R : List Nat) (s : Nat) (A : Option Addr) (n c : Nat) (w : World) (hRR : Reads w w.heap.size 1 A n (us R)) (hn : n ≤ 64) (hR : Sh n R) (hs : s < 18446744073709551616) :
    Calls Tryd.prog 33 #[.slice A n c, .int .u64 s] w fun e w' => e = .returned (.int .u64 (dia R s : Int)) ∧ Below w.heap.size w w' :=
  dia_any R s A n c w hRR (sh_words hn hR) (by unfold maxLen; omega) hs
/-- the property of a closure's number -/
def PK (m k : Nat) : List Nat → Prop := fun l => HasP m ((k : Int) + 2) l
theorem PK_0 (m : Nat) : PK m 0 = PRefl m := funext fun l => propext (hasP2 m l)
theorem PK_1 (m : Nat) : PK m 1 = PSym := funext fun l => propext (hasP3 m l)
theorem PK_2 (m : Nat) : PK m 2 = PTrans := funext fun l => propext (hasP4 m l)
theorem PK_3 (m : Nat) : PK m 3 = PEucl := funext fun l => propext (hasP5 m l)
theorem k_closure (k : Nat) (hk : k < 4) (l : List Nat) (A : Option Addr) (m c : Nat) (w : World) (hR : Reads w w.heap.size 1 A m (us l)) (hn : m ≤ 64) (hS : Sh m l) (hT : Tab w) :
    Calls Tryd.prog 26 #[.slice A m c, .int .i64 (k : Int)] w fun e w' => ∃ L, IsClo m (PK m k) l L ∧
      ∃ A c, e = .returned (.tuple #[.slice A m c, .int .i64 0, .int .i64 ((k : Int) + 2)]) ∧ Reads w' w'.heap.size 1 A m (us L) ∧ Below w.heap.size w w' := by
  have h0 : relErr l.length l = 0 := by rw [hS.1]; exact sh_err hn hS
  have fin : ∀ {P : List Nat → Prop} {p : Int} {e : Ending} {w' : World}, (∃ L, CloX m P l (relErr l.length l) L ∧ GivesC L (relErr l.length l) p w e w') → PK m k = P → p = (k : Int) + 2 → ∃ L, IsClo m (PK m k) l L ∧
      ∃ A c, e = .returned (.tuple #[.slice A m c, .int .i64 0, .int .i64 ((k : Int) + 2)]) ∧ Reads w' w'.heap.size 1 A m (us L) ∧ Below w.heap.size w w' := by
    rintro P p e w' ⟨L, hL, A1, m1, c1, he, hr, hb, _⟩ hP hp
    rcases hL with ⟨_, hL⟩ | ⟨hx, _⟩
    · have h1 := hr.word_len
      have h2 := hL.sh.1
      have : m1 = m := by omega
      subst this
      exact ⟨L, hP ▸ hL, A1, c1, by rw [he, h0, hp], hr, hb⟩
    · exact absurd h0 hx
  have hk4 : k = 0 ∨ k = 1 ∨ k = 2 ∨ k = 3 := by omega
  have hw := sh_words hn hS
  have hm : m ≤ maxLen := by unfold maxLen; omega
  rcases hk4 with rfl | rfl | rfl | rfl
  · exact (law_reflexive l A m c w hR hw hm hT).mono fun _ _ h => fin h (PK_0 m) rfl
  · exact (law_symmetric l A m c w hR hw hm hT).mono fun _ _ h => fin h (PK_1 m) rfl
  · exact (law_transitive l A m c w hR hw hm hT).mono fun _ _ h => fin h (PK_2 m) rfl
  · exact (law_euclidean l A m c w hR hw hm hT).mono fun _ _ h => fin h (PK_3 m) rfl
theorem k_has (k : Nat) (l : List Nat) (A : Option Addr) (m c : Nat) (w : World) (hR : Reads w w.heap.size 1 A m (us l)) (hn : m ≤ 64) (hS : Sh m l) (hT : Tab w) :
    Calls Tryd.prog 15 #[.slice A m c, .int .i64 ((k : Int) + 2)] w (GivesB (PK m k l) w) :=
  (has_any l A m c ((k : Int) + 2) w hR (sh_words hn hS) (by unfold maxLen; omega) hT).mono fun _ _ h => h.congr ⟨fun x => x.2, fun x => ⟨sh_err hn hS, x⟩⟩
theorem row_yes (x y : Nat) (hx : x < 18446744073709551616) (hy : y < 18446744073709551616) (h : ∀ v, x.testBit v = true → y.testBit v = true) : (bits .andNot .u64 (x : Int) (y : Int) != 0) = false := by
  rw [u64_andNot_nat x y hx hy, (sub_iff x y hx hy).2 h]; rfl
theorem row_no (x y : Nat) (hx : x < 18446744073709551616) (hy : y < 18446744073709551616) (h : ¬ ∀ v, x.testBit v = true → y.testBit v = true) : (bits .andNot .u64 (x : Int) (y : Int) != 0) = true := by
  rw [u64_andNot_nat x y hx hy]
  have h' := fun e => h ((sub_iff x y hx hy).1 e)
  generalize x &&& (18446744073709551615 - y) = t at h' ⊢
  rw [bne_iff_ne]
  intro e
  exact h' (by omega)
theorem le_rows {m : Nat} {l s : List Nat} (hl : l.length = m) : Le l s ↔ ∀ i, i < m → ∀ v, (l.getD i 0).testBit v = true → (s.getD i 0).testBit v = true :=
  ⟨fun h i _ v hv => h i v hv, fun h w v hv => h w (by rw [← hl]; exact bit_len hv) v hv⟩
set_option maxRecDepth 100000 in
theorem inside_any (l s : List Nat) (A A2 : Option Addr) (m m2 c c2 : Nat) (w : World) (hR : Reads w w.heap.size 1 A m (us l)) (hS : Reads w w.heap.size 1 A2 m2 (us s)) (hw : Words l) (hw2 : Words s) (hm : m ≤ 64) :
    Calls Tryd.prog 39 #[.slice A m c, .slice A2 m2 c2] w (GivesB (m = m2 ∧ Le l s) w) := by
  by_cases h : m = m2
  · subst h
    have HLE := Lib.hid (le_rows (s := s) hR.word_len)
    have HW := Lib.hid hw
    have HW2 := Lib.hid hw2
    clear hw hw2
    go_enter Tryd.func39, Tryd.ntmps39
    go_wp2
    go_loopw [5] (fun i wr => ∃ k q : Nat, k ≤ m ∧ i = .int .i64 k ∧ Hid (∀ i, i < k → ∀ v, (l.getD i 0).testBit v = true → (s.getD i 0).testBit v = true) ∧ wr = w.drewN q) (fun i _ => m - (intOf i).toNat)
    case atStart => exact ⟨0, 0, Nat.zero_le _, rfl, Lib.hid (fun i hi => absurd hi (by omega)), rfl⟩
    case round =>
      obtain ⟨k, q, hk, rfl, HI, rfl⟩ := hrel
      by_cases hlt : k < m
      · obtain ⟨ad, rfl, hb, hc⟩ := hR.word_k hlt
        obtain ⟨ad2, rfl, hb2, hc2⟩ := hS.word_k hlt
        by_cases hsub : ∀ v, (l.getD k 0).testBit v = true → (s.getD k 0).testBit v = true
        · have hrs := row_yes (l.getD k 0) (s.getD k 0) (words_getD HW.out k) (words_getD HW2.out k) hsub
          have HI2 : Hid (∀ i, i < k + 1 → ∀ v, (l.getD i 0).testBit v = true → (s.getD i 0).testBit v = true) := Lib.hid (fun i hi => by
            by_cases e : i = k
            · subst e; exact hsub
            · exact HI.out i (by omega))
          clear hsub HI
          generalize l.getD k 0 = x at *
          generalize s.getD k 0 = y at *
          go_wp2
          go_quiet (fail)
          go_wp2
          go_roundw
          case rel => exact ⟨k + 1, q + nq, by omega, by go_num, HI2, by first | rfl | rw [World.drewN_drewN]⟩
          case measure => simp [intOf]; omega
        · have hrs := row_no (l.getD k 0) (s.getD k 0) (words_getD HW.out k) (words_getD HW2.out k) hsub
          have HN : Hid (¬ Le l s) := Lib.hid (fun h => hsub (HLE.out.1 h k hlt))
          clear hsub HI
          generalize l.getD k 0 = x at *
          generalize s.getD k 0 = y at *
          go_wp2
          go_quiet (fail)
          go_wp2
          go_ret
          exact ⟨false, rfl, by simp [HN.out], below_drewN (below_drewN (Below.refl _ _) _) _⟩
      · have hkm : m = k := by omega
        subst hkm
        go_wp2
        go_ret
        refine ⟨true, rfl, ?_, below_drewN (Below.refl _ _) _⟩
        have := HLE.out.2 HI.out
        simp [this]
  · have hne : ((m : Int) != (m2 : Int)) = true := by simp; omega
    clear hw hw2
    go_enter Tryd.func39, Tryd.ntmps39
    go_wp2
    go_ret
    exact ⟨false, rfl, by simp [h], Below.refl _ _⟩
end Go.Proofs.YtogjbghieoifjaaDoor
