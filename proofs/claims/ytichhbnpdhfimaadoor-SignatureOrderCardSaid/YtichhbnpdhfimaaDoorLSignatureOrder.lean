/- SignatureOrder (P4.4): the order of names does not matter for Group, and its mask has a bit for each name; for every signature and list of names. Conditions: the package variables that the row lists hold what the program's text lays in them. -/
import Derived.Test.YtichhbnpdhfimaaDoorSx
namespace Go.Proofs.YtichhbnpdhfimaaDoor.signatureOrder
open Go.ChangeShapes Go.WideShapes Go.ChangeAt Go.RowKit Go.Proofs.YtichhbnpdhfimaaDoor Go.Proofs.YtichhbnpdhfimaaDoor.sig Go.Proofs.Ws
open Go.ChangeMaps (open_string shut_string)

set_option maxRecDepth 100000 in
set_option maxHeartbeats 2000000 in
theorem walk_many (a0 : Option Addr) (n0 c0 : Nat) (a1 : Option Addr) (n1 c1 : Nat) (a2 : Option Addr) (n2 c2 : Nat) (al : Option Addr) (nl cl : Nat) (w : World) (h0 : n0 ≤ maxLen) (h1 : n1 ≤ maxLen) (h2 : n2 ≤ maxLen) (hE : EnvS w) (hf : (decide (n0 ≤ 12) && decide (n1 ≤ 12) && decide (n2 ≤ 12)) = false) :
    Calls Tryd.prog 11 #[.agg #[.slice a0 n0 c0, .slice a1 n1 c1, .slice a2 n2 c2], .slice al nl cl] w fun e w' => e = .returned (.bool true) ∧ Below w.heap.size w w' := by
  have HX := Lib.hid (@boxed w a0 a1 a2 n0 c0 n1 c1 n2 c2 39)
  have HF := Lib.hid (fun W => hf ▸ pFew_any a0 a1 a2 n0 c0 n1 c1 n2 c2 W h0 h1 h2)
  have hb0 : Below (w.heap.size + 1) (w.alloc (.cells #[.slice a0 n0 c0, .slice a1 n1 c1, .slice a2 n2 c2] 39)) (w.alloc (.cells #[.slice a0 n0 c0, .slice a1 n1 c1, .slice a2 n2 c2] 39)) := Below.refl _ _
  have HG : Hid (∀ W, Below (w.heap.size + 1) (w.alloc (.cells #[.slice a0 n0 c0, .slice a1 n1 c1, .slice a2 n2 c2] 39)) W → EnvS W ∧ Below w.heap.size w W ∧ w.heap.size + 1 ≤ W.heap.size) := Lib.hid (fun W hW => by
    have h1 : Below w.heap.size w W := ((Below.refl _ w).alloc (Nat.le_refl _) _).trans (hW.mono (by omega))
    exact ⟨hE.below h1, h1, by have := hW.size; simpa using this⟩)
  have HB0 := Lib.hid hb0
  clear hE h0 h1 h2 hf hb0
  go_enter Tryd.func11, Tryd.ntmps11
  go_wp2_with fail
  refine (awakeS_any _ (HG.out _ HB0.out).1).mono ?_
  rintro e w1 ⟨rfl, hb⟩
  have HB : Hid (Below (w.heap.size + 1) (w.alloc (.cells #[.slice a0 n0 c0, .slice a1 n1 c1, .slice a2 n2 c2] 39)) w1) := Lib.hid (HB0.out.trans (hb.mono (by simp)))
  have hc := HX.out w1 HB.out
  obtain ⟨hc0, hc1, hc2⟩ := hc
  clear hb
  go_wp2_with fail
  refine (HF.out _).mono ?_
  rintro e w2 ⟨rfl, hb⟩
  have HB2 : Hid (Below (w.heap.size + 1) (w.alloc (.cells #[.slice a0 n0 c0, .slice a1 n1 c1, .slice a2 n2 c2] 39)) w2) := Lib.hid (HB.out.trans (hb.mono (HG.out _ HB.out).2.2))
  clear hb hc0 hc1 hc2
  go_wp2_with fail
  refine (awakeS_any _ (HG.out _ HB2.out).1).mono ?_
  rintro e w3 ⟨rfl, hb⟩
  have HB3 : Hid (Below (w.heap.size + 1) (w.alloc (.cells #[.slice a0 n0 c0, .slice a1 n1 c1, .slice a2 n2 c2] 39)) w3) := Lib.hid (HB2.out.trans (hb.mono (HG.out _ HB2.out).2.2))
  clear hb
  go_wp2
  go_ret
  exact ⟨rfl, (HG.out _ HB3.out).2.1⟩

set_option maxRecDepth 100000 in
set_option maxHeartbeats 4000000 in
theorem walk_few (a0 : Option Addr) (n0 c0 : Nat) (a1 : Option Addr) (n1 c1 : Nat) (a2 : Option Addr) (n2 c2 : Nat) (A F X : List ByteArray) (al : Option Addr) (nl cl : Nat) (l : List ByteArray) (w : World) (hS : SigR w w.heap.size (.agg #[.slice a0 n0 c0, .slice a1 n1 c1, .slice a2 n2 c2]) A F X) (hE : EnvS w) (f0 : n0 ≤ 12) (f1 : n1 ≤ 12) (f2 : n2 ≤ 12) (hl : SL0 w al nl cl l) :
    Calls Tryd.prog 11 #[.agg #[.slice a0 n0 c0, .slice a1 n1 c1, .slice a2 n2 c2], .slice al nl cl] w fun e w' => e = .returned (.bool true) ∧ Below w.heap.size w w' := by
  have HX := Lib.hid (@boxed w a0 a1 a2 n0 c0 n1 c1 n2 c2 39)
  have HF := Lib.hid (fun W => (show (decide (n0 ≤ 12) && decide (n1 ≤ 12) && decide (n2 ≤ 12)) = true by simp [f0, f1, f2]) ▸ pFew_any a0 a1 a2 n0 c0 n1 c1 n2 c2 W (by unfold maxLen; omega) (by unfold maxLen; omega) (by unfold maxLen; omega))
  have HG : Hid (∀ W, Below (w.heap.size + 1) (w.alloc (.cells #[.slice a0 n0 c0, .slice a1 n1 c1, .slice a2 n2 c2] 39)) W → EnvS W ∧ SigR W W.heap.size (.agg #[.slice a0 n0 c0, .slice a1 n1 c1, .slice a2 n2 c2]) A F X ∧ Below w.heap.size w W ∧ w.heap.size + 1 ≤ W.heap.size) := Lib.hid (fun W hW => by
    have h1 : Below w.heap.size w W := ((Below.refl _ w).alloc (Nat.le_refl _) _).trans (hW.mono (by omega))
    exact ⟨hE.below h1, hS.on h1, h1, by have := hW.size; simpa using this⟩)

  obtain ⟨s0, s1, s2⟩ : SL w w.heap.size a0 n0 c0 A ∧ SL w w.heap.size a1 n1 c1 F ∧ SL w w.heap.size a2 n2 c2 X := by
    obtain ⟨b0, m0, d0, b1, m1, d1, b2, m2, d2, e, t0, t1, t2⟩ := hS
    unfold sv at e
    injection e with e
    simp at e
    obtain ⟨⟨rfl, rfl, rfl⟩, ⟨rfl, rfl, rfl⟩, rfl, rfl, rfl⟩ := e
    exact ⟨t0, t1, t2⟩
  have HAL := Lib.hid s0.1.str_len
  have HL := Lib.hid hl
  have HLL := Lib.hid hl.1.str_len
  have HSH := Lib.hid (fun W => pShort_any l al nl cl w.heap.size W)
  have hml := hl.2.2.1
  unfold maxLen at hml
  clear s0 s1 s2 hS hE hl
  go_enter Tryd.func11, Tryd.ntmps11
  go_wp2_with fail
  refine (awakeS_any _ (HG.out _ (Below.refl _ _)).1).mono ?_
  rintro e w1 ⟨rfl, hb⟩
  have HB : Hid (Below (w.heap.size + 1) (w.alloc (.cells #[.slice a0 n0 c0, .slice a1 n1 c1, .slice a2 n2 c2] 39)) w1) := Lib.hid ((Below.refl _ _).trans (hb.mono (by simp)))
  have hc := HX.out w1 HB.out
  obtain ⟨hc0, hc1, hc2⟩ := hc
  clear hb
  go_wp2_with fail
  refine (HF.out _).mono ?_
  rintro e w2 ⟨rfl, hb⟩
  have HB2 : Hid (Below (w.heap.size + 1) (w.alloc (.cells #[.slice a0 n0 c0, .slice a1 n1 c1, .slice a2 n2 c2] 39)) w2) := Lib.hid (HB.out.trans (hb.mono (HG.out _ HB.out).2.2.2))
  clear hb hc0 hc1 hc2 HF HB
  have HSC := Lib.hid (HSH.out w2 (HL.out.1.below (HG.out _ HB2.out).2.2.1) HL.out.2.2.1)
  cases hsb : shortB l nl with
  | false =>
    rw [hsb] at HSC
    clear hsb
    go_wp2_with fail
    refine (HSC.out).mono ?_
    rintro e w3 ⟨rfl, rfl⟩
    go_wp2_with fail
    refine (awakeS_any _ (HG.out _ HB2.out).1).mono ?_
    rintro e w4 ⟨rfl, hb⟩
    have HB4 : Hid (Below (w.heap.size + 1) (w.alloc (.cells #[.slice a0 n0 c0, .slice a1 n1 c1, .slice a2 n2 c2] 39)) w4) := Lib.hid (HB2.out.trans (hb.mono (HG.out _ HB2.out).2.2.2))
    clear hb
    go_wp2
    go_ret
    exact ⟨rfl, (HG.out _ HB4.out).2.2.1⟩
  | true =>
    have hn20 : nl ≤ 20 := by
      unfold shortB at hsb
      rw [Bool.and_eq_true, decide_eq_true_eq] at hsb
      exact hsb.2
    obtain ⟨i0, hi, hz0, hz1, hz2⟩ := info_parts Tryd.infoS
    rw [hsb] at HSC
    clear hsb
    go_wp2_with fail
    refine (HSC.out).mono ?_
    rintro e w3 ⟨rfl, rfl⟩
    clear HSC HSH
    go_wp2
    go_loopw [5, 32] (fun v i wr => ∃ (k : Nat) (xs : List Value), k ≤ nl ∧ i = .int .i64 k ∧ Hid (xs = ss (l.take k).reverse) ∧ wr.ownsRow w2.heap.size 9 1 v k xs ∧ Below w2.heap.size w2 wr) (fun _ i _ => nl - (intOf i).toNat)
    case atStart => exact ⟨0, [], Nat.zero_le _, rfl, Lib.hid rfl, World.ownsRow_nil _ _ _ _, Below.refl _ _⟩
    case round =>
      obtain ⟨k, xs, hk, rfl, HO, hown, hb⟩ := hrel
      have hsz := hb.size
      by_cases hlt : k < nl
      · obtain ⟨ad, hA, hbb, hc0⟩ := HL.out.1.str_at hlt
        have hcx := ((HB2.out.trans (hb.mono (HG.out _ HB2.out).2.2.2)).cell (p := ad.add k) (by rw [block_of_add]; omega)).trans ((((Below.refl w.heap.size w).alloc (Nat.le_refl _) _).cell (p := ad.add k) (by rw [block_of_add]; exact hbb)).trans hc0)
        have HX1 : Hid ([.string (l.getD k ByteArray.empty)] ++ xs = ss (l.take (k + 1)).reverse) := Lib.hid (by
          have e : l.take (k + 1) = l.take k ++ [l.getD k ByteArray.empty] := by
            rw [List.take_add_one, List.getD_eq_getElem?_getD, List.getElem?_eq_getElem (by rw [HLL.out]; exact hlt)]; rfl
          rw [e, List.reverse_append, HO.out]
          rfl)
        rw [hA] at *
        generalize l.getD k ByteArray.empty = x at *
        have hlit := World.ownsRow_lit (base := w2.heap.size) (e := 9) (size := 1) wr #[.string x] 1 hsz (by unfold maxLen; omega) rfl
        have hb1 : Below w2.heap.size w2 (wr.alloc (.cells #[.string x] 9)) := hb.alloc hsz _
        clear hc0 hbb HO
        rcases hown.2 with ⟨rfl, h0⟩ | ⟨g, cap, cur, rfl, hbg, hgg, _⟩
        · subst h0
          have hx0 : xs = [] := List.eq_nil_of_length_eq_zero (by simpa using hown.1)
          subst hx0
          have hcx9 : wr.cell? ad = some (.string x) := by simpa [Addr.add] using hcx
          clear hown hb
          go_wp2_with (at_builtin; refine wpList_append_own_none rfl _ _ 37 rfl w2.heap.size 9 i0 1 Tryd.underlying37 hi _ _ _ rfl hlit rfl ?_)
          go_wp2
          go_roundw
          case rel => exact ⟨0 + 1, _, by omega, by go_num, HX1, hlit, hb1⟩
          case measure => simp [intOf]; omega
        · have hown2 := hown.alloc (.cells #[.string x] 9)
          have hrd := Reads.of_own hown2
          have HCE : Hid (∀ j u, xs[j]? = some u → (wr.alloc (.cells #[.string x] 9)).cell? ((⟨g, 0, none⟩ : Addr).add j) = some u) := Lib.hid (fun j u hu => by
            have hj : j < xs.length := (List.getElem?_eq_some_iff.1 hu).1
            have h1 := hrd.1
            obtain ⟨ad', e, _, hc'⟩ := hrd.2 (by omega)
            injection e with e
            subst e
            exact hc' j u hu)
          have hxl : xs.length = k * 1 := hrd.1
          have HXC : Hid (∀ u ∈ xs, u.oneCell' = true) := Lib.hid (fun u hu => by
            have : u ∈ ss (l.take (k + 1)).reverse := by rw [← HX1.out]; exact List.mem_append.2 (.inr hu)
            exact ss_oneCell _ u this)
          clear hown hown2 hrd hgg hb
          go_wp2_with (at_builtin; refine wpList_append_own _ rfl _ _ 37 rfl w2.heap.size 9 i0 (.string ByteArray.empty) 1 16 Tryd.underlying37 hi hz0 hz1 hz2 rfl (by decide) _ _ _ rfl hlit ⟨g, 0, none⟩ k cap xs rfl hxl HCE.out HXC.out ?c3 ?c4 ?c5 ?_)
          case c3 => unfold maxLen; omega
          case c4 => omega
          case c5 => first | omega | (simp; omega)
          intro v' w4 hown' hgrow _
          have hb4 : Below w2.heap.size w2 w4 := hb1.grown hgrow (by first | omega | (simp; omega)) (fun j hj => (hlit.lt j hj).1)
          have hown4 : w4.ownsRow w2.heap.size 9 1 v' (k + 1) ([.string x] ++ xs) := by rw [Nat.add_comm]; exact hown'
          clear hgrow hown' hlit hb1 HCE HXC
          go_wp2
          go_roundw
          case rel => exact ⟨k + 1, _, by omega, by go_num, HX1, hown4, hb4⟩
          case measure => simp [intOf]; omega
      · have hkn : nl = k := by omega
        subst hkn
        obtain ⟨ab, cb, rfl, hRb⟩ := own_reads hown
        have HBr : Hid (Below (w.heap.size + 1) (w.alloc (.cells #[.slice a0 n0 c0, .slice a1 n1 c1, .slice a2 n2 c2] 39)) wr) := Lib.hid (HB2.out.trans (hb.mono (HG.out _ HB2.out).2.2.2))
        have HRB : Hid (Reads wr wr.heap.size 1 ab nl (ss l.reverse)) := Lib.hid (by
          have h1 := HO.out
          rw [← HLL.out, List.take_length] at h1
          rw [← h1]
          exact hRb)
        clear hown hb hRb HO HB2
        have HTN := Lib.hid (group_turned A F X l)
        have HG1 := Lib.hid (pGroup_any (.agg #[.slice a0 n0 c0, .slice a1 n1 c1, .slice a2 n2 c2]) A F X l al nl cl wr (HG.out _ HBr.out).2.1 ((HL.out.1.below (HG.out _ HBr.out).2.2.1).more (HG.out _ HBr.out).2.2.1.size) (by unfold maxLen; omega) (HG.out _ HBr.out).1)
        have HG2 : Hid (∀ W, Below wr.heap.size wr W → Below (w.heap.size + 1) (w.alloc (.cells #[.slice a0 n0 c0, .slice a1 n1 c1, .slice a2 n2 c2] 39)) W → Calls Tryd.prog 43 #[.agg #[.slice a0 n0 c0, .slice a1 n1 c1, .slice a2 n2 c2], .slice ab nl cb] W fun e w' => e = .returned (.tuple #[.int .i64 ((groupV A F X l).1 : Nat), .int .i64 (groupV A F X l.reverse).2]) ∧ Below W.heap.size W w') := Lib.hid (fun W hW hW2 => by
          have := pGroup_any (.agg #[.slice a0 n0 c0, .slice a1 n1 c1, .slice a2 n2 c2]) A F X l.reverse ab nl cb W (HG.out _ hW2).2.1 ((HRB.out.below hW).more hW.size) (by unfold maxLen; omega) (HG.out _ hW2).1
          rw [HTN.out.1] at this
          exact this)
        have HGL : Hid ((groupV A F X l).2 = 0 → n0 ≤ 4 ∧ (groupV A F X l).1 < 16 ∧ popK (groupV A F X l).1 n0 = nl ∧ sigErr A F X = 0 ∧ ∀ x ∈ l, x ∈ A ∧ (groupV A F X l).1.testBit (ix A x) = true) := Lib.hid (fun h => by
          obtain ⟨t1, t2, t3, t4⟩ := HTN.out.2.2 h
          have h4 := (sigErr_ok t1).1
          rw [HAL.out] at t2 t3 h4
          exact ⟨h4, Nat.lt_of_lt_of_le t2 (pow4 h4), t3.trans HLL.out, t1, t4⟩)
        have HEE := Lib.hid HTN.out.2.1
        clear HTN
        obtain ⟨G, hG⟩ : ∃ G, (groupV A F X l).1 = G := ⟨_, rfl⟩
        obtain ⟨e1, he1⟩ : ∃ e, (groupV A F X l).2 = e := ⟨_, rfl⟩
        obtain ⟨e2, he2⟩ : ∃ e, (groupV A F X l.reverse).2 = e := ⟨_, rfl⟩
        rw [hG, he1] at HG1 HGL
        rw [hG, he2] at HG2
        rw [he1, he2] at HEE
        clear hG he1 he2
        have hc := HX.out wr HBr.out
        obtain ⟨hc0, hc1, hc2⟩ := hc
        go_wp2_with fail
        refine (HG1.out).mono ?_
        rintro e w5 ⟨rfl, hb5⟩
        have HB5 : Hid (Below wr.heap.size wr w5) := Lib.hid hb5
        have HB6 : Hid (Below (w.heap.size + 1) (w.alloc (.cells #[.slice a0 n0 c0, .slice a1 n1 c1, .slice a2 n2 c2] 39)) w5) := Lib.hid (HBr.out.trans (hb5.mono (HG.out _ HBr.out).2.2.2))
        clear hb5 hc0 hc1 hc2
        have hc := HX.out w5 HB6.out
        obtain ⟨hc0, hc1, hc2⟩ := hc
        go_wp2_with fail
        refine (HG2.out _ HB5.out HB6.out).mono ?_
        rintro e w6 ⟨rfl, hb6⟩
        have HB7 : Hid (Below (w.heap.size + 1) (w.alloc (.cells #[.slice a0 n0 c0, .slice a1 n1 c1, .slice a2 n2 c2] 39)) w6) := Lib.hid (HB6.out.trans (hb6.mono (HG.out _ HB6.out).2.2.2))
        clear hb6 hc0 hc1 hc2 HG1 HG2
        have hc := HX.out w6 HB7.out
        obtain ⟨hc0, hc1, hc2⟩ := hc
        have hgg : ((G : Int) != (G : Int)) = false := by simp
        by_cases he : e1 = 0
        · have he2 := HEE.out.2 he
          subst he
          subst he2
          obtain ⟨hn4, hG16, hpop, hsig, hbits⟩ := HGL.out rfl
          have HPOP := Lib.hid hpop
          have HSIG := Lib.hid hsig
          have HBITS := Lib.hid hbits
          clear hpop hsig hbits HGL HEE
          go_wp2
          clear hc0 hc1 hc2 hgg
          go_loopw [12, 68] (fun sv i wx => ∃ k p : Nat, k ≤ n0 ∧ p ≤ k ∧ i = .int .i64 k ∧ sv = .int .i64 p ∧ Hid (p = popK G k) ∧ wx = w6) (fun _ i _ => n0 - (intOf i).toNat)
          case atStart => exact ⟨0, 0, Nat.zero_le _, Nat.le_refl _, rfl, rfl, Lib.hid rfl, rfl⟩
          case round =>
            obtain ⟨k, p, hk, hpk, rfl, rfl, HP, rfl⟩ := hrel
            by_cases hlt : k < n0
            · have hbv := bitv_i64 ⟨G, hG16⟩ ⟨k, by omega⟩
              dsimp only at hbv
              have HS := Lib.hid (popK_succ G k)
              cases hbt : G.testBit k with
              | true =>
                rw [hbt] at hbv HS
                simp only [if_true] at hbv
                have HN : Hid (p + 1 = popK G (k + 1)) := Lib.hid (by rw [HS.out, ← HP.out]; rfl)
                clear hbt HS HP
                go_wp2
                go_roundw
                case rel => exact ⟨k + 1, p + 1, by omega, by omega, by go_num, by go_num, HN, by first | rfl | trivial⟩
                case measure => simp [intOf]; omega
              | false =>
                rw [hbt] at hbv HS
                simp only [Bool.false_eq_true, if_false] at hbv
                have HN : Hid (p = popK G (k + 1)) := Lib.hid (by rw [HS.out, ← HP.out]; rfl)
                clear hbt HS HP
                go_wp2
                go_roundw
                case rel => exact ⟨k + 1, p, by omega, by omega, by go_num, by go_num, HN, by first | rfl | trivial⟩
                case measure => simp [intOf]; omega
            · have hkn : n0 = k := by omega
              subst hkn
              have hpn : p = nl := by rw [HP.out]; exact HPOP.out
              subst hpn
              clear HP HPOP
              go_wp2
              go_loopw [80] (fun i wy => ∃ k : Nat, k ≤ p ∧ i = .int .i64 k ∧ Hid (Below (w.heap.size + 1) (w.alloc (.cells #[.slice a0 n0 c0, .slice a1 n1 c1, .slice a2 n2 c2] 39)) wy)) (fun i _ => p - (intOf i).toNat)
              case atStart => exact ⟨0, Nat.zero_le _, rfl, HB7⟩
              case round =>
                obtain ⟨k, hk, rfl, HBy⟩ := hrel
                by_cases hlt : k < p
                · obtain ⟨ad, hA, hbb, hc0⟩ := HL.out.1.str_at hlt
                  have hcx := ((HG.out _ HBy.out).2.2.1.cell (p := ad.add k) (by rw [block_of_add]; exact hbb)).trans hc0
                  have HM := Lib.hid (HBITS.out (l.getD k ByteArray.empty) (by
                    rw [List.getD_eq_getElem?_getD, List.getElem?_eq_getElem (by rw [HLL.out]; exact hlt)]
                    exact List.getElem_mem _))
                  rw [hA] at *
                  generalize l.getD k ByteArray.empty = x at *
                  obtain ⟨hj, hz⟩ := ix_lt HM.out.1
                  have HN0 : Hid (numV A F X A x = (ix A x : Nat)) := Lib.hid (by rw [numV_ok HSIG.out]; exact hz)
                  have hj4 : ix A x < 4 := by have := HAL.out; omega
                  have hbv := bitv_i64 ⟨G, hG16⟩ ⟨ix A x, hj4⟩
                  dsimp only at hbv
                  rw [HM.out.2] at hbv
                  simp only [if_true] at hbv
                  have hc := HX.out _ HBy.out
                  obtain ⟨hd0, hd1, hd2⟩ := hc
                  have HAG := Lib.hid (HN0.out ▸ pAgent_any (.agg #[.slice a0 n0 c0, .slice a1 n1 c1, .slice a2 n2 c2]) A F X x _ (HG.out _ HBy.out).2.1 (HG.out _ HBy.out).1)
                  generalize ix A x = j at *
                  clear hc0 hbb hz hj
                  go_wp2_with fail
                  refine (HAG.out).mono ?_
                  rintro e wz ⟨rfl, hbz⟩
                  have HBz : Hid (Below (w.heap.size + 1) (w.alloc (.cells #[.slice a0 n0 c0, .slice a1 n1 c1, .slice a2 n2 c2] 39)) wz) := Lib.hid (HBy.out.trans (hbz.mono (HG.out _ HBy.out).2.2.2))
                  clear hbz hd0 hd1 hd2
                  go_wp2
                  go_roundw
                  case rel => exact ⟨k + 1, by omega, by go_num, HBz⟩
                  case measure => simp [intOf]; omega
                · have hkn : p = k := by omega
                  subst hkn
                  go_wp2
                  go_ret
                  exact ⟨by simp, (HG.out _ HBy.out).2.2.1⟩
        · have he2 : e2 ≠ 0 := fun h => he (HEE.out.1 h)
          have q1 : (e1 == 0) = false := by rw [beq_eq_false_iff_ne]; exact he
          have q2 : (e2 == 0) = false := by rw [beq_eq_false_iff_ne]; exact he2
          have q3 : (e1 != 0) = true := by rw [bne_iff_ne]; exact he
          clear he he2 HGL HEE
          go_wp2
          go_ret
          exact ⟨rfl, (HG.out _ HB7.out).2.2.1⟩
theorem walk (a0 : Option Addr) (n0 c0 : Nat) (a1 : Option Addr) (n1 c1 : Nat) (a2 : Option Addr) (n2 c2 : Nat) (A F X : List ByteArray) (al : Option Addr) (nl cl : Nat) (l : List ByteArray) (w : World) (s0 : SL0 w a0 n0 c0 A) (s1 : SL0 w a1 n1 c1 F) (s2 : SL0 w a2 n2 c2 X) (sl : SL0 w al nl cl l) (hE : EnvS w) :
    Calls Tryd.prog 11 #[sv a0 n0 c0 a1 n1 c1 a2 n2 c2, .slice al nl cl] w fun e w' => e = .returned (.bool true) ∧ Below w.heap.size w w' := by
  by_cases hf : n0 ≤ 12 ∧ n1 ≤ 12 ∧ n2 ≤ 12
  · exact walk_few a0 n0 c0 a1 n1 c1 a2 n2 c2 A F X al nl cl l w ⟨_, _, _, _, _, _, _, _, _, rfl, s0.small (by omega), s1.small (by omega), s2.small (by omega)⟩ hE hf.1 hf.2.1 hf.2.2 sl
  · refine walk_many a0 n0 c0 a1 n1 c1 a2 n2 c2 al nl cl w s0.2.2.1 s1.2.2.1 s2.2.2.1 hE ?_
    by_cases h0 : n0 ≤ 12 <;> by_cases h1 : n1 ≤ 12 <;> by_cases h2 : n2 ≤ 12 <;> simp [h0, h1, h2]
    exact hf ⟨h0, h1, h2⟩
set_option maxRecDepth 100000 in
theorem contract (H : Type) (enc : TypeId × Value → H) (W : World) (base : Nat) (args : Array Value) (ds gs : List (DataW H)) (before : List MemPlace)
    (hval : ∀ (j : Nat) t v, Tryd.f11.params[j]? = some t → args[j]? = some v → Value.okWide Tryd.prog W .any base t v)
    (hW : DataW.Whole enc Tryd.prog Tryd.f11.params.toList Rows.signatureOrderSpec.vars false W args.toList ds gs before) (hE : EnvS W) :
    Calls Tryd.prog 11 args W fun e W' => ∃ v, e = .returned v ∧ Rows.signatureOrderSpec.post enc Tryd.prog Tryd.f11 false true false false W args v W' := by
  have hW' := hW
  obtain ⟨p, q, hA0, hV, rfl, hfz, hnd⟩ := hW
  have hA : DataW.TrodAll enc Tryd.prog W 0 (fun _ => true) true Tryd.f11.params.toList args.toList ds p := hA0
  rw [Tryd.params11] at hA hval
  obtain ⟨v0, vs0, d0, ds0, p0, q0, hargs, rfl, rfl, h0, r0⟩ := trodAll_cons hA
  obtain ⟨v1, vs1, d1, ds1, p1, q1, rfl, rfl, rfl, h1, r1⟩ := trodAll_cons r0
  obtain ⟨rfl, rfl, rfl⟩ := trodAll_nil r1
  obtain rfl : args = #[v0, v1] := by cases args; simp_all
  obtain ⟨rfl, rfl⟩ := trodVars_none hV
  obtain ⟨a0, n0, c0, a1, n1, c1, a2, n2, c2, A, F, X, rfl, s0, s1, s2⟩ := open_sig (hval 0 39 v0 rfl rfl) h0
  have k0 := h0
  have lt0 : ∀ x ∈ p0, x.block < W.heap.size := by obtain ⟨m, hm⟩ := k0; exact DataW.trod_lt m _ _ _ hm
  obtain ⟨al, nl, cl, rfl⟩ := okWide_slice Tryd.underlying37 (hval 1 37 v1 rfl rfl)
  have k1 := h1
  have lt1 : ∀ x ∈ p1, x.block < W.heap.size := by obtain ⟨m, hm⟩ := k1; exact DataW.trod_lt m _ _ _ hm
  obtain ⟨al', nl', cl', l, eL, sl, _⟩ : ∃ a n c l, Value.slice al nl cl = .slice a n c ∧ SL0 W a n c l ∧ True := by
    obtain ⟨fuel, hf⟩ := h1
    simp only [Value.cells] at hf
    obtain ⟨a, n, c, l, e, s, _⟩ := open_strl hf
    exact ⟨a, n, c, l, e, s, trivial⟩
  injection eL with e1 e2 e3
  subst e1 e2 e3
  clear hA0
  have hwalk := walk a0 n0 c0 a1 n1 c1 a2 n2 c2 A F X al nl cl l W s0 s1 s2 sl hE
  refine hwalk.mono fun e W' ⟨he, hg⟩ => ?_
  subst he
  exact ⟨_, rfl, _, _, _, [], _, [], hW', trodAll_mk1 (shut_bool Tryd.underlying4 _), (trodAll_cons_mk (Below.trod laidOut (by kernel_rfl) (of_decide_eq_true (by kernel_rfl)) k0 hg lt0) (trodAll_cons_mk (Below.trod laidOut (by kernel_rfl) (of_decide_eq_true (by kernel_rfl)) k1 hg lt1) trodAll_mk0)), rfl, hg.frame _, fun h => by cases h⟩
theorem reads (os : Os) {H : Type} (enc : TypeId × Value → H) : ∃ places, DataW.whole enc Tryd.prog ((laidW os).forCall (fun _ _ => 0) ⟨#[], #[.agg #[.slice none 0 0, .slice none 0 0, .slice none 0 0], .slice none 0 0], []⟩).memory Tryd.f11.params.toList Rows.signatureOrderSpec.vars false #[(.agg #[.slice none 0 0, .slice none 0 0, .slice none 0 0] : Value), (.slice none 0 0 : Value)].toList 8 = some ([.agg [.nil, .nil, .nil], .nil], [], places) :=
  ⟨[], by kernel_rfl⟩
set_option maxRecDepth 100000 in
theorem lifted (os : Os) (started : os.Started) (H : Type) (enc : TypeId × Value → H) (F : Stop.Interp) :
    ReturnsInHanded {} Tryd.checked os 11 .any ((OpenSpec.ofChange Rows.signatureOrderSpec).preRow enc Tryd.prog Tryd.f11 Rows.signatureOrderRow.domain false Rows.signatureOrderRow.laid) (((OpenSpec.ofChange Rows.signatureOrderSpec).at F).post enc Tryd.prog Tryd.f11 false true false false) := by
  obtain ⟨places, hx⟩ := reads os enc
  refine returnsInHanded_of_row (C := Tryd.checked) (s := OpenSpec.ofChange Rows.signatureOrderSpec) own started (by kernel_rfl) Tryd.func11
    (witness_row_atRef (enc := enc) (C := Tryd.checked) false (laidW os) #[.agg #[.slice none 0 0, .slice none 0 0, .slice none 0 0], .slice none 0 0] (laidW_os os) (vars_ok os _) (heap_ok os _) (by kernel_rfl)
      (OpenSpec.preRow_of_cond 8 hx (by kernel_rfl) (fun k hk => by cases hk) (by kernel_rfl) (laid_met os _))) ?_
  intro W base args ds gs before hval hW _ _ _ hL hsh _
  exact contract H enc W base args ds gs before hval hW (env_of hL hsh)
theorem said : Rows.SignatureOrderSaid :=
  OpenClaim.holds_of_cond 11 Tryd.f11 rfl rfl rfl rfl rfl rfl rfl ⟨rfl, rfl, rfl, rfl, rfl⟩ rfl rfl rfl rfl rfl (by kernel_rfl) Tryd.func11 (by kernel_rfl)
    (of_decide_eq_true (by kernel_rfl)) (by unfold Func.isWrapper; first | (rw [if_pos (by decide +kernel)]; kernel_rfl) | (rw [if_neg (by decide +kernel)]; exact ⟨rfl, rfl⟩))
    (fun os started H enc _ F => by rw [OpenClaim.pre_eq_preRow]; exact lifted os started H enc F)
theorem plain (f : FuncId) (fn : Func) (hf : Tryd.pinned.checked.prog.funcNamed "witting/wittinglaw04.SignatureOrder" = some f) (hfn : Tryd.pinned.checked.prog.funcs[f]? = some fn) :
    false = Tryd.pinned.checked.prog.looks [] ∧ ∀ (j : Nat) t, fn.params[j]? = some t → Tryd.pinned.checked.prog.wantsStandIn t = false := by
  obtain rfl : f = 11 := Option.some.inj ((show Tryd.prog.funcNamed "witting/wittinglaw04.SignatureOrder" = some 11 by kernel_rfl).symm.trans hf) |>.symm
  obtain rfl : fn = Tryd.f11 := (Option.some.inj (Tryd.func11.symm.trans hfn)).symm
  refine ⟨no_looks, fun j t ht => ?_⟩
  rw [Tryd.params11] at ht
  have hm : t ∈ [39, 37] := by simpa using Array.mem_of_getElem? ht
  have hall : ([39, 37].all fun u => !Tryd.prog.wantsStandIn u) = true := by kernel_rfl
  exact (show Tryd.prog.wantsStandIn t = false by simpa using List.all_eq_true.1 hall t hm)
theorem card : Rows.SignatureOrderCardSaid :=
  Claim7.holds_tied_plain_at .later [] _ _ _ _ said (fun _ h => by cases h) (by kernel_rfl) (fun _ h => by cases h) signatureOrder_row_tie rfl ⟨rfl, rfl⟩ (by kernel_rfl) rfl plain (by kernel_rfl)
#print axioms card
end Go.Proofs.YtichhbnpdhfimaaDoor.signatureOrder
