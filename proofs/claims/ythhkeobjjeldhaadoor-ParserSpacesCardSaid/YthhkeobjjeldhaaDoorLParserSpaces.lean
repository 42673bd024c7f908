/- ParserSpaces (P6.4): spaces between the tokens and parentheses around the whole text do not change the formula, and an error stays the same error. Conditions: the package variables that the row lists hold what the program's text lays in them. -/
import Derived.Test.YthhkeobjjeldhaaDoorJl
import Derived.Test.YthhkeobjjeldhaaDoorJo
import Derived.Deep.RegionHeld3
namespace Go.Proofs.YthhkeobjjeldhaaDoor.parserSpaces
open Go.ChangeShapes Go.WideShapes Go.ChangeAt Go.RowKit Go.Proofs.YthhkeobjjeldhaaDoor Go.Proofs.YthhkeobjjeldhaaDoor.par Go.Proofs.Ws Go.Maps
open Go.ChangeMaps (open_string shut_string)
set_option maxRecDepth 100000 in
set_option maxHeartbeats 8000000 in
theorem walk (a0 : Option Addr) (n0 c0 : Nat) (a1 : Option Addr) (n1 c1 : Nat) (a2 : Option Addr) (n2 c2 : Nat) (A F X : List ByteArray) (t : ByteArray) (g : Nat) (w : World) (s0 : SL0 w a0 n0 c0 A) (s1 : SL0 w a1 n1 c1 F) (s2 : SL0 w a2 n2 c2 X) (ht : t.size ≤ maxLen) (hg : g < 256) (hE : EnvS w) :
    Calls Tryd.prog 5 #[.agg #[.slice a0 n0 c0, .slice a1 n1 c1, .slice a2 n2 c2], .string t, .int .u8 g] w fun e w' => e = .returned (.bool true) ∧ Below w.heap.size w w' := by
  have HX := Lib.hid (@boxed w a0 a1 a2 n0 c0 n1 c1 n2 c2 31)
  have HG : Hid (∀ W, Below (w.heap.size + 1) (w.alloc (.cells #[.slice a0 n0 c0, .slice a1 n1 c1, .slice a2 n2 c2] 31)) W → EnvS W ∧ (SLw W W.heap.size a0 n0 c0 A ∧ SLw W W.heap.size a1 n1 c1 F ∧ SLw W W.heap.size a2 n2 c2 X) ∧ Below w.heap.size w W ∧ w.heap.size + 1 ≤ W.heap.size ∧ (fewB A F X t = true → SigR W W.heap.size (.agg #[.slice a0 n0 c0, .slice a1 n1 c1, .slice a2 n2 c2]) A F X)) := Lib.hid (fun W hW => by
    have h1 : Below w.heap.size w W := ((Below.refl _ w).alloc (Nat.le_refl _) _).trans (hW.mono (by omega))
    have m : ∀ {a : Option Addr} {n c : Nat} {l : List ByteArray}, SL0 w a n c l → SLw W W.heap.size a n c l := fun h => ⟨(h.1.below h1).more h1.size, h.2.2.2.1, h.2.2.1⟩
    have q : ∀ {a : Option Addr} {n c : Nat} {l : List ByteArray}, SL0 w a n c l → n ≤ 20 → SL W W.heap.size a n c l := fun h hn => ((h.small hn).below h1).more h1.size
    refine ⟨hE.below h1, ⟨m s0, m s1, m s2⟩, h1, by have := hW.size; simpa using this, fun hf => ?_⟩
    unfold fewB at hf
    simp only [Bool.and_eq_true, decide_eq_true_eq] at hf
    have l0 := s0.1.str_len
    have l1 := s1.1.str_len
    have l2 := s2.1.str_len
    exact ⟨_, _, _, _, _, _, _, _, _, rfl, q s0 (by omega), q s1 (by omega), q s2 (by omega)⟩)
  have HLN : Hid (A.length = n0 ∧ F.length = n1) := Lib.hid ⟨s0.1.str_len, s1.1.str_len⟩
  have HFW := Lib.hid (fun W (hW : Below (w.heap.size + 1) (w.alloc (.cells #[.slice a0 n0 c0, .slice a1 n1 c1, .slice a2 n2 c2] 31)) W) => kFew_any a0 n0 c0 a1 n1 c1 a2 n2 c2 A F X t W (HG.out W hW).2.1.1 (HG.out W hW).2.1.2.1 (HG.out W hW).2.1.2.2 ht)
  have HTM : Hid (t.size ≤ maxLen) := Lib.hid ht
  have HB0 := Lib.hid (Below.refl (w.heap.size + 1) (w.alloc (.cells #[.slice a0 n0 c0, .slice a1 n1 c1, .slice a2 n2 c2] 31)))
  clear hE s0 s1 s2 ht
  by_cases hfew : fewB A F X t = true
  · have HFT := Lib.hid hfew
    rw [hfew] at HFW
    clear hfew
    go_enter Tryd.func5, Tryd.ntmps5
    go_wp2_with fail
    refine (HFW.out _ HB0.out).mono ?_
    rintro e w1 ⟨rfl, hb⟩
    have HB : Hid (Below (w.heap.size + 1) (w.alloc (.cells #[.slice a0 n0 c0, .slice a1 n1 c1, .slice a2 n2 c2] 31)) w1) := Lib.hid (HB0.out.trans (hb.mono (HG.out _ HB0.out).2.2.2.1))
    obtain ⟨q0, q1, q2⟩ := HX.out w1 HB.out
    clear hb HFW HB0
    have hts : t.size ≤ 300 := by
      have := HFT.out
      unfold fewB at this
      simp only [Bool.and_eq_true, decide_eq_true_eq] at this
      omega
    have HPA : Hid (∀ (S : ByteArray) W, S.size ≤ maxLen → Below (w.heap.size + 1) (w.alloc (.cells #[.slice a0 n0 c0, .slice a1 n1 c1, .slice a2 n2 c2] 31)) W → Calls Tryd.prog 15 #[.agg #[.slice a0 n0 c0, .slice a1 n1 c1, .slice a2 n2 c2], .string S] W fun e w' => ∃ A' c', e = .returned (.tuple #[.slice A' (parseV A F X S).nodes.length c', .int .i64 ((parseV A F X S).pos : Int), .int .i64 (parseV A F X S).err]) ∧ Reads w' w'.heap.size 6 A' (parseV A F X S).nodes.length (nds (parseV A F X S).nodes) ∧ Below W.heap.size W w') := Lib.hid (fun S W hS hW =>
      (kParse_own a0 n0 c0 a1 n1 c1 a2 n2 c2 A F X S W ((HG.out _ hW).2.2.2.2 HFT.out) (HG.out _ hW).1 hS).mono (by rintro e w' ⟨A', c', rfl, h1, h2⟩; exact ⟨A', c', rfl, Reads.of_own h1, h2⟩))
    have HPT := Lib.hid (HPA.out t w1 HTM.out HB.out)
    have HTK := Lib.hid (fun W => kTokens_any t W HTM.out)
    by_cases hg0 : (tokV t).err = 0
    · obtain ⟨hn1, hn2⟩ := words_small hg0
      have HSP := Lib.hid (spread_parse A F X hg0 hts g)
      have HPP := Lib.hid (fun h => paren_parse (A := A) (F := F) (X := X) (t := t) hts h)
      have hps : (⟨#[40]⟩ ++ t ++ ⟨#[41]⟩ : ByteArray).size ≤ 302 := by
        have e1 : (⟨#[40]⟩ : ByteArray).size = 1 := rfl
        have e2 : (⟨#[41]⟩ : ByteArray).size = 1 := rfl
        rw [ByteArray.size_append, ByteArray.size_append]; omega
      have hss : (spreadV g (tokV t).words (tokV t).words.length).size ≤ 1000 := by
        have h1 := spread_size g (tokV t).words (tokV t).words.length (Nat.le_refl _)
        have h2 := tot_take (tokV t).words (tokV t).words.length
        omega
      have HP2 := Lib.hid (fun W hW => HPA.out (spreadV g (tokV t).words (tokV t).words.length) W (by unfold maxLen; omega) hW)
      have HP3 := Lib.hid (fun W hW => HPA.out (⟨#[40]⟩ ++ t ++ ⟨#[41]⟩) W (by unfold maxLen; omega) hW)
      have HSW := Lib.hid (fun (AW : Option Addr) (cW B : Nat) W (h : Reads W B 1 AW (tokV t).words.length (ss (tokV t).words)) => kSpread_any (tokV t).words g hg AW (tokV t).words.length cW B W h (by omega) (by omega))
      have d1 : decide ((300 : Int) < ((tokV t).words.length : Int)) = false := decide_eq_false (by omega)
      have d2 : decide (300 < (tokV t).words.length) = false := decide_eq_false (by omega)
      rw [hg0] at HTK
      rw [HSP.out.1, HSP.out.2] at HP2
      generalize hT2 : (⟨#[40]⟩ ++ t ++ ⟨#[41]⟩ : ByteArray) = T2 at *
      generalize spreadV g (tokV t).words (tokV t).words.length = S2 at *
      generalize (tokV t).words = ws at *
      generalize (tokV t).pos = tp at *
      generalize (tokV t).ats = ta at *
      generalize (parseV A F X S2).pos = po2 at *
      generalize hP3 : parseV A F X T2 = P3 at *
      generalize hP : parseV A F X t = P at *
      clear HSP hg0 hn1 hn2 HPA hss hps
      have hll : P.nodes.length ≤ maxLen ∧ P3.nodes.length ≤ maxLen := by
        have h1 := parseV_len A F X t
        have h2 := parseV_len A F X T2
        rw [hP] at h1
        rw [hP3] at h2
        unfold maxLen; omega
      clear hP hP3
      obtain ⟨l, po, er⟩ := P
      obtain ⟨l3, po3, er3⟩ := P3
      dsimp only at HPT HP2 HP3 HPP hll
      generalize hL : l.length = L at *
      generalize hL3 : l3.length = L3 at *
      go_wp2_with fail
      refine (HPT.out).mono ?_
      rintro e w2 ⟨A1, d1', rfl, hR, hb⟩
      have HR0 := Lib.hid hR
      have HB2 : Hid (Below (w.heap.size + 1) (w.alloc (.cells #[.slice a0 n0 c0, .slice a1 n1 c1, .slice a2 n2 c2] 31)) w2) := Lib.hid (HB.out.trans (hb.mono (HG.out _ HB.out).2.2.2.1))
      clear hb hR HPT q0 q1 q2 HB
      go_wp2_with fail
      refine (HTK.out w2).mono ?_
      rintro e w3 ⟨AW, cW, AT, cT, rfl, hRW, _, hb⟩
      have HRW := Lib.hid hRW
      have HR1 := Lib.hid ((HR0.out.below hb).more hb.size)
      have HB3 : Hid (Below (w.heap.size + 1) (w.alloc (.cells #[.slice a0 n0 c0, .slice a1 n1 c1, .slice a2 n2 c2] 31)) w3) := Lib.hid (HB2.out.trans (hb.mono (HG.out _ HB2.out).2.2.2.1))
      have HXW := Lib.hid (fun W (hW : Below w3.heap.size w3 W) => HB3.out.trans (hW.mono (HG.out _ HB3.out).2.2.2.1))
      clear hb hRW HTK HR0 HB2
      have HS : Hid (∀ W, Below w3.heap.size w3 W → (W.cell? ⟨w.heap.size, 0, none⟩ = some (.slice a0 n0 c0) ∧ W.cell? ⟨w.heap.size, 1, none⟩ = some (.slice a1 n1 c1) ∧ W.cell? ⟨w.heap.size, 2, none⟩ = some (.slice a2 n2 c2) ∧ Hid (Below w3.heap.size w3 W))) := Lib.hid (fun W hW => ⟨(HX.out W (HXW.out W hW)).1, (HX.out W (HXW.out W hW)).2.1, (HX.out W (HXW.out W hW)).2.2, Lib.hid hW⟩)
      have K1 : Hid (∀ W, Hid (Below w3.heap.size w3 W) → Calls Tryd.prog 20 #[.slice AW ws.length cW, .int .u8 g] W fun e W' => e = .returned (.string S2) ∧ W = W') := Lib.hid (fun W hW => HSW.out AW cW w3.heap.size W (HRW.out.below hW.out))
      have K2 : Hid (∀ W, Hid (Below w3.heap.size w3 W) → Calls Tryd.prog 15 #[.agg #[.slice a0 n0 c0, .slice a1 n1 c1, .slice a2 n2 c2], .string S2] W fun e W' => ∃ A' c', e = .returned (.tuple #[.slice A' L c', .int .i64 (po2 : Int), .int .i64 er]) ∧ Hid (Reads W' W'.heap.size 6 A' L (nds l)) ∧ (W'.cell? ⟨w.heap.size, 0, none⟩ = some (.slice a0 n0 c0) ∧ W'.cell? ⟨w.heap.size, 1, none⟩ = some (.slice a1 n1 c1) ∧ W'.cell? ⟨w.heap.size, 2, none⟩ = some (.slice a2 n2 c2) ∧ Hid (Below w3.heap.size w3 W'))) := Lib.hid (fun W hW => (HP2.out W (HXW.out W hW.out)).mono (by rintro e w' ⟨A', c', rfl, h1, h2⟩; exact ⟨A', c', rfl, Lib.hid h1, HS.out _ (hW.out.trans (h2.mono hW.out.size))⟩))
      have hc0 := HS.out w3 (Below.refl _ _)
      obtain ⟨c0', c1', c2', c3'⟩ := hc0
      have c4' : Hid (Below w3.heap.size w3 w3.drew) := Lib.hid (Below.refl _ w3).drew
      have HLL := Lib.hid hll
      clear HSW HP2 HFT hll
      go_wp2_with fail
      go_region_held3 (fun W => (W.cell? ⟨w.heap.size, 0, none⟩ = some (.slice a0 n0 c0) ∧ W.cell? ⟨w.heap.size, 1, none⟩ = some (.slice a1 n1 c1) ∧ W.cell? ⟨w.heap.size, 2, none⟩ = some (.slice a2 n2 c2) ∧ Hid (Below w3.heap.size w3 W))) (first | assumption | (refine ⟨?_, ?_, ?_, ?_⟩ <;> assumption) | go_keep)
        (first
          | (go_at_call 20; refine (K1.out _ ?_).mono ?_; (first | assumption | simp [*]); rintro e W' ⟨rfl, rfl⟩)
          | (go_at_call 15; refine (K2.out _ ?_).mono ?_; (first | assumption | simp [*]); rintro e Wp ⟨Ap, cp, rfl, hrp, g0, g1, g2, g3⟩))
      clear K1 K2
      go_wp2_with fail
      refine (HP3.out Wp (HXW.out _ g3.out)).mono ?_
      rintro e w5 ⟨A3, c3, rfl, hR3, hb⟩
      have HC5 := Lib.hid (g3.out.trans (hb.mono g3.out.size))
      have HRA := Lib.hid ((HR1.out.below HC5.out).more HC5.out.size)
      have HRB := Lib.hid ((hrp.out.below hb).more hb.size)
      have HRC := Lib.hid hR3
      clear hb hR3 HP3 hT2
      have hqq : (er != er) = false := by simp
      have HQ1 : Hid (∀ W, Below w5.heap.size w5 W → Calls Tryd.prog 18 #[.slice A1 L d1', .slice Ap L cp] W fun e w' => e = .returned (.bool true) ∧ Below W.heap.size W w') := Lib.hid (fun W hW => by
        have := rSameNodes_any l l A1 Ap L L d1' cp W ((HRA.out.below hW).more hW.size) ((HRB.out.below hW).more hW.size) HLL.out.1 HLL.out.1
        rw [decide_eq_true rfl] at this
        exact this)
      by_cases her : er = 0
      · obtain ⟨e1, e2⟩ := HPP.out her
        subst her
        subst e1
        have e3 : L3 = L := by rw [← hL3, ← hL, e2]
        subst e3
        subst e2
        have HQ2 : Hid (∀ W, Below w5.heap.size w5 W → Calls Tryd.prog 18 #[.slice A1 L3 d1', .slice A3 L3 c3] W fun e w' => e = .returned (.bool true) ∧ Below W.heap.size W w') := Lib.hid (fun W hW => by
          have := rSameNodes_any l3 l3 A1 A3 L3 L3 d1' c3 W ((HRA.out.below hW).more hW.size) ((HRC.out.below hW).more hW.size) HLL.out.1 HLL.out.1
          rw [decide_eq_true rfl] at this
          exact this)
        clear hL hL3 HPP HRA HRB HRC hrp HR1
        go_wp2_with fail
        refine (HQ1.out _ (Below.refl _ _)).mono ?_
        rintro e w6 ⟨rfl, hb⟩
        have HC6 := Lib.hid hb
        clear hb
        go_wp2_with fail
        refine (HQ2.out _ HC6.out).mono ?_
        rintro e w7 ⟨rfl, hb⟩
        have HC7 := Lib.hid (HC6.out.trans (hb.mono HC6.out.size))
        clear hb
        go_wp2_with fail
        refine (awake_any _ (HG.out _ (HXW.out _ (HC5.out.trans (HC7.out.mono HC5.out.size)))).1).mono ?_
        rintro e w8 ⟨rfl, hb⟩
        have HC8 := Lib.hid (HC7.out.trans (hb.mono HC7.out.size))
        clear hb
        go_wp2
        go_ret
        exact ⟨rfl, (HG.out _ (HXW.out _ (HC5.out.trans (HC8.out.mono HC5.out.size)))).2.2.1⟩
      · have hne : (er != 0) = true := by rw [bne_iff_ne]; exact her
        clear hL hL3 HPP HRA HRB HRC hrp HR1 her
        go_wp2_with fail
        refine (HQ1.out _ (Below.refl _ _)).mono ?_
        rintro e w6 ⟨rfl, hb⟩
        have HC6 := Lib.hid hb
        clear hb
        go_wp2_with fail
        refine (awake_any _ (HG.out _ (HXW.out _ (HC5.out.trans (HC6.out.mono HC5.out.size)))).1).mono ?_
        rintro e w8 ⟨rfl, hb⟩
        have HC8 := Lib.hid (HC6.out.trans (hb.mono HC6.out.size))
        clear hb
        go_wp2
        go_ret
        exact ⟨rfl, (HG.out _ (HXW.out _ (HC5.out.trans (HC8.out.mono HC5.out.size)))).2.2.1⟩
    · have hpe : (parseV A F X t).err ≠ 0 := fun h => hg0 (parseV_ok h).2.1
      have hne1 : ((tokV t).err != 0) = true := by rw [bne_iff_ne]; exact hg0
      have hne2 : ((parseV A F X t).err != 0) = true := by rw [bne_iff_ne]; exact hpe
      clear HPA hg0 hpe
      generalize (tokV t).err = te at *
      generalize parseV A F X t = P at *
      obtain ⟨l, po, er⟩ := P
      dsimp only at HPT hne2
      go_wp2_with fail
      refine (HPT.out).mono ?_
      rintro e w2 ⟨A1, d1', rfl, hR, hb⟩
      have HB2 : Hid (Below (w.heap.size + 1) (w.alloc (.cells #[.slice a0 n0 c0, .slice a1 n1 c1, .slice a2 n2 c2] 31)) w2) := Lib.hid (HB.out.trans (hb.mono (HG.out _ HB.out).2.2.2.1))
      clear hb hR HPT q0 q1 q2 HB
      go_wp2_with fail
      refine (HTK.out w2).mono ?_
      rintro e w3 ⟨AW, cW, AT, cT, rfl, _, _, hb⟩
      have HB3 : Hid (Below (w.heap.size + 1) (w.alloc (.cells #[.slice a0 n0 c0, .slice a1 n1 c1, .slice a2 n2 c2] 31)) w3) := Lib.hid (HB2.out.trans (hb.mono (HG.out _ HB2.out).2.2.2.1))
      clear hb HTK HB2
      go_wp2_with fail
      refine (awake_any _ (HG.out _ HB3.out).1).mono ?_
      rintro e w4 ⟨rfl, hb⟩
      have HB4 : Hid (Below (w.heap.size + 1) (w.alloc (.cells #[.slice a0 n0 c0, .slice a1 n1 c1, .slice a2 n2 c2] 31)) w4) := Lib.hid (HB3.out.trans (hb.mono (HG.out _ HB3.out).2.2.2.1))
      clear hb
      go_wp2
      go_ret
      exact ⟨rfl, (HG.out _ HB4.out).2.2.1⟩
  · have HFT : Hid (fewB A F X t = false) := Lib.hid (by simpa using hfew)
    rw [HFT.out] at HFW
    clear hfew
    go_enter Tryd.func5, Tryd.ntmps5
    go_wp2_with fail
    refine (HFW.out _ HB0.out).mono ?_
    rintro e w1 ⟨rfl, hb⟩
    have HB : Hid (Below (w.heap.size + 1) (w.alloc (.cells #[.slice a0 n0 c0, .slice a1 n1 c1, .slice a2 n2 c2] 31)) w1) := Lib.hid (HB0.out.trans (hb.mono (HG.out _ HB0.out).2.2.2.1))
    clear hb HFW HB0
    go_wp2_with fail
    refine (awake_any _ (HG.out _ HB.out).1).mono ?_
    rintro e w2 ⟨rfl, hb⟩
    have HB2 : Hid (Below (w.heap.size + 1) (w.alloc (.cells #[.slice a0 n0 c0, .slice a1 n1 c1, .slice a2 n2 c2] 31)) w2) := Lib.hid (HB.out.trans (hb.mono (HG.out _ HB.out).2.2.2.1))
    clear hb
    go_wp2
    go_ret
    exact ⟨rfl, (HG.out _ HB2.out).2.2.1⟩
set_option maxRecDepth 100000 in
theorem contract (H : Type) (enc : TypeId × Value → H) (W : World) (base : Nat) (args : Array Value) (ds gs : List (DataW H)) (before : List MemPlace)
    (hval : ∀ (j : Nat) t v, Tryd.f5.params[j]? = some t → args[j]? = some v → Value.okWide Tryd.prog W .any base t v)
    (hW : DataW.Whole enc Tryd.prog Tryd.f5.params.toList Rows.parserSpacesSpec.vars false W args.toList ds gs before) (hE : EnvS W) :
    Calls Tryd.prog 5 args W fun e W' => ∃ v, e = .returned v ∧ Rows.parserSpacesSpec.post enc Tryd.prog Tryd.f5 false true false false W args v W' := by
  have hW' := hW
  obtain ⟨p, q, hA0, hV, rfl, hfz, hnd⟩ := hW
  have hA : DataW.TrodAll enc Tryd.prog W 0 (fun _ => true) true Tryd.f5.params.toList args.toList ds p := hA0
  rw [Tryd.params5] at hA hval
  obtain ⟨v0, vs0, d0, ds0, p0, q0, hargs, rfl, rfl, h0, r0⟩ := trodAll_cons hA
  obtain ⟨v1, vs1, d1, ds1, p1, q1, rfl, rfl, rfl, h1, r1⟩ := trodAll_cons r0
  obtain ⟨v2, vs2, d2, ds2, p2, q2, rfl, rfl, rfl, h2, r2⟩ := trodAll_cons r1
  obtain ⟨rfl, rfl, rfl⟩ := trodAll_nil r2
  obtain rfl : args = #[v0, v1, v2] := by cases args; simp_all
  obtain ⟨rfl, rfl⟩ := trodVars_none hV
  obtain ⟨a0, n0, c0, a1, n1, c1, a2, n2, c2, A, F, X, rfl, s0, s1, s2⟩ := open_sig (hval 0 31 v0 rfl rfl) h0
  have k0 := h0
  have lt0 : ∀ x ∈ p0, x.block < W.heap.size := by obtain ⟨m, hm⟩ := k0; exact DataW.trod_lt m _ _ _ hm
  obtain ⟨t1, rfl, rfl, rfl, w1⟩ := open_string Tryd.underlying9 (hval 1 9 v1 rfl rfl) h1
  obtain ⟨g2, rfl, rfl, rfl, w2⟩ := open_int Tryd.underlying5 (hval 2 5 v2 rfl rfl) h2
  obtain ⟨g2, rfl, hu2⟩ : ∃ n : Nat, g2 = (n : Int) ∧ n < 256 := by have hz := w2; have q1 : IntKind.u8.min = 0 := rfl; have q2 : IntKind.u8.max = 255 := rfl; simp [Lit.wf] at hz; exact ⟨g2.toNat, by omega, by omega⟩
  clear hA0
  simp only [List.append_nil] at hW'
  have hwalk := walk a0 n0 c0 a1 n1 c1 a2 n2 c2 A F X t1 g2 W s0 s1 s2 w1 hu2 hE
  refine hwalk.mono fun e W' ⟨he, hg⟩ => ?_
  subst he
  exact ⟨_, rfl, _, _, _, [], _, [], hW', trodAll_mk1 (shut_bool Tryd.underlying4 _), (trodAll_cons_mk (Below.trod laidOut (by kernel_rfl) (of_decide_eq_true (by kernel_rfl)) k0 hg lt0) (trodAll_cons_mk (shut_string Tryd.underlying9 w1) (trodAll_cons_mk (shut_int Tryd.underlying5 w2) trodAll_mk0))), rfl, hg.frame _, fun h => by cases h⟩
theorem reads (os : Os) {H : Type} (enc : TypeId × Value → H) : ∃ places, DataW.whole enc Tryd.prog ((laidW os).forCall (fun _ _ => 0) ⟨#[], #[.agg #[.slice none 0 0, .slice none 0 0, .slice none 0 0], .string ⟨#[]⟩, .int .u8 0], []⟩).memory Tryd.f5.params.toList Rows.parserSpacesSpec.vars false #[(.agg #[.slice none 0 0, .slice none 0 0, .slice none 0 0] : Value), (.string ⟨#[]⟩ : Value), (.int .u8 0 : Value)].toList 8 = some ([.agg [.nil, .nil, .nil], .lit (.string []), .lit (.int .u8 0)], [], places) :=
  ⟨[], by kernel_rfl⟩
set_option maxRecDepth 100000 in
theorem lifted (os : Os) (started : os.Started) (H : Type) (enc : TypeId × Value → H) (F : Stop.Interp) :
    ReturnsInHanded {} Tryd.checked os 5 .any ((OpenSpec.ofChange Rows.parserSpacesSpec).preRow enc Tryd.prog Tryd.f5 Rows.parserSpacesRow.domain false Rows.parserSpacesRow.laid) (((OpenSpec.ofChange Rows.parserSpacesSpec).at F).post enc Tryd.prog Tryd.f5 false true false false) := by
  obtain ⟨places, hx⟩ := reads os enc
  refine returnsInHanded_of_row (C := Tryd.checked) (s := OpenSpec.ofChange Rows.parserSpacesSpec) own started (by kernel_rfl) Tryd.func5
    (witness_row_atRef (enc := enc) (C := Tryd.checked) false (laidW os) #[.agg #[.slice none 0 0, .slice none 0 0, .slice none 0 0], .string ⟨#[]⟩, .int .u8 0] (laidW_os os) (vars_ok os _) (heap_ok os _) (by kernel_rfl)
      (OpenSpec.preRow_of_cond 8 hx (by kernel_rfl) (fun k hk => by cases hk) (by kernel_rfl) (laid_met os _))) ?_
  intro W base args ds gs before hval hW _ _ _ hL hsh _
  exact contract H enc W base args ds gs before hval hW (env_of hL hsh)
theorem said : Rows.ParserSpacesSaid :=
  OpenClaim.holds_of_cond 5 Tryd.f5 rfl rfl rfl rfl rfl rfl rfl ⟨rfl, rfl, rfl, rfl, rfl⟩ rfl rfl rfl rfl rfl (by kernel_rfl) Tryd.func5 (by kernel_rfl)
    (of_decide_eq_true (by kernel_rfl)) (by unfold Func.isWrapper; first | (rw [if_pos (by decide +kernel)]; kernel_rfl) | (rw [if_neg (by decide +kernel)]; exact ⟨rfl, rfl⟩))
    (fun os started H enc _ F => by rw [OpenClaim.pre_eq_preRow]; exact lifted os started H enc F)
theorem plain (f : FuncId) (fn : Func) (hf : Tryd.pinned.checked.prog.funcNamed "witting/wittinglaw06.ParserSpaces" = some f) (hfn : Tryd.pinned.checked.prog.funcs[f]? = some fn) :
    false = Tryd.pinned.checked.prog.looks [] ∧ ∀ (j : Nat) t, fn.params[j]? = some t → Tryd.pinned.checked.prog.wantsStandIn t = false := by
  obtain rfl : f = 5 := Option.some.inj ((show Tryd.prog.funcNamed "witting/wittinglaw06.ParserSpaces" = some 5 by kernel_rfl).symm.trans hf) |>.symm
  obtain rfl : fn = Tryd.f5 := (Option.some.inj (Tryd.func5.symm.trans hfn)).symm
  refine ⟨no_looks, fun j t ht => ?_⟩
  rw [Tryd.params5] at ht
  have hm : t ∈ [31, 9, 5] := by simpa using Array.mem_of_getElem? ht
  have hall : ([31, 9, 5].all fun u => !Tryd.prog.wantsStandIn u) = true := by kernel_rfl
  exact (show Tryd.prog.wantsStandIn t = false by simpa using List.all_eq_true.1 hall t hm)
theorem card : Rows.ParserSpacesCardSaid :=
  Claim7.holds_tied_plain_at .later [] _ _ _ _ said (fun _ h => by cases h) (by kernel_rfl) (fun _ h => by cases h) parserSpaces_row_tie rfl ⟨rfl, rfl⟩ (by kernel_rfl) rfl plain (by kernel_rfl)
#print axioms card
end Go.Proofs.YthhkeobjjeldhaaDoor.parserSpaces
