/- Layer 10: the search for a refutation, by the program. -/
import Derived.Test.YtopkmcoblndokaaDoorNTm
namespace Go.Proofs.YtopkmcoblndokaaDoor.rsl
open Go.RowKit Go.Proofs.Ws.rsl Go.Maps
set_option maxRecDepth 100000
/-- what is known of the values of the region that resolves two lines -/
def vRf (base : Nat) (L : List Int) (i : Nat) (v : Value) (W : World) : Prop :=
  if i = 17 ∨ i = 18 then ∃ A9 c9, v = .tuple #[.slice A9 L.length c9, .int .i64 0] ∧ OwJ W base A9 L ∧ L.length ≤ c9
  else if i = 19 ∨ i = 21 then ∃ A9 c9, v = .slice A9 L.length c9 ∧ OwJ W base A9 L ∧ L.length ≤ c9 else True
theorem vRf_up {base : Nat} {L : List Int} : ∀ i v W W', vRf base L i v W → Below W.heap.size W W' → vRf base L i v W' := fun i v W W' h hb => by
  unfold vRf at h ⊢
  split
  · rename_i k
    rw [if_pos k] at h
    obtain ⟨A9, c9, e, h1, h2⟩ := h
    exact ⟨A9, c9, e, h1.below hb, h2⟩
  · rename_i k
    rw [if_neg k] at h
    split
    · rename_i k2
      rw [if_pos k2] at h
      obtain ⟨A9, c9, e, h1, h2⟩ := h
      exact ⟨A9, c9, e, h1.below hb, h2⟩
    · trivial
/-- the lines of a search, as they are read -/
theorem Srch.line {w0 W : World} {C : Value} {g b : Nat} {s : List Ln} (h : Srch w0 C g b s W) {a : Nat} (ha : a < s.length) :
    ∃ A c b1 o1 Aj cj, SBx W g C (.slice A s.length c) (.map (some b)) ∧ A = some ⟨b1, o1, none⟩ ∧ b1 < W.heap.size ∧ W.cell? ⟨b1, o1 + a * 4, none⟩ = some (.slice Aj (s.getD a ln0).cl.length cj) ∧ LnR W W.heap.size (s.getD a ln0) Aj cj := by
  obtain ⟨LV, D, h1, h2, h3, h4⟩ := h.ex
  obtain ⟨A, c, rfl⟩ := h4.slice
  obtain ⟨b1, o1, Aj, cj, e, hb, c0, _, _, _, hl⟩ := (h4.lns h.ok).at_ ha
  exact ⟨A, c, b1, o1, Aj, cj, h1, e, hb, c0, hl⟩
theorem Srch.c0 {w0 W : World} {C : Value} {g b : Nat} {s : List Ln} (h : Srch w0 C g b s W) : W.cell? ⟨g, 0, none⟩ = some C := by
  obtain ⟨LV, D, h1, _⟩ := h.ex
  exact h1.c0
set_option maxHeartbeats 32000000 in
theorem xRefute_rec (w0 : World) (l : List (List Int)) (A0 : Option Addr) (k0 c0 g b n : Nat) (hn : n ≤ 12) (hl : ∀ c ∈ l, ClOk n c) (hR0 : ZsR w0 w0.heap.size A0 k0 l) (hk0 : k0 ≤ 64) :
    ∀ K, K ≤ n → ∀ (t : List Int) (V : Nat) (s : List Ln) (w : World), t.length = 12 → TVal t V K n → Lines n l s → NoEmp s → s.length + 2 ^ (K + 1) ≤ 20001 → Srch w0 (.slice A0 k0 c0) g b s w →
    Calls Tryd.prog 29 #[.pointer (some ⟨g, 0, none⟩), .agg (ints t).toArray, .int .i64 (K : Int)] w fun e w' => e = .returned (.int .i64 (optI (refS n l K V s).1)) ∧ Srch w0 (.slice A0 k0 c0) g b (refS n l K V s).2 w' ∧ KeepT w w' := by
  have HSM := Lib.hid (small_of hn hl)
  have HLK := Lib.hid hR0.len
  have HCL := Lib.hid hl
  have HZW := Lib.hid (fun W (hw : Below w0.heap.size w0 W) => hR0.below hw hw.size)
  clear hR0 hl
  intro K
  induction K using Nat.strongRecOn with
  | ind K ih =>
  intro hKn t V s w ht hTV hLi hNe hlen hS
  have HIH := Lib.hid ih
  have HT := Lib.hid ht
  have HTV := Lib.hid hTV
  have HLI := Lib.hid hLi
  have HNE := Lib.hid hNe
  have HLEN := Lib.hid hlen
  have hbe : Below w.heap.size w (w.alloc (.cells (ints t).toArray 65)) := (Below.refl _ w).alloc (Nat.le_refl _) _
  have HS1 := Lib.hid (hS.keep hbe)
  have HTB := Lib.hid (TB.made w t)
  have HK1 : Hid (KeepT w (w.alloc (.cells (ints t).toArray 65))) := Lib.hid (KeepT.of hbe)
  obtain ⟨ci, hci⟩ : ∃ ci, idxP (refB t) l = ci := ⟨_, rfl⟩
  have HIX : Hid (∀ W, Below w0.heap.size w0 W → Calls Tryd.prog 49 #[.slice A0 k0 c0, .func (.func 50) #[.agg (ints t).toArray] #[]] W fun e w' => e = .returned (.int .i64 ci) ∧ Below W.heap.size W w') := Lib.hid (fun W hw => by
    rw [← hci]
    exact xIdxRef_any t l A0 k0 c0 W ht HSM.out (HZW.out W hw) (by omega))
  have HCI := Lib.hid hci
  have HFI : Hid (l.findIdx? (refB t) = l.findIdx? (fun c => decide (falseC V K c))) := Lib.hid (findIdx_congr (fun c hc => hTV.refB (HCL.out c hc)))
  clear ih ht hTV hLi hNe hlen hS hbe hci
  go_enter Tryd.func29, Tryd.ntmps29
  go_wp2
  generalize hP : w.heap.size = P at *
  have HPE := Lib.hid hP
  clear hP
  generalize w.alloc (.cells (ints t).toArray 65) = w1 at *
  have HSW := Lib.hid (fun W (hw : Below w1.heap.size w1 W) => HS1.out.keep hw)
  have HTW := Lib.hid (fun W (hw : Below w1.heap.size w1 W) => HTB.out.below hw HTB.out.lt)
  refine wp_region_mix [.pointer (some ⟨g, 0, none⟩), .pointer (some ⟨g, 0, none⟩), .pointer (some ⟨g, 0, none⟩), .slice A0 k0 c0, .agg (ints t).toArray, .func (.func 50) #[.agg (ints t).toArray] #[], .int .i64 ci, .int .i64 ci] [14, 15, 16, 17, 18, 19, 20, 7] [1, 2, 3, 4, 5, 6] (fun W => Below w1.heap.size w1 W) (fun W W' => Below W.heap.size W W') 8 116 rfl rfl rfl rfl (by decide) (by decide) (by kernel_rfl) (by kernel_rfl) (by kernel_rfl) (fun W => Below.refl _ W) (fun W1 W2 W3 h1 h2 => h1.trans (h2.mono h1.size)) (fun W W' h h2 => h.trans (h2.mono h.size)) (Below.refl _ w1).drew (by kernel_rfl) [] rfl ?hop ?fin
  case hop =>
    refine (And.intro ?s1 (And.intro ?s2 (And.intro ?s3 (And.intro ?s4 (And.intro ?s5 (And.intro ?s6 trivial))))))
    case s1 =>
      refine And.intro (by rfl) (fun tm W hS hsz hfr hdep K hK => ?_)
      change tm.size = 116 at hsz
      have t14 : tm.getD 14 undef = .pointer (some ⟨g, 0, none⟩) := hdep 0 (by rfl) (by decide)
      have u14 := getq t14 (by omega)
      clear hdep hfr
      go_simp
      exact hK W (Below.refl _ W)
    case s2 =>
      refine And.intro (by rfl) (fun tm W hS hsz hfr hdep K hK => ?_)
      change tm.size = 116 at hsz
      have t15 : tm.getD 15 undef = .pointer (some ⟨g, 0, none⟩) := hdep 1 (by rfl) (by decide)
      have u15 := getq t15 (by omega)
      clear hdep hfr
      go_simp
      exact hK W (Below.refl _ W)
    case s3 =>
      refine And.intro (by rfl) (fun tm W hS hsz hfr hdep K hK => ?_)
      change tm.size = 116 at hsz
      have t16 : tm.getD 16 undef = .pointer (some ⟨g, 0, none⟩) := hdep 2 (by rfl) (by decide)
      have u16 := getq t16 (by omega)
      have z0 := (HSW.out W hS).c0
      clear hdep hfr
      go_simp
      exact hK W (Below.refl _ W)
    case s4 =>
      refine And.intro (by rfl) (fun tm W hS hsz hfr hdep K hK => ?_)
      change tm.size = 116 at hsz
      have t4 : tm.getD 4 undef = .pointer (some ⟨P, 0, none⟩) := hfr 4 (by rfl)
      clear hdep hfr
      exact wp_loadT (.tmp 4) rfl P (by simp [Act.eval, t4]) t HT.out (HTW.out W hS) (hK W (Below.refl _ W))
    case s5 =>
      refine And.intro (by rfl) (fun tm W hS hsz hfr hdep K hK => ?_)
      change tm.size = 116 at hsz
      have t18 : tm.getD 18 undef = .agg (ints t).toArray := hdep 4 (by rfl) (by decide)
      have u18 := getq t18 (by omega)
      clear hdep hfr
      go_simp
      exact hK W (Below.refl _ W)
    case s6 =>
      refine And.intro (by rfl) (fun tm W hS hsz hfr hdep K hK => ?_)
      change tm.size = 116 at hsz
      have t17 : tm.getD 17 undef = .slice A0 k0 c0 := hdep 3 (by rfl) (by decide)
      have t19 : tm.getD 19 undef = .func (.func 50) #[.agg (ints t).toArray] #[] := hdep 5 (by rfl) (by decide)
      clear hdep hfr
      refine wp_call _ _ _ _ _ rfl rfl (by simp [Act.eval, t17, t19]) (by kernel_rfl) (HIX.out W (HSW.out W hS).below) (fun e W9 h9 => ?_)
      obtain ⟨rfl, hb9⟩ := h9
      exact ⟨_, rfl, hK W9 hb9⟩
  case fin =>
    intro w2 hS2
    have HS2 := Lib.hid (HSW.out w2 hS2)
    have HTB2 := Lib.hid (HTW.out w2 hS2)
    have HK2 := Lib.hid (HK1.out.trans (KeepT.of hS2))
    clear hS2
    simp only [fillD]
    go_simp
    clear HSW HTW HS1 HTB HK1 HIX
    rcases idx_cases (refB t) l with ⟨h1, h2⟩ | ⟨i, h1, h2, hil, _⟩
    · rw [HCI.out] at h1
      subst h1
      rw [HFI.out] at h2
      have HNO := Lib.hid h2
      clear h2
      by_cases hK0 : K = 0
      · subst hK0
        have HRS := Lib.hid (refS_zero (n := n) (l := l) (V := V) (s := s) HNO.out)
        go_wp2
        go_ret
        exact ⟨ret_i64 (by rw [HRS.out]; rfl), by rw [HRS.out]; exact HS2.out, HK2.out⟩
      · obtain ⟨k, hk⟩ : ∃ k, K = k + 1 := ⟨K - 1, by omega⟩
        have HKK := Lib.hid hk
        have hkz : ((K : Int) == 0) = false := by simp; omega
        have hsub : (K : Int) - 1 = (k : Int) := by omega
        have hK12 : K ≤ 12 := by omega
        have hkn : k ≤ n := by omega
        have HWA := Lib.hid (fun W => xWith_any t (-(K : Int)) W HT.out (by omega) (by omega) (by omega))
        have HWB := Lib.hid (fun W => xWith_any t (K : Int) W HT.out (by omega) (by omega) (by omega))
        have hp2 : 2 ^ (K + 1) = 2 ^ (k + 1) + 2 ^ (k + 1) := by rw [hk, Nat.pow_succ 2 (k + 1)]; omega
        have HP2 := Lib.hid hp2
        have HIA := Lib.hid (fun W hS => HIH.out k (by omega) hkn (tset t (-(K : Int))) (bit0 V k) s W (by rw [tset_len]; exact HT.out) (by have := HTV.out; rw [hk] at this; have := this.step0 HT.out hn (by omega); rw [hk]; exact this) HLI.out HNE.out (by have := HLEN.out; have h8 : 0 < 2 ^ (k + 1) := Nat.two_pow_pos _; omega) hS)
        have HIB := Lib.hid (fun s1 W h1 h2 h3 hS => HIH.out k (by omega) hkn (tset t (K : Int)) (bit1 V k) s1 W (by rw [tset_len]; exact HT.out) (by have := HTV.out; rw [hk] at this; have := this.step1 HT.out hn (by omega); rw [hk]; exact this) h1 h2 h3 hS)
        have HNO2 : Hid (l.findIdx? (fun c => decide (falseC V (k + 1) c)) = none) := Lib.hid (by rw [← hk]; exact HNO.out)
        have HL0 := Lib.hid (refS_len (n := n) (l := l) k (bit0 V k) s)
        have HSZ := Lib.hid (sizeT HT.out)
        have hKpos : 0 < K := by omega
        clear hK0 hk hp2
        obtain ⟨p0, s1, hr0⟩ : ∃ p0 s1, refS n l k (bit0 V k) s = (p0, s1) := ⟨_, _, rfl⟩
        rw [hr0] at HL0
        have HR0 := Lib.hid hr0
        have HIA2 : Hid (∀ W, Srch w0 (.slice A0 k0 c0) g b s W → Calls Tryd.prog 29 #[.pointer (some ⟨g, 0, none⟩), .agg (ints (tset t (-(K : Int)))).toArray, .int .i64 (k : Int)] W fun e w' => e = .returned (.int .i64 (optI p0)) ∧ Srch w0 (.slice A0 k0 c0) g b s1 w' ∧ KeepT W w') := Lib.hid (fun W hS => by have := HIA.out W hS; rwa [hr0] at this)
        clear hr0 HIA
        go_wp2_with (first
          | (refine wpList_load_row rfl 65 (.tmp 4) rfl P rfl _ _ _ _ HTB2.out Tryd.underlying65 rfl HSZ.out ?_; go_frame)
          | fail)
        refine (HWA.out _).mono ?_
        rintro e w3 ⟨rfl, hb3⟩
        have HS3 := Lib.hid (HS2.out.keep hb3)
        have HTB3 := Lib.hid (HTB2.out.below hb3 HTB2.out.lt)
        have HK3 := Lib.hid (HK2.out.trans (KeepT.of hb3))
        clear hb3 HS2 HTB2 HK2 HWA
        go_wp2_with fail
        refine (HIA2.out _ HS3.out).mono ?_
        rintro e w4 ⟨rfl, hs4, hk4⟩
        have HS4 := Lib.hid hs4
        have HTB4 := Lib.hid (hk4 _ _ HTB3.out)
        have HK4 := Lib.hid (HK3.out.trans hk4)
        clear hs4 hk4 HS3 HTB3 HK3 HIA2
        cases p0 with
        | none =>
          have HRS : Hid (refS n l K V s = (none, s1)) := Lib.hid (by rw [HKK.out]; exact refS_l0 HNO2.out HR0.out)
          rw [show optI none = -1 from rfl]
          go_wp2
          go_ret
          exact ⟨ret_i64 (by rw [HRS.out]; rfl), by rw [HRS.out]; exact HS4.out, HK4.out⟩
        | some a =>
          rw [show optI (some a) = (a : Int) from rfl]
          have HFA := Lib.hid (ref_facts HCL.out HLI.out HNE.out HR0.out)
          obtain ⟨AL, cL, b1, o1, Aa, ca, hsb, rfl, hb1, hcell, hlr⟩ := HS4.out.line HFA.out.2.1
          have HCN := Lib.hid (xContains_any (s1.getD a ln0).cl (K : Int) Aa (s1.getD a ln0).cl.length ca w4.heap.size w4 hlr.rd hlr.le)
          have hq0 : decide ((a : Int) < 0) = false := decide_eq_false (by omega)
          have has1 := HFA.out.2.1
          have y1 := hsb.c1
          have HIN : Hid (∀ bb, decide ((K : Int) ∈ (s1.getD a ln0).cl) = bb → (bb = true → (k : Int) + 1 ∈ (s1.getD a ln0).cl) ∧ (bb = false → (k : Int) + 1 ∉ (s1.getD a ln0).cl)) := Lib.hid (fun bb hbb => by
            have e : (K : Int) = (k : Int) + 1 := by omega
            rw [e] at hbb
            exact ⟨fun h => of_decide_eq_true (hbb.trans h), fun h => of_decide_eq_false (hbb.trans h)⟩)
          clear hlr hsb
          generalize decide ((K : Int) ∈ (s1.getD a ln0).cl) = bb at *
          generalize (s1.getD a ln0).cl.length = na at *
          cases bb with
          | false =>
            have HRS : Hid (refS n l K V s = (some a, s1)) := Lib.hid (by rw [HKK.out]; exact refS_l1 HNO2.out HR0.out ((HIN.out false rfl).2 rfl))
            go_wp2_with fail
            refine (HCN.out).mono ?_
            rintro e w5 ⟨rfl, rfl⟩
            go_wp2
            go_ret
            exact ⟨ret_i64 (by rw [HRS.out]; rfl), by rw [HRS.out]; exact HS4.out, HK4.out⟩
          | true =>
            have HPA := Lib.hid ((HIN.out true rfl).1 rfl)
            have HNE1 := Lib.hid (HFA.out.2.2.2.2.1 (fun e => by have := HPA.out; rw [e] at this; cases this))
            have HL1 := Lib.hid (refS_len (n := n) (l := l) k (bit1 V k) s1)
            obtain ⟨p1, s2, hr1⟩ : ∃ p1 s2, refS n l k (bit1 V k) s1 = (p1, s2) := ⟨_, _, rfl⟩
            rw [hr1] at HL1
            have HR1 := Lib.hid hr1
            have HIB2 : Hid (∀ W, Srch w0 (.slice A0 k0 c0) g b s1 W → Calls Tryd.prog 29 #[.pointer (some ⟨g, 0, none⟩), .agg (ints (tset t (K : Int))).toArray, .int .i64 (k : Int)] W fun e w' => e = .returned (.int .i64 (optI p1)) ∧ Srch w0 (.slice A0 k0 c0) g b s2 w' ∧ KeepT W w') := Lib.hid (fun W hS => by
              have := HIB.out s1 W HFA.out.1 HNE1.out (by have h1 := HLEN.out; have h2 := HL0.out; have h3 := HP2.out; have h2 : s1.length + 1 ≤ s.length + 2 ^ (k + 1) := h2; omega) hS
              rwa [hr1] at this)
            clear hr1 HIB HIN
            go_wp2_with fail
            refine (HCN.out).mono ?_
            rintro e w5 ⟨rfl, rfl⟩
            clear y1 hcell
            go_wp2_with (first
              | (refine wpList_load_row rfl 65 (.tmp 4) rfl P rfl _ _ _ _ HTB4.out Tryd.underlying65 rfl HSZ.out ?_; go_frame)
              | fail)
            refine (HWB.out _).mono ?_
            rintro e w5 ⟨rfl, hb5⟩
            have HS5 := Lib.hid (HS4.out.keep hb5)
            have HK5 := Lib.hid (HK4.out.trans (KeepT.of hb5))
            clear hb5 HS4 HTB4 HK4 HWB HCN
            go_wp2_with fail
            refine (HIB2.out _ HS5.out).mono ?_
            rintro e w6 ⟨rfl, hs6, hk6⟩
            have HS6 := Lib.hid hs6
            have HK6 := Lib.hid (HK5.out.trans hk6)
            clear hs6 hk6 HS5 HK5 HIB2
            cases p1 with
            | none =>
              have HRS : Hid (refS n l K V s = (none, s2)) := Lib.hid (by rw [HKK.out]; exact refS_r0 HNO2.out HR0.out HPA.out HR1.out)
              rw [show optI none = -1 from rfl]
              go_wp2
              go_ret
              exact ⟨ret_i64 (by rw [HRS.out]; rfl), by rw [HRS.out]; exact HS6.out, HK6.out⟩
            | some r =>
              rw [show optI (some r) = (r : Int) from rfl]
              have HFB := Lib.hid (ref_facts HCL.out HFA.out.1 HNE1.out HR1.out)
              obtain ⟨AL2, cL2, b2, o2, Ab, cb, hsb, rfl, hb2, hcell, hlr⟩ := HS6.out.line HFB.out.2.1
              have HCN := Lib.hid (xContains_any (s2.getD r ln0).cl (-(K : Int)) Ab (s2.getD r ln0).cl.length cb w6.heap.size w6 hlr.rd hlr.le)
              have hq1 : decide ((r : Int) < 0) = false := decide_eq_false (by omega)
              have hbs2 := HFB.out.2.1
              have HSB := Lib.hid hsb
              have HB2 := Lib.hid hb2
              have HCB := Lib.hid hcell
              have HLRB := Lib.hid hlr
              have y1 := hsb.c1
              have HIN : Hid (∀ bb, decide (-(K : Int) ∈ (s2.getD r ln0).cl) = bb → (bb = true → -((k : Int) + 1) ∈ (s2.getD r ln0).cl) ∧ (bb = false → -((k : Int) + 1) ∉ (s2.getD r ln0).cl)) := Lib.hid (fun bb hbb => by
                have e : (K : Int) = (k : Int) + 1 := by omega
                rw [e] at hbb
                exact ⟨fun h => of_decide_eq_true (hbb.trans h), fun h => of_decide_eq_false (hbb.trans h)⟩)
              clear hlr hsb hb2
              generalize decide (-(K : Int) ∈ (s2.getD r ln0).cl) = bb at *
              obtain ⟨nb, hnb⟩ : ∃ nb, (s2.getD r ln0).cl.length = nb := ⟨_, rfl⟩
              have HNB := Lib.hid hnb
              rw [hnb] at hcell HCN HCB
              clear hnb
              cases bb with
              | false =>
                have HRS : Hid (refS n l K V s = (some r, s2)) := Lib.hid (by rw [HKK.out]; exact refS_r1 HNO2.out HR0.out HPA.out HR1.out ((HIN.out false rfl).2 rfl))
                go_wp2_with fail
                refine (HCN.out).mono ?_
                rintro e w7 ⟨rfl, rfl⟩
                go_wp2
                go_ret
                exact ⟨ret_i64 (by rw [HRS.out]; rfl), by rw [HRS.out]; exact HS6.out, HK6.out⟩
              | true =>
                have HPB := Lib.hid ((HIN.out true rfl).1 rfl)
                have HPRE := Lib.hid HFB.out.2.2.2.2.2
                have HEQ := Lib.hid (getD_prefix HPRE.out HFA.out.2.1)
                have has2 : a < s2.length := by have h1 := HPRE.out.length_le; have h2 := HFA.out.2.1; omega
                have HRS := Lib.hid (refS_rr HNO2.out HR0.out HPA.out HR1.out HPB.out)
                have HIR := Lib.hid (res_false HFA.out.2.2.1 HFB.out.2.2.1 HFA.out.2.2.2.1 HFB.out.2.2.2.1 HPA.out HPB.out).1
                have HRSM := Lib.hid (res_same hn (by omega) HFA.out.2.2.1 HFB.out.2.2.1 HIR.out)
                obtain ⟨AL3, cL3, b3, o3, Aa2, ca2, hsb3, e3, hb3, hcell3, hlr3⟩ := HS6.out.line has2
                have hsbe : (Value.slice AL3 s2.length cL3) = .slice (some ⟨b2, o2, none⟩) s2.length cL2 := by
                  have h1 := hsb3.c1
                  have h2 := HSB.out.c1
                  rw [h1] at h2
                  injection h2
                injection hsbe with hs1 _ hs3
                rw [hs1] at e3
                injection e3 with e3
                injection e3 with e31 e32
                subst e31 e32
                have HVR := Lib.hid (fun W => xVar_any (K : Int) W (by omega) (by omega))
                have hvk : varI (K : Int) = (k : Int) := by unfold varI; omega
                rw [hvk] at HVR
                have HCA := Lib.hid hcell3
                have HB3 := Lib.hid hb3
                have HRE := Lib.hid (fun W (hw : Below w6.heap.size w6 W) => xResolve_any (s2.getD a ln0).cl (s2.getD r ln0).cl (k : Int) Aa2 (s2.getD a ln0).cl.length ca2 Ab (s2.getD r ln0).cl.length cb W ((hlr3.rd.below hw).more hw.size) hlr3.le hlr3.cap ((HLRB.out.rd.below hw).more hw.size) HLRB.out.le HLRB.out.cap)
                obtain ⟨L, hL⟩ : ∃ L, resF n (s1.getD a ln0).cl (s2.getD r ln0).cl ((k : Int) + 1) = L := ⟨_, rfl⟩
                have HRE2 : Hid (∀ W, Below w6.heap.size w6 W → Calls Tryd.prog 57 #[.slice Aa2 (s2.getD a ln0).cl.length ca2, .slice Ab nb cb, .int .i64 (k : Int)] W (GivesL L 0 W)) := Lib.hid (fun W hw => by
                  have := HRE.out W hw
                  rw [HEQ.out, HRSM.out.1, HRSM.out.2, HNB.out, hL] at this
                  rw [HEQ.out]
                  exact this)
                have HLOK : Hid (ClOk 12 L) := Lib.hid (by rw [← hL]; exact HIR.out.ok.mono hn)
                have HLN : Hid (resLn n k a r s2 = ⟨L, (a : Int), (r : Int), (k : Int)⟩) := Lib.hid (by unfold resLn; rw [HEQ.out, hL])
                have HS6L := Lib.hid (fun W (hw : Below w6.heap.size w6 W) => HS6.out.keep hw)
                have HCW := Lib.hid (fun W (hw : Below w6.heap.size w6 W) => (hw.cell (p := ⟨b2, o2 + a * 4, none⟩) HB3.out).trans HCA.out)
                have HCV := Lib.hid (fun W (hw : Below w6.heap.size w6 W) => (hw.cell (p := ⟨b2, o2 + r * 4, none⟩) HB2.out).trans HCB.out)
                have HSW := Lib.hid (fun W (hw : Below w6.heap.size w6 W) => HSB.out.below hw HSB.out.lt)
                have HB0 : Hid (w0.heap.size ≤ w6.heap.size) := Lib.hid HS6.out.below.size
                have HS2L : Hid (s2.length ≤ 20000) := Lib.hid (by have h1 := HLEN.out; have h2 : s1.length + 1 ≤ s.length + 2 ^ (k + 1) := HL0.out; have h3 : s2.length + 1 ≤ s1.length + 2 ^ (k + 1) := HL1.out; have h4 := HP2.out; omega)
                clear hL hsb3 hb3 hcell3 hlr3 hs1 hs3 HRE HIN hvk
                generalize (s2.getD a ln0).cl.length = na2 at *
                obtain ⟨n2, hn2⟩ : ∃ n2, s2.length = n2 := ⟨_, rfl⟩
                rw [hn2] at y1 HSW has2 hbs2
                have HN2 := Lib.hid hn2
                clear hn2
                go_wp2_with fail
                refine (HCN.out).mono ?_
                rintro e w7 ⟨rfl, rfl⟩
                go_wp2_with fail
                refine (HVR.out _).mono ?_
                rintro e w7 ⟨rfl, rfl⟩
                clear y1 hcell
                go_wp2
                refine wp_region_wild [.pointer (some ⟨g, 0, none⟩), .pointer (some ⟨g, 0, none⟩), .pointer (some ⟨g, 1, none⟩), .slice (some ⟨b2, o2, none⟩) n2 cL2, .int .i64 (a : Int), .pointer (some ⟨b2, o2 + a * 4, none⟩), .pointer (some ⟨b2, o2 + a * 4, none⟩), .slice Aa2 na2 ca2, .pointer (some ⟨g, 0, none⟩), .pointer (some ⟨g, 0, none⟩), .pointer (some ⟨g, 1, none⟩), .slice (some ⟨b2, o2, none⟩) n2 cL2, .int .i64 (r : Int), .pointer (some ⟨b2, o2 + r * 4, none⟩), .pointer (some ⟨b2, o2 + r * 4, none⟩), .slice Ab nb cb, .int .i64 (k : Int), undef, undef, undef, .int .i64 0, undef, .int .i64 0] [89, 90, 91, 92, 93, 94, 95, 96, 97, 98, 99, 100, 101, 102, 103, 104, 105, 106, 88, 107, 108, 12, 13] [1, 2, 3, 5, 6, 7, 9, 10, 11, 13, 14, 15, 17, 18, 19, 20, 21] [17, 18, 19, 21] (vRf w0.heap.size L) (fun W => Below w6.heap.size w6 W) (fun W W' => Below W.heap.size W W') 23 116 rfl rfl rfl (by decide) (by decide) (by kernel_rfl) (by kernel_rfl) (by kernel_rfl) (by kernel_rfl) (fun W => Below.refl _ W) (fun W1 W2 W3 h1 h2 => h1.trans (h2.mono h1.size)) (fun W W' h h2 => h.trans (h2.mono h.size)) vRf_up (Below.refl _ w6).drew (by kernel_rfl) [] rfl ?hop ?fin
                case hop =>
                  refine (And.intro ?s1 (And.intro ?s2 (And.intro ?s3 (And.intro ?s5 (And.intro ?s6 (And.intro ?s7 (And.intro ?s9 (And.intro ?s10 (And.intro ?s11 (And.intro ?s13 (And.intro ?s14 (And.intro ?s15 (And.intro ?s17 (And.intro ?s18 (And.intro ?s19 (And.intro ?s20 (And.intro ?s21 trivial)))))))))))))))))
                  case s1 =>
                    refine And.intro (by rfl) (fun tm W hS hsz hfr hdep K hK => ?_)
                    change tm.size = 116 at hsz
                    have t89 : tm.getD 89 undef = .pointer (some ⟨g, 0, none⟩) := wildV_known (by rfl) (hdep 0 (by rfl) (by decide))
                    have u89 := getq t89 (by omega)
                    clear hdep hfr
                    have hk9 := hK (.pointer (some ⟨g, 0, none⟩)) W (Below.refl _ W) (wildV_of (by rfl))
                    go_simp
                    exact hk9
                  case s2 =>
                    refine And.intro (by rfl) (fun tm W hS hsz hfr hdep K hK => ?_)
                    change tm.size = 116 at hsz
                    have t90 : tm.getD 90 undef = .pointer (some ⟨g, 0, none⟩) := wildV_known (by rfl) (hdep 1 (by rfl) (by decide))
                    have u90 := getq t90 (by omega)
                    clear hdep hfr
                    have hk9 := hK (.pointer (some ⟨g, 1, none⟩)) W (Below.refl _ W) (wildV_of (by rfl))
                    go_simp
                    exact hk9
                  case s3 =>
                    refine And.intro (by rfl) (fun tm W hS hsz hfr hdep K hK => ?_)
                    change tm.size = 116 at hsz
                    have t91 : tm.getD 91 undef = .pointer (some ⟨g, 1, none⟩) := wildV_known (by rfl) (hdep 2 (by rfl) (by decide))
                    have u91 := getq t91 (by omega)
                    have z1 := (HSW.out W hS).c1
                    clear hdep hfr
                    have hk9 := hK (.slice (some ⟨b2, o2, none⟩) n2 cL2) W (Below.refl _ W) (wildV_of (by rfl))
                    go_simp
                    exact hk9
                  case s5 =>
                    refine And.intro (by rfl) (fun tm W hS hsz hfr hdep K hK => ?_)
                    change tm.size = 116 at hsz
                    have t92 : tm.getD 92 undef = .slice (some ⟨b2, o2, none⟩) n2 cL2 := wildV_known (by rfl) (hdep 3 (by rfl) (by decide))
                    have t93 : tm.getD 93 undef = .int .i64 (a : Int) := wildV_known (by rfl) (hdep 4 (by rfl) (by decide))
                    have u92 := getq t92 (by omega)
                    have u93 := getq t93 (by omega)
                    clear hdep hfr
                    have hk9 := hK (.pointer (some ⟨b2, o2 + a * 4, none⟩)) W (Below.refl _ W) (wildV_of (by rfl))
                    go_simp
                    exact hk9
                  case s6 =>
                    refine And.intro (by rfl) (fun tm W hS hsz hfr hdep K hK => ?_)
                    change tm.size = 116 at hsz
                    have t94 : tm.getD 94 undef = .pointer (some ⟨b2, o2 + a * 4, none⟩) := wildV_known (by rfl) (hdep 5 (by rfl) (by decide))
                    have u94 := getq t94 (by omega)
                    clear hdep hfr
                    have hk9 := hK (.pointer (some ⟨b2, o2 + a * 4, none⟩)) W (Below.refl _ W) (wildV_of (by rfl))
                    go_simp
                    exact hk9
                  case s7 =>
                    refine And.intro (by rfl) (fun tm W hS hsz hfr hdep K hK => ?_)
                    change tm.size = 116 at hsz
                    have t95 : tm.getD 95 undef = .pointer (some ⟨b2, o2 + a * 4, none⟩) := wildV_known (by rfl) (hdep 6 (by rfl) (by decide))
                    have u95 := getq t95 (by omega)
                    have z0 := HCW.out W hS
                    clear hdep hfr
                    have hk9 := hK (.slice Aa2 na2 ca2) W (Below.refl _ W) (wildV_of (by rfl))
                    go_simp
                    exact hk9
                  case s9 =>
                    refine And.intro (by rfl) (fun tm W hS hsz hfr hdep K hK => ?_)
                    change tm.size = 116 at hsz
                    have t97 : tm.getD 97 undef = .pointer (some ⟨g, 0, none⟩) := wildV_known (by rfl) (hdep 8 (by rfl) (by decide))
                    have u97 := getq t97 (by omega)
                    clear hdep hfr
                    have hk9 := hK (.pointer (some ⟨g, 0, none⟩)) W (Below.refl _ W) (wildV_of (by rfl))
                    go_simp
                    exact hk9
                  case s10 =>
                    refine And.intro (by rfl) (fun tm W hS hsz hfr hdep K hK => ?_)
                    change tm.size = 116 at hsz
                    have t98 : tm.getD 98 undef = .pointer (some ⟨g, 0, none⟩) := wildV_known (by rfl) (hdep 9 (by rfl) (by decide))
                    have u98 := getq t98 (by omega)
                    clear hdep hfr
                    have hk9 := hK (.pointer (some ⟨g, 1, none⟩)) W (Below.refl _ W) (wildV_of (by rfl))
                    go_simp
                    exact hk9
                  case s11 =>
                    refine And.intro (by rfl) (fun tm W hS hsz hfr hdep K hK => ?_)
                    change tm.size = 116 at hsz
                    have t99 : tm.getD 99 undef = .pointer (some ⟨g, 1, none⟩) := wildV_known (by rfl) (hdep 10 (by rfl) (by decide))
                    have u99 := getq t99 (by omega)
                    have z1 := (HSW.out W hS).c1
                    clear hdep hfr
                    have hk9 := hK (.slice (some ⟨b2, o2, none⟩) n2 cL2) W (Below.refl _ W) (wildV_of (by rfl))
                    go_simp
                    exact hk9
                  case s13 =>
                    refine And.intro (by rfl) (fun tm W hS hsz hfr hdep K hK => ?_)
                    change tm.size = 116 at hsz
                    have t100 : tm.getD 100 undef = .slice (some ⟨b2, o2, none⟩) n2 cL2 := wildV_known (by rfl) (hdep 11 (by rfl) (by decide))
                    have t101 : tm.getD 101 undef = .int .i64 (r : Int) := wildV_known (by rfl) (hdep 12 (by rfl) (by decide))
                    have u100 := getq t100 (by omega)
                    have u101 := getq t101 (by omega)
                    clear hdep hfr
                    have hk9 := hK (.pointer (some ⟨b2, o2 + r * 4, none⟩)) W (Below.refl _ W) (wildV_of (by rfl))
                    go_simp
                    exact hk9
                  case s14 =>
                    refine And.intro (by rfl) (fun tm W hS hsz hfr hdep K hK => ?_)
                    change tm.size = 116 at hsz
                    have t102 : tm.getD 102 undef = .pointer (some ⟨b2, o2 + r * 4, none⟩) := wildV_known (by rfl) (hdep 13 (by rfl) (by decide))
                    have u102 := getq t102 (by omega)
                    clear hdep hfr
                    have hk9 := hK (.pointer (some ⟨b2, o2 + r * 4, none⟩)) W (Below.refl _ W) (wildV_of (by rfl))
                    go_simp
                    exact hk9
                  case s15 =>
                    refine And.intro (by rfl) (fun tm W hS hsz hfr hdep K hK => ?_)
                    change tm.size = 116 at hsz
                    have t103 : tm.getD 103 undef = .pointer (some ⟨b2, o2 + r * 4, none⟩) := wildV_known (by rfl) (hdep 14 (by rfl) (by decide))
                    have u103 := getq t103 (by omega)
                    have z0 := HCV.out W hS
                    clear hdep hfr
                    have hk9 := hK (.slice Ab nb cb) W (Below.refl _ W) (wildV_of (by rfl))
                    go_simp
                    exact hk9
                  case s17 =>
                    refine And.intro (by rfl) (fun tm W hS hsz hfr hdep K hK => ?_)
                    change tm.size = 116 at hsz
                    have t96 : tm.getD 96 undef = .slice Aa2 na2 ca2 := wildV_known (by rfl) (hdep 7 (by rfl) (by decide))
                    have t104 : tm.getD 104 undef = .slice Ab nb cb := wildV_known (by rfl) (hdep 15 (by rfl) (by decide))
                    have t105 : tm.getD 105 undef = .int .i64 (k : Int) := wildV_known (by rfl) (hdep 16 (by rfl) (by decide))
                    clear hdep hfr
                    refine wp_call _ _ _ _ _ rfl rfl (by simp [Act.eval, t96, t104, t105]) (by kernel_rfl) (HRE2.out W hS) (fun e W9 h9 => ?_)
                    obtain ⟨A9, c9, rfl, hj9, hl9, hb9⟩ := h9
                    exact ⟨_, rfl, hK _ W9 hb9 (show vRf w0.heap.size L 17 _ W9 from ⟨A9, c9, rfl, hj9.mono (by have h1 := hS.size; have h2 := HB0.out; omega), hl9⟩)⟩
                  case s18 =>
                    refine And.intro (by rfl) (fun tm W hS hsz hfr hdep K hK => ?_)
                    change tm.size = 116 at hsz
                    have h17 : (vRf w0.heap.size L) 17 (tm.getD 106 undef) W := wildV_wild (by rfl) (hdep 17 (by rfl) (by decide))
                    clear hdep hfr
                    obtain ⟨A9, c9, t106, hj9⟩ := (show ∃ A9 c9, tm.getD 106 undef = .tuple #[.slice A9 L.length c9, .int .i64 0] ∧ OwJ W w0.heap.size A9 L ∧ L.length ≤ c9 from h17)
                    have u106 := getq t106 (by omega)
                    have hk9 := hK (.tuple #[.slice A9 L.length c9, .int .i64 0]) W (Below.refl _ W) (show vRf w0.heap.size L 18 _ W from ⟨A9, c9, rfl, hj9⟩)
                    go_simp
                    exact hk9
                  case s19 =>
                    refine And.intro (by rfl) (fun tm W hS hsz hfr hdep K hK => ?_)
                    change tm.size = 116 at hsz
                    have h18 : (vRf w0.heap.size L) 18 (tm.getD 88 undef) W := wildV_wild (by rfl) (hdep 18 (by rfl) (by decide))
                    clear hdep hfr
                    obtain ⟨A9, c9, t88, hj9⟩ := (show ∃ A9 c9, tm.getD 88 undef = .tuple #[.slice A9 L.length c9, .int .i64 0] ∧ OwJ W w0.heap.size A9 L ∧ L.length ≤ c9 from h18)
                    have u88 := getq t88 (by omega)
                    have hk9 := hK (.slice A9 L.length c9) W (Below.refl _ W) (show vRf w0.heap.size L 19 _ W from ⟨A9, c9, rfl, hj9⟩)
                    go_simp
                    exact hk9
                  case s20 =>
                    refine And.intro (by rfl) (fun tm W hS hsz hfr hdep K hK => ?_)
                    change tm.size = 116 at hsz
                    have h18 : (vRf w0.heap.size L) 18 (tm.getD 88 undef) W := wildV_wild (by rfl) (hdep 18 (by rfl) (by decide))
                    clear hdep hfr
                    obtain ⟨A9, c9, t88, hj9⟩ := (show ∃ A9 c9, tm.getD 88 undef = .tuple #[.slice A9 L.length c9, .int .i64 0] ∧ OwJ W w0.heap.size A9 L ∧ L.length ≤ c9 from h18)
                    have u88 := getq t88 (by omega)
                    have hk9 := hK (.int .i64 0) W (Below.refl _ W) (wildV_of (by rfl))
                    go_simp
                    exact hk9
                  case s21 =>
                    refine And.intro (by rfl) (fun tm W hS hsz hfr hdep K hK => ?_)
                    change tm.size = 116 at hsz
                    have h19 : (vRf w0.heap.size L) 19 (tm.getD 107 undef) W := wildV_wild (by rfl) (hdep 19 (by rfl) (by decide))
                    clear hdep hfr
                    obtain ⟨A9, c9, t107, hj9⟩ := (show ∃ A9 c9, tm.getD 107 undef = .slice A9 L.length c9 ∧ OwJ W w0.heap.size A9 L ∧ L.length ≤ c9 from h19)
                    have u107 := getq t107 (by omega)
                    have hk9 := hK (.slice A9 L.length c9) W (Below.refl _ W) (show vRf w0.heap.size L 21 _ W from ⟨A9, c9, rfl, hj9⟩)
                    go_simp
                    exact hk9
                case fin =>
                  intro f W hS hV
                  have y17 : (vRf w0.heap.size L) 17 (f 17) W := hV 17 (by decide) (by rfl)
                  have y18 : (vRf w0.heap.size L) 18 (f 18) W := hV 18 (by decide) (by rfl)
                  have y19 : (vRf w0.heap.size L) 19 (f 19) W := hV 19 (by decide) (by rfl)
                  have y21 : (vRf w0.heap.size L) 21 (f 21) W := hV 21 (by decide) (by rfl)
                  clear hV
                  have hvl : ((List.range 23).map (fun qq => if [17, 18, 19, 21].contains qq then f qq else ([.pointer (some ⟨g, 0, none⟩), .pointer (some ⟨g, 0, none⟩), .pointer (some ⟨g, 1, none⟩), .slice (some ⟨b2, o2, none⟩) n2 cL2, .int .i64 (a : Int), .pointer (some ⟨b2, o2 + a * 4, none⟩), .pointer (some ⟨b2, o2 + a * 4, none⟩), .slice Aa2 na2 ca2, .pointer (some ⟨g, 0, none⟩), .pointer (some ⟨g, 0, none⟩), .pointer (some ⟨g, 1, none⟩), .slice (some ⟨b2, o2, none⟩) n2 cL2, .int .i64 (r : Int), .pointer (some ⟨b2, o2 + r * 4, none⟩), .pointer (some ⟨b2, o2 + r * 4, none⟩), .slice Ab nb cb, .int .i64 (k : Int), undef, undef, undef, .int .i64 0, undef, .int .i64 0] : List Value).getD qq undef)) = [.pointer (some ⟨g, 0, none⟩), .pointer (some ⟨g, 0, none⟩), .pointer (some ⟨g, 1, none⟩), .slice (some ⟨b2, o2, none⟩) n2 cL2, .int .i64 (a : Int), .pointer (some ⟨b2, o2 + a * 4, none⟩), .pointer (some ⟨b2, o2 + a * 4, none⟩), .slice Aa2 na2 ca2, .pointer (some ⟨g, 0, none⟩), .pointer (some ⟨g, 0, none⟩), .pointer (some ⟨g, 1, none⟩), .slice (some ⟨b2, o2, none⟩) n2 cL2, .int .i64 (r : Int), .pointer (some ⟨b2, o2 + r * 4, none⟩), .pointer (some ⟨b2, o2 + r * 4, none⟩), .slice Ab nb cb, .int .i64 (k : Int), f 17, f 18, f 19, .int .i64 0, f 21, .int .i64 0] := by rfl
                  rw [hvl]
                  clear hvl
                  obtain ⟨A9, c9, e9, hj9, hl9⟩ := (show ∃ A9 c9, f 21 = .slice A9 L.length c9 ∧ OwJ W w0.heap.size A9 L ∧ L.length ≤ c9 from y21)
                  rw [e9]
                  have HS7 := Lib.hid (HS6L.out W hS)
                  have HK7 := Lib.hid (HK6.out.trans (KeepT.of hS))
                  have HADD := Lib.hid (xAdd_any w0 (.slice A0 k0 c0) g b s2 W ⟨L, (a : Int), (r : Int), (k : Int)⟩ A9 c9 HS7.out HLOK.out hj9 hl9 HS2L.out)
                  clear e9 hj9 hl9 y17 y18 y19 y21 hS
                  dsimp only at HADD
                  rw [← HLN.out] at HADD
                  generalize f 17 = f17
                  generalize f 18 = f18
                  generalize f 19 = f19
                  generalize L.length = nL at *
                  simp only [fillD]
                  go_simp
                  go_wp2_with fail
                  refine (HADD.out).mono ?_
                  rintro e w8 ⟨rfl, hs8, hk8⟩
                  have HS8 := Lib.hid hs8
                  have HK8 := Lib.hid (HK7.out.trans hk8)
                  clear hs8 hk8
                  go_wp2
                  go_ret
                  exact ⟨ret_i64 (by rw [HKK.out, HRS.out]; rfl), by rw [HKK.out, HRS.out]; exact HS8.out, HK8.out⟩
    · rw [HCI.out] at h1
      subst h1
      rw [HFI.out] at h2
      have HRS := Lib.hid (refS_hit (n := n) (s := s) h2)
      have hik : i < k0 := by have := HLK.out; omega
      have hmem := getDZ_mem (l := l) (k := i) hil
      have HOK := Lib.hid ((HCL.out _ hmem).mono hn)
      have hsm := HSM.out _ hmem
      obtain ⟨ad, Ai, cc, rfl, hadb, hci, hri, _⟩ := (HZW.out w2 HS2.out.below).at_ hik
      have HCLN := Lib.hid (cloneI_any (l.getD i []) Ai _ cc w2 hri (by have := hsm.2; omega))
      have hq : decide ((0 : Int) ≤ (i : Int)) = true := decide_eq_true (by omega)
      have hc0 := HS2.out.c0
      have hp1 : 2 ≤ 2 ^ (K + 1) := Nat.pow_le_pow_right (n := 2) (i := 1) (by decide) (by omega)
      have HL2 : Hid (s.length ≤ 20000) := Lib.hid (by have := HLEN.out; omega)
      obtain ⟨c, hc⟩ : ∃ c, l.getD i [] = c := ⟨_, rfl⟩
      rw [hc] at HRS HOK hci HCLN
      clear h2 hmem hsm hri hadb hc hp1
      obtain ⟨nc, hnc⟩ : ∃ nc, c.length = nc := ⟨_, rfl⟩
      have HNC := Lib.hid hnc
      rw [hnc] at hci HCLN
      clear hnc
      go_wp2_with fail
      refine (HCLN.out).mono ?_
      rintro e w3 ⟨A9, c9, rfl, hc9, hx9, hb9⟩
      have HS3 := Lib.hid (HS2.out.keep hb9)
      have HK3 := Lib.hid (HK2.out.trans (KeepT.of hb9))
      have HOJ : Hid (OwJ w3 w0.heap.size A9 c) := Lib.hid (fun h0 => by
        obtain ⟨g9, e9, h9, hh9⟩ := hx9 (by have := HNC.out; omega)
        exact ⟨g9, e9, by have := HS2.out.below.size; omega, hh9⟩)
      have HADD := Lib.hid (xAdd_any w0 (.slice (some ad) k0 c0) g b s w3 (inLn c i) A9 c9 HS3.out HOK.out HOJ.out (by have := HNC.out; show c.length ≤ c9; omega) HL2.out)
      change Hid (Calls Tryd.prog 55 #[.pointer (some ⟨g, 0, none⟩), .agg #[.slice A9 c.length c9, .int .i64 (-1), .int .i64 (i : Int), .int .i64 0]] w3 _) at HADD
      rw [HNC.out] at HADD
      clear hb9 hx9 hc9 hci hc0
      go_wp2_with fail
      refine (HADD.out).mono ?_
      rintro e w4 ⟨rfl, hs4, hk4⟩
      have HS4 := Lib.hid hs4
      have HK4 := Lib.hid (HK3.out.trans hk4)
      clear hs4 hk4
      go_wp2
      go_ret
      exact ⟨ret_i64 (by rw [HRS.out]; rfl), by rw [HRS.out]; exact HS4.out, HK4.out⟩
end Go.Proofs.YtopkmcoblndokaaDoor.rsl
