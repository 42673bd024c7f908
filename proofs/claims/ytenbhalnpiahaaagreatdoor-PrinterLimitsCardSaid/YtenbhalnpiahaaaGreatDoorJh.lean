/- Layer 6: texts joined: Uj Uk Ul To Um Un. -/
import Derived.Test.YtenbhalnpiahaaaGreatDoorJa
import Derived.Test.YtenbhalnpiahaaaGreatDoorJg
/- Layer 6: groups of agents of the program's parser. -/
namespace Go.Proofs.Ws
open Go
theorem failS_next (E : SEnv) (t : Nat) (e : Int) (s : SS) : (failS E t e s).next = s.next := by unfold failS; split <;> rfl
theorem nameS_next (E : SEnv) (what : Nat) (s : SS) : s.next ≤ (nameS E what s).2.next := by
  unfold nameS
  split
  · show _ ≤ (failS E s.next 4 s).next; rw [failS_next]; exact Nat.le_refl _
  · split
    · show _ ≤ (failS E s.next 5 s).next; rw [failS_next]; exact Nat.le_refl _
    · exact Nat.le_succ _
theorem oneS_next (E : SEnv) (g : Nat) (s : SS) : s.next ≤ (oneS E g s).2.next := by
  unfold oneS
  dsimp only
  split
  · rw [failS_next]; exact nameS_next E 1 s
  · exact nameS_next E 1 s
end Go.Proofs.Ws
namespace Go.Proofs.YtenbhalnpiahaaaGreatDoor
open Go.RowKit Go.Proofs.Ws Go.Maps
/-- the number of the next token, in memory -/
def nextOf (K : PK) (W : World) : Nat := match W.cell? ⟨K.bp, 6, none⟩ with | some (.int _ z) => z.toNat | _ => 0
theorem PP.nextOf {K : PK} {W : World} {s : SS} (h : PP K W s) : nextOf K W = s.next := by
  unfold Go.Proofs.YtenbhalnpiahaaaGreatDoor.nextOf
  rw [h.cells.2.2.2.1]
  simp
theorem pow_wrap : ∀ j : Fin 4, wrap64 (2 ^ j.1) = ((2 ^ j.1 : Nat) : Int) ∧ wrap64 (1 * 2 ^ j.1) = ((2 ^ j.1 : Nat) : Int) := by decide +kernel
set_option maxRecDepth 100000 in
set_option maxHeartbeats 1000000 in
theorem kAgents_any {K : PK} (hE : PE K) (s s' : SS) (v : Nat) (w : World) (hS : PP K w s) (h : agentsS K.E s = some (v, s')) :
    Calls Tryz.prog 148 #[.pointer (some ⟨K.bp, 0, none⟩)] w fun e w' => e = .returned (.int .i64 (v : Int)) ∧ PP K w' s' := by
  have HA4 : Hid (K.E.P.A.length ≤ 4) := Lib.hid (sigErr_ok hE.ok).1
  have HA := Lib.hid (kAgent_any hE s w hS)
  have hj := agent_lt HA4.out s
  obtain ⟨hpw, hpw1⟩ := pow_wrap ⟨(nameS K.E 1 s).1, hj⟩
  dsimp only at hpw hpw1
  have HG : Hid (2 ^ (nameS K.E 1 s).1 < 16) := Lib.hid (pow_lt16 hj)
  have HR : Hid (agentsLS K.E (K.E.P.ws.length + 2) (2 ^ (nameS K.E 1 s).1) (nameS K.E 1 s).2 = some (v, s')) := Lib.hid h
  have hwl := hE.wl
  generalize (nameS K.E 1 s).1 = j at *
  generalize (nameS K.E 1 s).2 = s0 at *
  generalize hF : K.E.P.ws.length + 2 = F at HR
  generalize (2 ^ j : Nat) = q at hpw hpw1 HG HR
  clear hF h hS
  go_enter Tryz.func148, Tryz.ntmps148
  go_wp2_with fail
  refine HA.out.mono ?_
  rintro e w1 ⟨rfl, hS1⟩
  have HS1 := Lib.hid hS1
  clear hS1
  go_wp2
  try simp only [hpw]
  go_loopw [3, 4, 5] (fun gv _ _ wr => ∃ (f g : Nat) (t : SS), gv = .int .i64 g ∧ g < 16 ∧ Hid (agentsLS K.E f g t = some (v, s')) ∧ Hid (PP K wr t)) (fun _ _ _ wr => 5000 - nextOf K wr)
  case atStart => exact ⟨F, q, s0, rfl, HG.out, HR, HS1⟩
  case round =>
    clear hpw hpw1 hj HG HR HS1 HA
    obtain ⟨f, g, t, rfl, hg, HR, HS⟩ := hrel
    obtain ⟨f', hf⟩ : ∃ f', f = f' + 1 := by
      cases f with
      | zero => have := HR.out; unfold agentsLS at this; cases this
      | succ f' => exact ⟨f', rfl⟩
    subst hf
    have HC := Lib.hid (kAccept_any hE ⟨#[44]⟩ (by decide) t wr HS.out)
    by_cases hc : peekS K.E t = ⟨#[44]⟩
    · rw [decide_eq_true hc, if_pos hc] at HC
      have hlt := acc_len HS.out hc (by decide)
      have HR2 : Hid (agentsLS K.E f' (oneS K.E g t.adv).1 (oneS K.E g t.adv).2 = some (v, s')) := Lib.hid (by have := HR.out; unfold agentsLS at this; rw [if_pos hc] at this; exact this)
      have HAG := Lib.hid (fun W (hW : PP K W t.adv) => kAgent_any hE t.adv W hW)
      have HCE := Lib.hid (fun W (hW : PP K W t.adv) => hW.cells.2.2.2.1)
      have hj4 := agent_lt HA4.out t.adv
      have HM : Hid (5000 - (oneS K.E g t.adv).2.next < 5000 - nextOf K wr) := Lib.hid (by
        have h1 := oneS_next K.E g t.adv
        have h2 : t.adv.next = t.next + 1 := rfl
        have h3 := HS.out.nextOf
        omega)
      have hbit := bit_i64 ⟨g, hg⟩ ⟨(nameS K.E 1 t.adv).1, hj4⟩
      have hor := or_i64 ⟨g, hg⟩ ⟨(nameS K.E 1 t.adv).1, hj4⟩
      have hm2 : g ||| 2 ^ (nameS K.E 1 t.adv).1 < 16 := Nat.or_lt_two_pow (n := 4) hg (pow_lt16 hj4)
      dsimp only at hbit hor
      have HF := Lib.hid (fun W (hW : PP K W (nameS K.E 1 t.adv).2) => kFail_any hE t.adv.next 7 (nameS K.E 1 t.adv).2 W hW)
      cases hb : g.testBit (nameS K.E 1 t.adv).1 with
      | true =>
        have e1 : oneS K.E g t.adv = (g ||| 2 ^ (nameS K.E 1 t.adv).1, failS K.E t.adv.next 7 (nameS K.E 1 t.adv).2) := by unfold oneS; rw [if_pos hb]
        rw [e1] at HR2 HM
        dsimp only at HR2 HM
        rw [hb] at hbit
        generalize (nameS K.E 1 t.adv).1 = j at *
        generalize (nameS K.E 1 t.adv).2 = t2 at *
        generalize t.adv = ta at *
        clear hb e1 hc hlt HR HS hwl
        go_wp2_with fail
        refine HC.out.mono ?_
        rintro e w2 ⟨rfl, hS2⟩
        have HG2 := Lib.hid (HAG.out w2 hS2)
        have k6 := HCE.out w2 hS2
        clear hS2
        go_wp2_with fail
        refine HG2.out.mono ?_
        rintro e w3 ⟨rfl, hS3⟩
        have HF3 := Lib.hid (HF.out w3 hS3)
        clear hS3 k6
        go_wp2_with fail
        refine HF3.out.mono ?_
        rintro e w4 ⟨rfl, hS4⟩
        have HS4 := Lib.hid hS4
        clear hS4
        go_wp2
        try simp only [hor]
        go_roundw
        case rel => exact ⟨f', g ||| 2 ^ j, _, by first | rfl | rw [hor], hm2, HR2, HS4⟩
        case measure => rw [HS4.out.nextOf]; exact HM.out
      | false =>
        have e1 : oneS K.E g t.adv = (g ||| 2 ^ (nameS K.E 1 t.adv).1, (nameS K.E 1 t.adv).2) := by unfold oneS; rw [if_neg (by rw [hb]; decide)]
        rw [e1] at HR2 HM
        dsimp only at HR2 HM
        rw [hb] at hbit
        generalize (nameS K.E 1 t.adv).1 = j at *
        generalize (nameS K.E 1 t.adv).2 = t2 at *
        generalize t.adv = ta at *
        clear hb e1 hc hlt HR HS HF hwl
        go_wp2_with fail
        refine HC.out.mono ?_
        rintro e w2 ⟨rfl, hS2⟩
        have HG2 := Lib.hid (HAG.out w2 hS2)
        have k6 := HCE.out w2 hS2
        clear hS2
        go_wp2_with fail
        refine HG2.out.mono ?_
        rintro e w3 ⟨rfl, hS3⟩
        have HS3 := Lib.hid hS3
        clear hS3 k6
        go_wp2
        try simp only [hor]
        go_roundw
        case rel => exact ⟨f', g ||| 2 ^ j, _, by first | rfl | rw [hor], hm2, HR2, HS3⟩
        case measure => rw [HS3.out.nextOf]; exact HM.out
    · rw [decide_eq_false hc, if_neg hc] at HC
      have HV : Hid (g = v ∧ t = s') := Lib.hid (by
        have := HR.out
        unfold agentsLS at this
        rw [if_neg hc] at this
        injection this with this
        injection this with h1 h2
        exact ⟨h1, h2⟩)
      clear hc HR HS
      go_wp2_with fail
      refine HC.out.mono ?_
      rintro e w2 ⟨rfl, hS2⟩
      have HS2 := Lib.hid hS2
      clear hS2
      go_wp2
      go_ret
      exact ⟨by rw [← HV.out.1]; rfl, HV.out.2 ▸ HS2.out⟩
end Go.Proofs.YtenbhalnpiahaaaGreatDoor
/- Layer 6: the number of an event. -/
namespace Go.Proofs.YtenbhalnpiahaaaGreatDoor
open Go.RowKit Go.Proofs.Ws Go.Maps
theorem dig_range {m : Nat} (h : digN m = true) : 48 ≤ m ∧ m ≤ 57 := by
  unfold digN at h
  simpa using h
theorem u8_sub : ∀ m : Fin 256, 48 ≤ m.1 → IntKind.u8.wrap ((m.1 : Int) - 48) = (m.1 : Int) - 48 := by decide +kernel
set_option maxRecDepth 100000 in
set_option maxHeartbeats 1000000 in
theorem kEvent_any {K : PK} (hE : PE K) (s : SS) (w : World) (hS : PP K w s) :
    Calls Tryz.prog 150 #[.pointer (some ⟨K.bp, 0, none⟩)] w fun e w' => e = .returned (.int .i64 (((eventS K.E s).1 : Nat) : Int)) ∧ PP K w' (eventS K.E s).2 := by
  have HP := Lib.hid (kPeek_any hE s w hS)
  have hwl := hE.wl
  have HC := Lib.hid (fun W (hW : PP K W s) => hW.cells.2.2.2.1)
  have HF4 := Lib.hid (fun W (hW : PP K W s) => kFail_any hE s.next 4 s W hW)
  have HF2 := Lib.hid (fun W (hW : PP K W s) => kFail_any hE s.next 2 s W hW)
  have hps := peek_size hE s
  by_cases h0 : (peekS K.E s).size = 0
  · have e : eventS K.E s = (0, failS K.E s.next 4 s) := by unfold eventS; rw [if_pos (by rw [decide_eq_false (by rw [h0]; decide), Bool.false_and])]
    rw [e]
    have hi := emp_yes h0
    generalize peekS K.E s = p at *
    clear h0 e hS HF2 hps
    go_enter Tryz.func150, Tryz.ntmps150
    go_wp2_with fail
    refine HP.out.mono ?_
    rintro e w1 ⟨rfl, hS1⟩
    have HF1 := Lib.hid (HF4.out w1 hS1)
    have k6 := HC.out w1 hS1
    clear hS1
    go_wp2_with fail
    refine HF1.out.mono ?_
    rintro e w2 ⟨rfl, hS2⟩
    have HS2 := Lib.hid hS2
    clear hS2
    go_wp2
    go_ret
    exact ⟨rfl, HS2.out⟩
  · have hi := emp_no h0
    have hpos : 0 < (peekS K.E s).size := by omega
    have hlt := (peek_lt rfl (show peekS K.E s ≠ ⟨#[]⟩ from fun e => h0 (by rw [e]; rfl)) hS.nl).2
    have hhd := head_at hpos
    have HA := Lib.hid (fun W (hW : PP K W s) => hW.adv hlt)
    have HF6 := Lib.hid (fun W (hW : PP K W s) => hW.free 6)
    have hE1 : (decide ((peekS K.E s).size ≠ 0) && digN (headN (peekS K.E s))) = digN (headN (peekS K.E s)) := by rw [decide_eq_true h0, Bool.true_and]
    have hev : eventS K.E s = if digN (headN (peekS K.E s)) = false then (0, failS K.E s.next 4 s) else if 1 < (peekS K.E s).size ∨ 8 ≤ headN (peekS K.E s) - 48 then (0, failS K.E s.next 2 s) else (headN (peekS K.E s) - 48, s.adv) := by
      unfold eventS
      rw [hE1]
    rw [hev]
    clear hev hE1 h0
    rw [hhd]
    clear hhd
    generalize peekS K.E s = p at *
    have HD := Lib.hid (fun W => kDigit_any p[0].toNat W)
    cases hd : digN p[0].toNat with
    | false =>
      rw [if_pos rfl]
      rw [hd] at HD
      clear hd hS HF2 hps HA HF6 hlt
      go_enter Tryz.func150, Tryz.ntmps150
      go_wp2_with fail
      refine HP.out.mono ?_
      rintro e w1 ⟨rfl, hS1⟩
      have HF1 := Lib.hid (HF4.out w1 hS1)
      have k6 := HC.out w1 hS1
      clear hS1
      go_wp2_with fail
      refine (HD.out _).mono ?_
      rintro e w2 ⟨rfl, rfl⟩
      go_wp2_with fail
      refine HF1.out.mono ?_
      rintro e w2 ⟨rfl, hS2⟩
      have HS2 := Lib.hid hS2
      clear hS2
      go_wp2
      go_ret
      exact ⟨rfl, HS2.out⟩
    | true =>
      rw [if_neg (by decide)]
      rw [hd] at HD
      have hr := dig_range hd
      have hsub := u8_sub ⟨p[0].toNat, by omega⟩ hr.1
      dsimp only at hsub
      have hsub2 : ((p[0].toNat : Int) - 48) % 256 = (p[0].toNat : Int) - 48 := by omega
      by_cases hc : 1 < p.size
      · rw [if_pos (.inl hc)]
        have hd1 : decide ((1 : Int) < (p.size : Int)) = true := decide_eq_true (by omega)
        have hd2 : decide (1 < p.size) = true := decide_eq_true hc
        clear hd hS HF4 hps HA HF6 hlt hr hc
        go_enter Tryz.func150, Tryz.ntmps150
        go_wp2_with fail
        refine HP.out.mono ?_
        rintro e w1 ⟨rfl, hS1⟩
        have HF1 := Lib.hid (HF2.out w1 hS1)
        have k6 := HC.out w1 hS1
        clear hS1
        go_wp2_with fail
        refine (HD.out _).mono ?_
        rintro e w2 ⟨rfl, rfl⟩
        go_wp2_with fail
        refine HF1.out.mono ?_
        rintro e w2 ⟨rfl, hS2⟩
        have HS2 := Lib.hid hS2
        clear hS2
        go_wp2
        go_ret
        exact ⟨rfl, HS2.out⟩
      · have hd1 : decide ((1 : Int) < (p.size : Int)) = false := decide_eq_false (by omega)
        have hd2 : decide (1 < p.size) = false := decide_eq_false hc
        by_cases h8 : 8 ≤ p[0].toNat - 48
        · rw [if_pos (.inr h8)]
          have hd3 : decide ((8 : Int) ≤ (p[0].toNat : Int) - 48) = true := decide_eq_true (by omega)
          clear hd hS HF4 hps HA HF6 hlt hr hc h8
          go_enter Tryz.func150, Tryz.ntmps150
          go_wp2_with fail
          refine HP.out.mono ?_
          rintro e w1 ⟨rfl, hS1⟩
          have HF1 := Lib.hid (HF2.out w1 hS1)
          have k6 := HC.out w1 hS1
          clear hS1
          go_wp2_with fail
          refine (HD.out _).mono ?_
          rintro e w2 ⟨rfl, rfl⟩
          go_wp2_with fail
          refine HF1.out.mono ?_
          rintro e w2 ⟨rfl, hS2⟩
          have HS2 := Lib.hid hS2
          clear hS2
          go_wp2
          go_ret
          exact ⟨rfl, HS2.out⟩
        · rw [if_neg (by omega)]
          have hd3 : decide ((8 : Int) ≤ (p[0].toNat : Int) - 48) = false := decide_eq_false (by omega)
          have HV : Hid ((((p[0].toNat - 48 : Nat)) : Int) = (p[0].toNat : Int) - 48) := Lib.hid (by omega)
          obtain ⟨hw1, hw2⟩ := next_wrap (m := s.next) (by omega)
          have HC2 := Lib.hid (fun W (hW : PP K W s) => hW.cells.2.2.2.1)
          clear hd hS HF4 HF2 hps hlt hr hc h8 hwl
          generalize (s.next : Int) = m at *
          go_enter Tryz.func150, Tryz.ntmps150
          go_wp2_with fail
          refine HP.out.mono ?_
          rintro e w1 ⟨rfl, hS1⟩
          have HA1 := Lib.hid (HA.out w1 hS1)
          have k6 := HC.out w1 hS1
          have f6 := HF6.out w1 hS1
          clear hS1
          go_wp2_with fail
          refine (HD.out _).mono ?_
          rintro e w2 ⟨rfl, rfl⟩
          go_wp2
          go_ret
          exact ⟨by rw [HV.out]; rfl, HA1.out⟩
end Go.Proofs.YtenbhalnpiahaaaGreatDoor
/- Layer 6: the rules of the program's parser, one by one, on the rules that they call. -/
namespace Go.Proofs.YtenbhalnpiahaaaGreatDoor
open Go.RowKit Go.Proofs.Ws Go.Maps
/-- a method does what the machine does -/
def CtR (K : PK) (f : Nat) (R : RunS) : Prop := ∀ (s s' : SS) (v : Nat) (w : World), R s = some (v, s') → PP K w s →
  Calls Tryz.prog f #[.pointer (some ⟨K.bp, 0, none⟩)] w fun e w' => e = .returned (.int .i64 (v : Int)) ∧ PP K w' s'
/-- the same where there is a token -/
def CtA (K : PK) (f : Nat) (R : RunS) : Prop := ∀ (s s' : SS) (v : Nat) (w : World), s.next < K.E.P.ws.length → R s = some (v, s') → PP K w s →
  Calls Tryz.prog f #[.pointer (some ⟨K.bp, 0, none⟩)] w fun e w' => e = .returned (.int .i64 (v : Int)) ∧ PP K w' s'
def CtO (K : PK) (f : Nat) (op : Int) (R : RunS) : Prop := ∀ (s s' : SS) (v : Nat) (w : World), s.next < K.E.P.ws.length → R s = some (v, s') → PP K w s →
  Calls Tryz.prog f #[.pointer (some ⟨K.bp, 0, none⟩), .int .i64 op] w fun e w' => e = .returned (.int .i64 (v : Int)) ∧ PP K w' s'
/-- small fields -/
def Fld (x : Int) : Prop := 0 ≤ x ∧ x ≤ 1000000
theorem Fld.nat {n : Nat} (h : n ≤ 1000000) : Fld (n : Int) := ⟨by omega, by omega⟩
theorem Fld.wf {x : Int} (h : Fld x) : (Lit.int .i64 x).wf = true := WalkArith.wf_i64 (by have := h.1; have := h.2; omega)
theorem kAdd_agg {K : PK} (op i e g x y : Int) (ho : Fld op) (hi : Fld i) (he : Fld e) (hg : Fld g) (hx : Fld x) (hy : Fld y) {s s' : SS} {v : Nat} {w : World} (h : addS ⟨op, i, e, g, x, y⟩ s = some (v, s')) (hS : PP K w s) :
    Calls Tryz.prog 103 #[.pointer (some ⟨K.bp, 0, none⟩), .agg #[.int .i64 op, .int .i64 i, .int .i64 e, .int .i64 g, .int .i64 x, .int .i64 y]] w fun e w' => e = .returned (.int .i64 (v : Int)) ∧ PP K w' s' :=
  kAdd_any ⟨op, i, e, g, x, y⟩ s s' v w hS ⟨ho.wf, hi.wf, he.wf, hg.wf, hx.wf, hy.wf⟩ h
theorem Fld.zero : Fld 0 := ⟨by decide, by decide⟩
set_option maxRecDepth 100000 in
set_option maxHeartbeats 1000000 in
theorem kPlain_any {K : PK} (hE : PE K) {R : RunS} (hR : CtR K 132 R) (hle : ∀ s, LeS (R s)) (op : Int) (ho : Fld op) : CtO K 136 op (plainS R op) := by
  intro s s' v w hl h hS
  obtain ⟨x, s1, h1, h2⟩ := sbind_some h
  have hx := hle _ _ h1
  have H1 := Lib.hid h1
  have H2 := Lib.hid h2
  have HX := Lib.hid (Fld.nat hx)
  have HA := Lib.hid (hS.adv hl)
  have k6 := hS.cells.2.2.2.1
  have f6 := hS.free 6
  have hwl := hE.wl
  obtain ⟨hw1, hw2⟩ := next_wrap (m := s.next) (by omega)
  clear h h1 h2 hx hS hl hwl
  go_enter Tryz.func136, Tryz.ntmps136
  go_wp2_with fail
  refine (hR _ _ _ _ H1.out (HA.out)).mono ?_
  rintro e w1 ⟨rfl, hS1⟩
  have HS1 := Lib.hid hS1
  clear hS1
  go_wp2_with fail
  refine (kAdd_agg op 0 0 0 x 0 ho Fld.zero Fld.zero Fld.zero HX.out Fld.zero H2.out (HS1.out)).mono ?_
  rintro e w2 ⟨rfl, hS2⟩
  have HS2 := Lib.hid hS2
  clear hS2
  go_wp2
  go_ret
  exact ⟨rfl, HS2.out⟩
set_option maxRecDepth 100000 in
set_option maxHeartbeats 1000000 in
theorem kConstant_any {K : PK} (hE : PE K) (op : Int) (ho : Fld op) : CtO K 142 op (constS op) := by
  intro s s' v w hl h hS
  have H2 := Lib.hid (show addS ⟨op, 0, 0, 0, 0, 0⟩ s.adv = some (v, s') from h)
  have HA := Lib.hid (hS.adv hl)
  have k6 := hS.cells.2.2.2.1
  have f6 := hS.free 6
  have hwl := hE.wl
  obtain ⟨hw1, hw2⟩ := next_wrap (m := s.next) (by omega)
  clear h hS hl hwl
  go_enter Tryz.func142, Tryz.ntmps142
  go_wp2_with fail
  refine (kAdd_agg op 0 0 0 0 0 ho Fld.zero Fld.zero Fld.zero Fld.zero Fld.zero H2.out (HA.out)).mono ?_
  rintro e w1 ⟨rfl, hS1⟩
  have HS1 := Lib.hid hS1
  clear hS1
  go_wp2
  go_ret
  exact ⟨rfl, HS1.out⟩
set_option maxRecDepth 100000 in
set_option maxHeartbeats 1000000 in
theorem kEnclosed_any {K : PK} (hE : PE K) {F : RunS} (hF : CtR K 37 F) (_hlf : ∀ s, LeS (F s)) : CtA K 143 (enclosedS K.E F) := by
  intro s s' v w hl h hS
  obtain ⟨x, s1, h1, h2⟩ := sbind_some h
  injection h2 with h2
  injection h2 with h3 h4
  subst h3
  subst h4
  have H1 := Lib.hid h1
  have HA := Lib.hid (hS.adv hl)
  have k6 := hS.cells.2.2.2.1
  have f6 := hS.free 6
  have hwl := hE.wl
  obtain ⟨hw1, hw2⟩ := next_wrap (m := s.next) (by omega)
  clear h h1 hS hl hwl
  go_enter Tryz.func143, Tryz.ntmps143
  go_wp2_with fail
  refine (hF _ _ _ _ H1.out (HA.out)).mono ?_
  rintro e w1 ⟨rfl, hS1⟩
  have HS1 := Lib.hid hS1
  clear hS1
  go_wp2_with fail
  refine (kExpect_any hE ⟨#[41]⟩ (by decide) _ _ (HS1.out)).mono ?_
  rintro e w2 ⟨rfl, hS2⟩
  have HS2 := Lib.hid hS2
  clear hS2
  go_wp2
  go_ret
  exact ⟨rfl, HS2.out⟩
set_option maxRecDepth 100000 in
set_option maxHeartbeats 1000000 in
theorem kFact_any' {K : PK} (hE : PE K) : CtR K 144 (factS K.E) := by
  intro s s' v w h hS
  have HN := Lib.hid (kName_fact hE s w hS)
  have H2 := Lib.hid (show addS ⟨3, ((nameS K.E 0 s).1 : Nat), 0, 0, 0, 0⟩ (nameS K.E 0 s).2 = some (v, s') from h)
  have HI : Hid (Fld (((nameS K.E 0 s).1 : Nat) : Int)) := Lib.hid (Fld.nat (by have h1 := nameS_lt K.E 0 s; have h2 := (sigErr_ok hE.ok).2.1; have h3 : listS K.E 0 = K.E.P.F := rfl; rw [h3] at h1; omega))
  generalize nameS K.E 0 s = a at *
  clear h hS
  go_enter Tryz.func144, Tryz.ntmps144
  go_wp2_with fail
  refine (HN.out).mono ?_
  rintro e w1 ⟨rfl, hS1⟩
  have HS1 := Lib.hid hS1
  clear hS1
  go_wp2_with fail
  refine (kAdd_agg 3 (a.1 : Int) 0 0 0 0 (Fld.nat (n := 3) (by decide)) HI.out Fld.zero Fld.zero Fld.zero Fld.zero H2.out (HS1.out)).mono ?_
  rintro e w2 ⟨rfl, hS2⟩
  have HS2 := Lib.hid hS2
  clear hS2
  go_wp2
  go_ret
  exact ⟨rfl, HS2.out⟩
set_option maxRecDepth 100000 in
set_option maxHeartbeats 1000000 in
theorem kOfAgent_any {K : PK} (hE : PE K) {R : RunS} (hR : CtR K 132 R) (hle : ∀ s, LeS (R s)) (op : Int) (ho : Fld op) : CtO K 137 op (ofAgentS K.E R op) := by
  intro s s' v w hl h hS
  unfold ofAgentS at h
  have HAG := Lib.hid (fun W (hW : PP K W (expectS K.E ⟨#[91]⟩ s.adv)) => kAgent_any hE (expectS K.E ⟨#[91]⟩ s.adv) W hW)
  have HI : Hid (Fld (((nameS K.E 1 (expectS K.E ⟨#[91]⟩ s.adv)).1 : Nat) : Int)) := Lib.hid (Fld.nat (by have h1 := agent_lt (sigErr_ok hE.ok).1 (expectS K.E ⟨#[91]⟩ s.adv); omega))
  generalize nameS K.E 1 (expectS K.E ⟨#[91]⟩ s.adv) = a at *
  obtain ⟨x, s1, h1, h2⟩ := sbind_some h
  have hx := hle _ _ h1
  have H1 := Lib.hid h1
  have H2 := Lib.hid h2
  have HX := Lib.hid (Fld.nat hx)
  have HA := Lib.hid (hS.adv hl)
  have k6 := hS.cells.2.2.2.1
  have f6 := hS.free 6
  have hwl := hE.wl
  obtain ⟨hw1, hw2⟩ := next_wrap (m := s.next) (by omega)
  clear h h1 h2 hx hS hl hwl
  go_enter Tryz.func137, Tryz.ntmps137
  go_wp2_with fail
  refine (kExpect_any hE ⟨#[91]⟩ (by decide) _ _ (HA.out)).mono ?_
  rintro e w1 ⟨rfl, hS1⟩
  have HS1 := Lib.hid hS1
  clear hS1
  go_wp2_with fail
  refine (HAG.out _ (HS1.out)).mono ?_
  rintro e w2 ⟨rfl, hS2⟩
  have HS2 := Lib.hid hS2
  clear hS2
  go_wp2_with fail
  refine (kExpect_any hE ⟨#[93]⟩ (by decide) _ _ (HS2.out)).mono ?_
  rintro e w3 ⟨rfl, hS3⟩
  have HS3 := Lib.hid hS3
  clear hS3
  go_wp2_with fail
  refine (hR _ _ _ _ H1.out (HS3.out)).mono ?_
  rintro e w4 ⟨rfl, hS4⟩
  have HS4 := Lib.hid hS4
  clear hS4
  go_wp2_with fail
  refine (kAdd_agg op (a.1 : Int) 0 0 x 0 ho HI.out Fld.zero Fld.zero HX.out Fld.zero H2.out (HS4.out)).mono ?_
  rintro e w5 ⟨rfl, hS5⟩
  have HS5 := Lib.hid hS5
  clear hS5
  go_wp2
  go_ret
  exact ⟨rfl, HS5.out⟩
set_option maxRecDepth 100000 in
set_option maxHeartbeats 1000000 in
theorem kOfGroup_any {K : PK} (hE : PE K) {R : RunS} (hR : CtR K 132 R) (hle : ∀ s, LeS (R s)) (op : Int) (ho : Fld op) : CtO K 139 op (ofGroupS K.E R op) := by
  intro s s' v w hl h hS
  obtain ⟨g, s0, h0, h⟩ := sbind_some h
  obtain ⟨x, s1, h1, h2⟩ := sbind_some h
  have hx := hle _ _ h1
  have hg := agentsS_lt (sigErr_ok hE.ok).1 h0
  have H0 := Lib.hid h0
  have H1 := Lib.hid h1
  have H2 := Lib.hid h2
  have HX := Lib.hid (Fld.nat hx)
  have HG : Hid (Fld (g : Int)) := Lib.hid (Fld.nat (by dsimp only at hg; omega))
  have HA := Lib.hid (hS.adv hl)
  have k6 := hS.cells.2.2.2.1
  have f6 := hS.free 6
  have hwl := hE.wl
  obtain ⟨hw1, hw2⟩ := next_wrap (m := s.next) (by omega)
  clear h h0 h1 h2 hx hg hS hl hwl
  go_enter Tryz.func139, Tryz.ntmps139
  go_wp2_with fail
  refine (kExpect_any hE ⟨#[91]⟩ (by decide) _ _ (HA.out)).mono ?_
  rintro e w1 ⟨rfl, hS1⟩
  have HS1 := Lib.hid hS1
  clear hS1
  go_wp2_with fail
  refine (kAgents_any hE _ _ _ _ (HS1.out) H0.out).mono ?_
  rintro e w2 ⟨rfl, hS2⟩
  have HS2 := Lib.hid hS2
  clear hS2
  go_wp2_with fail
  refine (kExpect_any hE ⟨#[93]⟩ (by decide) _ _ (HS2.out)).mono ?_
  rintro e w3 ⟨rfl, hS3⟩
  have HS3 := Lib.hid hS3
  clear hS3
  go_wp2_with fail
  refine (hR _ _ _ _ H1.out (HS3.out)).mono ?_
  rintro e w4 ⟨rfl, hS4⟩
  have HS4 := Lib.hid hS4
  clear hS4
  go_wp2_with fail
  refine (kAdd_agg op 0 0 (g : Int) x 0 ho Fld.zero Fld.zero HG.out HX.out Fld.zero H2.out (HS4.out)).mono ?_
  rintro e w5 ⟨rfl, hS5⟩
  have HS5 := Lib.hid hS5
  clear hS5
  go_wp2
  go_ret
  exact ⟨rfl, HS5.out⟩
set_option maxRecDepth 100000 in
theorem kCondition_any {K : PK} (hE : PE K) {F : RunS} (hF : CtR K 37 F) : CtR K 147 (condS K.E F) := by
  intro s s' v w h hS
  have HC := Lib.hid (kAccept_any hE ⟨#[124]⟩ (by decide) s w hS)
  unfold condS at h
  by_cases hc : peekS K.E s = ⟨#[124]⟩
  · rw [if_pos hc] at h
    rw [decide_eq_true hc, if_pos hc] at HC
    have H1 := Lib.hid h
    clear h hc hS
    go_enter Tryz.func147, Tryz.ntmps147
    go_wp2_with fail
    refine HC.out.mono ?_
    rintro e w1 ⟨rfl, hS1⟩
    have HS1 := Lib.hid hS1
    clear hS1
    go_wp2_with fail
    refine (hF _ _ _ _ H1.out HS1.out).mono ?_
    rintro e w2 ⟨rfl, hS2⟩
    have HS2 := Lib.hid hS2
    clear hS2
    go_wp2
    go_ret
    exact ⟨rfl, HS2.out⟩
  · rw [if_neg hc] at h
    rw [decide_eq_false hc, if_neg hc] at HC
    have H1 := Lib.hid h
    clear h hc hS
    go_enter Tryz.func147, Tryz.ntmps147
    go_wp2_with fail
    refine HC.out.mono ?_
    rintro e w1 ⟨rfl, hS1⟩
    have HS1 := Lib.hid hS1
    clear hS1
    go_wp2_with fail
    refine (kAdd_agg 1 0 0 0 0 0 (Fld.nat (n := 1) (by decide)) Fld.zero Fld.zero Fld.zero Fld.zero Fld.zero H1.out HS1.out).mono ?_
    rintro e w2 ⟨rfl, hS2⟩
    have HS2 := Lib.hid hS2
    clear hS2
    go_wp2
    go_ret
    exact ⟨rfl, HS2.out⟩
theorem condS_le {E : SEnv} {F : RunS} (hlf : ∀ s, LeS (F s)) (s : SS) : LeS (condS E F s) := LeS.ite (hlf _) LeS.add
set_option maxRecDepth 100000 in
set_option maxHeartbeats 1000000 in
theorem kBelief_any {K : PK} (hE : PE K) {R : RunS} (hR : CtR K 132 R) (hle : ∀ s, LeS (R s)) {F : RunS} (hF : CtR K 37 F) (hlf : ∀ s, LeS (F s)) : CtA K 138 (beliefS K.E R F) := by
  intro s s' v w hl h hS
  unfold beliefS at h
  have HAG := Lib.hid (fun W (hW : PP K W (expectS K.E ⟨#[91]⟩ s.adv)) => kAgent_any hE (expectS K.E ⟨#[91]⟩ s.adv) W hW)
  have HI : Hid (Fld (((nameS K.E 1 (expectS K.E ⟨#[91]⟩ s.adv)).1 : Nat) : Int)) := Lib.hid (Fld.nat (by have h1 := agent_lt (sigErr_ok hE.ok).1 (expectS K.E ⟨#[91]⟩ s.adv); omega))
  generalize nameS K.E 1 (expectS K.E ⟨#[91]⟩ s.adv) = a at *
  obtain ⟨c, s0, h0, h⟩ := sbind_some h
  obtain ⟨x, s1, h1, h2⟩ := sbind_some h
  have hx := hle _ _ h1
  have hc := condS_le hlf _ _ h0
  have H0 := Lib.hid h0
  have H1 := Lib.hid h1
  have H2 := Lib.hid h2
  have HX := Lib.hid (Fld.nat hx)
  have HCC := Lib.hid (Fld.nat hc)
  have HA := Lib.hid (hS.adv hl)
  have k6 := hS.cells.2.2.2.1
  have f6 := hS.free 6
  have hwl := hE.wl
  obtain ⟨hw1, hw2⟩ := next_wrap (m := s.next) (by omega)
  clear h h0 h1 h2 hx hc hS hl hwl
  go_enter Tryz.func138, Tryz.ntmps138
  go_wp2_with fail
  refine (kExpect_any hE ⟨#[91]⟩ (by decide) _ _ (HA.out)).mono ?_
  rintro e w1 ⟨rfl, hS1⟩
  have HS1 := Lib.hid hS1
  clear hS1
  go_wp2_with fail
  refine (HAG.out _ (HS1.out)).mono ?_
  rintro e w2 ⟨rfl, hS2⟩
  have HS2 := Lib.hid hS2
  clear hS2
  go_wp2_with fail
  refine (kCondition_any hE hF _ _ _ _ H0.out (HS2.out)).mono ?_
  rintro e w3 ⟨rfl, hS3⟩
  have HS3 := Lib.hid hS3
  clear hS3
  go_wp2_with fail
  refine (kExpect_any hE ⟨#[93]⟩ (by decide) _ _ (HS3.out)).mono ?_
  rintro e w4 ⟨rfl, hS4⟩
  have HS4 := Lib.hid hS4
  clear hS4
  go_wp2_with fail
  refine (hR _ _ _ _ H1.out (HS4.out)).mono ?_
  rintro e w5 ⟨rfl, hS5⟩
  have HS5 := Lib.hid hS5
  clear hS5
  go_wp2_with fail
  refine (kAdd_agg 14 (a.1 : Int) 0 0 c x (Fld.nat (n := 14) (by decide)) HI.out Fld.zero Fld.zero HCC.out HX.out H2.out (HS5.out)).mono ?_
  rintro e w6 ⟨rfl, hS6⟩
  have HS6 := Lib.hid hS6
  clear hS6
  go_wp2
  go_ret
  exact ⟨rfl, HS6.out⟩
set_option maxRecDepth 100000 in
set_option maxHeartbeats 1000000 in
theorem kCommon_any {K : PK} (hE : PE K) {R : RunS} (hR : CtR K 132 R) (hle : ∀ s, LeS (R s)) {F : RunS} (hF : CtR K 37 F) (hlf : ∀ s, LeS (F s)) : CtA K 140 (commonS K.E R F) := by
  intro s s' v w hl h hS
  obtain ⟨g, sg, hgr, h⟩ := sbind_some h
  obtain ⟨c, s0, h0, h⟩ := sbind_some h
  obtain ⟨x, s1, h1, h2⟩ := sbind_some h
  have hx := hle _ _ h1
  have hc := condS_le hlf _ _ h0
  have hg := agentsS_lt (sigErr_ok hE.ok).1 hgr
  have HGR := Lib.hid hgr
  have H0 := Lib.hid h0
  have H1 := Lib.hid h1
  have H2 := Lib.hid h2
  have HX := Lib.hid (Fld.nat hx)
  have HCC := Lib.hid (Fld.nat hc)
  have HG : Hid (Fld (g : Int)) := Lib.hid (Fld.nat (by dsimp only at hg; omega))
  have HA := Lib.hid (hS.adv hl)
  have k6 := hS.cells.2.2.2.1
  have f6 := hS.free 6
  have hwl := hE.wl
  obtain ⟨hw1, hw2⟩ := next_wrap (m := s.next) (by omega)
  clear h hgr h0 h1 h2 hx hc hg hS hl hwl
  go_enter Tryz.func140, Tryz.ntmps140
  go_wp2_with fail
  refine (kExpect_any hE ⟨#[91]⟩ (by decide) _ _ (HA.out)).mono ?_
  rintro e w1 ⟨rfl, hS1⟩
  have HS1 := Lib.hid hS1
  clear hS1
  go_wp2_with fail
  refine (kAgents_any hE _ _ _ _ (HS1.out) HGR.out).mono ?_
  rintro e w2 ⟨rfl, hS2⟩
  have HS2 := Lib.hid hS2
  clear hS2
  go_wp2_with fail
  refine (kCondition_any hE hF _ _ _ _ H0.out (HS2.out)).mono ?_
  rintro e w3 ⟨rfl, hS3⟩
  have HS3 := Lib.hid hS3
  clear hS3
  go_wp2_with fail
  refine (kExpect_any hE ⟨#[93]⟩ (by decide) _ _ (HS3.out)).mono ?_
  rintro e w4 ⟨rfl, hS4⟩
  have HS4 := Lib.hid hS4
  clear hS4
  go_wp2_with fail
  refine (hR _ _ _ _ H1.out (HS4.out)).mono ?_
  rintro e w5 ⟨rfl, hS5⟩
  have HS5 := Lib.hid hS5
  clear hS5
  go_wp2_with fail
  refine (kAdd_agg 13 0 0 (g : Int) c x (Fld.nat (n := 13) (by decide)) Fld.zero Fld.zero HG.out HCC.out HX.out H2.out (HS5.out)).mono ?_
  rintro e w6 ⟨rfl, hS6⟩
  have HS6 := Lib.hid hS6
  clear hS6
  go_wp2
  go_ret
  exact ⟨rfl, HS6.out⟩
end Go.Proofs.YtenbhalnpiahaaaGreatDoor
/- Layer 6 as plain mathematics: the machine never goes back. -/
namespace Go.Proofs.Ws
open Go
def Up (m : Nat) (o : Option (Nat × SS)) : Prop := ∀ p, o = some p → m ≤ p.2.next
theorem Up.mono {m m' : Nat} {o : Option (Nat × SS)} (h : Up m o) (hm : m' ≤ m) : Up m' o := fun p hp => Nat.le_trans hm (h p hp)
theorem Up.add {m : Nat} {n : Nd} {s : SS} (h : m ≤ s.next) : Up m (addS n s) := fun p hp => by
  obtain ⟨_, _, h3⟩ := addS_some (v := p.1) (s' := p.2) hp
  rw [h3]; exact h
theorem Up.bind {m : Nat} {a : Option (Nat × SS)} {k : Nat → SS → Option (Nat × SS)} (ha : Up m a) (hk : ∀ x s, m ≤ s.next → Up m (k x s)) : Up m (sbind a k) := fun p h => by
  obtain ⟨x, s, h1, h2⟩ := sbind_some h
  exact hk x s (ha _ h1) p h2
theorem Up.some {m x : Nat} {s : SS} (h : m ≤ s.next) : Up m (Option.some (x, s)) := fun p hp => by injection hp with hp; rw [← hp]; exact h
theorem Up.ite {m : Nat} {c : Prop} [Decidable c] {a b : Option (Nat × SS)} (h1 : Up m a) (h2 : Up m b) : Up m (if c then a else b) := by split <;> assumption
theorem expectS_next (E : SEnv) (w : ByteArray) (s : SS) : s.next ≤ (expectS E w s).next := by
  unfold expectS
  split
  · exact Nat.le_succ _
  · rw [failS_next]; exact Nat.le_refl _
theorem eventS_next (E : SEnv) (s : SS) : s.next ≤ (eventS E s).2.next := by
  unfold eventS
  split
  · show _ ≤ (failS E s.next 4 s).next; rw [failS_next]; exact Nat.le_refl _
  · split
    · show _ ≤ (failS E s.next 2 s).next; rw [failS_next]; exact Nat.le_refl _
    · exact Nat.le_succ _
theorem adv_next (s : SS) : s.next ≤ s.adv.next := Nat.le_succ _
theorem Up.agentsL {E : SEnv} : ∀ (n g m : Nat) (s : SS), m ≤ s.next → Up m (agentsLS E n g s) := by
  intro n
  induction n with
  | zero => intro g m s _ p h; exact absurd h (by simp [agentsLS])
  | succ n ih =>
    intro g m s h
    unfold agentsLS
    exact Up.ite (ih _ _ _ (Nat.le_trans h (Nat.le_trans (adv_next s) (oneS_next E g s.adv)))) (Up.some h)
theorem Up.agents {E : SEnv} {m : Nat} {s : SS} (h : m ≤ s.next) : Up m (agentsS E s) := Up.agentsL _ _ _ _ (Nat.le_trans h (nameS_next E 1 s))
def UpR (R : RunS) : Prop := ∀ m s, m ≤ s.next → Up m (R s)
theorem UpR.left {E : SEnv} {w : ByteArray} {op : Int} {R : RunS} {L : Nat → RunS} {x : Nat} (hR : UpR R) (hL : ∀ k, UpR (L k)) : UpR (leftS E w op R L x) := fun m s h =>
  Up.ite (Up.bind (hR m s.adv (Nat.le_trans h (adv_next s))) (fun _y _s h => Up.bind (Up.add h) (fun k s h => hL k m s h))) (Up.some h)
theorem UpR.pre {E : SEnv} {R F : RunS} (hR : UpR R) (hF : UpR F) : UpR (preS E R F) := by
  have ha : ∀ {m : Nat} {s : SS}, m ≤ s.next → m ≤ s.adv.next := fun h => Nat.le_trans h (adv_next _)
  have he : ∀ {m : Nat} {s : SS} (w), m ≤ s.next → m ≤ (expectS E w s).next := fun w h => Nat.le_trans h (expectS_next E w _)
  have hn : ∀ {m : Nat} {s : SS} (w), m ≤ s.next → m ≤ (nameS E w s).2.next := fun w h => Nat.le_trans h (nameS_next E w _)
  have hv : ∀ {m : Nat} {s : SS}, m ≤ s.next → m ≤ (eventS E s).2.next := fun h => Nat.le_trans h (eventS_next E _)
  have hp : ∀ op, UpR (plainS R op) := fun op m s h => Up.bind (hR m _ (ha h)) (fun x s h => Up.add h)
  have hag : ∀ op, UpR (ofAgentS E R op) := fun op m s h => Up.bind (hR m _ (he _ (hn _ (he _ (ha h))))) (fun x s h => Up.add h)
  have hg : ∀ op, UpR (ofGroupS E R op) := fun op m s h => Up.bind (Up.agents (he _ (ha h))) (fun g s h => Up.bind (hR m _ (he _ h)) (fun x s h => Up.add h))
  have hcd : UpR (condS E F) := fun m s h => Up.ite (hF m _ (ha h)) (Up.add h)
  have hb : UpR (beliefS E R F) := fun m s h => Up.bind (hcd m _ (hn _ (he _ (ha h)))) (fun c s h => Up.bind (hR m _ (he _ h)) (fun x s h => Up.add h))
  have hc : UpR (commonS E R F) := fun m s h => Up.bind (Up.agents (he _ (ha h))) (fun g s h => Up.bind (hcd m _ h) (fun c s h => Up.bind (hR m _ (he _ h)) (fun x s h => Up.add h)))
  have hnn : UpR (announceS E R F) := fun m s h => Up.bind (hF m _ h) (fun c s h => Up.bind (hR m _ (he _ h)) (fun x s h => Up.add h))
  have ht : UpR (actS E R) := fun m s h => Up.bind (hR m _ (he _ (hv (he _ (hn _ h))))) (fun x s h => Up.add h)
  have hu : UpR (updateS E R F) := fun m s h => Up.ite (hnn m _ (ha (ha h))) (ht m _ (ha h))
  have hk : ∀ op, UpR (constS op) := fun op m s h => Up.add (ha h)
  have hen : UpR (enclosedS E F) := fun m s h => Up.bind (hF m _ (ha h)) (fun x s h => Up.some (he _ h))
  have hf : UpR (factS E) := fun m s h => Up.add (hn _ h)
  intro m s h
  unfold preS
  exact Up.ite (hp _ _ _ h) (Up.ite (hp _ _ _ h) (Up.ite (hp _ _ _ h) (Up.ite (hag _ _ _ h) (Up.ite (hag _ _ _ h) (Up.ite (hag _ _ _ h) (Up.ite (hb _ _ h) (Up.ite (hg _ _ _ h) (Up.ite (hg _ _ _ h) (Up.ite (hc _ _ h) (Up.ite (hu _ _ h) (Up.ite (hk _ _ _ h) (Up.ite (hk _ _ _ h) (Up.ite (hen _ _ h) (hf _ _ h))))))))))))))
theorem mS_up (E : SEnv) : ∀ (n : Nat) (rule : Rule), UpR (mS E n rule) := by
  intro n
  induction n with
  | zero => intro rule m s _ p h; exact absurd h (by simp [mS])
  | succ n ih =>
    intro rule
    have ha : ∀ {m : Nat} {s : SS}, m ≤ s.next → m ≤ s.adv.next := fun h => Nat.le_trans h (adv_next _)
    cases rule with
    | formula => exact fun m s h => Up.bind (ih .implies m s h) (fun x s h => ih (.iffL x) m s h)
    | or => exact fun m s h => Up.bind (ih .and m s h) (fun x s h => ih (.orL x) m s h)
    | and => exact fun m s h => Up.bind (ih .pre m s h) (fun x s h => ih (.andL x) m s h)
    | iffL x => exact UpR.left (ih .implies) (fun k => ih (.iffL k))
    | orL x => exact UpR.left (ih .and) (fun k => ih (.orL k))
    | andL x => exact UpR.left (ih .pre) (fun k => ih (.andL k))
    | implies =>
      intro m s h
      unfold mS
      exact Up.bind (ih .time m s h) (fun x s h => Up.ite (Up.bind (ih .implies m _ (ha h)) (fun y s h => Up.add h)) (Up.some h))
    | time =>
      intro m s h
      unfold mS
      exact Up.bind (ih .or m s h) (fun x s h => Up.ite (Up.bind (ih .time m _ (ha h)) (fun y s h => Up.add h)) (Up.ite (Up.bind (ih .time m _ (ha h)) (fun y s h => Up.add h)) (Up.some h)))
    | pre => exact UpR.pre (ih .pre) (ih .formula)
end Go.Proofs.Ws
/- Layer 6: the rules of the program's parser with choices. -/
namespace Go.Proofs.YtenbhalnpiahaaaGreatDoor
open Go.RowKit Go.Proofs.Ws Go.Maps
set_option maxRecDepth 100000 in
set_option maxHeartbeats 1000000 in
theorem kUpdate_any {K : PK} (hE : PE K) {R : RunS} (hR : CtR K 132 R) (hle : ∀ s, LeS (R s)) {F : RunS} (hF : CtR K 37 F) (hlf : ∀ s, LeS (F s)) : CtA K 141 (updateS K.E R F) := by
  intro s s' v w hl h hS
  unfold updateS at h
  have HA := Lib.hid (hS.adv hl)
  have k6 := hS.cells.2.2.2.1
  have f6 := hS.free 6
  have hwl := hE.wl
  obtain ⟨hw1, hw2⟩ := next_wrap (m := s.next) (by omega)
  have HC := Lib.hid (kAccept_any hE ⟨#[33]⟩ (by decide) s.adv _ HA.out)
  by_cases hc : peekS K.E s.adv = ⟨#[33]⟩
  · rw [if_pos hc] at h
    rw [decide_eq_true hc, if_pos hc] at HC
    obtain ⟨c, s0, h0, h⟩ := sbind_some h
    obtain ⟨x, s1, h1, h2⟩ := sbind_some h
    have hx := hle _ _ h1
    have hcc := hlf _ _ h0
    have H0 := Lib.hid h0
    have H1 := Lib.hid h1
    have H2 := Lib.hid h2
    have HX := Lib.hid (Fld.nat hx)
    have HCC := Lib.hid (Fld.nat hcc)
    clear h h0 h1 h2 hx hcc hc hS hl hwl
    go_enter Tryz.func141, Tryz.ntmps141
    go_wp2_with fail
    refine (HC.out).mono ?_
    rintro e w1 ⟨rfl, hS1⟩
    have HS1 := Lib.hid hS1
    clear hS1
    go_wp2_with fail
    refine (hF _ _ _ _ H0.out (HS1.out)).mono ?_
    rintro e w2 ⟨rfl, hS2⟩
    have HS2 := Lib.hid hS2
    clear hS2
    go_wp2_with fail
    refine (kExpect_any hE ⟨#[93]⟩ (by decide) _ _ (HS2.out)).mono ?_
    rintro e w3 ⟨rfl, hS3⟩
    have HS3 := Lib.hid hS3
    clear hS3
    go_wp2_with fail
    refine (hR _ _ _ _ H1.out (HS3.out)).mono ?_
    rintro e w4 ⟨rfl, hS4⟩
    have HS4 := Lib.hid hS4
    clear hS4
    go_wp2_with fail
    refine (kAdd_agg 16 0 0 0 c x (Fld.nat (n := 16) (by decide)) Fld.zero Fld.zero Fld.zero HCC.out HX.out H2.out (HS4.out)).mono ?_
    rintro e w5 ⟨rfl, hS5⟩
    have HS5 := Lib.hid hS5
    clear hS5
    go_wp2
    go_ret
    exact ⟨rfl, HS5.out⟩
  · rw [if_neg hc] at h
    rw [decide_eq_false hc, if_neg hc] at HC
    unfold actS at h
    have HAG := Lib.hid (fun W (hW : PP K W s.adv) => kAction_any hE s.adv W hW)
    have HI : Hid (Fld (((nameS K.E 2 s.adv).1 : Nat) : Int)) := Lib.hid (Fld.nat (by have h1 := nameS_lt K.E 2 s.adv; have h2 := (sigErr_ok hE.ok).2.2.1; have h3 : listS K.E 2 = K.E.P.X := rfl; rw [h3] at h1; omega))
    have HV := Lib.hid (fun W (hW : PP K W (expectS K.E ⟨#[46]⟩ (nameS K.E 2 s.adv).2)) => kEvent_any hE _ W hW)
    have HJ : Hid (Fld (((eventS K.E (expectS K.E ⟨#[46]⟩ (nameS K.E 2 s.adv).2)).1 : Nat) : Int)) := Lib.hid (Fld.nat (by have h1 := eventS_lt K.E (expectS K.E ⟨#[46]⟩ (nameS K.E 2 s.adv).2); omega))
    generalize eventS K.E (expectS K.E ⟨#[46]⟩ (nameS K.E 2 s.adv).2) = b at *
    generalize nameS K.E 2 s.adv = a at *
    obtain ⟨x, s1, h1, h2⟩ := sbind_some h
    have hx := hle _ _ h1
    have H1 := Lib.hid h1
    have H2 := Lib.hid h2
    have HX := Lib.hid (Fld.nat hx)
    clear h h1 h2 hx hc hS hl hwl
    go_enter Tryz.func141, Tryz.ntmps141
    go_wp2_with fail
    refine (HC.out).mono ?_
    rintro e w1 ⟨rfl, hS1⟩
    have HS1 := Lib.hid hS1
    clear hS1
    go_wp2_with fail
    refine (HAG.out _ (HS1.out)).mono ?_
    rintro e w2 ⟨rfl, hS2⟩
    have HS2 := Lib.hid hS2
    clear hS2
    go_wp2_with fail
    refine (kExpect_any hE ⟨#[46]⟩ (by decide) _ _ (HS2.out)).mono ?_
    rintro e w3 ⟨rfl, hS3⟩
    have HS3 := Lib.hid hS3
    clear hS3
    go_wp2_with fail
    refine (HV.out _ (HS3.out)).mono ?_
    rintro e w4 ⟨rfl, hS4⟩
    have HS4 := Lib.hid hS4
    clear hS4
    go_wp2_with fail
    refine (kExpect_any hE ⟨#[93]⟩ (by decide) _ _ (HS4.out)).mono ?_
    rintro e w5 ⟨rfl, hS5⟩
    have HS5 := Lib.hid hS5
    clear hS5
    go_wp2_with fail
    refine (hR _ _ _ _ H1.out (HS5.out)).mono ?_
    rintro e w6 ⟨rfl, hS6⟩
    have HS6 := Lib.hid hS6
    clear hS6
    go_wp2_with fail
    refine (kAdd_agg 17 (a.1 : Int) (b.1 : Int) 0 x 0 (Fld.nat (n := 17) (by decide)) HI.out HJ.out Fld.zero HX.out Fld.zero H2.out (HS6.out)).mono ?_
    rintro e w7 ⟨rfl, hS7⟩
    have HS7 := Lib.hid hS7
    clear hS7
    go_wp2
    go_ret
    exact ⟨rfl, HS7.out⟩
set_option maxRecDepth 100000 in
set_option maxHeartbeats 1000000 in
theorem kImplies_any {K : PK} (hE : PE K) {T I : RunS} (hT : CtR K 104 T) (hlt : ∀ s, LeS (T s)) (hI : CtR K 73 I) (hli : ∀ s, LeS (I s)) :
    CtR K 73 (fun s => sbind (T s) fun x s => if peekS K.E s = ⟨#[45, 62]⟩ then sbind (I s.adv) fun y s => addS ⟨7, 0, 0, 0, x, y⟩ s else some (x, s)) := by
  intro s s' v w h hS
  obtain ⟨x, s1, h1, h⟩ := sbind_some h
  have hx := hlt _ _ h1
  have HX := Lib.hid (Fld.nat hx)
  have H1 := Lib.hid h1
  have HT := Lib.hid (hT _ _ _ _ h1 hS)
  have HC := Lib.hid (fun W (hW : PP K W s1) => kAccept_any hE ⟨#[45, 62]⟩ (by decide) s1 W hW)
  by_cases hc : peekS K.E s1 = ⟨#[45, 62]⟩
  · rw [if_pos hc] at h
    rw [decide_eq_true hc, if_pos hc] at HC
    obtain ⟨y, s2, h2, h3⟩ := sbind_some h
    have hy := hli _ _ h2
    have H2 := Lib.hid h2
    have H3 := Lib.hid h3
    have HY := Lib.hid (Fld.nat hy)
    clear h h1 h2 h3 hx hy hc hS
    go_enter Tryz.func73, Tryz.ntmps73
    go_wp2_with fail
    refine (HT.out).mono ?_
    rintro e w1 ⟨rfl, hS1⟩
    have HS1 := Lib.hid hS1
    clear hS1
    go_wp2_with fail
    refine (HC.out _ (HS1.out)).mono ?_
    rintro e w2 ⟨rfl, hS2⟩
    have HS2 := Lib.hid hS2
    clear hS2
    go_wp2_with fail
    refine (hI _ _ _ _ H2.out (HS2.out)).mono ?_
    rintro e w3 ⟨rfl, hS3⟩
    have HS3 := Lib.hid hS3
    clear hS3
    go_wp2_with fail
    refine (kAdd_agg 7 0 0 0 x y (Fld.nat (n := 7) (by decide)) Fld.zero Fld.zero Fld.zero HX.out HY.out H3.out (HS3.out)).mono ?_
    rintro e w4 ⟨rfl, hS4⟩
    have HS4 := Lib.hid hS4
    clear hS4
    go_wp2
    go_ret
    exact ⟨rfl, HS4.out⟩
  · rw [if_neg hc] at h
    rw [decide_eq_false hc, if_neg hc] at HC
    injection h with h
    injection h with h2 h3
    subst h2
    subst h3
    clear h1 hx hc hS
    go_enter Tryz.func73, Tryz.ntmps73
    go_wp2_with fail
    refine (HT.out).mono ?_
    rintro e w1 ⟨rfl, hS1⟩
    have HS1 := Lib.hid hS1
    clear hS1
    go_wp2_with fail
    refine (HC.out _ (HS1.out)).mono ?_
    rintro e w2 ⟨rfl, hS2⟩
    have HS2 := Lib.hid hS2
    clear hS2
    go_wp2
    go_ret
    exact ⟨rfl, HS2.out⟩
set_option maxRecDepth 100000 in
set_option maxHeartbeats 1000000 in
theorem kTime_any {K : PK} (hE : PE K) {O I : RunS} (hO : CtR K 118 O) (hlo : ∀ s, LeS (O s)) (hI : CtR K 104 I) (hli : ∀ s, LeS (I s)) :
    CtR K 104 (fun s => sbind (O s) fun x s => if peekS K.E s = ⟨#[117, 110, 116, 105, 108]⟩ then sbind (I s.adv) fun y s => addS ⟨19, 0, 0, 0, x, y⟩ s
      else if peekS K.E s = ⟨#[115, 105, 110, 99, 101]⟩ then sbind (I s.adv) fun y s => addS ⟨21, 0, 0, 0, x, y⟩ s else some (x, s)) := by
  intro s s' v w h hS
  obtain ⟨x, s1, h1, h⟩ := sbind_some h
  have hx := hlo _ _ h1
  have HX := Lib.hid (Fld.nat hx)
  have HT := Lib.hid (hO _ _ _ _ h1 hS)
  have HC := Lib.hid (fun W (hW : PP K W s1) => kAccept_any hE ⟨#[117, 110, 116, 105, 108]⟩ (by decide) s1 W hW)
  have HC2 := Lib.hid (fun W (hW : PP K W s1) => kAccept_any hE ⟨#[115, 105, 110, 99, 101]⟩ (by decide) s1 W hW)
  by_cases hc : peekS K.E s1 = ⟨#[117, 110, 116, 105, 108]⟩
  · rw [if_pos hc] at h
    rw [decide_eq_true hc, if_pos hc] at HC
    obtain ⟨y, s2, h2, h3⟩ := sbind_some h
    have hy := hli _ _ h2
    have H2 := Lib.hid h2
    have H3 := Lib.hid h3
    have HY := Lib.hid (Fld.nat hy)
    clear h h1 h2 h3 hx hy hc hS HC2
    go_enter Tryz.func104, Tryz.ntmps104
    go_wp2_with fail
    refine (HT.out).mono ?_
    rintro e w1 ⟨rfl, hS1⟩
    have HS1 := Lib.hid hS1
    clear hS1
    go_wp2_with fail
    refine (HC.out _ (HS1.out)).mono ?_
    rintro e w2 ⟨rfl, hS2⟩
    have HS2 := Lib.hid hS2
    clear hS2
    go_wp2_with fail
    refine (hI _ _ _ _ H2.out (HS2.out)).mono ?_
    rintro e w3 ⟨rfl, hS3⟩
    have HS3 := Lib.hid hS3
    clear hS3
    go_wp2_with fail
    refine (kAdd_agg 19 0 0 0 x y (Fld.nat (n := 19) (by decide)) Fld.zero Fld.zero Fld.zero HX.out HY.out H3.out (HS3.out)).mono ?_
    rintro e w4 ⟨rfl, hS4⟩
    have HS4 := Lib.hid hS4
    clear hS4
    go_wp2
    go_ret
    exact ⟨rfl, HS4.out⟩
  · rw [if_neg hc] at h
    rw [decide_eq_false hc, if_neg hc] at HC
    by_cases hc2 : peekS K.E s1 = ⟨#[115, 105, 110, 99, 101]⟩
    · rw [if_pos hc2] at h
      rw [decide_eq_true hc2, if_pos hc2] at HC2
      obtain ⟨y, s2, h2, h3⟩ := sbind_some h
      have hy := hli _ _ h2
      have H2 := Lib.hid h2
      have H3 := Lib.hid h3
      have HY := Lib.hid (Fld.nat hy)
      clear h h1 h2 h3 hx hy hc hc2 hS
      go_enter Tryz.func104, Tryz.ntmps104
      go_wp2_with fail
      refine (HT.out).mono ?_
      rintro e w1 ⟨rfl, hS1⟩
      have HS1 := Lib.hid hS1
      clear hS1
      go_wp2_with fail
      refine (HC.out _ (HS1.out)).mono ?_
      rintro e w2 ⟨rfl, hS2⟩
      have HS2 := Lib.hid hS2
      clear hS2
      go_wp2_with fail
      refine (HC2.out _ (HS2.out)).mono ?_
      rintro e w3 ⟨rfl, hS3⟩
      have HS3 := Lib.hid hS3
      clear hS3
      go_wp2_with fail
      refine (hI _ _ _ _ H2.out (HS3.out)).mono ?_
      rintro e w4 ⟨rfl, hS4⟩
      have HS4 := Lib.hid hS4
      clear hS4
      go_wp2_with fail
      refine (kAdd_agg 21 0 0 0 x y (Fld.nat (n := 21) (by decide)) Fld.zero Fld.zero Fld.zero HX.out HY.out H3.out (HS4.out)).mono ?_
      rintro e w5 ⟨rfl, hS5⟩
      have HS5 := Lib.hid hS5
      clear hS5
      go_wp2
      go_ret
      exact ⟨rfl, HS5.out⟩
    · rw [if_neg hc2] at h
      rw [decide_eq_false hc2, if_neg hc2] at HC2
      injection h with h
      injection h with h2 h3
      subst h2
      subst h3
      clear h1 hx hc hc2 hS
      go_enter Tryz.func104, Tryz.ntmps104
      go_wp2_with fail
      refine (HT.out).mono ?_
      rintro e w1 ⟨rfl, hS1⟩
      have HS1 := Lib.hid hS1
      clear hS1
      go_wp2_with fail
      refine (HC.out _ (HS1.out)).mono ?_
      rintro e w2 ⟨rfl, hS2⟩
      have HS2 := Lib.hid hS2
      clear hS2
      go_wp2_with fail
      refine (HC2.out _ (HS2.out)).mono ?_
      rintro e w3 ⟨rfl, hS3⟩
      have HS3 := Lib.hid hS3
      clear hS3
      go_wp2
      go_ret
      exact ⟨rfl, HS3.out⟩
set_option maxRecDepth 100000 in
set_option maxHeartbeats 4000000 in
theorem kPrefix_any' {K : PK} (hE : PE K) {R : RunS} (hR : CtR K 132 R) (hle : ∀ s, LeS (R s)) {F : RunS} (hF : CtR K 37 F) (hlf : ∀ s, LeS (F s)) : CtR K 132 (preS K.E R F) := by
  intro s s' v w h hS
  have HP := Lib.hid (kPeek_any hE s w hS)
  have hnl := hS.nl
  unfold preS at h
  by_cases c1 : peekS K.E s = ⟨#[126]⟩
  · rw [if_pos c1] at h
    have hlt := (peek_lt c1 (by decide) hnl).2
    have HM := Lib.hid (fun W (hW : PP K W s) => (kPlain_any hE hR hle 4 (Fld.nat (n := 4) (by decide))) _ _ _ W hlt h hW)
    rw [c1] at HP
    clear h hS hnl hlt c1
    go_enter Tryz.func132, Tryz.ntmps132
    go_wp2_with fail
    refine HP.out.mono ?_
    rintro e w1 ⟨rfl, hS1⟩
    have HM1 := Lib.hid (HM.out w1 hS1)
    clear hS1
    go_wp2_with fail
    refine HM1.out.mono ?_
    rintro e w2 ⟨rfl, hS2⟩
    have HS2 := Lib.hid hS2
    clear hS2
    go_wp2
    go_ret
    exact ⟨rfl, HS2.out⟩
  rw [if_neg c1] at h
  by_cases c2 : peekS K.E s = ⟨#[110, 101, 120, 116]⟩
  · rw [if_pos c2] at h
    have hlt := (peek_lt c2 (by decide) hnl).2
    have HM := Lib.hid (fun W (hW : PP K W s) => (kPlain_any hE hR hle 18 (Fld.nat (n := 18) (by decide))) _ _ _ W hlt h hW)
    rw [c2] at HP
    clear h hS hnl hlt c1 c2
    go_enter Tryz.func132, Tryz.ntmps132
    go_wp2_with fail
    refine HP.out.mono ?_
    rintro e w1 ⟨rfl, hS1⟩
    have HM1 := Lib.hid (HM.out w1 hS1)
    clear hS1
    go_wp2_with fail
    refine HM1.out.mono ?_
    rintro e w2 ⟨rfl, hS2⟩
    have HS2 := Lib.hid hS2
    clear hS2
    go_wp2
    go_ret
    exact ⟨rfl, HS2.out⟩
  rw [if_neg c2] at h
  by_cases c3 : peekS K.E s = ⟨#[112, 114, 101, 118]⟩
  · rw [if_pos c3] at h
    have hlt := (peek_lt c3 (by decide) hnl).2
    have HM := Lib.hid (fun W (hW : PP K W s) => (kPlain_any hE hR hle 20 (Fld.nat (n := 20) (by decide))) _ _ _ W hlt h hW)
    rw [c3] at HP
    clear h hS hnl hlt c1 c2 c3
    go_enter Tryz.func132, Tryz.ntmps132
    go_wp2_with fail
    refine HP.out.mono ?_
    rintro e w1 ⟨rfl, hS1⟩
    have HM1 := Lib.hid (HM.out w1 hS1)
    clear hS1
    go_wp2_with fail
    refine HM1.out.mono ?_
    rintro e w2 ⟨rfl, hS2⟩
    have HS2 := Lib.hid hS2
    clear hS2
    go_wp2
    go_ret
    exact ⟨rfl, HS2.out⟩
  rw [if_neg c3] at h
  by_cases c4 : peekS K.E s = ⟨#[75]⟩
  · rw [if_pos c4] at h
    have hlt := (peek_lt c4 (by decide) hnl).2
    have HM := Lib.hid (fun W (hW : PP K W s) => (kOfAgent_any hE hR hle 9 (Fld.nat (n := 9) (by decide))) _ _ _ W hlt h hW)
    rw [c4] at HP
    clear h hS hnl hlt c1 c2 c3 c4
    go_enter Tryz.func132, Tryz.ntmps132
    go_wp2_with fail
    refine HP.out.mono ?_
    rintro e w1 ⟨rfl, hS1⟩
    have HM1 := Lib.hid (HM.out w1 hS1)
    clear hS1
    go_wp2_with fail
    refine HM1.out.mono ?_
    rintro e w2 ⟨rfl, hS2⟩
    have HS2 := Lib.hid hS2
    clear hS2
    go_wp2
    go_ret
    exact ⟨rfl, HS2.out⟩
  rw [if_neg c4] at h
  by_cases c5 : peekS K.E s = ⟨#[77]⟩
  · rw [if_pos c5] at h
    have hlt := (peek_lt c5 (by decide) hnl).2
    have HM := Lib.hid (fun W (hW : PP K W s) => (kOfAgent_any hE hR hle 10 (Fld.nat (n := 10) (by decide))) _ _ _ W hlt h hW)
    rw [c5] at HP
    clear h hS hnl hlt c1 c2 c3 c4 c5
    go_enter Tryz.func132, Tryz.ntmps132
    go_wp2_with fail
    refine HP.out.mono ?_
    rintro e w1 ⟨rfl, hS1⟩
    have HM1 := Lib.hid (HM.out w1 hS1)
    clear hS1
    go_wp2_with fail
    refine HM1.out.mono ?_
    rintro e w2 ⟨rfl, hS2⟩
    have HS2 := Lib.hid hS2
    clear hS2
    go_wp2
    go_ret
    exact ⟨rfl, HS2.out⟩
  rw [if_neg c5] at h
  by_cases c6 : peekS K.E s = ⟨#[83]⟩
  · rw [if_pos c6] at h
    have hlt := (peek_lt c6 (by decide) hnl).2
    have HM := Lib.hid (fun W (hW : PP K W s) => (kOfAgent_any hE hR hle 15 (Fld.nat (n := 15) (by decide))) _ _ _ W hlt h hW)
    rw [c6] at HP
    clear h hS hnl hlt c1 c2 c3 c4 c5 c6
    go_enter Tryz.func132, Tryz.ntmps132
    go_wp2_with fail
    refine HP.out.mono ?_
    rintro e w1 ⟨rfl, hS1⟩
    have HM1 := Lib.hid (HM.out w1 hS1)
    clear hS1
    go_wp2_with fail
    refine HM1.out.mono ?_
    rintro e w2 ⟨rfl, hS2⟩
    have HS2 := Lib.hid hS2
    clear hS2
    go_wp2
    go_ret
    exact ⟨rfl, HS2.out⟩
  rw [if_neg c6] at h
  by_cases c7 : peekS K.E s = ⟨#[66]⟩
  · rw [if_pos c7] at h
    have hlt := (peek_lt c7 (by decide) hnl).2
    have HM := Lib.hid (fun W (hW : PP K W s) => (kBelief_any hE hR hle hF hlf) _ _ _ W hlt h hW)
    rw [c7] at HP
    clear h hS hnl hlt c1 c2 c3 c4 c5 c6 c7
    go_enter Tryz.func132, Tryz.ntmps132
    go_wp2_with fail
    refine HP.out.mono ?_
    rintro e w1 ⟨rfl, hS1⟩
    have HM1 := Lib.hid (HM.out w1 hS1)
    clear hS1
    go_wp2_with fail
    refine HM1.out.mono ?_
    rintro e w2 ⟨rfl, hS2⟩
    have HS2 := Lib.hid hS2
    clear hS2
    go_wp2
    go_ret
    exact ⟨rfl, HS2.out⟩
  rw [if_neg c7] at h
  by_cases c8 : peekS K.E s = ⟨#[69]⟩
  · rw [if_pos c8] at h
    have hlt := (peek_lt c8 (by decide) hnl).2
    have HM := Lib.hid (fun W (hW : PP K W s) => (kOfGroup_any hE hR hle 11 (Fld.nat (n := 11) (by decide))) _ _ _ W hlt h hW)
    rw [c8] at HP
    clear h hS hnl hlt c1 c2 c3 c4 c5 c6 c7 c8
    go_enter Tryz.func132, Tryz.ntmps132
    go_wp2_with fail
    refine HP.out.mono ?_
    rintro e w1 ⟨rfl, hS1⟩
    have HM1 := Lib.hid (HM.out w1 hS1)
    clear hS1
    go_wp2_with fail
    refine HM1.out.mono ?_
    rintro e w2 ⟨rfl, hS2⟩
    have HS2 := Lib.hid hS2
    clear hS2
    go_wp2
    go_ret
    exact ⟨rfl, HS2.out⟩
  rw [if_neg c8] at h
  by_cases c9 : peekS K.E s = ⟨#[68]⟩
  · rw [if_pos c9] at h
    have hlt := (peek_lt c9 (by decide) hnl).2
    have HM := Lib.hid (fun W (hW : PP K W s) => (kOfGroup_any hE hR hle 12 (Fld.nat (n := 12) (by decide))) _ _ _ W hlt h hW)
    rw [c9] at HP
    clear h hS hnl hlt c1 c2 c3 c4 c5 c6 c7 c8 c9
    go_enter Tryz.func132, Tryz.ntmps132
    go_wp2_with fail
    refine HP.out.mono ?_
    rintro e w1 ⟨rfl, hS1⟩
    have HM1 := Lib.hid (HM.out w1 hS1)
    clear hS1
    go_wp2_with fail
    refine HM1.out.mono ?_
    rintro e w2 ⟨rfl, hS2⟩
    have HS2 := Lib.hid hS2
    clear hS2
    go_wp2
    go_ret
    exact ⟨rfl, HS2.out⟩
  rw [if_neg c9] at h
  by_cases c10 : peekS K.E s = ⟨#[67]⟩
  · rw [if_pos c10] at h
    have hlt := (peek_lt c10 (by decide) hnl).2
    have HM := Lib.hid (fun W (hW : PP K W s) => (kCommon_any hE hR hle hF hlf) _ _ _ W hlt h hW)
    rw [c10] at HP
    clear h hS hnl hlt c1 c2 c3 c4 c5 c6 c7 c8 c9 c10
    go_enter Tryz.func132, Tryz.ntmps132
    go_wp2_with fail
    refine HP.out.mono ?_
    rintro e w1 ⟨rfl, hS1⟩
    have HM1 := Lib.hid (HM.out w1 hS1)
    clear hS1
    go_wp2_with fail
    refine HM1.out.mono ?_
    rintro e w2 ⟨rfl, hS2⟩
    have HS2 := Lib.hid hS2
    clear hS2
    go_wp2
    go_ret
    exact ⟨rfl, HS2.out⟩
  rw [if_neg c10] at h
  by_cases c11 : peekS K.E s = ⟨#[91]⟩
  · rw [if_pos c11] at h
    have hlt := (peek_lt c11 (by decide) hnl).2
    have HM := Lib.hid (fun W (hW : PP K W s) => (kUpdate_any hE hR hle hF hlf) _ _ _ W hlt h hW)
    rw [c11] at HP
    clear h hS hnl hlt c1 c2 c3 c4 c5 c6 c7 c8 c9 c10 c11
    go_enter Tryz.func132, Tryz.ntmps132
    go_wp2_with fail
    refine HP.out.mono ?_
    rintro e w1 ⟨rfl, hS1⟩
    have HM1 := Lib.hid (HM.out w1 hS1)
    clear hS1
    go_wp2_with fail
    refine HM1.out.mono ?_
    rintro e w2 ⟨rfl, hS2⟩
    have HS2 := Lib.hid hS2
    clear hS2
    go_wp2
    go_ret
    exact ⟨rfl, HS2.out⟩
  rw [if_neg c11] at h
  by_cases c12 : peekS K.E s = ⟨#[116, 114, 117, 101]⟩
  · rw [if_pos c12] at h
    have hlt := (peek_lt c12 (by decide) hnl).2
    have HM := Lib.hid (fun W (hW : PP K W s) => (kConstant_any hE 1 (Fld.nat (n := 1) (by decide))) _ _ _ W hlt h hW)
    rw [c12] at HP
    clear h hS hnl hlt c1 c2 c3 c4 c5 c6 c7 c8 c9 c10 c11 c12
    go_enter Tryz.func132, Tryz.ntmps132
    go_wp2_with fail
    refine HP.out.mono ?_
    rintro e w1 ⟨rfl, hS1⟩
    have HM1 := Lib.hid (HM.out w1 hS1)
    clear hS1
    go_wp2_with fail
    refine HM1.out.mono ?_
    rintro e w2 ⟨rfl, hS2⟩
    have HS2 := Lib.hid hS2
    clear hS2
    go_wp2
    go_ret
    exact ⟨rfl, HS2.out⟩
  rw [if_neg c12] at h
  by_cases c13 : peekS K.E s = ⟨#[102, 97, 108, 115, 101]⟩
  · rw [if_pos c13] at h
    have hlt := (peek_lt c13 (by decide) hnl).2
    have HM := Lib.hid (fun W (hW : PP K W s) => (kConstant_any hE 2 (Fld.nat (n := 2) (by decide))) _ _ _ W hlt h hW)
    rw [c13] at HP
    clear h hS hnl hlt c1 c2 c3 c4 c5 c6 c7 c8 c9 c10 c11 c12 c13
    go_enter Tryz.func132, Tryz.ntmps132
    go_wp2_with fail
    refine HP.out.mono ?_
    rintro e w1 ⟨rfl, hS1⟩
    have HM1 := Lib.hid (HM.out w1 hS1)
    clear hS1
    go_wp2_with fail
    refine HM1.out.mono ?_
    rintro e w2 ⟨rfl, hS2⟩
    have HS2 := Lib.hid hS2
    clear hS2
    go_wp2
    go_ret
    exact ⟨rfl, HS2.out⟩
  rw [if_neg c13] at h
  by_cases c14 : peekS K.E s = ⟨#[40]⟩
  · rw [if_pos c14] at h
    have hlt := (peek_lt c14 (by decide) hnl).2
    have HM := Lib.hid (fun W (hW : PP K W s) => (kEnclosed_any hE hF hlf) _ _ _ W hlt h hW)
    rw [c14] at HP
    clear h hS hnl hlt c1 c2 c3 c4 c5 c6 c7 c8 c9 c10 c11 c12 c13 c14
    go_enter Tryz.func132, Tryz.ntmps132
    go_wp2_with fail
    refine HP.out.mono ?_
    rintro e w1 ⟨rfl, hS1⟩
    have HM1 := Lib.hid (HM.out w1 hS1)
    clear hS1
    go_wp2_with fail
    refine HM1.out.mono ?_
    rintro e w2 ⟨rfl, hS2⟩
    have HS2 := Lib.hid hS2
    clear hS2
    go_wp2
    go_ret
    exact ⟨rfl, HS2.out⟩
  rw [if_neg c14] at h
  have HM := Lib.hid (fun W (hW : PP K W s) => kFact_any' hE _ _ _ W h hW)
  have h1 : ((peekS K.E s).toList == [126]) = false := lit_no c1
  have h2 : ((peekS K.E s).toList == [110, 101, 120, 116]) = false := lit_no c2
  have h3 : ((peekS K.E s).toList == [112, 114, 101, 118]) = false := lit_no c3
  have h4 : ((peekS K.E s).toList == [75]) = false := lit_no c4
  have h5 : ((peekS K.E s).toList == [77]) = false := lit_no c5
  have h6 : ((peekS K.E s).toList == [83]) = false := lit_no c6
  have h7 : ((peekS K.E s).toList == [66]) = false := lit_no c7
  have h8 : ((peekS K.E s).toList == [69]) = false := lit_no c8
  have h9 : ((peekS K.E s).toList == [68]) = false := lit_no c9
  have h10 : ((peekS K.E s).toList == [67]) = false := lit_no c10
  have h11 : ((peekS K.E s).toList == [91]) = false := lit_no c11
  have h12 : ((peekS K.E s).toList == [116, 114, 117, 101]) = false := lit_no c12
  have h13 : ((peekS K.E s).toList == [102, 97, 108, 115, 101]) = false := lit_no c13
  have h14 : ((peekS K.E s).toList == [40]) = false := lit_no c14
  generalize peekS K.E s = p at *
  clear h hS hnl c1 c2 c3 c4 c5 c6 c7 c8 c9 c10 c11 c12 c13 c14
  go_enter Tryz.func132, Tryz.ntmps132
  go_wp2_with fail
  refine HP.out.mono ?_
  rintro e w1 ⟨rfl, hS1⟩
  have HM1 := Lib.hid (HM.out w1 hS1)
  clear hS1
  go_wp2_with fail
  refine HM1.out.mono ?_
  rintro e w2 ⟨rfl, hS2⟩
  have HS2 := Lib.hid hS2
  clear hS2
  go_wp2
  go_ret
  exact ⟨rfl, HS2.out⟩
end Go.Proofs.YtenbhalnpiahaaaGreatDoor
/- Layer 6: leftward of the program's parser, and all its rules together. -/
namespace Go.Proofs.YtenbhalnpiahaaaGreatDoor
open Go.RowKit Go.Proofs.Ws Go.Maps
set_option maxRecDepth 100000 in
set_option maxHeartbeats 2000000 in
theorem kLeftIff {K : PK} (hE : PE K) (n : Nat) (hR : ∀ m, m ≤ n → CtR K 73 (mS K.E m .implies)) (s s1 s' : SS) (x v : Nat) (w : World) (h1 : mS K.E n .implies s = some (x, s1)) (h2 : mS K.E n (.iffL x) s1 = some (v, s')) (hS : PP K w s) :
    Calls Tryz.prog 72 #[.pointer (some ⟨K.bp, 0, none⟩), .string ⟨#[60, 45, 62]⟩, .int .i64 8, .func (Fn.func 73) #[.pointer (some ⟨K.bp, 0, none⟩)] #[]] w fun e w' => e = .returned (.int .i64 (v : Int)) ∧ PP K w' s' := by
  have HR := Lib.hid hR
  have hx := mS_le K.E n .implies s (Nat.zero_le _) _ h1
  have HC1 := Lib.hid (hR n (Nat.le_refl _) s s1 x w h1 hS)
  have H2 := Lib.hid h2
  clear h1 h2 hS hR
  go_enter Tryz.func72, Tryz.ntmps72
  go_wp2_with fail
  refine HC1.out.mono ?_
  rintro e w1 ⟨rfl, hS1⟩
  have HS1 := Lib.hid hS1
  clear hS1
  go_wp2
  go_loopw [9] (fun xv wr => ∃ (m y : Nat) (t : SS), m ≤ n ∧ xv = .int .i64 y ∧ y ≤ 1000000 ∧ Hid (mS K.E m (.iffL y) t = some (v, s')) ∧ Hid (PP K wr t)) (fun _ wr => 5000 - nextOf K wr)
  case atStart => exact ⟨n, x, s1, Nat.le_refl _, rfl, hx, H2, HS1⟩
  case round =>
    clear hx HC1 H2 HS1
    obtain ⟨m, y, t, hmn, rfl, hy, HM, HS⟩ := hrel
    obtain ⟨m', hm'⟩ : ∃ m', m = m' + 1 := by
      cases m with
      | zero => have := HM.out; unfold mS at this; cases this
      | succ m' => exact ⟨m', rfl⟩
    subst hm'
    have HC := Lib.hid (kAccept_any hE ⟨#[60, 45, 62]⟩ (by decide) t wr HS.out)
    have hdef : leftS K.E ⟨#[60, 45, 62]⟩ 8 (mS K.E m' .implies) (fun k => mS K.E m' (.iffL k)) y t = some (v, s') := HM.out
    unfold leftS at hdef
    by_cases hc : peekS K.E t = ⟨#[60, 45, 62]⟩
    · rw [if_pos hc] at hdef
      rw [decide_eq_true hc, if_pos hc] at HC
      have hlt := acc_len HS.out hc (by decide)
      obtain ⟨z, t1, h1, hdef⟩ := sbind_some hdef
      obtain ⟨k, t2, h2, h3⟩ := sbind_some hdef
      have hz := mS_le K.E m' .implies _ (Nat.zero_le _) _ h1
      have hk := addS_le h2
      have hwl := hE.wl
      have HMS : Hid (5000 - t2.next < 5000 - nextOf K wr) := Lib.hid (by
        have e1 := mS_up K.E m' .implies t.adv.next t.adv (Nat.le_refl _) _ h1
        have e2 := Up.add (n := ⟨8, 0, 0, 0, y, z⟩) (Nat.le_refl t1.next) _ h2
        have e3 : t.adv.next = t.next + 1 := rfl
        have e4 := HS.out.nextOf
        dsimp only at e1 e2
        omega)
      have HY := Lib.hid (Fld.nat hy)
      have HZ := Lib.hid (Fld.nat hz)
      have H1 := Lib.hid (fun W (hW : PP K W t.adv) => HR.out m' (by omega) _ _ _ W h1 hW)
      have H2 := Lib.hid h2
      have H3 := Lib.hid h3
      clear hc hlt h1 h2 h3 hdef hz HM HS hwl
      go_wp2_with fail
      refine HC.out.mono ?_
      rintro e w2 ⟨rfl, hS2⟩
      have HS2 := Lib.hid hS2
      clear hS2
      go_wp2_with fail
      refine (H1.out _ HS2.out).mono ?_
      rintro e w3 ⟨rfl, hS3⟩
      have HS3 := Lib.hid hS3
      clear hS3
      go_wp2_with fail
      refine (kAdd_agg 8 0 0 0 y z (Fld.nat (n := 8) (by decide)) Fld.zero Fld.zero Fld.zero HY.out HZ.out H2.out HS3.out).mono ?_
      rintro e w4 ⟨rfl, hS4⟩
      have HS4 := Lib.hid hS4
      clear hS4
      go_wp2
      go_roundw
      case rel => exact ⟨m', k, t2, by omega, rfl, hk, H3, HS4⟩
      case measure => rw [HS4.out.nextOf]; exact HMS.out
    · rw [if_neg hc] at hdef
      rw [decide_eq_false hc, if_neg hc] at HC
      injection hdef with hdef
      injection hdef with hv hs
      subst hv
      subst hs
      clear hc HM HS
      go_wp2_with fail
      refine HC.out.mono ?_
      rintro e w2 ⟨rfl, hS2⟩
      have HS2 := Lib.hid hS2
      clear hS2
      go_wp2
      go_ret
      exact ⟨rfl, HS2.out⟩
theorem kRuleIff {K : PK} (hE : PE K) (n : Nat) (hR : ∀ m, m ≤ n → CtR K 73 (mS K.E m .implies)) : CtR K 37 (fun s => sbind (mS K.E n .implies s) fun x s => mS K.E n (.iffL x) s) := by
  intro s s' v w h hS
  obtain ⟨x, s1, h1, h2⟩ := sbind_some h
  have HL := Lib.hid (kLeftIff hE n hR s s1 s' x v w h1 h2 hS)
  clear h h1 h2 hS hR
  go_enter Tryz.func37, Tryz.ntmps37
  go_wp2_with fail
  refine HL.out.mono ?_
  rintro e w1 ⟨rfl, hS1⟩
  have HS1 := Lib.hid hS1
  clear hS1
  go_wp2
  go_ret
  exact ⟨rfl, HS1.out⟩
set_option maxRecDepth 100000 in
set_option maxHeartbeats 2000000 in
theorem kLeftOr {K : PK} (hE : PE K) (n : Nat) (hR : ∀ m, m ≤ n → CtR K 126 (mS K.E m .and)) (s s1 s' : SS) (x v : Nat) (w : World) (h1 : mS K.E n .and s = some (x, s1)) (h2 : mS K.E n (.orL x) s1 = some (v, s')) (hS : PP K w s) :
    Calls Tryz.prog 72 #[.pointer (some ⟨K.bp, 0, none⟩), .string ⟨#[124]⟩, .int .i64 6, .func (Fn.func 126) #[.pointer (some ⟨K.bp, 0, none⟩)] #[]] w fun e w' => e = .returned (.int .i64 (v : Int)) ∧ PP K w' s' := by
  have HR := Lib.hid hR
  have hx := mS_le K.E n .and s (Nat.zero_le _) _ h1
  have HC1 := Lib.hid (hR n (Nat.le_refl _) s s1 x w h1 hS)
  have H2 := Lib.hid h2
  clear h1 h2 hS hR
  go_enter Tryz.func72, Tryz.ntmps72
  go_wp2_with fail
  refine HC1.out.mono ?_
  rintro e w1 ⟨rfl, hS1⟩
  have HS1 := Lib.hid hS1
  clear hS1
  go_wp2
  go_loopw [9] (fun xv wr => ∃ (m y : Nat) (t : SS), m ≤ n ∧ xv = .int .i64 y ∧ y ≤ 1000000 ∧ Hid (mS K.E m (.orL y) t = some (v, s')) ∧ Hid (PP K wr t)) (fun _ wr => 5000 - nextOf K wr)
  case atStart => exact ⟨n, x, s1, Nat.le_refl _, rfl, hx, H2, HS1⟩
  case round =>
    clear hx HC1 H2 HS1
    obtain ⟨m, y, t, hmn, rfl, hy, HM, HS⟩ := hrel
    obtain ⟨m', hm'⟩ : ∃ m', m = m' + 1 := by
      cases m with
      | zero => have := HM.out; unfold mS at this; cases this
      | succ m' => exact ⟨m', rfl⟩
    subst hm'
    have HC := Lib.hid (kAccept_any hE ⟨#[124]⟩ (by decide) t wr HS.out)
    have hdef : leftS K.E ⟨#[124]⟩ 6 (mS K.E m' .and) (fun k => mS K.E m' (.orL k)) y t = some (v, s') := HM.out
    unfold leftS at hdef
    by_cases hc : peekS K.E t = ⟨#[124]⟩
    · rw [if_pos hc] at hdef
      rw [decide_eq_true hc, if_pos hc] at HC
      have hlt := acc_len HS.out hc (by decide)
      obtain ⟨z, t1, h1, hdef⟩ := sbind_some hdef
      obtain ⟨k, t2, h2, h3⟩ := sbind_some hdef
      have hz := mS_le K.E m' .and _ (Nat.zero_le _) _ h1
      have hk := addS_le h2
      have hwl := hE.wl
      have HMS : Hid (5000 - t2.next < 5000 - nextOf K wr) := Lib.hid (by
        have e1 := mS_up K.E m' .and t.adv.next t.adv (Nat.le_refl _) _ h1
        have e2 := Up.add (n := ⟨6, 0, 0, 0, y, z⟩) (Nat.le_refl t1.next) _ h2
        have e3 : t.adv.next = t.next + 1 := rfl
        have e4 := HS.out.nextOf
        dsimp only at e1 e2
        omega)
      have HY := Lib.hid (Fld.nat hy)
      have HZ := Lib.hid (Fld.nat hz)
      have H1 := Lib.hid (fun W (hW : PP K W t.adv) => HR.out m' (by omega) _ _ _ W h1 hW)
      have H2 := Lib.hid h2
      have H3 := Lib.hid h3
      clear hc hlt h1 h2 h3 hdef hz HM HS hwl
      go_wp2_with fail
      refine HC.out.mono ?_
      rintro e w2 ⟨rfl, hS2⟩
      have HS2 := Lib.hid hS2
      clear hS2
      go_wp2_with fail
      refine (H1.out _ HS2.out).mono ?_
      rintro e w3 ⟨rfl, hS3⟩
      have HS3 := Lib.hid hS3
      clear hS3
      go_wp2_with fail
      refine (kAdd_agg 6 0 0 0 y z (Fld.nat (n := 6) (by decide)) Fld.zero Fld.zero Fld.zero HY.out HZ.out H2.out HS3.out).mono ?_
      rintro e w4 ⟨rfl, hS4⟩
      have HS4 := Lib.hid hS4
      clear hS4
      go_wp2
      go_roundw
      case rel => exact ⟨m', k, t2, by omega, rfl, hk, H3, HS4⟩
      case measure => rw [HS4.out.nextOf]; exact HMS.out
    · rw [if_neg hc] at hdef
      rw [decide_eq_false hc, if_neg hc] at HC
      injection hdef with hdef
      injection hdef with hv hs
      subst hv
      subst hs
      clear hc HM HS
      go_wp2_with fail
      refine HC.out.mono ?_
      rintro e w2 ⟨rfl, hS2⟩
      have HS2 := Lib.hid hS2
      clear hS2
      go_wp2
      go_ret
      exact ⟨rfl, HS2.out⟩
theorem kRuleOr {K : PK} (hE : PE K) (n : Nat) (hR : ∀ m, m ≤ n → CtR K 126 (mS K.E m .and)) : CtR K 118 (fun s => sbind (mS K.E n .and s) fun x s => mS K.E n (.orL x) s) := by
  intro s s' v w h hS
  obtain ⟨x, s1, h1, h2⟩ := sbind_some h
  have HL := Lib.hid (kLeftOr hE n hR s s1 s' x v w h1 h2 hS)
  clear h h1 h2 hS hR
  go_enter Tryz.func118, Tryz.ntmps118
  go_wp2_with fail
  refine HL.out.mono ?_
  rintro e w1 ⟨rfl, hS1⟩
  have HS1 := Lib.hid hS1
  clear hS1
  go_wp2
  go_ret
  exact ⟨rfl, HS1.out⟩
set_option maxRecDepth 100000 in
set_option maxHeartbeats 2000000 in
theorem kLeftAnd {K : PK} (hE : PE K) (n : Nat) (hR : ∀ m, m ≤ n → CtR K 132 (mS K.E m .pre)) (s s1 s' : SS) (x v : Nat) (w : World) (h1 : mS K.E n .pre s = some (x, s1)) (h2 : mS K.E n (.andL x) s1 = some (v, s')) (hS : PP K w s) :
    Calls Tryz.prog 72 #[.pointer (some ⟨K.bp, 0, none⟩), .string ⟨#[38]⟩, .int .i64 5, .func (Fn.func 132) #[.pointer (some ⟨K.bp, 0, none⟩)] #[]] w fun e w' => e = .returned (.int .i64 (v : Int)) ∧ PP K w' s' := by
  have HR := Lib.hid hR
  have hx := mS_le K.E n .pre s (Nat.zero_le _) _ h1
  have HC1 := Lib.hid (hR n (Nat.le_refl _) s s1 x w h1 hS)
  have H2 := Lib.hid h2
  clear h1 h2 hS hR
  go_enter Tryz.func72, Tryz.ntmps72
  go_wp2_with fail
  refine HC1.out.mono ?_
  rintro e w1 ⟨rfl, hS1⟩
  have HS1 := Lib.hid hS1
  clear hS1
  go_wp2
  go_loopw [9] (fun xv wr => ∃ (m y : Nat) (t : SS), m ≤ n ∧ xv = .int .i64 y ∧ y ≤ 1000000 ∧ Hid (mS K.E m (.andL y) t = some (v, s')) ∧ Hid (PP K wr t)) (fun _ wr => 5000 - nextOf K wr)
  case atStart => exact ⟨n, x, s1, Nat.le_refl _, rfl, hx, H2, HS1⟩
  case round =>
    clear hx HC1 H2 HS1
    obtain ⟨m, y, t, hmn, rfl, hy, HM, HS⟩ := hrel
    obtain ⟨m', hm'⟩ : ∃ m', m = m' + 1 := by
      cases m with
      | zero => have := HM.out; unfold mS at this; cases this
      | succ m' => exact ⟨m', rfl⟩
    subst hm'
    have HC := Lib.hid (kAccept_any hE ⟨#[38]⟩ (by decide) t wr HS.out)
    have hdef : leftS K.E ⟨#[38]⟩ 5 (mS K.E m' .pre) (fun k => mS K.E m' (.andL k)) y t = some (v, s') := HM.out
    unfold leftS at hdef
    by_cases hc : peekS K.E t = ⟨#[38]⟩
    · rw [if_pos hc] at hdef
      rw [decide_eq_true hc, if_pos hc] at HC
      have hlt := acc_len HS.out hc (by decide)
      obtain ⟨z, t1, h1, hdef⟩ := sbind_some hdef
      obtain ⟨k, t2, h2, h3⟩ := sbind_some hdef
      have hz := mS_le K.E m' .pre _ (Nat.zero_le _) _ h1
      have hk := addS_le h2
      have hwl := hE.wl
      have HMS : Hid (5000 - t2.next < 5000 - nextOf K wr) := Lib.hid (by
        have e1 := mS_up K.E m' .pre t.adv.next t.adv (Nat.le_refl _) _ h1
        have e2 := Up.add (n := ⟨5, 0, 0, 0, y, z⟩) (Nat.le_refl t1.next) _ h2
        have e3 : t.adv.next = t.next + 1 := rfl
        have e4 := HS.out.nextOf
        dsimp only at e1 e2
        omega)
      have HY := Lib.hid (Fld.nat hy)
      have HZ := Lib.hid (Fld.nat hz)
      have H1 := Lib.hid (fun W (hW : PP K W t.adv) => HR.out m' (by omega) _ _ _ W h1 hW)
      have H2 := Lib.hid h2
      have H3 := Lib.hid h3
      clear hc hlt h1 h2 h3 hdef hz HM HS hwl
      go_wp2_with fail
      refine HC.out.mono ?_
      rintro e w2 ⟨rfl, hS2⟩
      have HS2 := Lib.hid hS2
      clear hS2
      go_wp2_with fail
      refine (H1.out _ HS2.out).mono ?_
      rintro e w3 ⟨rfl, hS3⟩
      have HS3 := Lib.hid hS3
      clear hS3
      go_wp2_with fail
      refine (kAdd_agg 5 0 0 0 y z (Fld.nat (n := 5) (by decide)) Fld.zero Fld.zero Fld.zero HY.out HZ.out H2.out HS3.out).mono ?_
      rintro e w4 ⟨rfl, hS4⟩
      have HS4 := Lib.hid hS4
      clear hS4
      go_wp2
      go_roundw
      case rel => exact ⟨m', k, t2, by omega, rfl, hk, H3, HS4⟩
      case measure => rw [HS4.out.nextOf]; exact HMS.out
    · rw [if_neg hc] at hdef
      rw [decide_eq_false hc, if_neg hc] at HC
      injection hdef with hdef
      injection hdef with hv hs
      subst hv
      subst hs
      clear hc HM HS
      go_wp2_with fail
      refine HC.out.mono ?_
      rintro e w2 ⟨rfl, hS2⟩
      have HS2 := Lib.hid hS2
      clear hS2
      go_wp2
      go_ret
      exact ⟨rfl, HS2.out⟩
theorem kRuleAnd {K : PK} (hE : PE K) (n : Nat) (hR : ∀ m, m ≤ n → CtR K 132 (mS K.E m .pre)) : CtR K 126 (fun s => sbind (mS K.E n .pre s) fun x s => mS K.E n (.andL x) s) := by
  intro s s' v w h hS
  obtain ⟨x, s1, h1, h2⟩ := sbind_some h
  have HL := Lib.hid (kLeftAnd hE n hR s s1 s' x v w h1 h2 hS)
  clear h h1 h2 hS hR
  go_enter Tryz.func126, Tryz.ntmps126
  go_wp2_with fail
  refine HL.out.mono ?_
  rintro e w1 ⟨rfl, hS1⟩
  have HS1 := Lib.hid hS1
  clear hS1
  go_wp2
  go_ret
  exact ⟨rfl, HS1.out⟩
/-- the program's rules do what the machine does -/
structure RulesUpTo (K : PK) (n : Nat) : Prop where
  formula : CtR K 37 (mS K.E n .formula)
  implies : CtR K 73 (mS K.E n .implies)
  time : CtR K 104 (mS K.E n .time)
  or : CtR K 118 (mS K.E n .or)
  and : CtR K 126 (mS K.E n .and)
  pre : CtR K 132 (mS K.E n .pre)
theorem rules_all {K : PK} (hE : PE K) : ∀ n m, m ≤ n → RulesUpTo K m := by
  intro n
  induction n with
  | zero =>
    intro m hm
    have : m = 0 := by omega
    subst this
    refine ⟨?_, ?_, ?_, ?_, ?_, ?_⟩ <;> (intro s s' v w h _; exact absurd h (by simp [mS]))
  | succ n ih =>
    intro m hm
    by_cases hle : m ≤ n
    · exact ih m hle
    · have : m = n + 1 := by omega
      subst this
      have le0 : ∀ (rule : Rule), rule.num = 0 → ∀ s, LeS (mS K.E n rule s) := fun rule h s => mS_le K.E n rule s (by rw [h]; exact Nat.zero_le _)
      have hn := ih n (Nat.le_refl _)
      exact ⟨kRuleIff hE n (fun k hk => (ih k hk).implies), kImplies_any hE hn.time (le0 .time rfl) hn.implies (le0 .implies rfl), kTime_any hE hn.or (le0 .or rfl) hn.time (le0 .time rfl),
        kRuleOr hE n (fun k hk => (ih k hk).and), kRuleAnd hE n (fun k hk => (ih k hk).pre), kPrefix_any' hE hn.pre (le0 .pre rfl) hn.formula (le0 .formula rfl)⟩
theorem kFormula_any {K : PK} (hE : PE K) (n : Nat) : CtR K 37 (mS K.E n .formula) := (rules_all hE n n (Nat.le_refl _)).formula
end Go.Proofs.YtenbhalnpiahaaaGreatDoor
