/- Layer 6: texts joined: Yf Yi Yg Yh. -/
import Derived.Test.YthhkeobjjeldhaaGreatDoorJh
import Derived.Test.YthhkeobjjeldhaaGreatDoorJs
import Derived.Test.YthhkeobjjeldhaaGreatDoorJt
/- Layer 6: groups of agents of the reference's parser. -/
namespace Go.Proofs.Ws
open Go
theorem nameR_next (E : PEnv) (what : Nat) (s : RS) : s.next ≤ (nameR E what s).2.next := by
  unfold nameR
  split
  · show _ ≤ (failR s.next 4 s).next; unfold failR; split <;> exact Nat.le_refl _
  · split
    · show _ ≤ (failR s.next 5 s).next; unfold failR; split <;> exact Nat.le_refl _
    · exact Nat.le_succ _
theorem oneR_next (E : PEnv) (g : Nat) (s : RS) : s.next ≤ (oneR E g s).2.next := by
  unfold oneR
  dsimp only
  split
  · refine Nat.le_trans (nameR_next E 1 s) ?_
    unfold failR; split <;> exact Nat.le_refl _
  · exact nameR_next E 1 s
end Go.Proofs.Ws
namespace Go.Proofs.YthhkeobjjeldhaaGreatDoor
open Go.RowKit Go.Proofs.Ws Go.Maps
/-- the number of the next token, in memory -/
def nextR (K : RK) (W : World) : Nat := match W.cell? ⟨K.bp, 4, none⟩ with | some (.int _ z) => z.toNat | _ => 0
theorem RP.nextR {K : RK} {W : World} {s : RS} (h : RP K W s) : nextR K W = s.next := by
  unfold Go.Proofs.YthhkeobjjeldhaaGreatDoor.nextR
  rw [h.cells.2.1]
  simp
theorem and_i64 : ∀ m : Fin 16, ∀ j : Fin 4, (bits BinOp.and IntKind.i64 (m.1 : Int) (wrap64 (2 ^ j.1)) != 0) = m.1.testBit j.1 := by decide +kernel
set_option maxRecDepth 100000 in
set_option maxHeartbeats 1000000 in
theorem yGroup_any {K : RK} (hE : RE K) (s s' : RS) (v : Nat) (w : World) (hS : RP K w s) (h : groupR K.E s = some (v, s')) :
    Calls Tryz.prog 96 #[.pointer (some ⟨K.bp, 0, none⟩)] w fun e w' => e = .returned (.int .i64 (v : Int)) ∧ RP K w' s' := by
  have HA4 : Hid (K.E.A.length ≤ 4) := Lib.hid (sigErr_ok hE.ok).1
  have HA := Lib.hid (yName_agent hE s w hS)
  have hj := agentR_lt HA4.out s
  obtain ⟨hpw, hpw1⟩ := pow_wrap ⟨(nameR K.E 1 s).1, hj⟩
  dsimp only at hpw hpw1
  have HG : Hid (2 ^ (nameR K.E 1 s).1 < 16) := Lib.hid (powR_lt16 hj)
  have HR : Hid (groupLR K.E (K.E.ws.length + 2) (2 ^ (nameR K.E 1 s).1) (nameR K.E 1 s).2 = some (v, s')) := Lib.hid h
  have hwl := hE.wl
  generalize (nameR K.E 1 s).1 = j at *
  generalize (nameR K.E 1 s).2 = s0 at *
  generalize hF : K.E.ws.length + 2 = F at HR
  generalize (2 ^ j : Nat) = q at hpw hpw1 HG HR
  clear hF h hS
  go_enter Tryz.func96, Tryz.ntmps96
  go_wp2_with fail
  refine HA.out.mono ?_
  rintro e w1 ⟨rfl, hS1⟩
  have HS1 := Lib.hid hS1
  clear hS1
  go_wp2
  try simp only [hpw]
  go_loopw [3, 4, 5] (fun gv _ _ wr => ∃ (f g : Nat) (t : RS), gv = .int .i64 g ∧ g < 16 ∧ Hid (groupLR K.E f g t = some (v, s')) ∧ Hid (RP K wr t)) (fun _ _ _ wr => 5000 - nextR K wr)
  case atStart => exact ⟨F, q, s0, rfl, HG.out, HR, HS1⟩
  case round =>
    clear hpw hpw1 hj HG HR HS1 HA
    obtain ⟨f, g, t, rfl, hg, HR, HS⟩ := hrel
    obtain ⟨f', hf⟩ : ∃ f', f = f' + 1 := by
      cases f with
      | zero => have := HR.out; unfold groupLR at this; cases this
      | succ f' => exact ⟨f', rfl⟩
    subst hf
    have HC := Lib.hid (yTakes_any hE ⟨#[44]⟩ (by decide) t wr HS.out)
    cases hc : takesR K.E ⟨#[44]⟩ t with
    | true =>
      rw [hc, if_pos rfl] at HC
      have hlt : t.next < K.E.ws.length := look_lt (x := ⟨#[44]⟩) (by unfold takesR at hc; simp only [Bool.and_eq_true, decide_eq_true_eq] at hc; exact hc.2) (by decide)
      have HR2 : Hid (groupLR K.E f' (oneR K.E g t.adv).1 (oneR K.E g t.adv).2 = some (v, s')) := Lib.hid (by have := HR.out; unfold groupLR at this; rw [if_pos hc] at this; exact this)
      have HAG := Lib.hid (fun W (hW : RP K W t.adv) => yName_agent hE t.adv W hW)
      have HCE := Lib.hid (fun W (hW : RP K W t.adv) => hW.cells.2.1)
      have hj4 := agentR_lt HA4.out t.adv
      have HM : Hid (5000 - (oneR K.E g t.adv).2.next < 5000 - nextR K wr) := Lib.hid (by
        have h1 := oneR_next K.E g t.adv
        have h2 : t.adv.next = t.next + 1 := rfl
        have h3 := HS.out.nextR
        omega)
      have hand := and_i64 ⟨g, hg⟩ ⟨(nameR K.E 1 t.adv).1, hj4⟩
      have hor := or_i64 ⟨g, hg⟩ ⟨(nameR K.E 1 t.adv).1, hj4⟩
      obtain ⟨hpw, hpw1⟩ := pow_wrap ⟨(nameR K.E 1 t.adv).1, hj4⟩
      have hm2 : g ||| 2 ^ (nameR K.E 1 t.adv).1 < 16 := Nat.or_lt_two_pow (n := 4) hg (powR_lt16 hj4)
      dsimp only at hand hor hpw hpw1
      rw [hpw] at hand hor
      have HF := Lib.hid (fun W (hW : RP K W (nameR K.E 1 t.adv).2) => yFail_any t.adv.next 7 (nameR K.E 1 t.adv).2 W hW)
      have HCE7 := Lib.hid (fun W (hW : RP K W (nameR K.E 1 t.adv).2) => hW.cells.2.2.2)
      have e0 : oneR K.E g t.adv = (g ||| 2 ^ (nameR K.E 1 t.adv).1, if (nameR K.E 1 t.adv).2.e = 0 ∧ g.testBit (nameR K.E 1 t.adv).1 = true then failR t.adv.next 7 (nameR K.E 1 t.adv).2 else (nameR K.E 1 t.adv).2) := rfl
      by_cases he : (nameR K.E 1 t.adv).2.e = 0
      · cases hb : g.testBit (nameR K.E 1 t.adv).1 with
        | true =>
          rw [if_pos ⟨he, hb⟩] at e0
          rw [e0] at HR2 HM
          dsimp only at HR2 HM
          rw [hb] at hand
          generalize (nameR K.E 1 t.adv).1 = j at *
          generalize (nameR K.E 1 t.adv).2 = t2 at *
          generalize t.adv = ta at *
          generalize (2 ^ j : Nat) = q2 at *
          clear hb e0 hc hlt HR HS hwl
          go_wp2_with fail
          refine HC.out.mono ?_
          rintro e w2 ⟨rfl, hS2⟩
          have HG2 := Lib.hid (HAG.out w2 hS2)
          have k4 := HCE.out w2 hS2
          clear hS2
          go_wp2_with fail
          refine HG2.out.mono ?_
          rintro e w3 ⟨rfl, hS3⟩
          have k7 := HCE7.out w3 hS3
          rw [he] at k7
          have HF3 := Lib.hid (HF.out w3 hS3)
          clear hS3 k4
          go_wp2_with fail
          refine HF3.out.mono ?_
          rintro e w4 ⟨rfl, hS4⟩
          have HS4 := Lib.hid hS4
          clear hS4
          go_wp2
          try simp only [hor]
          go_roundw
          case rel => exact ⟨f', g ||| q2, _, by first | rfl | rw [hor], hm2, HR2, HS4⟩
          case measure => rw [HS4.out.nextR]; exact HM.out
        | false =>
          rw [if_neg (by rw [hb]; simp)] at e0
          rw [e0] at HR2 HM
          dsimp only at HR2 HM
          rw [hb] at hand
          generalize (nameR K.E 1 t.adv).1 = j at *
          generalize (nameR K.E 1 t.adv).2 = t2 at *
          generalize t.adv = ta at *
          generalize (2 ^ j : Nat) = q2 at *
          clear hb e0 hc hlt HR HS HF hwl
          go_wp2_with fail
          refine HC.out.mono ?_
          rintro e w2 ⟨rfl, hS2⟩
          have HG2 := Lib.hid (HAG.out w2 hS2)
          have k4 := HCE.out w2 hS2
          clear hS2
          go_wp2_with fail
          refine HG2.out.mono ?_
          rintro e w3 ⟨rfl, hS3⟩
          have k7 := HCE7.out w3 hS3
          rw [he] at k7
          have HS4 := Lib.hid hS3
          clear hS3 k4
          go_wp2
          try simp only [hor]
          go_roundw
          case rel => exact ⟨f', g ||| q2, _, by first | rfl | rw [hor], hm2, HR2, HS4⟩
          case measure => rw [HS4.out.nextR]; exact HM.out
      · rw [if_neg (by intro h; exact he h.1)] at e0
        rw [e0] at HR2 HM
        dsimp only at HR2 HM
        have hz : ((nameR K.E 1 t.adv).2.e == 0) = false := by rw [beq_eq_false_iff_ne]; exact he
        generalize (nameR K.E 1 t.adv).1 = j at *
        generalize (nameR K.E 1 t.adv).2 = t2 at *
        generalize t.adv = ta at *
        generalize (2 ^ j : Nat) = q2 at *
        clear e0 hc hlt HR HS HF hwl he hand
        generalize t2.e = z at *
        go_wp2_with fail
        refine HC.out.mono ?_
        rintro e w2 ⟨rfl, hS2⟩
        have HG2 := Lib.hid (HAG.out w2 hS2)
        have k4 := HCE.out w2 hS2
        clear hS2
        go_wp2_with fail
        refine HG2.out.mono ?_
        rintro e w3 ⟨rfl, hS3⟩
        have k7 := HCE7.out w3 hS3
        have HS4 := Lib.hid hS3
        clear hS3 k4
        go_wp2
        try simp only [hor]
        go_roundw
        case rel => exact ⟨f', g ||| q2, _, by first | rfl | rw [hor], hm2, HR2, HS4⟩
        case measure => rw [HS4.out.nextR]; exact HM.out
    | false =>
      rw [hc, if_neg (by decide)] at HC
      have HV : Hid (g = v ∧ t = s') := Lib.hid (by
        have := HR.out
        unfold groupLR at this
        rw [if_neg (by rw [hc]; decide)] at this
        injection this with this
        injection this with h1 h2
        exact ⟨h1, h2⟩)
      clear hc HR HS
      go_wp2_with fail
      refine HC.out.mono ?_
      rintro e w2 ⟨rfl, hS2⟩
      have HS2 := Lib.hid hS2
      clear hS2
      go_wp2
      go_ret
      exact ⟨by rw [← HV.out.1]; rfl, HV.out.2 ▸ HS2.out⟩
end Go.Proofs.YthhkeobjjeldhaaGreatDoor
/- Layer 6 as plain mathematics: the reference's machine never goes back. -/
namespace Go.Proofs.Ws
open Go
def UpY (m : Nat) (o : Option (Nat × RS)) : Prop := ∀ p, o = some p → m ≤ p.2.next
theorem UpY.add {m : Nat} {n : Nd} {s : RS} (h : m ≤ s.next) : UpY m (nodeR n s) := fun p hp => by
  obtain ⟨_, _, h3⟩ := nodeR_some (v := p.1) (s' := p.2) hp
  rw [h3]; exact h
theorem UpY.bind {m : Nat} {a : Option (Nat × RS)} {k : Nat → RunR} (ha : UpY m a) (hk : ∀ x s, m ≤ s.next → UpY m (k x s)) : UpY m (rbind a k) := fun p h => by
  obtain ⟨x, s, h1, h2⟩ := rbind_some h
  exact hk x s (ha _ h1) p h2
theorem UpY.some {m x : Nat} {s : RS} (h : m ≤ s.next) : UpY m (Option.some (x, s)) := fun p hp => by injection hp with hp; rw [← hp]; exact h
theorem UpY.ite {m : Nat} {c : Prop} [Decidable c] {a b : Option (Nat × RS)} (h1 : UpY m a) (h2 : UpY m b) : UpY m (if c then a else b) := by split <;> assumption
theorem failY_next (t : Nat) (e : Int) (s : RS) : s.next ≤ (failR t e s).next := by unfold failR; split <;> exact Nat.le_refl _
theorem UpY.want {E : PEnv} {w : ByteArray} {m : Nat} {s : RS} (h : m ≤ s.next) : UpY m (wantR E w s) := fun p hp => by
  unfold wantR at hp
  split at hp
  case isFalse => cases hp
  injection hp with hp
  rw [← hp]
  show m ≤ (if lookR E s = w then s else failR s.next 4 s).next + 1
  split
  · exact Nat.le_trans h (Nat.le_succ _)
  · exact Nat.le_trans h (Nat.le_trans (failY_next _ _ s) (Nat.le_succ _))
theorem numberR_next (E : PEnv) (s : RS) : s.next ≤ (numberR E s).2.next := by
  unfold numberR
  split
  · exact failY_next _ _ s
  · split
    · exact failY_next _ _ s
    · exact Nat.le_succ _
theorem advY_next (s : RS) : s.next ≤ s.adv.next := Nat.le_succ _
theorem UpY.agentsL {E : PEnv} : ∀ (n g m : Nat) (s : RS), m ≤ s.next → UpY m (groupLR E n g s) := by
  intro n
  induction n with
  | zero => intro g m s _ p h; exact absurd h (by simp [groupLR])
  | succ n ih =>
    intro g m s h
    unfold groupLR
    exact UpY.ite (ih _ _ _ (Nat.le_trans h (Nat.le_trans (advY_next s) (oneR_next E g s.adv)))) (UpY.some h)
theorem UpY.agents {E : PEnv} {m : Nat} {s : RS} (h : m ≤ s.next) : UpY m (groupR E s) := UpY.agentsL _ _ _ _ (Nat.le_trans h (nameR_next E 1 s))
def UpM (R : RunR) : Prop := ∀ m s, m ≤ s.next → UpY m (R s)
theorem UpM.left {E : PEnv} {w : ByteArray} {op : Int} {R : RunR} {L : Nat → RunR} {x : Nat} (hR : UpM R) (hL : ∀ k, UpM (L k)) : UpM (leftR E w op R L x) := fun m s h =>
  UpY.ite (UpY.bind (hR m s.adv (Nat.le_trans h (advY_next s))) (fun _y _s h => UpY.bind (UpY.add h) (fun k s h => hL k m s h))) (UpY.some h)
theorem UpM.close {E : PEnv} {R : RunR} {nd : Nat → Nd} (hR : UpM R) : UpM (closeR E R nd) := fun m _s h => UpY.bind (UpY.want h) (fun _ s h => UpY.bind (hR m s h) (fun _ _ h => UpY.add h))
theorem UpM.pre {E : PEnv} {R F : RunR} (hR : UpM R) (hF : UpM F) : UpM (preR E R F) := by
  have ha : ∀ {m : Nat} {s : RS}, m ≤ s.next → m ≤ s.adv.next := fun h => Nat.le_trans h (advY_next _)
  have hn : ∀ {m : Nat} {s : RS} (w), m ≤ s.next → m ≤ (nameR E w s).2.next := fun w h => Nat.le_trans h (nameR_next E w _)
  have hv : ∀ {m : Nat} {s : RS}, m ≤ s.next → m ≤ (numberR E s).2.next := fun h => Nat.le_trans h (numberR_next E _)
  have hcl : ∀ nd, UpM (closeR E R nd) := fun nd => UpM.close hR
  have hp : ∀ op, UpM (plainR R op) := fun op m s h => UpY.bind (hR m _ (ha h)) (fun x s h => UpY.add h)
  have hag : ∀ op, UpM (modalA E R op) := fun op m s h => UpY.bind (UpY.want h) (fun _ s h => hcl _ m _ (hn _ h))
  have hg : ∀ op, UpM (modalG E R op) := fun op m s h => UpY.bind (UpY.want h) (fun _ s h => UpY.bind (UpY.agents h) (fun g s h => hcl _ m _ h))
  have hcd : UpM (barR E F) := fun m s h => UpY.ite (hF m _ (ha h)) (UpY.add h)
  have hb : UpM (modalB E R F) := fun m s h => UpY.bind (UpY.want h) (fun _ s h => UpY.bind (hcd m _ (hn _ h)) (fun c s h => hcl _ m _ h))
  have hc : UpM (modalC E R F) := fun m s h => UpY.bind (UpY.want h) (fun _ s h => UpY.bind (UpY.agents h) (fun g s h => UpY.bind (hcd m _ h) (fun c s h => hcl _ m _ h)))
  have hu : UpM (updateR E R F) := fun m s h => UpY.ite (UpY.bind (hF m _ (ha h)) (fun c s h => hcl _ m _ h)) (UpY.bind (UpY.want (hn _ h)) (fun _ s h => hcl _ m _ (hv h)))
  have hen : UpM (enclosedR E F) := fun m s h => UpY.bind (hF m _ (ha h)) (fun x s h => UpY.bind (UpY.want h) (fun _ s h => UpY.some h))
  have hf : UpM (factR E) := fun m s h => UpY.add (hn _ h)
  intro m s h
  unfold preR
  exact UpY.ite (UpY.some h) (UpY.ite (hp _ _ _ h) (UpY.ite (hp _ _ _ h) (UpY.ite (hp _ _ _ h) (UpY.ite (hag _ _ _ (ha h)) (UpY.ite (hag _ _ _ (ha h)) (UpY.ite (hag _ _ _ (ha h)) (UpY.ite (hb _ _ (ha h)) (UpY.ite (hg _ _ _ (ha h)) (UpY.ite (hg _ _ _ (ha h)) (UpY.ite (hc _ _ (ha h)) (UpY.ite (hu _ _ (ha h)) (UpY.ite (UpY.add (ha h)) (UpY.ite (UpY.add (ha h)) (UpY.ite (hen _ _ h) (hf _ _ h)))))))))))))))
theorem mR_up (E : PEnv) : ∀ (n : Nat) (rule : Rule), UpM (mR E n rule) := by
  intro n
  induction n with
  | zero => intro rule m s _ p h; exact absurd h (by simp [mR])
  | succ n ih =>
    intro rule
    have ha : ∀ {m : Nat} {s : RS}, m ≤ s.next → m ≤ s.adv.next := fun h => Nat.le_trans h (advY_next _)
    cases rule with
    | formula => exact fun m s h => UpY.bind (ih .implies m s h) (fun x s h => ih (.iffL x) m s h)
    | or => exact fun m s h => UpY.bind (ih .and m s h) (fun x s h => ih (.orL x) m s h)
    | and => exact fun m s h => UpY.bind (ih .pre m s h) (fun x s h => ih (.andL x) m s h)
    | iffL x => exact UpM.left (ih .implies) (fun k => ih (.iffL k))
    | orL x => exact UpM.left (ih .and) (fun k => ih (.orL k))
    | andL x => exact UpM.left (ih .pre) (fun k => ih (.andL k))
    | implies =>
      intro m s h
      unfold mR
      exact UpY.bind (ih .time m s h) (fun x s h => UpY.ite (UpY.bind (ih .implies m _ (ha h)) (fun y s h => UpY.add h)) (UpY.some h))
    | time =>
      intro m s h
      unfold mR
      exact UpY.bind (ih .or m s h) (fun x s h => UpY.ite (UpY.bind (ih .time m _ (ha h)) (fun y s h => UpY.add h)) (UpY.ite (UpY.bind (ih .time m _ (ha h)) (fun y s h => UpY.add h)) (UpY.some h)))
    | pre => exact UpM.pre (ih .pre) (ih .formula)
end Go.Proofs.Ws
/- Layer 6: the number of an event, and a condition, of the reference's parser. -/
namespace Go.Proofs.YthhkeobjjeldhaaGreatDoor
open Go.RowKit Go.Proofs.Ws Go.Maps
theorem look_size {K : RK} (hE : RE K) (s : RS) : (lookR K.E s).size ≤ 4000 := by
  unfold lookR
  rw [List.getD_eq_getElem?_getD]
  cases h : K.E.ws[s.next]? with
  | none => exact Nat.zero_le _
  | some x => exact hE.wz x (List.mem_of_getElem? h)
set_option maxRecDepth 100000 in
set_option maxHeartbeats 1000000 in
theorem yNumber_any {K : RK} (hE : RE K) (s : RS) (w : World) (hS : RP K w s) :
    Calls Tryz.prog 98 #[.pointer (some ⟨K.bp, 0, none⟩)] w fun e w' => e = .returned (.int .i64 (((numberR K.E s).1 : Nat) : Int)) ∧ RP K w' (numberR K.E s).2 := by
  have HP := Lib.hid (yLook_any hE s w hS)
  have hwl := hE.wl
  have HC := Lib.hid (fun W (hW : RP K W s) => hW.cells.2.1)
  have HF4 := Lib.hid (fun W (hW : RP K W s) => yFail_any s.next 4 s W hW)
  have HF2 := Lib.hid (fun W (hW : RP K W s) => yFail_any s.next 2 s W hW)
  have hps := look_size hE s
  by_cases h0 : (lookR K.E s).size = 0
  · have e : numberR K.E s = (0, failR s.next 4 s) := by unfold numberR; rw [if_pos (by rw [decide_eq_false (by rw [h0]; decide), Bool.false_and])]
    rw [e]
    have hi := emp_yes h0
    generalize lookR K.E s = p at *
    clear h0 e hS HF2 hps
    go_enter Tryz.func98, Tryz.ntmps98
    go_wp2_with fail
    refine HP.out.mono ?_
    rintro e w1 ⟨rfl, hS1⟩
    have HF1 := Lib.hid (HF4.out w1 hS1)
    have k4 := HC.out w1 hS1
    clear hS1
    go_wp2_with fail
    refine HF1.out.mono ?_
    rintro e w2 ⟨rfl, hS2⟩
    have HS2 := Lib.hid hS2
    clear hS2
    go_wp2
    go_ret
    exact ⟨rfl, HS2.out⟩
  · have hi := emp_no h0
    have hpos : 0 < (lookR K.E s).size := by omega
    have hlt := look_lt rfl (show lookR K.E s ≠ ⟨#[]⟩ from fun e => h0 (by rw [e]; rfl))
    have hhd := head_at hpos
    have HA := Lib.hid (fun W (hW : RP K W s) => hW.adv)
    have HF6 := Lib.hid (fun W (hW : RP K W s) => hW.free 4)
    have hE1 : (decide ((lookR K.E s).size ≠ 0) && digN (headN (lookR K.E s))) = digN (headN (lookR K.E s)) := by rw [decide_eq_true h0, Bool.true_and]
    have hev : numberR K.E s = if digN (headN (lookR K.E s)) = false then (0, failR s.next 4 s) else if 1 < (lookR K.E s).size ∨ 8 ≤ headN (lookR K.E s) - 48 then (0, failR s.next 2 s) else (headN (lookR K.E s) - 48, s.adv) := by
      unfold numberR
      rw [hE1]
    rw [hev]
    clear hev hE1 h0
    rw [hhd]
    clear hhd
    generalize lookR K.E s = p at *
    have HD := Lib.hid (fun W => rDigit_any p[0].toNat W)
    cases hd : digN p[0].toNat with
    | false =>
      rw [if_pos rfl]
      rw [hd] at HD
      clear hd hS HF2 hps HA HF6 hlt
      go_enter Tryz.func98, Tryz.ntmps98
      go_wp2_with fail
      refine HP.out.mono ?_
      rintro e w1 ⟨rfl, hS1⟩
      have HF1 := Lib.hid (HF4.out w1 hS1)
      have k4 := HC.out w1 hS1
      clear hS1
      go_wp2_with fail
      refine (HD.out _).mono ?_
      rintro e w2 ⟨rfl, rfl⟩
      go_wp2_with fail
      refine HF1.out.mono ?_
      rintro e w2 ⟨rfl, hS2⟩
      have HS2 := Lib.hid hS2
      clear hS2
      go_wp2
      go_ret
      exact ⟨rfl, HS2.out⟩
    | true =>
      rw [if_neg (by decide)]
      rw [hd] at HD
      have hr := dig_range hd
      have hsub := u8_sub ⟨p[0].toNat, by omega⟩ hr.1
      dsimp only at hsub
      have hsub2 : ((p[0].toNat : Int) - 48) % 256 = (p[0].toNat : Int) - 48 := by omega
      by_cases hc : 1 < p.size
      · rw [if_pos (.inl hc)]
        have hd1 : decide ((1 : Int) < (p.size : Int)) = true := decide_eq_true (by omega)
        have hd2 : decide (1 < p.size) = true := decide_eq_true hc
        clear hd hS HF4 hps HA HF6 hlt hr hc
        go_enter Tryz.func98, Tryz.ntmps98
        go_wp2_with fail
        refine HP.out.mono ?_
        rintro e w1 ⟨rfl, hS1⟩
        have HF1 := Lib.hid (HF2.out w1 hS1)
        have k4 := HC.out w1 hS1
        clear hS1
        go_wp2_with fail
        refine (HD.out _).mono ?_
        rintro e w2 ⟨rfl, rfl⟩
        go_wp2_with fail
        refine HF1.out.mono ?_
        rintro e w2 ⟨rfl, hS2⟩
        have HS2 := Lib.hid hS2
        clear hS2
        go_wp2
        go_ret
        exact ⟨rfl, HS2.out⟩
      · have hd1 : decide ((1 : Int) < (p.size : Int)) = false := decide_eq_false (by omega)
        have hd2 : decide (1 < p.size) = false := decide_eq_false hc
        by_cases h8 : 8 ≤ p[0].toNat - 48
        · rw [if_pos (.inr h8)]
          have hd3 : decide ((8 : Int) ≤ (p[0].toNat : Int) - 48) = true := decide_eq_true (by omega)
          clear hd hS HF4 hps HA HF6 hlt hr hc h8
          go_enter Tryz.func98, Tryz.ntmps98
          go_wp2_with fail
          refine HP.out.mono ?_
          rintro e w1 ⟨rfl, hS1⟩
          have HF1 := Lib.hid (HF2.out w1 hS1)
          have k4 := HC.out w1 hS1
          clear hS1
          go_wp2_with fail
          refine (HD.out _).mono ?_
          rintro e w2 ⟨rfl, rfl⟩
          go_wp2_with fail
          refine HF1.out.mono ?_
          rintro e w2 ⟨rfl, hS2⟩
          have HS2 := Lib.hid hS2
          clear hS2
          go_wp2
          go_ret
          exact ⟨rfl, HS2.out⟩
        · rw [if_neg (by omega)]
          have hd3 : decide ((8 : Int) ≤ (p[0].toNat : Int) - 48) = false := decide_eq_false (by omega)
          have HV : Hid ((((p[0].toNat - 48 : Nat)) : Int) = (p[0].toNat : Int) - 48) := Lib.hid (by omega)
          obtain ⟨hw1, hw2⟩ := next_wrap (m := s.next) (by omega)
          have HC2 := Lib.hid (fun W (hW : RP K W s) => hW.cells.2.1)
          clear hd hS HF4 HF2 hps hlt hr hc h8 hwl
          generalize (s.next : Int) = m at *
          go_enter Tryz.func98, Tryz.ntmps98
          go_wp2_with fail
          refine HP.out.mono ?_
          rintro e w1 ⟨rfl, hS1⟩
          have HA1 := Lib.hid (HA.out w1 hS1)
          have k4 := HC.out w1 hS1
          have f4 := HF6.out w1 hS1
          clear hS1
          go_wp2_with fail
          refine (HD.out _).mono ?_
          rintro e w2 ⟨rfl, rfl⟩
          go_wp2
          go_ret
          exact ⟨by rw [HV.out]; rfl, HA1.out⟩
end Go.Proofs.YthhkeobjjeldhaaGreatDoor
/- Layer 6: the rules of the reference's parser, one by one, on the rules that they call. -/
namespace Go.Proofs.YthhkeobjjeldhaaGreatDoor
open Go.RowKit Go.Proofs.Ws Go.Maps
/-- a method does what the machine does -/
def CtY (K : RK) (f : Nat) (R : RunR) : Prop := ∀ (s s' : RS) (v : Nat) (w : World), R s = some (v, s') → RP K w s →
  Calls Tryz.prog f #[.pointer (some ⟨K.bp, 0, none⟩)] w fun e w' => e = .returned (.int .i64 (v : Int)) ∧ RP K w' s'
theorem yNode_agg {K : RK} (op i e g x y : Int) {s s' : RS} {v : Nat} {w : World} (h : nodeR ⟨op, i, e, g, x, y⟩ s = some (v, s')) (hS : RP K w s) :
    Calls Tryz.prog 37 #[.pointer (some ⟨K.bp, 0, none⟩), .agg #[.int .i64 op, .int .i64 i, .int .i64 e, .int .i64 g, .int .i64 x, .int .i64 y]] w fun e w' => e = .returned (.int .i64 (v : Int)) ∧ RP K w' s' :=
  yNode_any ⟨op, i, e, g, x, y⟩ hS h
set_option maxRecDepth 100000 in
theorem yBar_any {K : RK} (hE : RE K) {F : RunR} (hF : CtY K 18 F) : CtY K 97 (barR K.E F) := by
  intro s s' v w h hS
  have HC := Lib.hid (yTakes_any hE ⟨#[124]⟩ (by decide) s w hS)
  unfold barR at h
  cases hc : takesR K.E ⟨#[124]⟩ s with
  | true =>
    rw [if_pos hc] at h
    rw [hc, if_pos rfl] at HC
    have H1 := Lib.hid h
    clear h hc hS
    go_enter Tryz.func97, Tryz.ntmps97
    go_wp2_with fail
    refine (HC.out).mono ?_
    rintro e w1 ⟨rfl, hS1⟩
    have HS1 := Lib.hid hS1
    clear hS1
    go_wp2_with fail
    refine (hF _ _ _ _ H1.out (HS1.out)).mono ?_
    rintro e w2 ⟨rfl, hS2⟩
    have HS2 := Lib.hid hS2
    clear hS2
    go_wp2
    go_ret
    exact ⟨rfl, HS2.out⟩
  | false =>
    rw [if_neg (by rw [hc]; decide)] at h
    rw [hc, if_neg (by decide)] at HC
    have H1 := Lib.hid h
    clear h hc hS
    go_enter Tryz.func97, Tryz.ntmps97
    go_wp2_with fail
    refine (HC.out).mono ?_
    rintro e w1 ⟨rfl, hS1⟩
    have HS1 := Lib.hid hS1
    clear hS1
    go_wp2_with fail
    refine (yNode_agg 1 0 0 0 0 0 H1.out (HS1.out)).mono ?_
    rintro e w2 ⟨rfl, hS2⟩
    have HS2 := Lib.hid hS2
    clear hS2
    go_wp2
    go_ret
    exact ⟨rfl, HS2.out⟩
set_option maxRecDepth 100000 in
set_option maxHeartbeats 1000000 in
theorem yModal_K {K : RK} (hE : RE K) {R : RunR} (hR : CtY K 74 R) {s s' : RS} {v : Nat} {w : World} (h : modalA K.E R 9 s = some (v, s')) (hS : RP K w s) :
    Calls Tryz.prog 84 #[.pointer (some ⟨K.bp, 0, none⟩), .string ⟨#[75]⟩] w fun e w' => e = .returned (.int .i64 (v : Int)) ∧ RP K w' s' := by
  unfold modalA at h
  obtain ⟨b, sb, hb, h⟩ := rbind_some h
  have Hb := Lib.hid hb
  have HAG := Lib.hid (fun W (hW : RP K W sb) => yName_agent hE sb W hW)
  generalize nameR K.E 1 sb = a at *
  unfold closeR at h
  obtain ⟨u, su, hu, h⟩ := rbind_some h
  have Hu := Lib.hid hu
  obtain ⟨x, sx, hx, h⟩ := rbind_some h
  have Hx := Lib.hid hx
  have HZ := Lib.hid h
  have HS0 := Lib.hid hS
  clear h hb hu hx hS
  go_enter Tryz.func84, Tryz.ntmps84
  go_wp2_with fail
  refine (yWant_any hE ⟨#[91]⟩ Hb.out (HS0.out)).mono ?_
  rintro e w1 ⟨rfl, hS1⟩
  have HS1 := Lib.hid hS1
  clear hS1
  go_wp2_with fail
  refine (HAG.out _ (HS1.out)).mono ?_
  rintro e w2 ⟨rfl, hS2⟩
  have HS2 := Lib.hid hS2
  clear hS2
  go_wp2_with fail
  refine (yWant_any hE ⟨#[93]⟩ Hu.out (HS2.out)).mono ?_
  rintro e w3 ⟨rfl, hS3⟩
  have HS3 := Lib.hid hS3
  clear hS3
  go_wp2_with fail
  refine (hR _ _ _ _ Hx.out (HS3.out)).mono ?_
  rintro e w4 ⟨rfl, hS4⟩
  have HS4 := Lib.hid hS4
  clear hS4
  go_wp2_with fail
  refine (yNode_agg 9 (a.1 : Int) 0 0 (x : Int) 0 HZ.out (HS4.out)).mono ?_
  rintro e w5 ⟨rfl, hS5⟩
  have HS5 := Lib.hid hS5
  clear hS5
  go_wp2
  go_ret
  exact ⟨rfl, HS5.out⟩
set_option maxRecDepth 100000 in
set_option maxHeartbeats 1000000 in
theorem yModal_M {K : RK} (hE : RE K) {R : RunR} (hR : CtY K 74 R) {s s' : RS} {v : Nat} {w : World} (h : modalA K.E R 10 s = some (v, s')) (hS : RP K w s) :
    Calls Tryz.prog 84 #[.pointer (some ⟨K.bp, 0, none⟩), .string ⟨#[77]⟩] w fun e w' => e = .returned (.int .i64 (v : Int)) ∧ RP K w' s' := by
  unfold modalA at h
  obtain ⟨b, sb, hb, h⟩ := rbind_some h
  have Hb := Lib.hid hb
  have HAG := Lib.hid (fun W (hW : RP K W sb) => yName_agent hE sb W hW)
  generalize nameR K.E 1 sb = a at *
  unfold closeR at h
  obtain ⟨u, su, hu, h⟩ := rbind_some h
  have Hu := Lib.hid hu
  obtain ⟨x, sx, hx, h⟩ := rbind_some h
  have Hx := Lib.hid hx
  have HZ := Lib.hid h
  have HS0 := Lib.hid hS
  clear h hb hu hx hS
  go_enter Tryz.func84, Tryz.ntmps84
  go_wp2_with fail
  refine (yWant_any hE ⟨#[91]⟩ Hb.out (HS0.out)).mono ?_
  rintro e w1 ⟨rfl, hS1⟩
  have HS1 := Lib.hid hS1
  clear hS1
  go_wp2_with fail
  refine (HAG.out _ (HS1.out)).mono ?_
  rintro e w2 ⟨rfl, hS2⟩
  have HS2 := Lib.hid hS2
  clear hS2
  go_wp2_with fail
  refine (yWant_any hE ⟨#[93]⟩ Hu.out (HS2.out)).mono ?_
  rintro e w3 ⟨rfl, hS3⟩
  have HS3 := Lib.hid hS3
  clear hS3
  go_wp2_with fail
  refine (hR _ _ _ _ Hx.out (HS3.out)).mono ?_
  rintro e w4 ⟨rfl, hS4⟩
  have HS4 := Lib.hid hS4
  clear hS4
  go_wp2_with fail
  refine (yNode_agg 10 (a.1 : Int) 0 0 (x : Int) 0 HZ.out (HS4.out)).mono ?_
  rintro e w5 ⟨rfl, hS5⟩
  have HS5 := Lib.hid hS5
  clear hS5
  go_wp2
  go_ret
  exact ⟨rfl, HS5.out⟩
set_option maxRecDepth 100000 in
set_option maxHeartbeats 1000000 in
theorem yModal_S {K : RK} (hE : RE K) {R : RunR} (hR : CtY K 74 R) {s s' : RS} {v : Nat} {w : World} (h : modalA K.E R 15 s = some (v, s')) (hS : RP K w s) :
    Calls Tryz.prog 84 #[.pointer (some ⟨K.bp, 0, none⟩), .string ⟨#[83]⟩] w fun e w' => e = .returned (.int .i64 (v : Int)) ∧ RP K w' s' := by
  unfold modalA at h
  obtain ⟨b, sb, hb, h⟩ := rbind_some h
  have Hb := Lib.hid hb
  have HAG := Lib.hid (fun W (hW : RP K W sb) => yName_agent hE sb W hW)
  generalize nameR K.E 1 sb = a at *
  unfold closeR at h
  obtain ⟨u, su, hu, h⟩ := rbind_some h
  have Hu := Lib.hid hu
  obtain ⟨x, sx, hx, h⟩ := rbind_some h
  have Hx := Lib.hid hx
  have HZ := Lib.hid h
  have HS0 := Lib.hid hS
  clear h hb hu hx hS
  go_enter Tryz.func84, Tryz.ntmps84
  go_wp2_with fail
  refine (yWant_any hE ⟨#[91]⟩ Hb.out (HS0.out)).mono ?_
  rintro e w1 ⟨rfl, hS1⟩
  have HS1 := Lib.hid hS1
  clear hS1
  go_wp2_with fail
  refine (HAG.out _ (HS1.out)).mono ?_
  rintro e w2 ⟨rfl, hS2⟩
  have HS2 := Lib.hid hS2
  clear hS2
  go_wp2_with fail
  refine (yWant_any hE ⟨#[93]⟩ Hu.out (HS2.out)).mono ?_
  rintro e w3 ⟨rfl, hS3⟩
  have HS3 := Lib.hid hS3
  clear hS3
  go_wp2_with fail
  refine (hR _ _ _ _ Hx.out (HS3.out)).mono ?_
  rintro e w4 ⟨rfl, hS4⟩
  have HS4 := Lib.hid hS4
  clear hS4
  go_wp2_with fail
  refine (yNode_agg 15 (a.1 : Int) 0 0 (x : Int) 0 HZ.out (HS4.out)).mono ?_
  rintro e w5 ⟨rfl, hS5⟩
  have HS5 := Lib.hid hS5
  clear hS5
  go_wp2
  go_ret
  exact ⟨rfl, HS5.out⟩
set_option maxRecDepth 100000 in
set_option maxHeartbeats 1000000 in
theorem yModal_B {K : RK} (hE : RE K) {R : RunR} (hR : CtY K 74 R) {F : RunR} (hF : CtY K 18 F) {s s' : RS} {v : Nat} {w : World} (h : modalB K.E R F s = some (v, s')) (hS : RP K w s) :
    Calls Tryz.prog 84 #[.pointer (some ⟨K.bp, 0, none⟩), .string ⟨#[66]⟩] w fun e w' => e = .returned (.int .i64 (v : Int)) ∧ RP K w' s' := by
  unfold modalB at h
  obtain ⟨b, sb, hb, h⟩ := rbind_some h
  have Hb := Lib.hid hb
  have HAG := Lib.hid (fun W (hW : RP K W sb) => yName_agent hE sb W hW)
  generalize nameR K.E 1 sb = a at *
  obtain ⟨c, sc, hc, h⟩ := rbind_some h
  have Hc := Lib.hid hc
  unfold closeR at h
  obtain ⟨u, su, hu, h⟩ := rbind_some h
  have Hu := Lib.hid hu
  obtain ⟨x, sx, hx, h⟩ := rbind_some h
  have Hx := Lib.hid hx
  have HZ := Lib.hid h
  have HS0 := Lib.hid hS
  clear h hb hu hx hS hc
  go_enter Tryz.func84, Tryz.ntmps84
  go_wp2_with fail
  refine (yWant_any hE ⟨#[91]⟩ Hb.out (HS0.out)).mono ?_
  rintro e w1 ⟨rfl, hS1⟩
  have HS1 := Lib.hid hS1
  clear hS1
  go_wp2_with fail
  refine (HAG.out _ (HS1.out)).mono ?_
  rintro e w2 ⟨rfl, hS2⟩
  have HS2 := Lib.hid hS2
  clear hS2
  go_wp2_with fail
  refine (yBar_any hE hF _ _ _ _ Hc.out (HS2.out)).mono ?_
  rintro e w3 ⟨rfl, hS3⟩
  have HS3 := Lib.hid hS3
  clear hS3
  go_wp2_with fail
  refine (yWant_any hE ⟨#[93]⟩ Hu.out (HS3.out)).mono ?_
  rintro e w4 ⟨rfl, hS4⟩
  have HS4 := Lib.hid hS4
  clear hS4
  go_wp2_with fail
  refine (hR _ _ _ _ Hx.out (HS4.out)).mono ?_
  rintro e w5 ⟨rfl, hS5⟩
  have HS5 := Lib.hid hS5
  clear hS5
  go_wp2_with fail
  refine (yNode_agg 14 (a.1 : Int) 0 0 (c : Int) (x : Int) HZ.out (HS5.out)).mono ?_
  rintro e w6 ⟨rfl, hS6⟩
  have HS6 := Lib.hid hS6
  clear hS6
  go_wp2
  go_ret
  exact ⟨rfl, HS6.out⟩
set_option maxRecDepth 100000 in
set_option maxHeartbeats 1000000 in
theorem yModal_E {K : RK} (hE : RE K) {R : RunR} (hR : CtY K 74 R) {s s' : RS} {v : Nat} {w : World} (h : modalG K.E R 11 s = some (v, s')) (hS : RP K w s) :
    Calls Tryz.prog 84 #[.pointer (some ⟨K.bp, 0, none⟩), .string ⟨#[69]⟩] w fun e w' => e = .returned (.int .i64 (v : Int)) ∧ RP K w' s' := by
  unfold modalG at h
  obtain ⟨b, sb, hb, h⟩ := rbind_some h
  have Hb := Lib.hid hb
  obtain ⟨g, sg, hg, h⟩ := rbind_some h
  have Hg := Lib.hid hg
  unfold closeR at h
  obtain ⟨u, su, hu, h⟩ := rbind_some h
  have Hu := Lib.hid hu
  obtain ⟨x, sx, hx, h⟩ := rbind_some h
  have Hx := Lib.hid hx
  have HZ := Lib.hid h
  have HS0 := Lib.hid hS
  clear h hb hu hx hS hg
  go_enter Tryz.func84, Tryz.ntmps84
  go_wp2_with fail
  refine (yWant_any hE ⟨#[91]⟩ Hb.out (HS0.out)).mono ?_
  rintro e w1 ⟨rfl, hS1⟩
  have HS1 := Lib.hid hS1
  clear hS1
  go_wp2_with fail
  refine (yGroup_any hE _ _ _ _ (HS1.out) Hg.out).mono ?_
  rintro e w2 ⟨rfl, hS2⟩
  have HS2 := Lib.hid hS2
  clear hS2
  go_wp2_with fail
  refine (yWant_any hE ⟨#[93]⟩ Hu.out (HS2.out)).mono ?_
  rintro e w3 ⟨rfl, hS3⟩
  have HS3 := Lib.hid hS3
  clear hS3
  go_wp2_with fail
  refine (hR _ _ _ _ Hx.out (HS3.out)).mono ?_
  rintro e w4 ⟨rfl, hS4⟩
  have HS4 := Lib.hid hS4
  clear hS4
  go_wp2_with fail
  refine (yNode_agg 11 0 0 (g : Int) (x : Int) 0 HZ.out (HS4.out)).mono ?_
  rintro e w5 ⟨rfl, hS5⟩
  have HS5 := Lib.hid hS5
  clear hS5
  go_wp2
  go_ret
  exact ⟨rfl, HS5.out⟩
set_option maxRecDepth 100000 in
set_option maxHeartbeats 1000000 in
theorem yModal_D {K : RK} (hE : RE K) {R : RunR} (hR : CtY K 74 R) {s s' : RS} {v : Nat} {w : World} (h : modalG K.E R 12 s = some (v, s')) (hS : RP K w s) :
    Calls Tryz.prog 84 #[.pointer (some ⟨K.bp, 0, none⟩), .string ⟨#[68]⟩] w fun e w' => e = .returned (.int .i64 (v : Int)) ∧ RP K w' s' := by
  unfold modalG at h
  obtain ⟨b, sb, hb, h⟩ := rbind_some h
  have Hb := Lib.hid hb
  obtain ⟨g, sg, hg, h⟩ := rbind_some h
  have Hg := Lib.hid hg
  unfold closeR at h
  obtain ⟨u, su, hu, h⟩ := rbind_some h
  have Hu := Lib.hid hu
  obtain ⟨x, sx, hx, h⟩ := rbind_some h
  have Hx := Lib.hid hx
  have HZ := Lib.hid h
  have HS0 := Lib.hid hS
  clear h hb hu hx hS hg
  go_enter Tryz.func84, Tryz.ntmps84
  go_wp2_with fail
  refine (yWant_any hE ⟨#[91]⟩ Hb.out (HS0.out)).mono ?_
  rintro e w1 ⟨rfl, hS1⟩
  have HS1 := Lib.hid hS1
  clear hS1
  go_wp2_with fail
  refine (yGroup_any hE _ _ _ _ (HS1.out) Hg.out).mono ?_
  rintro e w2 ⟨rfl, hS2⟩
  have HS2 := Lib.hid hS2
  clear hS2
  go_wp2_with fail
  refine (yWant_any hE ⟨#[93]⟩ Hu.out (HS2.out)).mono ?_
  rintro e w3 ⟨rfl, hS3⟩
  have HS3 := Lib.hid hS3
  clear hS3
  go_wp2_with fail
  refine (hR _ _ _ _ Hx.out (HS3.out)).mono ?_
  rintro e w4 ⟨rfl, hS4⟩
  have HS4 := Lib.hid hS4
  clear hS4
  go_wp2_with fail
  refine (yNode_agg 12 0 0 (g : Int) (x : Int) 0 HZ.out (HS4.out)).mono ?_
  rintro e w5 ⟨rfl, hS5⟩
  have HS5 := Lib.hid hS5
  clear hS5
  go_wp2
  go_ret
  exact ⟨rfl, HS5.out⟩
set_option maxRecDepth 100000 in
set_option maxHeartbeats 1000000 in
theorem yModal_C {K : RK} (hE : RE K) {R : RunR} (hR : CtY K 74 R) {F : RunR} (hF : CtY K 18 F) {s s' : RS} {v : Nat} {w : World} (h : modalC K.E R F s = some (v, s')) (hS : RP K w s) :
    Calls Tryz.prog 84 #[.pointer (some ⟨K.bp, 0, none⟩), .string ⟨#[67]⟩] w fun e w' => e = .returned (.int .i64 (v : Int)) ∧ RP K w' s' := by
  unfold modalC at h
  obtain ⟨b, sb, hb, h⟩ := rbind_some h
  have Hb := Lib.hid hb
  obtain ⟨g, sg, hg, h⟩ := rbind_some h
  have Hg := Lib.hid hg
  obtain ⟨c, sc, hc, h⟩ := rbind_some h
  have Hc := Lib.hid hc
  unfold closeR at h
  obtain ⟨u, su, hu, h⟩ := rbind_some h
  have Hu := Lib.hid hu
  obtain ⟨x, sx, hx, h⟩ := rbind_some h
  have Hx := Lib.hid hx
  have HZ := Lib.hid h
  have HS0 := Lib.hid hS
  clear h hb hu hx hS hg hc
  go_enter Tryz.func84, Tryz.ntmps84
  go_wp2_with fail
  refine (yWant_any hE ⟨#[91]⟩ Hb.out (HS0.out)).mono ?_
  rintro e w1 ⟨rfl, hS1⟩
  have HS1 := Lib.hid hS1
  clear hS1
  go_wp2_with fail
  refine (yGroup_any hE _ _ _ _ (HS1.out) Hg.out).mono ?_
  rintro e w2 ⟨rfl, hS2⟩
  have HS2 := Lib.hid hS2
  clear hS2
  go_wp2_with fail
  refine (yBar_any hE hF _ _ _ _ Hc.out (HS2.out)).mono ?_
  rintro e w3 ⟨rfl, hS3⟩
  have HS3 := Lib.hid hS3
  clear hS3
  go_wp2_with fail
  refine (yWant_any hE ⟨#[93]⟩ Hu.out (HS3.out)).mono ?_
  rintro e w4 ⟨rfl, hS4⟩
  have HS4 := Lib.hid hS4
  clear hS4
  go_wp2_with fail
  refine (hR _ _ _ _ Hx.out (HS4.out)).mono ?_
  rintro e w5 ⟨rfl, hS5⟩
  have HS5 := Lib.hid hS5
  clear hS5
  go_wp2_with fail
  refine (yNode_agg 13 0 0 (g : Int) (c : Int) (x : Int) HZ.out (HS5.out)).mono ?_
  rintro e w6 ⟨rfl, hS6⟩
  have HS6 := Lib.hid hS6
  clear hS6
  go_wp2
  go_ret
  exact ⟨rfl, HS6.out⟩
set_option maxRecDepth 100000 in
set_option maxHeartbeats 1000000 in
theorem yUpdate_any {K : RK} (hE : RE K) {R : RunR} (hR : CtY K 74 R) {F : RunR} (hF : CtY K 18 F) : CtY K 85 (updateR K.E R F) := by
  intro s s' v w h hS
  have HC := Lib.hid (yTakes_any hE ⟨#[33]⟩ (by decide) s w hS)
  unfold updateR at h
  cases hc : takesR K.E ⟨#[33]⟩ s with
  | true =>
    rw [if_pos hc] at h
    rw [hc, if_pos rfl] at HC
    obtain ⟨c, sc, hc, h⟩ := rbind_some h
    have Hc := Lib.hid hc
    unfold closeR at h
    obtain ⟨u, su, hu, h⟩ := rbind_some h
    have Hu := Lib.hid hu
    obtain ⟨x, sx, hx, h⟩ := rbind_some h
    have Hx := Lib.hid hx
    have HZ := Lib.hid h
    clear h hc hu hx hS
    go_enter Tryz.func85, Tryz.ntmps85
    go_wp2_with fail
    refine (HC.out).mono ?_
    rintro e w1 ⟨rfl, hS1⟩
    have HS1 := Lib.hid hS1
    clear hS1
    go_wp2_with fail
    refine (hF _ _ _ _ Hc.out (HS1.out)).mono ?_
    rintro e w2 ⟨rfl, hS2⟩
    have HS2 := Lib.hid hS2
    clear hS2
    go_wp2_with fail
    refine (yWant_any hE ⟨#[93]⟩ Hu.out (HS2.out)).mono ?_
    rintro e w3 ⟨rfl, hS3⟩
    have HS3 := Lib.hid hS3
    clear hS3
    go_wp2_with fail
    refine (hR _ _ _ _ Hx.out (HS3.out)).mono ?_
    rintro e w4 ⟨rfl, hS4⟩
    have HS4 := Lib.hid hS4
    clear hS4
    go_wp2_with fail
    refine (yNode_agg 16 0 0 0 (c : Int) (x : Int) HZ.out (HS4.out)).mono ?_
    rintro e w5 ⟨rfl, hS5⟩
    have HS5 := Lib.hid hS5
    clear hS5
    go_wp2
    go_ret
    exact ⟨rfl, HS5.out⟩
  | false =>
    rw [if_neg (by rw [hc]; decide)] at h
    rw [hc, if_neg (by decide)] at HC
    have HAG := Lib.hid (fun W (hW : RP K W s) => yName_action hE s W hW)
    generalize nameR K.E 2 s = a at *
    obtain ⟨b, sb, hb, h⟩ := rbind_some h
    have Hb := Lib.hid hb
    have HNU := Lib.hid (fun W (hW : RP K W sb) => yNumber_any hE sb W hW)
    generalize numberR K.E sb = d at *
    unfold closeR at h
    obtain ⟨u, su, hu, h⟩ := rbind_some h
    have Hu := Lib.hid hu
    obtain ⟨x, sx, hx, h⟩ := rbind_some h
    have Hx := Lib.hid hx
    have HZ := Lib.hid h
    clear h hb hu hx hc hS
    go_enter Tryz.func85, Tryz.ntmps85
    go_wp2_with fail
    refine (HC.out).mono ?_
    rintro e w1 ⟨rfl, hS1⟩
    have HS1 := Lib.hid hS1
    clear hS1
    go_wp2_with fail
    refine (HAG.out _ (HS1.out)).mono ?_
    rintro e w2 ⟨rfl, hS2⟩
    have HS2 := Lib.hid hS2
    clear hS2
    go_wp2_with fail
    refine (yWant_any hE ⟨#[46]⟩ Hb.out (HS2.out)).mono ?_
    rintro e w3 ⟨rfl, hS3⟩
    have HS3 := Lib.hid hS3
    clear hS3
    go_wp2_with fail
    refine (HNU.out _ (HS3.out)).mono ?_
    rintro e w4 ⟨rfl, hS4⟩
    have HS4 := Lib.hid hS4
    clear hS4
    go_wp2_with fail
    refine (yWant_any hE ⟨#[93]⟩ Hu.out (HS4.out)).mono ?_
    rintro e w5 ⟨rfl, hS5⟩
    have HS5 := Lib.hid hS5
    clear hS5
    go_wp2_with fail
    refine (hR _ _ _ _ Hx.out (HS5.out)).mono ?_
    rintro e w6 ⟨rfl, hS6⟩
    have HS6 := Lib.hid hS6
    clear hS6
    go_wp2_with fail
    refine (yNode_agg 17 (a.1 : Int) (d.1 : Int) 0 (x : Int) 0 HZ.out (HS6.out)).mono ?_
    rintro e w7 ⟨rfl, hS7⟩
    have HS7 := Lib.hid hS7
    clear hS7
    go_wp2
    go_ret
    exact ⟨rfl, HS7.out⟩
end Go.Proofs.YthhkeobjjeldhaaGreatDoor
