/- Layer 6: texts joined: UOv UOw. -/
import Derived.Test.YtopkmcoblndokaaDoorNTn
import Derived.Carry
/- Layer 10: Refute, by the program. -/
namespace Go.Proofs.YtopkmcoblndokaaDoor.rsl
open Go.RowKit Go.Proofs.Ws.rsl Go.Maps
set_option maxRecDepth 100000
def reE (n : Int) (l : List (List Int)) : Int := if chkR n l = 0 then (match (refS n.toNat l n.toNat 0 []).1 with | some _ => 0 | none => 15) else chkR n l
def reL (n : Int) (l : List (List Int)) : List Ln := if chkR n l = 0 then (match (refS n.toNat l n.toNat 0 []).1 with | some _ => (refS n.toNat l n.toNat 0 []).2 | none => []) else []
def GivesR (s : List Ln) (E : Int) (w : World) (e : Ending) (w' : World) : Prop := ∃ A c, e = .returned (.tuple #[.slice A s.length c, .int .i64 E]) ∧ LnsR w' w'.heap.size A s.length s ∧ Below w.heap.size w w'
theorem LnsR.nil (W : World) (B : Nat) (A : Option Addr) : LnsR W B A 0 [] := ⟨rfl, [], ⟨rfl, fun h => absurd h (Nat.lt_irrefl _)⟩, fun _j hj => absurd hj (Nat.not_lt_zero _)⟩
set_option maxHeartbeats 8000000 in
theorem xRefute_any (n : Int) (l : List (List Int)) (A : Option Addr) (k cap : Nat) (w : World) (hR : ZsR w w.heap.size A k l) (hk : k ≤ maxLen) :
    Calls Tryd.prog 13 #[.int .i64 n, .slice A k cap] w (GivesR (reL n l) (reE n l) w) := by
  have HC := Lib.hid (xCheck_any n l A k cap w.heap.size w hR hk)
  by_cases hz : chkR n l = 0
  · obtain ⟨m, rfl, hm, hln, hcl⟩ := chkR_ok hz
    have hl := hR.len
    have HE : Hid (reE (m : Int) l = match (refS m l m 0 []).1 with | some _ => 0 | none => 15) := Lib.hid (by unfold reE; rw [if_pos hz, Int.toNat_natCast])
    have HL : Hid (reL (m : Int) l = match (refS m l m 0 []).1 with | some _ => (refS m l m 0 []).2 | none => []) := Lib.hid (by unfold reL; rw [if_pos hz, Int.toNat_natCast])
    have hmm := @run_makeMap Tryd.prog
    have e1 : (w.alloc (.map #[] 0)).heap.size = w.heap.size + 1 := by simp
    have hb1 : Below w.heap.size w (w.alloc (.map #[] 0)) := (Below.refl _ w).alloc (Nat.le_refl _) _
    have hb2 : Below (w.heap.size + 1) (w.alloc (.map #[] 0)) ((w.alloc (.map #[] 0)).alloc (.cells #[.slice A k cap, .slice none 0 0, .map (some w.heap.size)] 70)) := (Below.refl _ _).alloc (by rw [e1]; exact Nat.le_refl _) _
    have hbx := heap_alloc_new (w.alloc (.map #[] 0)) (.cells #[.slice A k cap, .slice none 0 0, .map (some w.heap.size)] 70)
    rw [e1] at hbx
    have HS0 : Hid (Srch w (.slice A k cap) (w.heap.size + 1) w.heap.size [] ((w.alloc (.map #[] 0)).alloc (.cells #[.slice A k cap, .slice none 0 0, .map (some w.heap.size)] 70))) := Lib.hid
      ⟨⟨Nat.le_succ _, Nat.le_refl _⟩, fun i hi => absurd hi (Nat.not_lt_zero _), hb1.trans (hb2.mono (Nat.le_succ _)), .slice none 0 0, .map [], hbx, (World.ownsMap_made w _ _ _).alloc _, MapS.start, [], World.ownsRow_nil _ _ _ _, fun j hj => absurd hj (Nat.not_lt_zero _)⟩
    have HREC := Lib.hid (fun W hS => xRefute_rec w l A k cap (w.heap.size + 1) w.heap.size m hm hcl hR (by omega) m (Nat.le_refl _) t00 0 [] W rfl (TVal.zero m) (fun i hi => absurd hi (Nat.not_lt_zero _)) (fun i hi => absurd hi (Nat.not_lt_zero _)) (by have : 2 ^ (m + 1) ≤ 2 ^ 13 := Nat.pow_le_pow_right (by decide) (by omega); simp only [List.length_nil]; omega) hS)
    have HLEN := Lib.hid (refS_len (n := m) (l := l) m 0 [])
    rw [hz] at HC
    clear hz hl hR hcl hb1 hb2 hbx e1
    obtain ⟨p, s, hr⟩ : ∃ p s, refS m l m 0 [] = (p, s) := ⟨_, _, rfl⟩
    rw [hr] at HE HL HREC
    clear hr HLEN
    go_enter Tryd.func13, Tryd.ntmps13
    go_wp2_with fail
    refine (HC.out).mono ?_
    rintro e w2 ⟨rfl, rfl⟩
    go_wp2_with fail
    generalize ((w.alloc (.map #[] 0)).alloc (.cells #[.slice A k cap, .slice none 0 0, .map (some w.heap.size)] 70)) = w1 at *
    have HR1 := Lib.hid (HREC.out w1 HS0.out)
    change Hid (Calls Tryd.prog _ #[_, .agg #[.int .i64 0, .int .i64 0, .int .i64 0, .int .i64 0, .int .i64 0, .int .i64 0, .int .i64 0, .int .i64 0, .int .i64 0, .int .i64 0, .int .i64 0, .int .i64 0], _] _ _) at HR1
    clear HREC HS0
    refine (HR1.out).mono ?_
    rintro e w3 ⟨rfl, hs3, _⟩
    have HS3 := Lib.hid hs3
    clear hs3
    cases p with
    | none =>
      rw [show optI ((none, s) : Option Nat × List Ln).1 = -1 from rfl]
      go_wp2
      go_ret2
      exact ⟨none, 0, by rw [HL.out, HE.out]; rfl, by rw [HL.out]; exact LnsR.nil _ _ _, HS3.out.below⟩
    | some i =>
      rw [show optI ((some i, s) : Option Nat × List Ln).1 = (i : Int) from rfl]
      obtain ⟨LV, D, hsb, _, _, hlo⟩ := HS3.out.ex
      have HSL := Lib.hid hlo
      obtain ⟨A9, c9, rfl⟩ := hlo.slice
      have y1 := hsb.c1
      clear hlo hsb
      have HNS := Lib.hid (HSL.out.lns HS3.out.ok)
      have hq : decide ((i : Int) < 0) = false := decide_eq_false (by omega)
      try dsimp only at HNS y1
      obtain ⟨ns, hns⟩ : ∃ ns, s.length = ns := ⟨_, rfl⟩
      rw [hns] at y1
      have HN := Lib.hid hns
      clear hns
      go_wp2
      go_ret2
      exact ⟨A9, c9, by rw [HL.out, HE.out, ← HN.out]; rfl, by rw [HL.out]; exact HNS.out, HS3.out.below⟩
  · have HE : Hid (reE n l = chkR n l) := Lib.hid (by unfold reE; rw [if_neg hz])
    have HL : Hid (reL n l = []) := Lib.hid (by unfold reL; rw [if_neg hz])
    have q1 : (chkR n l != 0) = true := by rw [bne_iff_ne]; exact hz
    generalize reE n l = E at *
    generalize reL n l = s at *
    clear hz hR
    generalize chkR n l = ee at *
    go_enter Tryd.func13, Tryd.ntmps13
    go_wp2_with fail
    refine (HC.out).mono ?_
    rintro e w2 ⟨rfl, rfl⟩
    go_wp2
    go_ret2
    exact ⟨none, 0, by rw [HL.out, HE.out]; rfl, by rw [HL.out]; exact LnsR.nil _ _ _, Below.refl _ _⟩
end Go.Proofs.YtopkmcoblndokaaDoor.rsl
/- Layer 10: the reference's Same; the law's example, few; lists of lists of one's own. -/
namespace Go.Proofs.YtopkmcoblndokaaDoor.rsl
open Go.RowKit Go.Proofs.Ws.rsl
set_option maxRecDepth 100000
set_option maxRecDepth 100000 in
theorem rSame_any (l m : List Int) (A A2 : Option Addr) (n n2 c c2 B : Nat) (w : World) (hR : Reads w B 1 A n (ints l)) (hR2 : Reads w B 1 A2 n2 (ints m)) (hn : n ≤ maxLen) (hn2 : n2 ≤ maxLen) :
    Calls Tryd.prog 12 #[.slice A n c, .slice A2 n2 c2] w fun e w' => e = .returned (.bool (decide (l = m))) ∧ ∃ q, w' = w.drewN q := by
  unfold maxLen at hn hn2
  have e1 := hR.int_len
  have e2 := hR2.int_len
  by_cases h : n = n2
  · subst h
    have HL := Lib.hid e1
    have HL2 := Lib.hid e2
    clear e1 e2
    go_enter Tryd.func12, Tryd.ntmps12
    go_wp2
    go_loopw [5] (fun i wr => ∃ k q : Nat, k ≤ n ∧ i = .int .i64 k ∧ Hid (decide (l = m) = decide (l.drop k = m.drop k)) ∧ wr = w.drewN q) (fun i _ => n - (intOf i).toNat)
    case atStart => exact ⟨0, 0, Nat.zero_le _, rfl, Lib.hid rfl, rfl⟩
    case round =>
      obtain ⟨k, q, hk, rfl, HI, rfl⟩ := hrel
      by_cases hlt : k < n
      · obtain ⟨ad, rfl, hb, hc⟩ := hR.int_at hlt
        obtain ⟨ad2, rfl, hb2, hc2⟩ := hR2.int_at hlt
        have HD := Lib.hid (drop_getD l k (by have := HL.out; omega))
        have HD2 := Lib.hid (drop_getD m k (by have := HL2.out; omega))
        generalize l.getD k 0 = x at *
        generalize m.getD k 0 = y at *
        by_cases hxy : x = y
        · subst hxy
          have HI2 : Hid (decide (l = m) = decide (l.drop (k + 1) = m.drop (k + 1))) := Lib.hid (by rw [HI.out, HD.out, HD2.out]; exact decide_eq_decide.2 (by simp))
          have hb1 : (x != x) = false := by simp
          go_wp2
          go_quiet (fail)
          go_wp2
          go_roundw
          case rel => exact ⟨k + 1, q + nq, by omega, by go_num, HI2, by first | rfl | rw [World.drewN_drewN]⟩
          case measure => simp [intOf]; omega
        · have HE : Hid (decide (l = m) = false) := Lib.hid (by rw [HI.out, HD.out, HD2.out]; simp [hxy])
          have hne : (x != y) = true := by rw [bne_iff_ne]; exact hxy
          clear hxy
          go_wp2
          go_quiet (fail)
          go_wp2
          go_ret
          exact ⟨ret_bool HE.out.symm, ⟨q + nq, by first | rfl | rw [World.drewN_drewN]⟩⟩
      · have HE : Hid (decide (l = m) = true) := Lib.hid (by rw [HI.out, List.drop_eq_nil_of_le (by have := HL.out; omega), List.drop_eq_nil_of_le (by have := HL2.out; omega)]; rfl)
        go_wp2
        go_ret
        exact ⟨ret_bool HE.out.symm, ⟨q, rfl⟩⟩
  · have hne : ((n : Int) != (n2 : Int)) = true := by simp; omega
    have HE : Hid (decide (l = m) = false) := Lib.hid (by simp; intro hh; subst hh; omega)
    clear e1 e2
    go_enter Tryd.func12, Tryd.ntmps12
    go_wp2
    go_ret
    exact ⟨ret_bool HE.out.symm, ⟨0, rfl⟩⟩

/-- a list of lists in memory of its own -/
def ZsO (W : World) (base : Nat) (V : Value) (ls : List (List Int)) : Prop :=
  ∃ vs, W.ownsRow base 31 1 V ls.length vs ∧ ∀ j, j < ls.length → ∃ Aj cj, vs[j]? = some (.slice Aj (ls.getD j []).length cj) ∧ OwJ W base Aj (ls.getD j []) ∧ (ls.getD j []).length ≤ maxLen
theorem ZsO.below {W W' : World} {base : Nat} {V : Value} {ls : List (List Int)} (h : ZsO W base V ls) (hb : Below W.heap.size W W') : ZsO W' base V ls := by
  obtain ⟨vs, h1, h2⟩ := h
  refine ⟨vs, own_keep1 h1 (fun y hy => hb.block y (h1.lt y hy).2), fun j hj => ?_⟩
  obtain ⟨Aj, cj, e, h3, h4⟩ := h2 j hj
  exact ⟨Aj, cj, e, h3.below hb, h4⟩
theorem ZsO.zs {W : World} {base : Nat} {A : Option Addr} {n c : Nat} {ls : List (List Int)} (h : ZsO W base (.slice A n c) ls) : ZsR W W.heap.size A ls.length ls := by
  obtain ⟨vs, h1, h2⟩ := h
  obtain ⟨A', c', e, hr⟩ := own_reads4 h1
  injection e with e1 e2 e3
  subst e1
  refine ⟨rfl, vs, hr, fun j hj => ?_⟩
  obtain ⟨Aj, cj, e, h3, h4⟩ := h2 j hj
  exact ⟨Aj, cj, e, h3.reads, h4⟩
theorem ZsO.slice {W : World} {base : Nat} {V : Value} {ls : List (List Int)} (h : ZsO W base V ls) : ∃ A c, V = .slice A ls.length c := by
  obtain ⟨vs, h1, _⟩ := h
  obtain ⟨A', c', e, _⟩ := own_reads4 h1
  exact ⟨A', c', e⟩
theorem HoldsI.ow {W : World} {g base : Nat} {l : List Int} (h : HoldsI W g l) (hg : base ≤ g) : OwJ W base (some ⟨g, 0, none⟩) l := fun _ => ⟨g, rfl, hg, h.pad⟩
def ex3 : List (List Int) := [[1, 2], [-1, 2], [1, -2]]
def ex4 : List (List Int) := [[1, 2], [-1, 2], [1, -2], [-1, -2]]
/-- a slice just made of these cells is one's own -/
theorem own_made1 (w : World) (e : TypeId) (vs : List Value) (base : Nat) (hb : base ≤ w.heap.size) (hl : vs.length ≤ 1000) : (w.alloc (.cells vs.toArray e)).ownsRow base e 1 (.slice (some ⟨w.heap.size, 0, none⟩) vs.length vs.length) vs.length vs := by
  refine ⟨by omega, .inr ⟨w.heap.size, vs.length, vs.toArray, rfl, hb, heap_alloc_new w _, Nat.le_refl _, by unfold maxLen; omega, by simp, ?_⟩⟩
  simp
theorem lit2 (w : World) (a b : Int) : ∃ W, w.alloc (.cells #[.int .i64 a, .int .i64 b] 3) = W ∧ HoldsI W w.heap.size [a, b] ∧ Below w.heap.size w W ∧ W.heap.size = w.heap.size + 1 := ⟨_, rfl, HoldsI.made w [a, b], (Below.refl _ _).alloc (Nat.le_refl _) _, by simp⟩
theorem lit1 (w : World) (a : Int) : ∃ W, w.alloc (.cells #[.int .i64 a] 3) = W ∧ HoldsI W w.heap.size [a] ∧ Below w.heap.size w W ∧ W.heap.size = w.heap.size + 1 := ⟨_, rfl, HoldsI.made w [a], (Below.refl _ _).alloc (Nat.le_refl _) _, by simp⟩
theorem HoldsI.below {w w' : World} {B g : Nat} {l : List Int} (h : HoldsI w g l) (hb : Below B w w') (hg : g < B) : HoldsI w' g l := (hb.block g hg).trans h
theorem xExample_any (w : World) : Calls Tryd.prog 8 #[] w fun e w' => ∃ A c, e = .returned (.slice A 3 c) ∧ ZsO w' w.heap.size (.slice A 3 c) ex3 ∧ Below w.heap.size w w' := by
  obtain ⟨w1, h1, d1, b1, z1⟩ := lit2 w 1 2
  obtain ⟨w2, h2, d2, b2, z2⟩ := lit2 w1 (-1) 2
  obtain ⟨w3, h3, d3, b3, z3⟩ := lit2 w2 1 (-2)
  have hm := own_made1 w3 31 [.slice (some ⟨w.heap.size, 0, none⟩) 2 2, .slice (some ⟨w1.heap.size, 0, none⟩) 2 2, .slice (some ⟨w2.heap.size, 0, none⟩) 2 2] w.heap.size (by omega) (by simp)
  have hb4 : Below w3.heap.size w3 (w3.alloc (.cells #[.slice (some ⟨w.heap.size, 0, none⟩) 2 2, .slice (some ⟨w1.heap.size, 0, none⟩) 2 2, .slice (some ⟨w2.heap.size, 0, none⟩) 2 2] 31)) := (Below.refl _ _).alloc (Nat.le_refl _) _
  have i1 := (d1.below b2 (by omega)).below b3 (by omega)
  have i2 := d2.below b3 (by omega)
  have HF : Hid (ZsO (w3.alloc (.cells #[.slice (some ⟨w.heap.size, 0, none⟩) 2 2, .slice (some ⟨w1.heap.size, 0, none⟩) 2 2, .slice (some ⟨w2.heap.size, 0, none⟩) 2 2] 31)) w.heap.size (.slice (some ⟨w3.heap.size, 0, none⟩) 3 3) ex3) := Lib.hid ⟨_, hm, fun j hj => by
    match j, hj with
    | 0, _ => exact ⟨_, 2, rfl, (i1.below hb4 (by omega)).ow (Nat.le_refl _), by decide⟩
    | 1, _ => exact ⟨_, 2, rfl, (i2.below hb4 (by omega)).ow (by omega), by decide⟩
    | 2, _ => exact ⟨_, 2, rfl, (d3.below hb4 (by omega)).ow (by omega), by decide⟩⟩
  have HB : Hid (Below w.heap.size w (w3.alloc (.cells #[.slice (some ⟨w.heap.size, 0, none⟩) 2 2, .slice (some ⟨w1.heap.size, 0, none⟩) 2 2, .slice (some ⟨w2.heap.size, 0, none⟩) 2 2] 31))) := Lib.hid (((b1.trans (b2.mono (by omega))).trans (b3.mono (by omega))).trans (hb4.mono (by omega)))
  rw [z3, z2, z1] at HF
  rw [z2, z1] at HB
  rw [← h3, ← h2, ← h1] at HF HB
  clear h1 h2 h3 d1 d2 d3 b1 b2 b3 z1 z2 z3 hm hb4 i1 i2
  go_enter Tryd.func8, Tryd.ntmps8
  go_wp2
  go_ret
  exact ⟨_, 3, rfl, HF.out, HB.out⟩
end Go.Proofs.YtopkmcoblndokaaDoor.rsl
