/- Layer 8: RewriteForms: in a negation normal form negations stand only before facts and operators that have no dual, a formula with few operators has only these, and simplifying again changes nothing. -/
import Derived.Test.YtkcedppepepgfaaDoorQq
import Derived.Test.YtkcedppepepgfaaDoorRk
namespace Go.Proofs.YtkcedppepepgfaaDoor.rewriteForms
open Go.ChangeShapes Go.WideShapes Go.ChangeAt Go.RowKit Go.Proofs.YtkcedppepepgfaaDoor Go.Proofs.YtkcedppepepgfaaDoor.rwl Go.Proofs.Ws Go.Maps
open Go.ChangeMaps (open_string shut_string)
theorem few_any (A : Option Addr) (n c : Nat) (k : Int) (w : World) : Calls Tryd.prog 10 #[.slice A n c, .int .i64 k] w fun e w' => e = .returned (.bool (decide ((n : Int) ≤ k))) ∧ w = w' := by
  go_enter Tryd.func10, Tryd.ntmps10
  go_wp2
  go_ret
  exact ⟨rfl, rfl⟩
/-- what the three results are -/
structure Res (f a c s : List Nd) (e h : Int) : Prop where
  ha : mapF (fun t => (nfT t).1) f = a
  he : mapE (fun t => (nfT t).1) f = e
  hc : mapF (mapT coreT) f = c
  hh : mapE (mapT coreT) f = h
  hs : mapF (mapT simT) f = s
  hg : mapE (mapT simT) f = 0
  ht : mapF (mapT simT) s = s
  hi : mapE (mapT simT) s = 0
  e2 : e = 0 ∨ e = 8
  h2 : h = 0 ∨ h = 8
  az : e = 0 → fErr a = 0
  cz : h = 0 → fErr c = 0
  sz : fErr s = 0
  la : a.length ≤ 200
  lc : c.length ≤ 200
  ls : s.length ≤ 200
  oa : opsL a
  an : ∀ j, j < a.length → ¬ (a.getD j nd0).op = 7 ∧ ¬ (a.getD j nd0).op = 8 ∧ ((a.getD j nd0).op = 4 → (a.getD (a.getD j nd0).x.toNat nd0).op = 3 ∨ 11 ≤ (a.getD (a.getD j nd0).x.toNat nd0).op)
  cn : ∀ j, j < c.length → ¬ (c.getD j nd0).op = 1 ∧ ¬ (c.getD j nd0).op = 6 ∧ ¬ (c.getD j nd0).op = 7 ∧ ¬ (c.getD j nd0).op = 8 ∧ ¬ (c.getD j nd0).op = 10
theorem resE_two (t : Tr) : resE t = 0 ∨ resE t = 8 := by unfold resE; split; exact .inr rfl; exact .inl rfl
theorem resE_zero {t : Tr} (h : resE t = 0) : (canT t).length ≤ 200 := by
  unfold resE at h
  split at h
  · cases h
  · omega
theorem res_ok {f : List Nd} (hz : fErr f = 0) (hf : f.length ≤ 60) : ∃ a c s e h, Res f a c s e h := by
  have h0 := tOf_all hz
  have hn := (nfT_all _ h0).1
  have hc := mapT_all core_keep _ h0
  have hs := mapT_all sim_keep _ h0
  have gs := sim_gr hz
  have ls : (canT (mapT simT (tOf f))).length ≤ 200 := by
    have h1 := gs.bd.len gs.ok gs.rep
    have h2 := gs.len
    have h3 := compF_le f
    simp at h2
    omega
  have es : resL (mapT simT (tOf f)) = canT (mapT simT (tOf f)) := resL_short ls
  have sz : fErr (resL (mapT simT (tOf f))) = 0 := by rw [resL_err hs, if_neg (by omega)]
  have ts : tOf (resL (mapT simT (tOf f))) = mapT simT (tOf f) := by
    rw [es]
    exact canT_tree hs.1
  have len : ∀ t : Tr, (resL t).length ≤ 200 := fun t => by unfold resL; split; simp; omega
  have hss : mapF (mapT simT) f = resL (mapT simT (tOf f)) := if_pos hz
  refine ⟨_, _, _, _, _, rfl, rfl, rfl, rfl, hss, ?_, ?_, ?_, ?_, ?_, fun e => ?_, fun e => ?_, sz, ?_, ?_, len _, ?_, fun j hj => ?_, fun j hj => ?_⟩
  · unfold mapE resE; rw [if_pos hz, if_neg (by omega)]
  · unfold mapF
    rw [if_pos sz, ts, sim_twice h0]
  · unfold mapE resE
    rw [if_pos sz, ts, sim_twice h0, if_neg (by omega)]
  · unfold mapE; rw [if_pos hz]; exact resE_two _
  · unfold mapE; rw [if_pos hz]; exact resE_two _
  · unfold mapE at e; rw [if_pos hz] at e; dsimp only at e
    unfold mapF; rw [if_pos hz, resL_err hn, if_neg (by have := resE_zero e; omega)]
  · unfold mapE at e; rw [if_pos hz] at e
    unfold mapF; rw [if_pos hz, resL_err hc, if_neg (by have := resE_zero e; omega)]
  · unfold mapF; rw [if_pos hz]; exact len _
  · unfold mapF; rw [if_pos hz]; exact len _
  · unfold mapF; rw [if_pos hz]; dsimp only
    by_cases hl : (canT (nfT (tOf f)).1).length ≤ 200
    · rw [resL_short hl]; exact canT_ops hn.1
    · rw [resL_nil.2 (by omega)]; exact fun i hi => absurd hi (by simp)
  · unfold mapF at hj ⊢; rw [if_pos hz] at hj ⊢; dsimp only at hj ⊢
    by_cases hl : (canT (nfT (tOf f)).1).length ≤ 200
    · rw [resL_short hl] at hj ⊢; exact nf_list hn.1 (nfT_form _ h0).1 hj
    · rw [resL_nil.2 (by omega)] at hj; exact absurd hj (by simp)
  · unfold mapF at hj ⊢; rw [if_pos hz] at hj ⊢
    by_cases hl : (canT (mapT coreT (tOf f))).length ≤ 200
    · rw [resL_short hl] at hj ⊢; exact core_list hc.1 (core_form _ h0.1) hj
    · rw [resL_nil.2 (by omega)] at hj; exact absurd hj (by simp)
set_option maxRecDepth 100000 in
set_option maxHeartbeats 16000000 in
theorem walk (f : List Nd) (A0 : Option Addr) (n0 c0 : Nat) (w : World) (hE : EnvR w w.heap.size) (h0 : NdRow w A0 n0 c0 f) :
    Calls Tryd.prog 7 #[.slice A0 n0 c0] w fun e w' => e = .returned (.bool true) ∧ Below w.heap.size w w' := by
  obtain ⟨hR, _, _, hm⟩ := h0
  have hl := hR.nd_len
  have HE := Lib.hid hE
  have HR := Lib.hid hR
  have HFE := Lib.hid (few_any A0 n0 c0 40 w)
  have HCK := Lib.hid (rCheck_any f A0 n0 c0 w hR hm)
  by_cases hn : n0 ≤ 40
  · rw [decide_eq_true (show ((n0 : Nat) : Int) ≤ 40 by omega)] at HFE
    by_cases hz : fErr f = 0
    · rw [hz] at HCK
      obtain ⟨a, c, s, e, h, hres⟩ := res_ok hz (by omega)
      have HRES := Lib.hid hres
      have hla := hres.la
      have hlc := hres.lc
      have hls := hres.ls
      clear hE hR hres hz
      go_enter Tryd.func7, Tryd.ntmps7
      go_wp2_with fail
      refine (HFE.out).mono ?_
      rintro r w0 ⟨rfl, rfl⟩
      go_wp2_with fail
      refine (HCK.out).mono ?_
      rintro r w1 ⟨rfl, hb1⟩
      have HB1 := Lib.hid hb1
      clear hb1
      go_wp2_with fail
      refine (pNnf_any f A0 n0 c0 w1 ((HE.out.below HB1.out).up HB1.out.size) (up8 HR.out HB1.out) hm).mono ?_
      rintro r w2 ⟨Aa, ca, rfl, hr2, hb2⟩
      rw [HRES.out.ha] at hr2
      rw [HRES.out.ha, HRES.out.he]
      have HB2 := Lib.hid (HB1.out.trans (hb2.mono HB1.out.size))
      have HA2 := Lib.hid hr2
      clear hr2 hb2
      go_wp2_with fail
      refine (pCore_any f A0 n0 c0 w2 ((HE.out.below HB2.out).up HB2.out.size) (up8 HR.out HB2.out) hm).mono ?_
      rintro r w3 ⟨Ac, cc, rfl, hr3, hb3⟩
      rw [HRES.out.hc] at hr3
      rw [HRES.out.hc, HRES.out.hh]
      have HB3 := Lib.hid (HB2.out.trans (hb3.mono HB2.out.size))
      have HC3 := Lib.hid hr3
      have HA3 := Lib.hid (up8 HA2.out hb3)
      clear hr3 hb3 HA2
      go_wp2_with fail
      refine (pSimp_any f A0 n0 c0 w3 ((HE.out.below HB3.out).up HB3.out.size) (up8 HR.out HB3.out) hm).mono ?_
      rintro r w4 ⟨As, cs, rfl, hr4, hb4⟩
      rw [HRES.out.hs] at hr4
      rw [HRES.out.hs, HRES.out.hg]
      have HB4 := Lib.hid (HB3.out.trans (hb4.mono HB3.out.size))
      have HS4 := Lib.hid hr4
      have HA4 := Lib.hid (up8 HA3.out hb4)
      have HC4 := Lib.hid (up8 HC3.out hb4)
      clear hr4 hb4 HA3 HC3
      go_wp2_with fail
      refine (pSimp_any s As s.length cs w4 ((HE.out.below HB4.out).up HB4.out.size) HS4.out (by unfold maxLen; omega)).mono ?_
      rintro r w5 ⟨At, ct, rfl, hr5, hb5⟩
      rw [HRES.out.ht] at hr5
      rw [HRES.out.ht, HRES.out.hi]
      have HB5 := Lib.hid (HB4.out.trans (hb5.mono HB4.out.size))
      have HT5 := Lib.hid hr5
      have HS5 := Lib.hid (up8 HS4.out hb5)
      have HA5 := Lib.hid (up8 HA4.out hb5)
      have HC5 := Lib.hid (up8 HC4.out hb5)
      clear hr5 hb5 HS4 HA4 HC4 HB1 HB2 HB3 HB4 HFE HCK
      have HSZ : Hid (fErr s = 0) := Lib.hid HRES.out.sz
      have HAZ : Hid (e = 0 → fErr a = 0) := Lib.hid HRES.out.az
      have HCZ : Hid (h = 0 → fErr c = 0) := Lib.hid HRES.out.cz
      rcases HRES.out.e2 with he | he
      · subst he
        have HAZ0 := Lib.hid (HAZ.out rfl)
        rcases HRES.out.h2 with hh | hh
        · subst hh
          have HCZ0 := Lib.hid (HCZ.out rfl)
          clear HAZ HCZ
          go_wp2_with fail
          refine (rEqual_any s s As At s.length s.length _ _ w5 HS5.out HT5.out (by unfold maxLen; omega) (by unfold maxLen; omega)).mono ?_
          rintro r w6 ⟨rfl, hb6⟩
          rw [decide_eq_true (show s = s from rfl)]
          have HB6 := Lib.hid (HB5.out.trans (hb6.mono HB5.out.size))
          have HS6 := Lib.hid (up8 HS5.out hb6)
          have HA6 := Lib.hid (up8 HA5.out hb6)
          have HC6 := Lib.hid (up8 HC5.out hb6)
          clear hb6 HS5 HT5 HA5 HC5 HB5
          go_wp2_with fail
          refine (rCheck_any s As s.length _ w6 HS6.out (by unfold maxLen; omega)).mono ?_
          rintro r w7 ⟨rfl, hb7⟩
          rw [HSZ.out]
          have HB7 := Lib.hid (HB6.out.trans (hb7.mono HB6.out.size))
          have HA7 := Lib.hid (up8 HA6.out hb7)
          have HC7 := Lib.hid (up8 HC6.out hb7)
          clear hb7 HS6 HA6 HC6 HB6
          go_wp2_with fail
          refine (rCheck_any a Aa a.length _ w7 HA7.out (by unfold maxLen; omega)).mono ?_
          rintro r w8 ⟨rfl, hb8⟩
          rw [HAZ0.out]
          have HB8 := Lib.hid (HB7.out.trans (hb8.mono HB7.out.size))
          have HA8 := Lib.hid (up8 HA7.out hb8)
          have HC8 := Lib.hid (up8 HC7.out hb8)
          clear hb8 HA7 HC7 HB7
          go_wp2_with fail
          refine (rCheck_any c Ac c.length _ w8 HC8.out (by unfold maxLen; omega)).mono ?_
          rintro r w9 ⟨rfl, hb9⟩
          rw [HCZ0.out]
          have HB9 := Lib.hid (HB8.out.trans (hb9.mono HB8.out.size))
          have HA9 := Lib.hid (up8 HA8.out hb9)
          have HC9 := Lib.hid (up8 HC8.out hb9)
          clear hb9 HA8 HC8 HB8
          go_wp2_with fail
          go_loopw [12, 13, 98] (fun _ _ i wr => ∃ k : Nat, k ≤ a.length ∧ i = .int .i64 k ∧ Hid (Below w9.heap.size w9 wr)) (fun _ _ i _ => a.length - (intOf i).toNat)
          case atStart => exact ⟨0, Nat.zero_le _, rfl, Lib.hid (Below.refl _ _)⟩
          case round =>
            obtain ⟨k, hk, rfl, HBR⟩ := hrel
            by_cases hlt : k < a.length
            · obtain ⟨ad, rfl, hb, m0, m1, m2, m3, m4, m5⟩ := (HA9.out.below HBR.out).nd_at hlt
              have l1 := add_cell m1
              have l2 := add_cell m2
              have l3 := add_cell m3
              have l4 := add_cell m4
              have l5 := add_cell m5
              obtain ⟨n7, n8, n4⟩ := HRES.out.an k hlt
              have hops := HRES.out.oa k hlt
              obtain ⟨x, hx⟩ : ∃ x, a.getD k nd0 = x := ⟨_, rfl⟩
              rw [hx] at m0 l1 l2 l3 l4 l5 n7 n8 n4 hops
              clear hx m1 m2 m3 m4 m5
              have HBA : Hid (Below w9.heap.size w9 (wr.alloc (.cells #[.int .i64 x.op, .int .i64 x.i, .int .i64 x.e, .int .i64 x.g, .int .i64 x.x, .int .i64 x.y] 45))) := Lib.hid (HBR.out.alloc HBR.out.size _)
              by_cases h4 : x.op = 4
              · have hx4 := opsOk_x hops (by rw [h4]; decide)
                have hox := n4 h4
                obtain ⟨xop, xi, xe, xg, xx, xy⟩ := x
                dsimp only at *
                subst h4
                obtain ⟨kx, rfl⟩ : ∃ kx : Nat, xx = (kx : Int) := ⟨xx.toNat, by omega⟩
                rw [Int.toNat_natCast] at hx4 hox
                have hkx : kx < a.length := by omega
                obtain ⟨ad2, had2, hadb2, p0, _⟩ := (HA9.out.below HBA.out).nd_at hkx
                injection had2 with had2
                subst had2
                clear hops n4 n7 n8
                generalize (a.getD kx nd0).op = ox at *
                by_cases h3 : ox = 3
                · subst h3
                  go_wp2
                  go_roundw
                  case rel => exact ⟨k + 1, by omega, by go_num, HBA⟩
                  case measure => first | (simp [intOf]; done) | (simp [intOf]; omega)
                · have h11 : ¬ ox < 11 := by omega
                  go_wp2
                  go_roundw
                  case rel => exact ⟨k + 1, by omega, by go_num, HBA⟩
                  case measure => first | (simp [intOf]; done) | (simp [intOf]; omega)
              · clear hops n4
                obtain ⟨xop, xi, xe, xg, xx, xy⟩ := x
                dsimp only at *
                have q4 : (xop == 4) = false := by simpa using h4
                have q7 : (xop == 7) = false := by simpa using n7
                have q8 : (xop == 8) = false := by simpa using n8
                go_wp2
                go_roundw
                case rel => exact ⟨k + 1, by omega, by go_num, HBA⟩
                case measure => first | (simp [intOf]; done) | (simp [intOf]; omega)
            · have hka : k = a.length := by omega
              subst hka
              have HCR := Lib.hid (up8 HC9.out HBR.out)
              have HBW := Lib.hid (HB9.out.trans (HBR.out.mono HB9.out.size))
              generalize wr = wo at *
              go_wp2
              go_loopw [15, 128] (fun _ i wr => ∃ k : Nat, k ≤ c.length ∧ i = .int .i64 k ∧ Hid (Below wo.heap.size wo wr)) (fun _ i _ => c.length - (intOf i).toNat)
              case atStart => exact ⟨0, Nat.zero_le _, rfl, Lib.hid (Below.refl _ _)⟩
              case round =>
                obtain ⟨j, hj, rfl, HBR⟩ := hrel
                by_cases hlt : j < c.length
                · obtain ⟨ad, rfl, hb, m0, m1, m2, m3, m4, m5⟩ := (HCR.out.below HBR.out).nd_at hlt
                  have l1 := add_cell m1
                  have l2 := add_cell m2
                  have l3 := add_cell m3
                  have l4 := add_cell m4
                  have l5 := add_cell m5
                  obtain ⟨n1, n6, n7, n8, n10⟩ := HRES.out.cn j hlt
                  obtain ⟨x, hx⟩ : ∃ x, c.getD j nd0 = x := ⟨_, rfl⟩
                  rw [hx] at m0 l1 l2 l3 l4 l5 n1 n6 n7 n8 n10
                  clear hx m1 m2 m3 m4 m5
                  obtain ⟨xop, xi, xe, xg, xx, xy⟩ := x
                  dsimp only at *
                  have q1 : (xop == 1) = false := by simpa using n1
                  have q6 : (xop == 6) = false := by simpa using n6
                  have q7 : (xop == 7) = false := by simpa using n7
                  have q8 : (xop == 8) = false := by simpa using n8
                  have q10 : (xop == 10) = false := by simpa using n10
                  have HBA : Hid (Below wo.heap.size wo (wr.alloc (.cells #[.int .i64 xop, .int .i64 xi, .int .i64 xe, .int .i64 xg, .int .i64 xx, .int .i64 xy] 45))) := Lib.hid (HBR.out.alloc HBR.out.size _)
                  go_wp2
                  go_roundw
                  case rel => exact ⟨j + 1, by omega, by go_num, HBA⟩
                  case measure => first | (simp [intOf]; done) | (simp [intOf]; omega)
                · have hjc : j = c.length := by omega
                  subst hjc
                  have HBZ := Lib.hid (HBW.out.trans (HBR.out.mono HBW.out.size))
                  go_wp2_with fail
                  refine (awake8_any wr ((HE.out.below HBZ.out).up HBZ.out.size)).mono ?_
                  rintro r wz ⟨rfl, hbz⟩
                  have HBY := Lib.hid (HBZ.out.trans (hbz.mono HBZ.out.size))
                  clear hbz
                  go_wp2
                  go_ret
                  exact ⟨rfl, HBY.out⟩
        · subst hh
          clear HAZ HCZ
          go_wp2_with fail
          refine (rEqual_any s s As At s.length s.length _ _ w5 HS5.out HT5.out (by unfold maxLen; omega) (by unfold maxLen; omega)).mono ?_
          rintro r w6 ⟨rfl, hb6⟩
          rw [decide_eq_true (show s = s from rfl)]
          have HB6 := Lib.hid (HB5.out.trans (hb6.mono HB5.out.size))
          have HS6 := Lib.hid (up8 HS5.out hb6)
          have HA6 := Lib.hid (up8 HA5.out hb6)
          have HC6 := Lib.hid (up8 HC5.out hb6)
          clear hb6 HS5 HT5 HA5 HC5 HB5
          go_wp2_with fail
          refine (rCheck_any s As s.length _ w6 HS6.out (by unfold maxLen; omega)).mono ?_
          rintro r w7 ⟨rfl, hb7⟩
          rw [HSZ.out]
          have HB7 := Lib.hid (HB6.out.trans (hb7.mono HB6.out.size))
          have HA7 := Lib.hid (up8 HA6.out hb7)
          have HC7 := Lib.hid (up8 HC6.out hb7)
          clear hb7 HS6 HA6 HC6 HB6
          go_wp2_with fail
          refine (rCheck_any a Aa a.length _ w7 HA7.out (by unfold maxLen; omega)).mono ?_
          rintro r w8 ⟨rfl, hb8⟩
          rw [HAZ0.out]
          have HB8 := Lib.hid (HB7.out.trans (hb8.mono HB7.out.size))
          have HA8 := Lib.hid (up8 HA7.out hb8)
          have HC8 := Lib.hid (up8 HC7.out hb8)
          clear hb8 HA7 HC7 HB7
          go_wp2_with fail
          go_loopw [12, 13, 98] (fun _ _ i wr => ∃ k : Nat, k ≤ a.length ∧ i = .int .i64 k ∧ Hid (Below w8.heap.size w8 wr)) (fun _ _ i _ => a.length - (intOf i).toNat)
          case atStart => exact ⟨0, Nat.zero_le _, rfl, Lib.hid (Below.refl _ _)⟩
          case round =>
            obtain ⟨k, hk, rfl, HBR⟩ := hrel
            by_cases hlt : k < a.length
            · obtain ⟨ad, rfl, hb, m0, m1, m2, m3, m4, m5⟩ := (HA8.out.below HBR.out).nd_at hlt
              have l1 := add_cell m1
              have l2 := add_cell m2
              have l3 := add_cell m3
              have l4 := add_cell m4
              have l5 := add_cell m5
              obtain ⟨n7, n8, n4⟩ := HRES.out.an k hlt
              have hops := HRES.out.oa k hlt
              obtain ⟨x, hx⟩ : ∃ x, a.getD k nd0 = x := ⟨_, rfl⟩
              rw [hx] at m0 l1 l2 l3 l4 l5 n7 n8 n4 hops
              clear hx m1 m2 m3 m4 m5
              have HBA : Hid (Below w8.heap.size w8 (wr.alloc (.cells #[.int .i64 x.op, .int .i64 x.i, .int .i64 x.e, .int .i64 x.g, .int .i64 x.x, .int .i64 x.y] 45))) := Lib.hid (HBR.out.alloc HBR.out.size _)
              by_cases h4 : x.op = 4
              · have hx4 := opsOk_x hops (by rw [h4]; decide)
                have hox := n4 h4
                obtain ⟨xop, xi, xe, xg, xx, xy⟩ := x
                dsimp only at *
                subst h4
                obtain ⟨kx, rfl⟩ : ∃ kx : Nat, xx = (kx : Int) := ⟨xx.toNat, by omega⟩
                rw [Int.toNat_natCast] at hx4 hox
                have hkx : kx < a.length := by omega
                obtain ⟨ad2, had2, hadb2, p0, _⟩ := (HA8.out.below HBA.out).nd_at hkx
                injection had2 with had2
                subst had2
                clear hops n4 n7 n8
                generalize (a.getD kx nd0).op = ox at *
                by_cases h3 : ox = 3
                · subst h3
                  go_wp2
                  go_roundw
                  case rel => exact ⟨k + 1, by omega, by go_num, HBA⟩
                  case measure => first | (simp [intOf]; done) | (simp [intOf]; omega)
                · have h11 : ¬ ox < 11 := by omega
                  go_wp2
                  go_roundw
                  case rel => exact ⟨k + 1, by omega, by go_num, HBA⟩
                  case measure => first | (simp [intOf]; done) | (simp [intOf]; omega)
              · clear hops n4
                obtain ⟨xop, xi, xe, xg, xx, xy⟩ := x
                dsimp only at *
                have q4 : (xop == 4) = false := by simpa using h4
                have q7 : (xop == 7) = false := by simpa using n7
                have q8 : (xop == 8) = false := by simpa using n8
                go_wp2
                go_roundw
                case rel => exact ⟨k + 1, by omega, by go_num, HBA⟩
                case measure => first | (simp [intOf]; done) | (simp [intOf]; omega)
            · have hka : k = a.length := by omega
              subst hka
              have HCR := Lib.hid (up8 HC8.out HBR.out)
              have HBW := Lib.hid (HB8.out.trans (HBR.out.mono HB8.out.size))
              generalize wr = wo at *
              go_wp2
              go_loopw [15, 128] (fun _ i wr => ∃ k : Nat, k ≤ c.length ∧ i = .int .i64 k ∧ Hid (Below wo.heap.size wo wr)) (fun _ i _ => c.length - (intOf i).toNat)
              case atStart => exact ⟨0, Nat.zero_le _, rfl, Lib.hid (Below.refl _ _)⟩
              case round =>
                obtain ⟨j, hj, rfl, HBR⟩ := hrel
                by_cases hlt : j < c.length
                · obtain ⟨ad, rfl, hb, m0, m1, m2, m3, m4, m5⟩ := (HCR.out.below HBR.out).nd_at hlt
                  have l1 := add_cell m1
                  have l2 := add_cell m2
                  have l3 := add_cell m3
                  have l4 := add_cell m4
                  have l5 := add_cell m5
                  obtain ⟨n1, n6, n7, n8, n10⟩ := HRES.out.cn j hlt
                  obtain ⟨x, hx⟩ : ∃ x, c.getD j nd0 = x := ⟨_, rfl⟩
                  rw [hx] at m0 l1 l2 l3 l4 l5 n1 n6 n7 n8 n10
                  clear hx m1 m2 m3 m4 m5
                  obtain ⟨xop, xi, xe, xg, xx, xy⟩ := x
                  dsimp only at *
                  have q1 : (xop == 1) = false := by simpa using n1
                  have q6 : (xop == 6) = false := by simpa using n6
                  have q7 : (xop == 7) = false := by simpa using n7
                  have q8 : (xop == 8) = false := by simpa using n8
                  have q10 : (xop == 10) = false := by simpa using n10
                  have HBA : Hid (Below wo.heap.size wo (wr.alloc (.cells #[.int .i64 xop, .int .i64 xi, .int .i64 xe, .int .i64 xg, .int .i64 xx, .int .i64 xy] 45))) := Lib.hid (HBR.out.alloc HBR.out.size _)
                  go_wp2
                  go_roundw
                  case rel => exact ⟨j + 1, by omega, by go_num, HBA⟩
                  case measure => first | (simp [intOf]; done) | (simp [intOf]; omega)
                · have hjc : j = c.length := by omega
                  subst hjc
                  have HBZ := Lib.hid (HBW.out.trans (HBR.out.mono HBW.out.size))
                  go_wp2_with fail
                  refine (awake8_any wr ((HE.out.below HBZ.out).up HBZ.out.size)).mono ?_
                  rintro r wz ⟨rfl, hbz⟩
                  have HBY := Lib.hid (HBZ.out.trans (hbz.mono HBZ.out.size))
                  clear hbz
                  go_wp2
                  go_ret
                  exact ⟨rfl, HBY.out⟩
      · subst he
        rcases HRES.out.h2 with hh | hh
        · subst hh
          have HCZ0 := Lib.hid (HCZ.out rfl)
          clear HAZ HCZ
          go_wp2_with fail
          refine (rEqual_any s s As At s.length s.length _ _ w5 HS5.out HT5.out (by unfold maxLen; omega) (by unfold maxLen; omega)).mono ?_
          rintro r w6 ⟨rfl, hb6⟩
          rw [decide_eq_true (show s = s from rfl)]
          have HB6 := Lib.hid (HB5.out.trans (hb6.mono HB5.out.size))
          have HS6 := Lib.hid (up8 HS5.out hb6)
          have HA6 := Lib.hid (up8 HA5.out hb6)
          have HC6 := Lib.hid (up8 HC5.out hb6)
          clear hb6 HS5 HT5 HA5 HC5 HB5
          go_wp2_with fail
          refine (rCheck_any s As s.length _ w6 HS6.out (by unfold maxLen; omega)).mono ?_
          rintro r w7 ⟨rfl, hb7⟩
          rw [HSZ.out]
          have HB7 := Lib.hid (HB6.out.trans (hb7.mono HB6.out.size))
          have HA7 := Lib.hid (up8 HA6.out hb7)
          have HC7 := Lib.hid (up8 HC6.out hb7)
          clear hb7 HS6 HA6 HC6 HB6
          go_wp2_with fail
          refine (rCheck_any c Ac c.length _ w7 HC7.out (by unfold maxLen; omega)).mono ?_
          rintro r w9 ⟨rfl, hb9⟩
          rw [HCZ0.out]
          have HB9 := Lib.hid (HB7.out.trans (hb9.mono HB7.out.size))
          have HA9 := Lib.hid (up8 HA7.out hb9)
          have HC9 := Lib.hid (up8 HC7.out hb9)
          clear hb9 HA7 HC7 HB7
          go_wp2_with fail
          go_loopw [12, 13, 98] (fun _ _ i wr => ∃ k : Nat, k ≤ a.length ∧ i = .int .i64 k ∧ Hid (Below w9.heap.size w9 wr)) (fun _ _ i _ => a.length - (intOf i).toNat)
          case atStart => exact ⟨0, Nat.zero_le _, rfl, Lib.hid (Below.refl _ _)⟩
          case round =>
            obtain ⟨k, hk, rfl, HBR⟩ := hrel
            by_cases hlt : k < a.length
            · obtain ⟨ad, rfl, hb, m0, m1, m2, m3, m4, m5⟩ := (HA9.out.below HBR.out).nd_at hlt
              have l1 := add_cell m1
              have l2 := add_cell m2
              have l3 := add_cell m3
              have l4 := add_cell m4
              have l5 := add_cell m5
              obtain ⟨n7, n8, n4⟩ := HRES.out.an k hlt
              have hops := HRES.out.oa k hlt
              obtain ⟨x, hx⟩ : ∃ x, a.getD k nd0 = x := ⟨_, rfl⟩
              rw [hx] at m0 l1 l2 l3 l4 l5 n7 n8 n4 hops
              clear hx m1 m2 m3 m4 m5
              have HBA : Hid (Below w9.heap.size w9 (wr.alloc (.cells #[.int .i64 x.op, .int .i64 x.i, .int .i64 x.e, .int .i64 x.g, .int .i64 x.x, .int .i64 x.y] 45))) := Lib.hid (HBR.out.alloc HBR.out.size _)
              by_cases h4 : x.op = 4
              · have hx4 := opsOk_x hops (by rw [h4]; decide)
                have hox := n4 h4
                obtain ⟨xop, xi, xe, xg, xx, xy⟩ := x
                dsimp only at *
                subst h4
                obtain ⟨kx, rfl⟩ : ∃ kx : Nat, xx = (kx : Int) := ⟨xx.toNat, by omega⟩
                rw [Int.toNat_natCast] at hx4 hox
                have hkx : kx < a.length := by omega
                obtain ⟨ad2, had2, hadb2, p0, _⟩ := (HA9.out.below HBA.out).nd_at hkx
                injection had2 with had2
                subst had2
                clear hops n4 n7 n8
                generalize (a.getD kx nd0).op = ox at *
                by_cases h3 : ox = 3
                · subst h3
                  go_wp2
                  go_roundw
                  case rel => exact ⟨k + 1, by omega, by go_num, HBA⟩
                  case measure => first | (simp [intOf]; done) | (simp [intOf]; omega)
                · have h11 : ¬ ox < 11 := by omega
                  go_wp2
                  go_roundw
                  case rel => exact ⟨k + 1, by omega, by go_num, HBA⟩
                  case measure => first | (simp [intOf]; done) | (simp [intOf]; omega)
              · clear hops n4
                obtain ⟨xop, xi, xe, xg, xx, xy⟩ := x
                dsimp only at *
                have q4 : (xop == 4) = false := by simpa using h4
                have q7 : (xop == 7) = false := by simpa using n7
                have q8 : (xop == 8) = false := by simpa using n8
                go_wp2
                go_roundw
                case rel => exact ⟨k + 1, by omega, by go_num, HBA⟩
                case measure => first | (simp [intOf]; done) | (simp [intOf]; omega)
            · have hka : k = a.length := by omega
              subst hka
              have HCR := Lib.hid (up8 HC9.out HBR.out)
              have HBW := Lib.hid (HB9.out.trans (HBR.out.mono HB9.out.size))
              generalize wr = wo at *
              go_wp2
              go_loopw [15, 128] (fun _ i wr => ∃ k : Nat, k ≤ c.length ∧ i = .int .i64 k ∧ Hid (Below wo.heap.size wo wr)) (fun _ i _ => c.length - (intOf i).toNat)
              case atStart => exact ⟨0, Nat.zero_le _, rfl, Lib.hid (Below.refl _ _)⟩
              case round =>
                obtain ⟨j, hj, rfl, HBR⟩ := hrel
                by_cases hlt : j < c.length
                · obtain ⟨ad, rfl, hb, m0, m1, m2, m3, m4, m5⟩ := (HCR.out.below HBR.out).nd_at hlt
                  have l1 := add_cell m1
                  have l2 := add_cell m2
                  have l3 := add_cell m3
                  have l4 := add_cell m4
                  have l5 := add_cell m5
                  obtain ⟨n1, n6, n7, n8, n10⟩ := HRES.out.cn j hlt
                  obtain ⟨x, hx⟩ : ∃ x, c.getD j nd0 = x := ⟨_, rfl⟩
                  rw [hx] at m0 l1 l2 l3 l4 l5 n1 n6 n7 n8 n10
                  clear hx m1 m2 m3 m4 m5
                  obtain ⟨xop, xi, xe, xg, xx, xy⟩ := x
                  dsimp only at *
                  have q1 : (xop == 1) = false := by simpa using n1
                  have q6 : (xop == 6) = false := by simpa using n6
                  have q7 : (xop == 7) = false := by simpa using n7
                  have q8 : (xop == 8) = false := by simpa using n8
                  have q10 : (xop == 10) = false := by simpa using n10
                  have HBA : Hid (Below wo.heap.size wo (wr.alloc (.cells #[.int .i64 xop, .int .i64 xi, .int .i64 xe, .int .i64 xg, .int .i64 xx, .int .i64 xy] 45))) := Lib.hid (HBR.out.alloc HBR.out.size _)
                  go_wp2
                  go_roundw
                  case rel => exact ⟨j + 1, by omega, by go_num, HBA⟩
                  case measure => first | (simp [intOf]; done) | (simp [intOf]; omega)
                · have hjc : j = c.length := by omega
                  subst hjc
                  have HBZ := Lib.hid (HBW.out.trans (HBR.out.mono HBW.out.size))
                  go_wp2_with fail
                  refine (awake8_any wr ((HE.out.below HBZ.out).up HBZ.out.size)).mono ?_
                  rintro r wz ⟨rfl, hbz⟩
                  have HBY := Lib.hid (HBZ.out.trans (hbz.mono HBZ.out.size))
                  clear hbz
                  go_wp2
                  go_ret
                  exact ⟨rfl, HBY.out⟩
        · subst hh
          clear HAZ HCZ
          go_wp2_with fail
          refine (rEqual_any s s As At s.length s.length _ _ w5 HS5.out HT5.out (by unfold maxLen; omega) (by unfold maxLen; omega)).mono ?_
          rintro r w6 ⟨rfl, hb6⟩
          rw [decide_eq_true (show s = s from rfl)]
          have HB6 := Lib.hid (HB5.out.trans (hb6.mono HB5.out.size))
          have HS6 := Lib.hid (up8 HS5.out hb6)
          have HA6 := Lib.hid (up8 HA5.out hb6)
          have HC6 := Lib.hid (up8 HC5.out hb6)
          clear hb6 HS5 HT5 HA5 HC5 HB5
          go_wp2_with fail
          refine (rCheck_any s As s.length _ w6 HS6.out (by unfold maxLen; omega)).mono ?_
          rintro r w7 ⟨rfl, hb7⟩
          rw [HSZ.out]
          have HB7 := Lib.hid (HB6.out.trans (hb7.mono HB6.out.size))
          have HA7 := Lib.hid (up8 HA6.out hb7)
          have HC7 := Lib.hid (up8 HC6.out hb7)
          clear hb7 HS6 HA6 HC6 HB6
          go_wp2_with fail
          go_loopw [12, 13, 98] (fun _ _ i wr => ∃ k : Nat, k ≤ a.length ∧ i = .int .i64 k ∧ Hid (Below w7.heap.size w7 wr)) (fun _ _ i _ => a.length - (intOf i).toNat)
          case atStart => exact ⟨0, Nat.zero_le _, rfl, Lib.hid (Below.refl _ _)⟩
          case round =>
            obtain ⟨k, hk, rfl, HBR⟩ := hrel
            by_cases hlt : k < a.length
            · obtain ⟨ad, rfl, hb, m0, m1, m2, m3, m4, m5⟩ := (HA7.out.below HBR.out).nd_at hlt
              have l1 := add_cell m1
              have l2 := add_cell m2
              have l3 := add_cell m3
              have l4 := add_cell m4
              have l5 := add_cell m5
              obtain ⟨n7, n8, n4⟩ := HRES.out.an k hlt
              have hops := HRES.out.oa k hlt
              obtain ⟨x, hx⟩ : ∃ x, a.getD k nd0 = x := ⟨_, rfl⟩
              rw [hx] at m0 l1 l2 l3 l4 l5 n7 n8 n4 hops
              clear hx m1 m2 m3 m4 m5
              have HBA : Hid (Below w7.heap.size w7 (wr.alloc (.cells #[.int .i64 x.op, .int .i64 x.i, .int .i64 x.e, .int .i64 x.g, .int .i64 x.x, .int .i64 x.y] 45))) := Lib.hid (HBR.out.alloc HBR.out.size _)
              by_cases h4 : x.op = 4
              · have hx4 := opsOk_x hops (by rw [h4]; decide)
                have hox := n4 h4
                obtain ⟨xop, xi, xe, xg, xx, xy⟩ := x
                dsimp only at *
                subst h4
                obtain ⟨kx, rfl⟩ : ∃ kx : Nat, xx = (kx : Int) := ⟨xx.toNat, by omega⟩
                rw [Int.toNat_natCast] at hx4 hox
                have hkx : kx < a.length := by omega
                obtain ⟨ad2, had2, hadb2, p0, _⟩ := (HA7.out.below HBA.out).nd_at hkx
                injection had2 with had2
                subst had2
                clear hops n4 n7 n8
                generalize (a.getD kx nd0).op = ox at *
                by_cases h3 : ox = 3
                · subst h3
                  go_wp2
                  go_roundw
                  case rel => exact ⟨k + 1, by omega, by go_num, HBA⟩
                  case measure => first | (simp [intOf]; done) | (simp [intOf]; omega)
                · have h11 : ¬ ox < 11 := by omega
                  go_wp2
                  go_roundw
                  case rel => exact ⟨k + 1, by omega, by go_num, HBA⟩
                  case measure => first | (simp [intOf]; done) | (simp [intOf]; omega)
              · clear hops n4
                obtain ⟨xop, xi, xe, xg, xx, xy⟩ := x
                dsimp only at *
                have q4 : (xop == 4) = false := by simpa using h4
                have q7 : (xop == 7) = false := by simpa using n7
                have q8 : (xop == 8) = false := by simpa using n8
                go_wp2
                go_roundw
                case rel => exact ⟨k + 1, by omega, by go_num, HBA⟩
                case measure => first | (simp [intOf]; done) | (simp [intOf]; omega)
            · have hka : k = a.length := by omega
              subst hka
              have HCR := Lib.hid (up8 HC7.out HBR.out)
              have HBW := Lib.hid (HB7.out.trans (HBR.out.mono HB7.out.size))
              generalize wr = wo at *
              go_wp2
              go_loopw [15, 128] (fun _ i wr => ∃ k : Nat, k ≤ c.length ∧ i = .int .i64 k ∧ Hid (Below wo.heap.size wo wr)) (fun _ i _ => c.length - (intOf i).toNat)
              case atStart => exact ⟨0, Nat.zero_le _, rfl, Lib.hid (Below.refl _ _)⟩
              case round =>
                obtain ⟨j, hj, rfl, HBR⟩ := hrel
                by_cases hlt : j < c.length
                · obtain ⟨ad, rfl, hb, m0, m1, m2, m3, m4, m5⟩ := (HCR.out.below HBR.out).nd_at hlt
                  have l1 := add_cell m1
                  have l2 := add_cell m2
                  have l3 := add_cell m3
                  have l4 := add_cell m4
                  have l5 := add_cell m5
                  obtain ⟨n1, n6, n7, n8, n10⟩ := HRES.out.cn j hlt
                  obtain ⟨x, hx⟩ : ∃ x, c.getD j nd0 = x := ⟨_, rfl⟩
                  rw [hx] at m0 l1 l2 l3 l4 l5 n1 n6 n7 n8 n10
                  clear hx m1 m2 m3 m4 m5
                  obtain ⟨xop, xi, xe, xg, xx, xy⟩ := x
                  dsimp only at *
                  have q1 : (xop == 1) = false := by simpa using n1
                  have q6 : (xop == 6) = false := by simpa using n6
                  have q7 : (xop == 7) = false := by simpa using n7
                  have q8 : (xop == 8) = false := by simpa using n8
                  have q10 : (xop == 10) = false := by simpa using n10
                  have HBA : Hid (Below wo.heap.size wo (wr.alloc (.cells #[.int .i64 xop, .int .i64 xi, .int .i64 xe, .int .i64 xg, .int .i64 xx, .int .i64 xy] 45))) := Lib.hid (HBR.out.alloc HBR.out.size _)
                  go_wp2
                  go_roundw
                  case rel => exact ⟨j + 1, by omega, by go_num, HBA⟩
                  case measure => first | (simp [intOf]; done) | (simp [intOf]; omega)
                · have hjc : j = c.length := by omega
                  subst hjc
                  have HBZ := Lib.hid (HBW.out.trans (HBR.out.mono HBW.out.size))
                  go_wp2_with fail
                  refine (awake8_any wr ((HE.out.below HBZ.out).up HBZ.out.size)).mono ?_
                  rintro r wz ⟨rfl, hbz⟩
                  have HBY := Lib.hid (HBZ.out.trans (hbz.mono HBZ.out.size))
                  clear hbz
                  go_wp2
                  go_ret
                  exact ⟨rfl, HBY.out⟩
    · have HZ := hz
      clear hE hR
      generalize fErr f = ef at *
      go_enter Tryd.func7, Tryd.ntmps7
      go_wp2_with fail
      refine (HFE.out).mono ?_
      rintro r w0 ⟨rfl, rfl⟩
      go_wp2_with fail
      refine (HCK.out).mono ?_
      rintro r w1 ⟨rfl, hb1⟩
      have HB1 := Lib.hid hb1
      clear hb1
      go_wp2_with fail
      refine (awake8_any w1 ((HE.out.below HB1.out).up HB1.out.size)).mono ?_
      rintro r wz ⟨rfl, hbz⟩
      have HBY := Lib.hid (HB1.out.trans (hbz.mono HB1.out.size))
      clear hbz
      go_wp2
      go_ret
      exact ⟨rfl, HBY.out⟩
  · rw [decide_eq_false (show ¬ ((n0 : Nat) : Int) ≤ 40 by omega)] at HFE
    clear hE hR
    go_enter Tryd.func7, Tryd.ntmps7
    go_wp2_with fail
    refine (HFE.out).mono ?_
    rintro r w0 ⟨rfl, rfl⟩
    go_wp2_with fail
    refine (awake8_any w HE.out).mono ?_
    rintro r wz ⟨rfl, hbz⟩
    have HBY := Lib.hid hbz
    clear hbz
    go_wp2
    go_ret
    exact ⟨rfl, HBY.out⟩
set_option maxRecDepth 100000 in
theorem contract (H : Type) (enc : TypeId × Value → H) (W : World) (base : Nat) (args : Array Value) (ds gs : List (DataW H)) (before : List MemPlace)
    (hval : ∀ (j : Nat) t v, Tryd.f7.params[j]? = some t → args[j]? = some v → Value.okWide Tryd.prog W .any base t v)
    (hW : DataW.Whole enc Tryd.prog Tryd.f7.params.toList Rows.rewriteFormsSpec.vars false W args.toList ds gs before) (hE : EnvR W W.heap.size) :
    Calls Tryd.prog 7 args W fun e W' => ∃ v, e = .returned v ∧ Rows.rewriteFormsSpec.post enc Tryd.prog Tryd.f7 false true false false W args v W' := by
  have hW' := hW
  obtain ⟨p, q, hA0, hV, rfl, hfz, hnd⟩ := hW
  have hA : DataW.TrodAll enc Tryd.prog W 0 (fun _ => true) true Tryd.f7.params.toList args.toList ds p := hA0
  rw [Tryd.params7] at hA hval
  obtain ⟨v0, vs0, d0, ds0, p0, q0, hargs, rfl, rfl, h0, r0⟩ := trodAll_cons hA
  obtain ⟨rfl, rfl, rfl⟩ := trodAll_nil r0
  obtain rfl : args = #[v0] := by cases args; simp_all
  obtain ⟨rfl, rfl⟩ := trodVars_none hV
  obtain ⟨af0, nf0, cf0, rfl⟩ := okWide_slice Tryd.underlying22 (hval 0 22 v0 rfl rfl)
  obtain ⟨f0, w0⟩ : ∃ l, NdRow W af0 nf0 cf0 l := by
    obtain ⟨fuel, hf⟩ := h0
    exact open_nodes hf
  have k0 := h0
  have lt0 : ∀ x ∈ p0, x.block < W.heap.size := by obtain ⟨m, hm⟩ := k0; exact DataW.trod_lt m _ _ _ hm
  clear hA0
  have hwalk := walk f0 af0 nf0 cf0 W hE w0
  refine hwalk.mono fun e W' ⟨he, hg⟩ => ?_
  subst he
  exact ⟨_, rfl, _, _, _, [], _, [], hW', trodAll_mk1 (shut_bool Tryd.underlying4 _), (trodAll_cons_mk (Below.trod laidOut (by kernel_rfl) (of_decide_eq_true (by kernel_rfl)) k0 hg lt0) trodAll_mk0), rfl, hg.frame _, fun h => by cases h⟩
theorem reads (os : Os) {H : Type} (enc : TypeId × Value → H) : ∃ places, DataW.whole enc Tryd.prog ((laidW os).forCall (fun _ _ => 0) ⟨#[], #[.slice none 0 0], []⟩).memory Tryd.f7.params.toList Rows.rewriteFormsSpec.vars false #[(.slice none 0 0 : Value)].toList 8 = some ([.nil], [], places) :=
  ⟨[], by kernel_rfl⟩
set_option maxRecDepth 100000 in
theorem lifted (os : Os) (started : os.Started) (H : Type) (enc : TypeId × Value → H) (F : Stop.Interp) :
    ReturnsInHanded {} Tryd.checked os 7 .any ((OpenSpec.ofChange Rows.rewriteFormsSpec).preRow enc Tryd.prog Tryd.f7 Rows.rewriteFormsRow.domain false Rows.rewriteFormsRow.laid) (((OpenSpec.ofChange Rows.rewriteFormsSpec).at F).post enc Tryd.prog Tryd.f7 false true false false) := by
  obtain ⟨places, hx⟩ := reads os enc
  refine returnsInHanded_of_row (C := Tryd.checked) (s := OpenSpec.ofChange Rows.rewriteFormsSpec) own started (by kernel_rfl) Tryd.func7
    (witness_row_atRef (enc := enc) (C := Tryd.checked) false (laidW os) #[.slice none 0 0] (laidW_os os) (vars_ok os _) (heap_ok os _) (by kernel_rfl)
      (OpenSpec.preRow_of_cond 8 hx (by kernel_rfl) (fun k hk => by cases hk) (by kernel_rfl) (laid_met os _))) ?_
  intro W base args ds gs before hval hW _ _ _ hL hsh _
  exact contract H enc W base args ds gs before hval hW (env_of hL)
theorem said : Rows.RewriteFormsSaid :=
  OpenClaim.holds_of_cond 7 Tryd.f7 rfl rfl rfl rfl rfl rfl rfl ⟨rfl, rfl, rfl, rfl, rfl⟩ rfl rfl rfl rfl rfl (by kernel_rfl) Tryd.func7 (by kernel_rfl)
    (of_decide_eq_true (by kernel_rfl)) (by unfold Func.isWrapper; first | (rw [if_pos (by decide +kernel)]; kernel_rfl) | (rw [if_neg (by decide +kernel)]; exact ⟨rfl, rfl⟩))
    (fun os started H enc _ F => by rw [OpenClaim.pre_eq_preRow]; exact lifted os started H enc F)
theorem plain (f : FuncId) (fn : Func) (hf : Tryd.pinned.checked.prog.funcNamed "witting/wittinglaw08.RewriteForms" = some f) (hfn : Tryd.pinned.checked.prog.funcs[f]? = some fn) :
    false = Tryd.pinned.checked.prog.looks [] ∧ ∀ (j : Nat) t, fn.params[j]? = some t → Tryd.pinned.checked.prog.wantsStandIn t = false := by
  obtain rfl : f = 7 := Option.some.inj ((show Tryd.prog.funcNamed "witting/wittinglaw08.RewriteForms" = some 7 by kernel_rfl).symm.trans hf) |>.symm
  obtain rfl : fn = Tryd.f7 := (Option.some.inj (Tryd.func7.symm.trans hfn)).symm
  refine ⟨no_looks, fun j t ht => ?_⟩
  rw [Tryd.params7] at ht
  have hm : t ∈ [22] := by simpa using Array.mem_of_getElem? ht
  have hall : ([22].all fun u => !Tryd.prog.wantsStandIn u) = true := by kernel_rfl
  exact (show Tryd.prog.wantsStandIn t = false by simpa using List.all_eq_true.1 hall t hm)
theorem card : Rows.RewriteFormsCardSaid :=
  Claim7.holds_tied_plain_at .later [] _ _ _ _ said (fun _ h => by cases h) (by kernel_rfl) (fun _ h => by cases h) rewriteForms_row_tie rfl ⟨rfl, rfl⟩ (by kernel_rfl) rfl plain (by kernel_rfl)
#print axioms card
end Go.Proofs.YtkcedppepepgfaaDoor.rewriteForms
