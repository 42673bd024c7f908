/- Layer 6: Parse of the reference. -/
import Derived.Test.YthhkeobjjeldhaaGreatDoorJf
import Derived.Test.YthhkeobjjeldhaaGreatDoorJl
import Derived.Test.YthhkeobjjeldhaaGreatDoorJr
import Derived.Test.YthhkeobjjeldhaaGreatDoorJs
import Derived.Test.YthhkeobjjeldhaaGreatDoorJv
namespace Go.Proofs.YthhkeobjjeldhaaGreatDoor
open Go.RowKit Go.Proofs.Ws Go.Maps
def envR (A F X : List ByteArray) (t : ByteArray) : PEnv := ⟨A, F, X, (tokV t).words⟩
/-- the state behind the check that all tokens are read -/
def lastR (E : PEnv) (s : RS) : RS := if s.next < E.ws.length then failR s.next 4 s else s
theorem parseR_end {A F X : List ByteArray} {t : ByteArray} (hs : sigErr A F X = 0) (ht : (tokV t).err = 0) :
    ∃ v s', mR (envR A F X t) (10 * (tokV t).words.length + 14) .formula ⟨0, [], 0, 0⟩ = some (v, s') ∧
      ((lastR (envR A F X t) s').e ≠ 0 → parseV A F X t = ⟨[], endP (tokV t) t.size (lastR (envR A F X t) s').bad, (lastR (envR A F X t) s').e⟩) ∧
      ((lastR (envR A F X t) s').e = 0 → 200 < s'.nodes.length → parseV A F X t = ⟨[], (tokV t).ats.getD 0 0, 8⟩ ∧ 0 < (tokV t).ats.length) ∧
      ((lastR (envR A F X t) s').e = 0 → ¬ 200 < s'.nodes.length → parseV A F X t = ⟨s'.nodes, 0, 0⟩) := by
  obtain ⟨b1, b2, _⟩ := tokV_bound t
  obtain ⟨v, s', h1, h2, h3⟩ := machineR_end (envR A F X t) b2
  refine ⟨v, s', h1, ?_⟩
  obtain ⟨r, hr⟩ := run_some ⟨A, F, X, (tokV t).words⟩
  have h4 := h3 r hr
  have hV := parseV_fin hs ht hr
  rw [hV]
  cases r with
  | err t' e =>
    obtain ⟨he, he1, hp1⟩ := h4
    have hl : lastR (envR A F X t) s' = s' := by
      unfold lastR
      split
      · exact failR_bad (by rw [he1]; exact he)
      · rfl
    rw [hl, he1, hp1]
    exact ⟨fun _ => rfl, fun h => absurd h he, fun h => absurd h he⟩
  | ok v0 s0 =>
    obtain ⟨rfl, he0, rfl⟩ := h4
    unfold finV
    dsimp only
    have e1 : (absR s').next = s'.next := rfl
    have e2 : (absR s').nodes = s'.nodes := rfl
    rw [e1, e2]
    by_cases hn : s'.next < (tokV t).words.length
    · have hl : lastR (envR A F X t) s' = { s' with bad := s'.next, e := 4 } := by
        unfold lastR failR
        rw [if_pos (show s'.next < (envR A F X t).ws.length from hn), if_pos he0]
      rw [hl, if_pos hn]
      exact ⟨fun _ => rfl, fun h => absurd h (show ¬ ((4 : Int) = 0) by decide), fun h => absurd h (show ¬ ((4 : Int) = 0) by decide)⟩
    · have hl : lastR (envR A F X t) s' = s' := by
        unfold lastR
        rw [if_neg (show ¬ s'.next < (envR A F X t).ws.length from hn)]
      rw [hl, if_neg hn]
      refine ⟨fun h => absurd he0 h, fun _ hg => ?_, fun _ hg => ?_⟩
      · rw [if_pos hg]
        refine ⟨rfl, ?_⟩
        have h5 : potR (envR A F X t) s' ≤ 11 * (envR A F X t).ws.length + 1 := h2
        have e3 : (envR A F X t).ws.length = (tokV t).words.length := rfl
        unfold potR at h5
        rw [e3] at h5
        omega
      · rw [if_neg hg]
theorem reads_none (W : World) : Reads W W.heap.size 6 none ([] : List Nd).length (nds []) := Reads.of_own (base := 0) (e := 34) (World.ownsRow_nil W _ _ 6)
def mkR (E : PEnv) (w : World) (a0 : Option Addr) (n0 c0 : Nat) (a1 : Option Addr) (n1 c1 : Nat) (a2 : Option Addr) (n2 c2 : Nat) (aw : Option Addr) (cw : Nat) : RK :=
  ⟨E, w, w.heap.size, w.heap.size + 1, a0, n0, c0, a1, n1, c1, a2, n2, c2, aw, cw⟩
theorem RP.begin (E : PEnv) (w : World) (a0 : Option Addr) (n0 c0 : Nat) (a1 : Option Addr) (n1 c1 : Nat) (a2 : Option Addr) (n2 c2 : Nat) (aw : Option Addr) (cw : Nat) (T : TypeId) :
    RP (mkR E w a0 n0 c0 a1 n1 c1 a2 n2 c2 aw cw) (w.alloc (.cells #[.slice a0 n0 c0, .slice a1 n1 c1, .slice a2 n2 c2, .slice aw E.ws.length cw, .int .i64 0, .slice none 0 0, .int .i64 0, .int .i64 0] T)) ⟨0, [], 0, 0⟩ := by
  have hb := (Below.refl _ w).alloc (Nat.le_refl _) (.cells #[.slice a0 n0 c0, .slice a1 n1 c1, .slice a2 n2 c2, .slice aw E.ws.length cw, .int .i64 0, .slice none 0 0, .int .i64 0, .int .i64 0] T)
  have hbx := heap_alloc_new w (.cells #[.slice a0 n0 c0, .slice a1 n1 c1, .slice a2 n2 c2, .slice aw E.ws.length cw, .int .i64 0, .slice none 0 0, .int .i64 0, .int .i64 0] T)
  have s3 : (w.alloc (.cells #[.slice a0 n0 c0, .slice a1 n1 c1, .slice a2 n2 c2, .slice aw E.ws.length cw, .int .i64 0, .slice none 0 0, .int .i64 0, .int .i64 0] T)).heap.size = w.heap.size + 1 := by simp
  generalize w.alloc (.cells #[.slice a0 n0 c0, .slice a1 n1 c1, .slice a2 n2 c2, .slice aw E.ws.length cw, .int .i64 0, .slice none 0 0, .int .i64 0, .int .i64 0] T) = wc at *
  refine ⟨hb, Nat.le_refl _, ?_, ?_, ⟨none, 0, fun j v hj => ?_, World.ownsRow_nil _ _ _ _⟩, fun j => Lib.frozen_of_heap hbx j⟩
  · show w.heap.size < w.heap.size + 1; omega
  · show w.heap.size + 1 ≤ wc.heap.size; omega
  · show wc.cell? ⟨w.heap.size, j, none⟩ = some v
    rw [Lib.cell_of_heap hbx]
    rw [← hj]
    show (List.toArray _)[j]? = _
    rw [List.getElem?_toArray]
    rfl
set_option maxRecDepth 100000 in
set_option maxHeartbeats 4000000 in
theorem yParse_any (a0 : Option Addr) (n0 c0 : Nat) (a1 : Option Addr) (n1 c1 : Nat) (a2 : Option Addr) (n2 c2 : Nat) (A F X : List ByteArray) (t : ByteArray) (w : World)
    (hS : SigR w w.heap.size (.agg #[.slice a0 n0 c0, .slice a1 n1 c1, .slice a2 n2 c2]) A F X) (hE : EnvS w) (hm : t.size ≤ maxLen) :
    Calls Tryz.prog 7 #[.agg #[.slice a0 n0 c0, .slice a1 n1 c1, .slice a2 n2 c2], .string t] w fun e w' => ∃ A' c', e = .returned (.tuple #[.slice A' (parseV A F X t).nodes.length c', .int .i64 ((parseV A F X t).pos : Int), .int .i64 (parseV A F X t).err]) ∧
      Reads w' w'.heap.size 6 A' (parseV A F X t).nodes.length (nds (parseV A F X t).nodes) ∧ Below w.heap.size w w' := by
  have HX := Lib.hid (@boxed w a0 a1 a2 n0 c0 n1 c1 n2 c2 24)
  have HG : Hid (∀ W, Below (w.heap.size + 1) (w.alloc (.cells #[.slice a0 n0 c0, .slice a1 n1 c1, .slice a2 n2 c2] 24)) W → EnvS W ∧ SigR W W.heap.size (.agg #[.slice a0 n0 c0, .slice a1 n1 c1, .slice a2 n2 c2]) A F X ∧ Below w.heap.size w W ∧ w.heap.size + 1 ≤ W.heap.size) := Lib.hid (fun W hW => by
    have h1 : Below w.heap.size w W := ((Below.refl _ w).alloc (Nat.le_refl _) _).trans (hW.mono (by omega))
    exact ⟨hE.below h1, hS.on h1, h1, by have := hW.size; simpa using this⟩)
  clear hS hE
  have HT := Lib.hid (fun W => rTokens_any t W hm)
  have HCK := Lib.hid (pRefSigCheck_any _ A F X _ (HG.out _ (Below.refl _ _)).2.1)
  unfold maxLen at hm
  by_cases hs : sigErr A F X = 0
  · by_cases ht : (tokV t).err = 0
    · have HPE := Lib.hid (parseR_end hs ht)
      have HTB := Lib.hid (tokV_bound t)
      have HS0 := Lib.hid hs
      have hts : t.size ≤ 4000 := by
        by_cases h4 : 4000 < t.size
        · have : (tokV t).err = 8 := by unfold tokV; rw [if_pos h4]
          rw [this] at ht
          exact absurd ht (by decide)
        · omega
      rw [ht] at HT
      rw [hs] at HCK
      clear hs ht
      go_enter Tryz.func7, Tryz.ntmps7
      go_wp2_with fail
      refine (HCK.out).mono ?_
      rintro e w1 ⟨rfl, hb⟩
      have HB1 : Hid (Below (w.heap.size + 1) (w.alloc (.cells #[.slice a0 n0 c0, .slice a1 n1 c1, .slice a2 n2 c2] 24)) w1) := Lib.hid ((Below.refl _ _).trans (hb.mono (by simp)))
      clear hb HCK
      go_wp2_with fail
      refine (HT.out w1).mono ?_
      rintro e w2 ⟨A1, k1, A2, k2, rfl, hR1, hR2, hb⟩
      have HB2 : Hid (Below (w.heap.size + 1) (w.alloc (.cells #[.slice a0 n0 c0, .slice a1 n1 c1, .slice a2 n2 c2] 24)) w2) := Lib.hid (HB1.out.trans (hb.mono (HG.out _ HB1.out).2.2.2))
      have HR1 := Lib.hid hR1
      have HR2 := Lib.hid hR2
      clear hb hR1 hR2 HB1 HT
      obtain ⟨q0, q1, q2⟩ := HX.out w2 HB2.out
      have hPE : RE (mkR (envR A F X t) w2 a0 n0 c0 a1 n1 c1 a2 n2 c2 A1 k1) :=
        ⟨(HG.out _ HB2.out).2.1, HS0.out, (HG.out _ HB2.out).1, HR1.out, HTB.out.2.1, HTB.out.2.2⟩
      have HPB := Lib.hid (RP.begin (envR A F X t) w2 a0 n0 c0 a1 n1 c1 a2 n2 c2 A1 k1 49)
      obtain ⟨v, s', hmS, hc1, hc2, hc3⟩ := HPE.out
      have HF := Lib.hid (fun W hW => yFormula_any hPE (10 * (tokV t).words.length + 14) _ s' v W hmS hW)
      have HFA := Lib.hid (fun W (hW : RP (mkR (envR A F X t) w2 a0 n0 c0 a1 n1 c1 a2 n2 c2 A1 k1) W s') => yFail_any s'.next 4 s' W hW)
      have HLS : Hid (lastR (envR A F X t) s' = if s'.next < (tokV t).words.length then failR s'.next 4 s' else s') := Lib.hid rfl
      have HC1 := Lib.hid hc1
      have HC2 := Lib.hid hc2
      have HC3 := Lib.hid hc3
      have hwl := HTB.out.2.1
      have HWA := Lib.hid HTB.out.1
      clear hmS hc1 hc2 hc3 hPE HPE HTB HR1
      go_wp2_with fail
      refine (HF.out _ HPB.out).mono ?_
      rintro e w3 ⟨rfl, hS3⟩
      clear q0 q1 q2
      have HS3 := Lib.hid hS3
      have k4 : w3.cell? ⟨w2.heap.size, 4, none⟩ = some (.int .i64 (s'.next : Int)) := hS3.cells.2.1
      clear hS3 HF HPB
      by_cases hn : s'.next < (tokV t).words.length
      · have d1 : decide ((s'.next : Int) < ((tokV t).words.length : Int)) = true := decide_eq_true (by omega)
        have d2 : decide (s'.next < (tokV t).words.length) = true := decide_eq_true hn
        have HL : Hid (lastR (envR A F X t) s' = failR s'.next 4 s') := Lib.hid (by rw [HLS.out, if_pos hn])
        have hne : (failR s'.next 4 s').e ≠ 0 := by
          by_cases he : s'.e = 0
          · rw [failR_ok he]; exact (by decide : (4 : Int) ≠ 0)
          · rw [failR_bad he]; exact he
        rw [HL.out] at HC1
        have HV := Lib.hid (HC1.out hne)
        have hb : ((failR s'.next 4 s').e != 0) = true := by rw [bne_iff_ne]; exact hne
        generalize (tokV t).words.length = L at *
        clear HC1 HC2 HC3 HL HLS hne hn
        go_wp2_with fail
        refine (HFA.out _ HS3.out).mono ?_
        rintro e w4 ⟨rfl, hS4⟩
        have k6 : w4.cell? ⟨w2.heap.size, 6, none⟩ = some (.int .i64 ((failR s'.next 4 s').bad : Int)) := hS4.cells.2.2.1
        have k7 : w4.cell? ⟨w2.heap.size, 7, none⟩ = some (.int .i64 (failR s'.next 4 s').e) := hS4.cells.2.2.2
        have HB4 : Hid (Below w.heap.size w w4) := Lib.hid ((HG.out _ HB2.out).2.2.1.trans (hS4.be.mono (HG.out _ HB2.out).2.2.1.size))
        have HAT : Hid (∀ k, k < (tokV t).ats.length → ∃ ad, A2 = some ad ∧ w4.cell? (ad.add k) = some (.int .i64 (((tokV t).ats.getD k 0 : Nat) : Int))) := Lib.hid (fun k hk => by
          obtain ⟨ad, hA, hb1, hc⟩ := ni_at HR2.out hk
          exact ⟨ad, hA, (hS4.be.cell (p := ad.add k) (by rw [block_of_add]; exact hb1)).trans hc⟩)
        clear hS4 k4 HS3 HFA HR2
        generalize (failR s'.next 4 s').bad = bd at *
        generalize (failR s'.next 4 s').e = er at *
        by_cases hbd : bd < (tokV t).ats.length
        · obtain ⟨ad, hA, hc2⟩ := HAT.out bd hbd
          have HP : Hid (endP (tokV t) t.size bd = (tokV t).ats.getD bd 0) := Lib.hid (by unfold endP; rw [if_pos hbd])
          have d5 : decide (((tokV t).ats.length : Int) ≤ (bd : Int)) = false := decide_eq_false (by omega)
          have d6 : decide ((tokV t).ats.length ≤ bd) = false := decide_eq_false (by omega)
          subst hA
          generalize (tokV t).ats.getD bd 0 = z at *
          generalize (tokV t).ats.length = L2 at *
          clear HAT hts
          go_wp2
          (try (go_quiet (fail); go_wp2))
          (try (go_quiet (fail); go_wp2))
          (try (go_quiet (fail); go_wp2))
          (try simp only [Exit.inBlock, Exit.then])
          refine bodyPost_ret (results_tmp3 rfl _ _ _) rfl ?_
          rw [HV.out]
          exact ⟨none, 0, by rw [HP.out]; rfl, reads_none _, below_drewN HB4.out _⟩
        · have HP : Hid (endP (tokV t) t.size bd = t.size) := Lib.hid (by unfold endP; rw [if_neg hbd])
          have d5 : decide (((tokV t).ats.length : Int) ≤ (bd : Int)) = true := decide_eq_true (by omega)
          have d6 : decide ((tokV t).ats.length ≤ bd) = true := decide_eq_true (by omega)
          generalize (tokV t).ats.length = L2 at *
          clear HAT
          go_wp2
          (try (go_quiet (fail); go_wp2))
          (try (go_quiet (fail); go_wp2))
          (try (go_quiet (fail); go_wp2))
          (try simp only [Exit.inBlock, Exit.then])
          refine bodyPost_ret (results_tmp3 rfl _ _ _) rfl ?_
          rw [HV.out]
          exact ⟨none, 0, by rw [HP.out]; rfl, reads_none _, below_drewN HB4.out _⟩
      · have d1 : decide ((s'.next : Int) < ((tokV t).words.length : Int)) = false := decide_eq_false (by omega)
        have d2 : decide (s'.next < (tokV t).words.length) = false := decide_eq_false hn
        have HL : Hid (lastR (envR A F X t) s' = s') := Lib.hid (by rw [HLS.out, if_neg hn])
        rw [HL.out] at HC1 HC2 HC3
        have k6 : w3.cell? ⟨w2.heap.size, 6, none⟩ = some (.int .i64 (s'.bad : Int)) := HS3.out.cells.2.2.1
        have k7 : w3.cell? ⟨w2.heap.size, 7, none⟩ = some (.int .i64 s'.e) := HS3.out.cells.2.2.2
        have HB4 : Hid (Below w.heap.size w w3) := Lib.hid ((HG.out _ HB2.out).2.2.1.trans (HS3.out.be.mono (HG.out _ HB2.out).2.2.1.size))
        have HAT : Hid (∀ k, k < (tokV t).ats.length → ∃ ad, A2 = some ad ∧ w3.cell? (ad.add k) = some (.int .i64 (((tokV t).ats.getD k 0 : Nat) : Int))) := Lib.hid (fun k hk => by
          obtain ⟨ad, hA, hb1, hc⟩ := ni_at HR2.out hk
          exact ⟨ad, hA, (HS3.out.be.cell (p := ad.add k) (by rw [block_of_add]; exact hb1)).trans hc⟩)
        clear HFA HR2 HWA
        generalize (tokV t).words.length = L at *
        by_cases he : s'.e = 0
        · rw [he] at k7
          obtain ⟨AN, cN, hcl, hON⟩ := HS3.out.out
          have k5 : w3.cell? ⟨w2.heap.size, 5, none⟩ = some (.slice AN s'.nodes.length cN) := hcl 5 _ rfl
          have HRN := Lib.hid (Reads.of_own hON)
          clear hcl hON HS3
          by_cases h200 : 200 < s'.nodes.length
          · obtain ⟨hv, h0⟩ := HC2.out he h200
            have HV := Lib.hid hv
            have d3 : decide ((200 : Int) < (s'.nodes.length : Int)) = true := decide_eq_true (by omega)
            have d4 : decide (200 < s'.nodes.length) = true := decide_eq_true h200
            obtain ⟨ad, hA, hc2⟩ := HAT.out 0 h0
            rw [addr_add_zero] at hc2
            subst hA
            generalize (tokV t).ats.getD 0 0 = z at *
            generalize (tokV t).ats.length = L2 at *
            generalize s'.nodes.length = L3 at *
            clear HC1 HC2 HC3 HL HLS hv h200 hn he HAT HRN hts
            go_wp2
            (try (go_quiet (fail); go_wp2))
            (try simp only [Exit.inBlock, Exit.then])
            refine bodyPost_ret (results_tmp3 rfl _ _ _) rfl ?_
            rw [HV.out]
            first
              | exact ⟨none, 0, rfl, reads_none _, HB4.out⟩
              | exact ⟨none, 0, rfl, reads_none _, below_drewN HB4.out _⟩
          · have HV := Lib.hid (HC3.out he h200)
            have d3 : decide ((200 : Int) < (s'.nodes.length : Int)) = false := decide_eq_false (by omega)
            have d4 : decide (200 < s'.nodes.length) = false := decide_eq_false h200
            clear HC1 HC2 HC3 HL HLS h200 hn he HAT
            go_wp2
            (try (go_quiet (fail); go_wp2))
            (try simp only [Exit.inBlock, Exit.then])
            refine bodyPost_ret (results_tmp3 rfl _ _ _) rfl ?_
            rw [HV.out]
            first
              | exact ⟨AN, cN, rfl, HRN.out, HB4.out⟩
              | exact ⟨AN, cN, rfl, (HRN.out.below (below_drewN (Below.refl _ _) _)), below_drewN HB4.out _⟩
        · have HV := Lib.hid (HC1.out he)
          have hb : (s'.e != 0) = true := by rw [bne_iff_ne]; exact he
          clear HC1 HC2 HC3 HL HLS he hn HS3
          generalize s'.bad = bd at *
          generalize s'.e = er at *
          by_cases hbd : bd < (tokV t).ats.length
          · obtain ⟨ad, hA, hc2⟩ := HAT.out bd hbd
            have HP : Hid (endP (tokV t) t.size bd = (tokV t).ats.getD bd 0) := Lib.hid (by unfold endP; rw [if_pos hbd])
            have d5 : decide (((tokV t).ats.length : Int) ≤ (bd : Int)) = false := decide_eq_false (by omega)
            have d6 : decide ((tokV t).ats.length ≤ bd) = false := decide_eq_false (by omega)
            subst hA
            generalize (tokV t).ats.getD bd 0 = z at *
            generalize (tokV t).ats.length = L2 at *
            clear HAT hts
            go_wp2
            (try (go_quiet (fail); go_wp2))
            (try (go_quiet (fail); go_wp2))
            (try (go_quiet (fail); go_wp2))
            (try simp only [Exit.inBlock, Exit.then])
            refine bodyPost_ret (results_tmp3 rfl _ _ _) rfl ?_
            rw [HV.out]
            exact ⟨none, 0, by rw [HP.out]; rfl, reads_none _, below_drewN HB4.out _⟩
          · have HP : Hid (endP (tokV t) t.size bd = t.size) := Lib.hid (by unfold endP; rw [if_neg hbd])
            have d5 : decide (((tokV t).ats.length : Int) ≤ (bd : Int)) = true := decide_eq_true (by omega)
            have d6 : decide ((tokV t).ats.length ≤ bd) = true := decide_eq_true (by omega)
            generalize (tokV t).ats.length = L2 at *
            clear HAT
            go_wp2
            (try (go_quiet (fail); go_wp2))
            (try (go_quiet (fail); go_wp2))
            (try (go_quiet (fail); go_wp2))
            (try simp only [Exit.inBlock, Exit.then])
            refine bodyPost_ret (results_tmp3 rfl _ _ _) rfl ?_
            rw [HV.out]
            exact ⟨none, 0, by rw [HP.out]; rfl, reads_none _, below_drewN HB4.out _⟩
    · have HV : Hid (parseV A F X t = ⟨[], (tokV t).pos, (tokV t).err⟩) := Lib.hid (by unfold parseV; rw [if_neg (by rw [hs]; decide), if_pos ht])
      have hb : ((tokV t).err != 0) = true := by rw [bne_iff_ne]; exact ht
      rw [HV.out]
      rw [hs] at HCK
      generalize (tokV t).err = er at *
      generalize (tokV t).pos = po at *
      clear hs ht
      go_enter Tryz.func7, Tryz.ntmps7
      go_wp2_with fail
      refine (HCK.out).mono ?_
      rintro e w1 ⟨rfl, hb⟩
      have HB1 : Hid (Below (w.heap.size + 1) (w.alloc (.cells #[.slice a0 n0 c0, .slice a1 n1 c1, .slice a2 n2 c2] 24)) w1) := Lib.hid ((Below.refl _ _).trans (hb.mono (by simp)))
      clear hb
      go_wp2_with fail
      refine (HT.out w1).mono ?_
      rintro e w2 ⟨A1, k1, A2, k2, rfl, _, _, hb⟩
      have HB2 : Hid (Below (w.heap.size + 1) (w.alloc (.cells #[.slice a0 n0 c0, .slice a1 n1 c1, .slice a2 n2 c2] 24)) w2) := Lib.hid (HB1.out.trans (hb.mono (HG.out _ HB1.out).2.2.2))
      clear hb HT
      go_wp2
      (try simp only [Exit.inBlock, Exit.then])
      refine bodyPost_ret (results_tmp3 rfl _ _ _) rfl ?_
      exact ⟨none, 0, rfl, reads_none _, (HG.out _ HB2.out).2.2.1⟩
  · have HV : Hid (parseV A F X t = ⟨[], 0, sigErr A F X⟩) := Lib.hid (by unfold parseV; rw [if_pos hs])
    have hb : (sigErr A F X != 0) = true := by rw [bne_iff_ne]; exact hs
    rw [HV.out]
    generalize sigErr A F X = er at *
    clear hs
    go_enter Tryz.func7, Tryz.ntmps7
    go_wp2_with fail
    refine (HCK.out).mono ?_
    rintro e w1 ⟨rfl, hb⟩
    have HB1 : Hid (Below (w.heap.size + 1) (w.alloc (.cells #[.slice a0 n0 c0, .slice a1 n1 c1, .slice a2 n2 c2] 24)) w1) := Lib.hid ((Below.refl _ _).trans (hb.mono (by simp)))
    clear hb HT
    go_wp2
    (try simp only [Exit.inBlock, Exit.then])
    refine bodyPost_ret (results_tmp3 rfl _ _ _) rfl ?_
    exact ⟨none, 0, rfl, reads_none _, (HG.out _ HB1.out).2.2.1⟩
end Go.Proofs.YthhkeobjjeldhaaGreatDoor
