/- PrinterLimits (P7.1): a conjunction of a formula with itself, again and again, has a text that doubles, until it is refused (12 times). Conditions: the package variables that the row lists hold what the program's text lays in them. -/
import Derived.Test.YtenbhalnpiahaaaGreatDoorPf
import Derived.Test.YtenbhalnpiahaaaGreatDoorXbc
namespace Go.Proofs.YtenbhalnpiahaaaGreatDoor.printerLimits
open Go.ChangeShapes Go.WideShapes Go.ChangeAt Go.RowKit Go.Proofs.YtenbhalnpiahaaaGreatDoor Go.Proofs.YtenbhalnpiahaaaGreatDoor.prn Go.Proofs.Ws Go.Maps
open Go.ChangeMaps (open_string shut_string)

theorem row_lim {w : World} {g n : Nat} {l : List ByteArray} {T : TypeId} (h : w.heap[g]? = some (.cells (ss l).toArray T (0, 0))) (hl : l.length = n) (hn : n ≤ 20) (hs : ∀ x ∈ l, x.size ≤ maxLen) : SL w w.heap.size (some ⟨g, 0, none⟩) n n l := sl_of' h hl hn hs
theorem sig_lim (w : World) (T0 t1 : TypeId) : ∀ W, Below (w.heap.size + 1 + 1 + 1 + 1) ((((w.alloc (.cells (ss limA).toArray t1)).alloc (.cells (ss limF).toArray t1)).alloc (.cells (ss limX).toArray t1)).alloc (.cells #[.slice (some ⟨w.heap.size, 0, none⟩) 4 4, .slice (some ⟨w.heap.size + 1, 0, none⟩) 8 8, .slice (some ⟨w.heap.size + 1 + 1, 0, none⟩) 8 8] T0)) W →
    SigR W W.heap.size (.agg #[.slice (some ⟨w.heap.size, 0, none⟩) 4 4, .slice (some ⟨w.heap.size + 1, 0, none⟩) 8 8, .slice (some ⟨w.heap.size + 1 + 1, 0, none⟩) 8 8]) limA limF limX ∧ Below w.heap.size w W ∧ w.heap.size + 1 + 1 + 1 + 1 ≤ W.heap.size ∧
      W.cell? ⟨w.heap.size + 1 + 1 + 1, 0, none⟩ = some (.slice (some ⟨w.heap.size, 0, none⟩) 4 4) ∧ W.cell? ⟨w.heap.size + 1 + 1 + 1, 1, none⟩ = some (.slice (some ⟨w.heap.size + 1, 0, none⟩) 8 8) ∧ W.cell? ⟨w.heap.size + 1 + 1 + 1, 2, none⟩ = some (.slice (some ⟨w.heap.size + 1 + 1, 0, none⟩) 8 8) := fun W hW => by
  have sz : ∀ (W : World) (o : Obj), (W.alloc o).heap.size = W.heap.size + 1 := fun W o => by simp
  have new : ∀ (W : World) (o : Array Value) (t : TypeId) (k : Nat), k = W.heap.size → (W.alloc (.cells o t)).heap[k]? = some (.cells o t (0, 0)) := fun W o t k hk => by subst hk; exact heap_alloc_new W (.cells o t)
  have keep : ∀ (W : World) (o : Obj) (k : Nat) (x : Obj), W.heap[k]? = some x → (W.alloc o).heap[k]? = some x := fun W o k x h => (Below.heap_alloc W o k (Array.getElem?_eq_some_iff.1 h).1).trans h
  have b1 : Below w.heap.size w ((((w.alloc (.cells (ss limA).toArray t1)).alloc (.cells (ss limF).toArray t1)).alloc (.cells (ss limX).toArray t1)).alloc (.cells #[.slice (some ⟨w.heap.size, 0, none⟩) 4 4, .slice (some ⟨w.heap.size + 1, 0, none⟩) 8 8, .slice (some ⟨w.heap.size + 1 + 1, 0, none⟩) 8 8] T0)) := ((((Below.refl _ w).alloc (Nat.le_refl _) _).alloc (by simp) _).alloc (by simp; omega) _).alloc (by simp; omega) _
  have h0 : ((((w.alloc (.cells (ss limA).toArray t1)).alloc (.cells (ss limF).toArray t1)).alloc (.cells (ss limX).toArray t1)).alloc (.cells #[.slice (some ⟨w.heap.size, 0, none⟩) 4 4, .slice (some ⟨w.heap.size + 1, 0, none⟩) 8 8, .slice (some ⟨w.heap.size + 1 + 1, 0, none⟩) 8 8] T0)).heap[w.heap.size]? = some (.cells (ss limA).toArray t1 (0, 0)) := keep _ _ _ _ (keep _ _ _ _ (keep _ _ _ _ (new _ _ _ _ rfl)))
  have h1 : ((((w.alloc (.cells (ss limA).toArray t1)).alloc (.cells (ss limF).toArray t1)).alloc (.cells (ss limX).toArray t1)).alloc (.cells #[.slice (some ⟨w.heap.size, 0, none⟩) 4 4, .slice (some ⟨w.heap.size + 1, 0, none⟩) 8 8, .slice (some ⟨w.heap.size + 1 + 1, 0, none⟩) 8 8] T0)).heap[w.heap.size + 1]? = some (.cells (ss limF).toArray t1 (0, 0)) := keep _ _ _ _ (keep _ _ _ _ (new _ _ _ _ (by simp only [sz])))
  have h2 : ((((w.alloc (.cells (ss limA).toArray t1)).alloc (.cells (ss limF).toArray t1)).alloc (.cells (ss limX).toArray t1)).alloc (.cells #[.slice (some ⟨w.heap.size, 0, none⟩) 4 4, .slice (some ⟨w.heap.size + 1, 0, none⟩) 8 8, .slice (some ⟨w.heap.size + 1 + 1, 0, none⟩) 8 8] T0)).heap[w.heap.size + 1 + 1]? = some (.cells (ss limX).toArray t1 (0, 0)) := keep _ _ _ _ (new _ _ _ _ (by simp only [sz]))
  have h3 : ((((w.alloc (.cells (ss limA).toArray t1)).alloc (.cells (ss limF).toArray t1)).alloc (.cells (ss limX).toArray t1)).alloc (.cells #[.slice (some ⟨w.heap.size, 0, none⟩) 4 4, .slice (some ⟨w.heap.size + 1, 0, none⟩) 8 8, .slice (some ⟨w.heap.size + 1 + 1, 0, none⟩) 8 8] T0)).heap[w.heap.size + 1 + 1 + 1]? = some (.cells #[.slice (some ⟨w.heap.size, 0, none⟩) 4 4, .slice (some ⟨w.heap.size + 1, 0, none⟩) 8 8, .slice (some ⟨w.heap.size + 1 + 1, 0, none⟩) 8 8] T0 (0, 0)) := new _ _ _ _ (by simp only [sz])
  have hs : ((((w.alloc (.cells (ss limA).toArray t1)).alloc (.cells (ss limF).toArray t1)).alloc (.cells (ss limX).toArray t1)).alloc (.cells #[.slice (some ⟨w.heap.size, 0, none⟩) 4 4, .slice (some ⟨w.heap.size + 1, 0, none⟩) 8 8, .slice (some ⟨w.heap.size + 1 + 1, 0, none⟩) 8 8] T0)).heap.size = w.heap.size + 1 + 1 + 1 + 1 := by simp only [sz]
  generalize (((w.alloc (.cells (ss limA).toArray t1)).alloc (.cells (ss limF).toArray t1)).alloc (.cells (ss limX).toArray t1)).alloc (.cells #[.slice (some ⟨w.heap.size, 0, none⟩) 4 4, .slice (some ⟨w.heap.size + 1, 0, none⟩) 8 8, .slice (some ⟨w.heap.size + 1 + 1, 0, none⟩) 8 8] T0) = v at *
  have g0 := (hW.block w.heap.size (by omega)).trans h0
  have g1 := (hW.block (w.heap.size + 1) (by omega)).trans h1
  have g2 := (hW.block (w.heap.size + 1 + 1) (by omega)).trans h2
  have g3 := (hW.block (w.heap.size + 1 + 1 + 1) (by omega)).trans h3
  have hz := hW.size
  exact ⟨⟨_, _, _, _, _, _, _, _, _, rfl, row_lim (l := limA) g0 rfl (by omega) (by decide), row_lim (l := limF) g1 rfl (by omega) (by decide), row_lim (l := limX) g2 rfl (by omega) (by decide)⟩, b1.trans (hW.mono (by omega)), by omega, by rw [Lib.cell_of_heap g3]; rfl, by rw [Lib.cell_of_heap g3]; rfl, by rw [Lib.cell_of_heap g3]; rfl⟩
set_option maxRecDepth 100000 in
set_option maxHeartbeats 16000000 in
theorem walk (f : List Nd) (af : Option Addr) (nf cf : Nat) (n : Nat) (hn : n < 256) (w : World) (rf : NdRow w af nf cf f) (hE : EnvP w) :
    Calls Tryz.prog 9 #[.slice af nf cf, .int .u8 (n : Int)] w fun e w' => e = .returned (.bool true) ∧ Below w.heap.size w w' := by
  have hlf := rf.1.nd_len
  have hmf := rf.2.2.2
  have HCK := Lib.hid (pCheck_any f af nf cf w rf.1 rf.2.2.2)
  have HR := Lib.hid rf.1
  have HE := Lib.hid hE
  clear hE rf
  by_cases h60 : nf ≤ 60
  · have d1 : decide ((60 : Int) < (nf : Int)) = false := decide_eq_false (by omega)
    have d2 : decide (60 < nf) = false := decide_eq_false (by omega)
    by_cases hf : fErr f = 0
    · rw [hf] at HCK
      have HS0 := Lib.hid (LimT.start hf (by omega))
      clear hf
      go_enter Tryz.func9, Tryz.ntmps9
      go_wp2_with fail
      refine (HCK.out).mono ?_
      rintro e w1 ⟨rfl, hb1⟩
      have HB1 := Lib.hid hb1
      have HSG := Lib.hid (sig_lim w1 24 9)
      have HV : Hid (∀ W, Below (w1.heap.size + 1 + 1 + 1 + 1) ((((w1.alloc (.cells (ss limA).toArray 9)).alloc (.cells (ss limF).toArray 9)).alloc (.cells (ss limX).toArray 9)).alloc (.cells #[.slice (some ⟨w1.heap.size, 0, none⟩) 4 4, .slice (some ⟨w1.heap.size + 1, 0, none⟩) 8 8, .slice (some ⟨w1.heap.size + 1 + 1, 0, none⟩) 8 8] 24)) W → Below w.heap.size w W ∧ EnvP W) := Lib.hid (fun W hW => by
        have h5 := HB1.out.trans ((HSG.out W hW).2.1.mono HB1.out.size)
        exact ⟨h5, HE.out.below h5⟩)
      have HW0 := Lib.hid (Below.refl (w1.heap.size + 1 + 1 + 1 + 1) ((((w1.alloc (.cells (ss limA).toArray 9)).alloc (.cells (ss limF).toArray 9)).alloc (.cells (ss limX).toArray 9)).alloc (.cells #[.slice (some ⟨w1.heap.size, 0, none⟩) 4 4, .slice (some ⟨w1.heap.size + 1, 0, none⟩) 8 8, .slice (some ⟨w1.heap.size + 1 + 1, 0, none⟩) 8 8] 24)))
      have HPR : Hid (∀ (g : List Nd) (t : Tr) (c : Nat) ag ng cg W, LimT g t c → c ≤ 200 → Below (w1.heap.size + 1 + 1 + 1 + 1) ((((w1.alloc (.cells (ss limA).toArray 9)).alloc (.cells (ss limF).toArray 9)).alloc (.cells (ss limX).toArray 9)).alloc (.cells #[.slice (some ⟨w1.heap.size, 0, none⟩) 4 4, .slice (some ⟨w1.heap.size + 1, 0, none⟩) 8 8, .slice (some ⟨w1.heap.size + 1 + 1, 0, none⟩) 8 8] 24)) W → Reads W W.heap.size 6 ag ng (nds g) → ng ≤ maxLen → Calls Tryz.prog 12 #[.agg #[.slice (some ⟨w1.heap.size, 0, none⟩) 4 4, .slice (some ⟨w1.heap.size + 1, 0, none⟩) 8 8, .slice (some ⟨w1.heap.size + 1 + 1, 0, none⟩) 8 8], .slice ag ng cg] W fun e w' => e = .returned (.tuple #[.string (if 4000 < (textP limA limF limX t).length then ⟨#[]⟩ else ⟨(textP limA limF limX t).toArray⟩), .int .i64 (if 4000 < (textP limA limF limX t).length then 8 else 0)]) ∧ Below W.heap.size W w') := Lib.hid (fun g t c ag ng cg W hg hc hW hR hm => by
        have h5 := pPrint_any _ _ _ _ _ _ _ _ _ limA limF limX g ag ng cg W (HSG.out W hW).1 (HV.out W hW).2 hR hm
        rw [(hg.print hc).1] at h5
        by_cases hl : 4000 < (textP limA limF limX t).length
        · rw [if_pos hl] at h5; rw [if_pos hl, if_pos hl]; exact h5
        · rw [if_neg hl] at h5; rw [if_neg hl, if_neg hl]; exact h5)
      have HRV : Hid (Reads ((((w1.alloc (.cells (ss limA).toArray 9)).alloc (.cells (ss limF).toArray 9)).alloc (.cells (ss limX).toArray 9)).alloc (.cells #[.slice (some ⟨w1.heap.size, 0, none⟩) 4 4, .slice (some ⟨w1.heap.size + 1, 0, none⟩) 8 8, .slice (some ⟨w1.heap.size + 1 + 1, 0, none⟩) 8 8] 24)) ((((w1.alloc (.cells (ss limA).toArray 9)).alloc (.cells (ss limF).toArray 9)).alloc (.cells (ss limX).toArray 9)).alloc (.cells #[.slice (some ⟨w1.heap.size, 0, none⟩) 4 4, .slice (some ⟨w1.heap.size + 1, 0, none⟩) 8 8, .slice (some ⟨w1.heap.size + 1 + 1, 0, none⟩) 8 8] 24)).heap.size 6 af nf (nds f)) := Lib.hid ((HR.out.below (HV.out _ HW0.out).1).more (HV.out _ HW0.out).1.size)
      clear hb1 HCK HR
      go_wp2
      change Code.wp _ _ _ _ ((((w1.alloc (.cells (ss limA).toArray 9)).alloc (.cells (ss limF).toArray 9)).alloc (.cells (ss limX).toArray 9)).alloc (.cells #[.slice (some ⟨w1.heap.size, 0, none⟩) 4 4, .slice (some ⟨w1.heap.size + 1, 0, none⟩) 8 8, .slice (some ⟨w1.heap.size + 1 + 1, 0, none⟩) 8 8] 24))
      generalize hvw : ((((w1.alloc (.cells (ss limA).toArray 9)).alloc (.cells (ss limF).toArray 9)).alloc (.cells (ss limX).toArray 9)).alloc (.cells #[.slice (some ⟨w1.heap.size, 0, none⟩) 4 4, .slice (some ⟨w1.heap.size + 1, 0, none⟩) 8 8, .slice (some ⟨w1.heap.size + 1 + 1, 0, none⟩) 8 8] 24)) = v at *
      have hws : w1.heap.size + 1 + 1 + 1 + 1 ≤ v.heap.size := (HSG.out v HW0.out).2.2.1
      clear hvw
      go_loopw [0, 6, 7, 8, 9] (fun fv wv iv _ _ wr => ∃ (k : Nat) (fk : List Nd) (t : Tr) (Ak : Option Addr) (nk ck was : Nat), k ≤ 12 ∧ iv = .int .i64 k ∧ fv = .slice Ak nk ck ∧ wv = .int .i64 was ∧ Hid (LimT fk t (60 + k)) ∧ Hid (Reads wr wr.heap.size 6 Ak nk (nds fk)) ∧ nk ≤ 200 ∧ was ≤ 4000 ∧ Hid (was = 0 ∨ (1 ≤ was ∧ 2 * was + 3 ≤ (textP limA limF limX t).length ∧ (textP limA limF limX t).length ≤ 2 * was + 7)) ∧ Hid (Below (w1.heap.size + 1 + 1 + 1 + 1) v wr)) (fun _ _ iv _ _ _ => 12 - (intOf iv).toNat)
      case atStart => exact ⟨0, f, treeOf f, af, nf, cf, 0, by omega, rfl, rfl, rfl, HS0, HRV, by omega, by omega, Lib.hid (.inl rfl), HW0⟩
      case round =>
        obtain ⟨k, fk, t, Ak, nk, ck, was, hk, rfl, rfl, rfl, HL, HRK, hnk, hwas, HWS, HB⟩ := hrel
        obtain ⟨_, _, _, q0, q1, q2⟩ := HSG.out _ HB.out
        by_cases hlt : k < n % 12
        · have e1 : decide ((k : Int) < (n : Int) % 12) = true := decide_eq_true (by omega)
          have e2 : decide ((k : Int) < Int.tmod (n : Int) 12) = true := decide_eq_true (by rw [Int.tmod_eq_emod_of_nonneg (by omega)]; omega)
          have e3 : decide ((k : Int) < ((n % 12 : Nat) : Int)) = true := decide_eq_true (by omega)
          have e4 : decide (k < n % 12) = true := decide_eq_true hlt
          have HP := Lib.hid (HPR.out fk t (60 + k) Ak nk ck _ HL.out (by omega) HB.out HRK.out (by unfold maxLen; omega))
          have HTP := Lib.hid ((HL.out.print (by omega)).2)
          by_cases h4 : 4000 < (textP limA limF limX t).length
          · rw [if_pos h4, if_pos h4] at HP
            clear e3
            go_wp2_with fail
            refine (HP.out).mono ?_
            rintro e w5 ⟨rfl, hb⟩
            have HB5 : Hid (Below (w1.heap.size + 1 + 1 + 1 + 1) v w5) := Lib.hid (HB.out.trans (hb.mono (by have := HB.out.size; omega)))
            clear hb HP q0 q1 q2
            rcases HWS.out with hw0 | ⟨hw1, hw2, hw3⟩
            · subst hw0
              go_wp2_with fail
              refine (awakeP_any _ (HV.out _ HB5.out).2).mono ?_
              rintro e w9 ⟨rfl, hb⟩
              have HB9 : Hid (Below w.heap.size w w9) := Lib.hid ((HV.out _ HB5.out).1.trans (hb.mono (HV.out _ HB5.out).1.size))
              clear hb
              go_wp2
              go_ret
              exact ⟨rfl, HB9.out⟩
            · have z0 : ((was : Int) == 0) = false := by rw [beq_eq_false_iff_ne]; omega
              have z1 : decide ((4000 : Int) < 2 * (was : Int) + 7) = true := decide_eq_true (by omega)
              go_wp2_with fail
              refine (awakeP_any _ (HV.out _ HB5.out).2).mono ?_
              rintro e w9 ⟨rfl, hb⟩
              have HB9 : Hid (Below w.heap.size w w9) := Lib.hid ((HV.out _ HB5.out).1.trans (hb.mono (HV.out _ HB5.out).1.size))
              clear hb
              go_wp2
              go_ret
              exact ⟨rfl, HB9.out⟩
          · rw [if_neg h4, if_neg h4] at HP
            have hz9 : (⟨(textP limA limF limX t).toArray⟩ : ByteArray).size = (textP limA limF limX t).length := List.size_toArray
            have HAL := Lib.hid (and_len limA limF limX t)
            have hz1 := HTP.out
            generalize hqq : (textP limA limF limX t).length = q at *
            generalize (⟨(textP limA limF limX t).toArray⟩ : ByteArray) = s at *
            have hss : s.size = q := hz9
            obtain ⟨hst1, hst2, hst3⟩ := HL.out.step (by omega)
            have HST := Lib.hid hst1
            have hne2 : (andL fk).length ≠ 0 := fun h => hst2 (List.length_eq_zero_iff.1 h)
            have HAN : Hid (∀ W, Below (w1.heap.size + 1 + 1 + 1 + 1) v W → Reads W W.heap.size 6 Ak nk (nds fk) → Calls Tryz.prog 25 #[.slice Ak nk ck, .slice Ak nk ck] W fun e w' => ∃ A' c', e = .returned (.slice A' (andL fk).length c') ∧ Reads w' w'.heap.size 6 A' (andL fk).length (nds (andL fk)) ∧ Below W.heap.size W w') := Lib.hid (fun W hW hR => pAnd_any fk Ak nk ck fk Ak nk ck W hR (by unfold maxLen; omega) hR (by unfold maxLen; omega))
            clear e3 hz9 hst1 hst2
            go_wp2_with fail
            refine (HP.out).mono ?_
            rintro e w5 ⟨rfl, hb⟩
            have HB5 : Hid (Below (w1.heap.size + 1 + 1 + 1 + 1) v w5) := Lib.hid (HB.out.trans (hb.mono (by have := HB.out.size; omega)))
            have HR5 := Lib.hid ((HRK.out.below hb).more hb.size)
            have HWN : Hid (q = 0 ∨ (1 ≤ q ∧ 2 * q + 3 ≤ (textP limA limF limX (.bin (nd1 5) t t)).length ∧ (textP limA limF limX (.bin (nd1 5) t t)).length ≤ 2 * q + 7)) := Lib.hid (.inr ⟨hz1, HAL.out⟩)
            clear hb HP q0 q1 q2 HRK
            have y4 : decide ((4000 : Int) < (q : Int)) = false := decide_eq_false (by omega)
            have y5 : decide (4000 < q) = false := decide_eq_false (by omega)
            have y6 : ((q : Int) == 0) = false := by rw [beq_eq_false_iff_ne]; omega
            have y7 : (q == 0) = false := by rw [beq_eq_false_iff_ne]; omega
            rcases HWS.out with hw0 | ⟨hw1, hw2, hw3⟩
            · subst hw0
              go_wp2_with fail
              refine (HAN.out _ HB5.out HR5.out).mono ?_
              rintro e w6 ⟨A', c', rfl, hR6, hb⟩
              have HB6 : Hid (Below (w1.heap.size + 1 + 1 + 1 + 1) v w6) := Lib.hid (HB5.out.trans (hb.mono (by have := HB5.out.size; omega)))
              have HR6 := Lib.hid hR6
              have x1 : (((andL fk).length : Int) == 0) = false := by rw [beq_eq_false_iff_ne]; omega
              have x2 : ((andL fk).length == 0) = false := by rw [beq_eq_false_iff_ne]; exact hne2
              clear hb hR6 HAN
              go_wp2
              go_roundw
              case rel => exact ⟨k + 1, andL fk, .bin (nd1 5) t t, A', (andL fk).length, c', q, by omega, by go_num, rfl, by first | rfl | rw [hss], HST, HR6, hst3, by omega, HWN, HB6⟩
              case measure => simp [intOf]; omega
            · have z0 : decide ((0 : Int) < (was : Int)) = true := decide_eq_true (by omega)
              have z1 : decide (0 < was) = true := decide_eq_true (by omega)
              have z2 : decide ((q : Int) < 2 * (was : Int) + 3) = false := decide_eq_false (by omega)
              have z3 : decide (2 * (was : Int) + 7 < (q : Int)) = false := decide_eq_false (by omega)
              go_wp2_with fail
              refine (HAN.out _ HB5.out HR5.out).mono ?_
              rintro e w6 ⟨A', c', rfl, hR6, hb⟩
              have HB6 : Hid (Below (w1.heap.size + 1 + 1 + 1 + 1) v w6) := Lib.hid (HB5.out.trans (hb.mono (by have := HB5.out.size; omega)))
              have HR6 := Lib.hid hR6
              have x1 : (((andL fk).length : Int) == 0) = false := by rw [beq_eq_false_iff_ne]; omega
              have x2 : ((andL fk).length == 0) = false := by rw [beq_eq_false_iff_ne]; exact hne2
              clear hb hR6 HAN
              go_wp2
              go_roundw
              case rel => exact ⟨k + 1, andL fk, .bin (nd1 5) t t, A', (andL fk).length, c', q, by omega, by go_num, rfl, by first | rfl | rw [hss], HST, HR6, hst3, by omega, HWN, HB6⟩
              case measure => simp [intOf]; omega
        · have e1 : decide ((k : Int) < (n : Int) % 12) = false := decide_eq_false (by omega)
          have e2 : decide ((k : Int) < Int.tmod (n : Int) 12) = false := decide_eq_false (by rw [Int.tmod_eq_emod_of_nonneg (by omega)]; omega)
          have e4 : decide (k < n % 12) = false := decide_eq_false hlt
          clear hlt
          go_wp2_with fail
          refine (awakeP_any _ (HV.out _ HB.out).2).mono ?_
          rintro e w9 ⟨rfl, hb⟩
          have HB9 : Hid (Below w.heap.size w w9) := Lib.hid ((HV.out _ HB.out).1.trans (hb.mono (HV.out _ HB.out).1.size))
          clear hb
          go_wp2
          go_ret
          exact ⟨rfl, HB9.out⟩
    · have hne : (fErr f != 0) = true := by rw [bne_iff_ne]; exact hf
      generalize fErr f = z at *
      clear hf
      go_enter Tryz.func9, Tryz.ntmps9
      go_wp2_with fail
      refine (HCK.out).mono ?_
      rintro e w1 ⟨rfl, hb1⟩
      have HB1 := Lib.hid hb1
      clear hb1
      go_wp2_with fail
      refine (awakeP_any _ (HE.out.below HB1.out)).mono ?_
      rintro e w9 ⟨rfl, hb⟩
      have HB9 : Hid (Below w.heap.size w w9) := Lib.hid (HB1.out.trans (hb.mono HB1.out.size))
      clear hb
      go_wp2
      go_ret
      exact ⟨rfl, HB9.out⟩
  · have d1 : decide ((60 : Int) < (nf : Int)) = true := decide_eq_true (by omega)
    have d2 : decide (60 < nf) = true := decide_eq_true (by omega)
    clear h60 HCK
    go_enter Tryz.func9, Tryz.ntmps9
    go_wp2_with fail
    refine (awakeP_any _ HE.out).mono ?_
    rintro e w9 ⟨rfl, hb⟩
    have HB9 := Lib.hid hb
    clear hb
    go_wp2
    go_ret
    exact ⟨rfl, HB9.out⟩
set_option maxRecDepth 100000 in
theorem contract (H : Type) (enc : TypeId × Value → H) (W : World) (base : Nat) (args : Array Value) (ds gs : List (DataW H)) (before : List MemPlace)
    (hval : ∀ (j : Nat) t v, Tryz.f9.params[j]? = some t → args[j]? = some v → Value.okWide Tryz.prog W .any base t v)
    (hW : DataW.Whole enc Tryz.prog Tryz.f9.params.toList Rows.printerLimitsSpec.vars false W args.toList ds gs before) (hE : EnvP W) :
    Calls Tryz.prog 9 args W fun e W' => ∃ v, e = .returned v ∧ Rows.printerLimitsSpec.post enc Tryz.prog Tryz.f9 false true false false W args v W' := by
  have hW' := hW
  obtain ⟨p, q, hA0, hV, rfl, hfz, hnd⟩ := hW
  have hA : DataW.TrodAll enc Tryz.prog W 0 (fun _ => true) true Tryz.f9.params.toList args.toList ds p := hA0
  rw [Tryz.params9] at hA hval
  obtain ⟨v0, vs0, d0, ds0, p0, q0, hargs, rfl, rfl, h0, r0⟩ := trodAll_cons hA
  obtain ⟨v1, vs1, d1, ds1, p1, q1, rfl, rfl, rfl, h1, r1⟩ := trodAll_cons r0
  obtain ⟨rfl, rfl, rfl⟩ := trodAll_nil r1
  obtain rfl : args = #[v0, v1] := by cases args; simp_all
  obtain ⟨rfl, rfl⟩ := trodVars_none hV
  obtain ⟨af0, nf0, cf0, rfl⟩ := okWide_slice Tryz.underlying25 (hval 0 25 v0 rfl rfl)
  obtain ⟨f0, w0⟩ : ∃ l, NdRow W af0 nf0 cf0 l := by
    obtain ⟨fuel, hf⟩ := h0
    exact open_nodes hf
  have k0 := h0
  have lt0 : ∀ x ∈ p0, x.block < W.heap.size := by obtain ⟨m, hm⟩ := k0; exact DataW.trod_lt m _ _ _ hm
  obtain ⟨g1, rfl, rfl, rfl, w1⟩ := open_int Tryz.underlying5 (hval 1 5 v1 rfl rfl) h1
  obtain ⟨g1, rfl, hu1⟩ : ∃ n : Nat, g1 = (n : Int) ∧ n < 256 := by have hz := w1; have q1 : IntKind.u8.min = 0 := rfl; have q2 : IntKind.u8.max = 255 := rfl; simp [Lit.wf] at hz; exact ⟨g1.toNat, by omega, by omega⟩
  clear hA0
  simp only [List.append_nil] at hW'
  have hwalk := walk f0 af0 nf0 cf0 g1 hu1 W w0 hE
  refine hwalk.mono fun e W' ⟨he, hg⟩ => ?_
  subst he
  exact ⟨_, rfl, _, _, _, [], _, [], hW', trodAll_mk1 (shut_bool Tryz.underlying4 _), (trodAll_cons_mk (Below.trod laidOut (by kernel_rfl) (of_decide_eq_true (by kernel_rfl)) k0 hg lt0) (trodAll_cons_mk (shut_int Tryz.underlying5 w1) trodAll_mk0)), rfl, hg.frame _, fun h => by cases h⟩
theorem reads (os : Os) {H : Type} (enc : TypeId × Value → H) : ∃ places, DataW.whole enc Tryz.prog ((laidW os).forCall (fun _ _ => 0) ⟨#[], #[.slice none 0 0, .int .u8 0], []⟩).memory Tryz.f9.params.toList Rows.printerLimitsSpec.vars false #[(.slice none 0 0 : Value), (.int .u8 0 : Value)].toList 8 = some ([.nil, .lit (.int .u8 0)], [], places) :=
  ⟨[], by kernel_rfl⟩
set_option maxRecDepth 100000 in
theorem lifted (os : Os) (started : os.Started) (H : Type) (enc : TypeId × Value → H) (F : Stop.Interp) :
    ReturnsInHanded {} Tryz.checked os 9 .any ((OpenSpec.ofChange Rows.printerLimitsSpec).preRow enc Tryz.prog Tryz.f9 Rows.printerLimitsRow.domain false Rows.printerLimitsRow.laid) (((OpenSpec.ofChange Rows.printerLimitsSpec).at F).post enc Tryz.prog Tryz.f9 false true false false) := by
  obtain ⟨places, hx⟩ := reads os enc
  refine returnsInHanded_of_row (C := Tryz.checked) (s := OpenSpec.ofChange Rows.printerLimitsSpec) own started (by kernel_rfl) Tryz.func9
    (witness_row_atRef (enc := enc) (C := Tryz.checked) false (laidW os) #[.slice none 0 0, .int .u8 0] (laidW_os os) (vars_ok os _) (heap_ok os _) (by kernel_rfl)
      (OpenSpec.preRow_of_cond 8 hx (by kernel_rfl) (fun k hk => by cases hk) (by kernel_rfl) (laid_met os _))) ?_
  intro W base args ds gs before hval hW _ _ _ hL hsh _
  exact contract H enc W base args ds gs before hval hW (env_of hL hsh)
theorem said : Rows.PrinterLimitsSaid :=
  OpenClaim.holds_of_cond 9 Tryz.f9 rfl rfl rfl rfl rfl rfl rfl ⟨rfl, rfl, rfl, rfl, rfl⟩ rfl rfl rfl rfl rfl (by kernel_rfl) Tryz.func9 (by kernel_rfl)
    (of_decide_eq_true (by kernel_rfl)) (by unfold Func.isWrapper; first | (rw [if_pos (by decide +kernel)]; kernel_rfl) | (rw [if_neg (by decide +kernel)]; exact ⟨rfl, rfl⟩))
    (fun os started H enc _ F => by rw [OpenClaim.pre_eq_preRow]; exact lifted os started H enc F)
theorem plain (f : FuncId) (fn : Func) (hf : Tryz.pinned.checked.prog.funcNamed "witting/wittinglaw07.PrinterLimits" = some f) (hfn : Tryz.pinned.checked.prog.funcs[f]? = some fn) :
    false = Tryz.pinned.checked.prog.looks [] ∧ ∀ (j : Nat) t, fn.params[j]? = some t → Tryz.pinned.checked.prog.wantsStandIn t = false := by
  obtain rfl : f = 9 := Option.some.inj ((show Tryz.prog.funcNamed "witting/wittinglaw07.PrinterLimits" = some 9 by kernel_rfl).symm.trans hf) |>.symm
  obtain rfl : fn = Tryz.f9 := (Option.some.inj (Tryz.func9.symm.trans hfn)).symm
  refine ⟨no_looks, fun j t ht => ?_⟩
  rw [Tryz.params9] at ht
  have hm : t ∈ [25, 5] := by simpa using Array.mem_of_getElem? ht
  have hall : ([25, 5].all fun u => !Tryz.prog.wantsStandIn u) = true := by kernel_rfl
  exact (show Tryz.prog.wantsStandIn t = false by simpa using List.all_eq_true.1 hall t hm)
theorem card : Rows.PrinterLimitsCardSaid :=
  Claim7.holds_tied_plain_at .later [] _ _ _ _ said (fun _ h => by cases h) (by kernel_rfl) (fun _ h => by cases h) printerLimits_row_tie rfl ⟨rfl, rfl⟩ (by kernel_rfl) rfl plain (by kernel_rfl)
#print axioms card
end Go.Proofs.YtenbhalnpiahaaaGreatDoor.printerLimits
