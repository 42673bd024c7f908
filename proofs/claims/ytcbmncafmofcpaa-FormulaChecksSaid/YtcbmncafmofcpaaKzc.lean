/- Layer 5: Same and Compare of the reference. -/
import Derived.Test.YtcbmncafmofcpaaKzb
namespace Go.Proofs.Ws
open Go
def fieldsL (n : Nd) : List Int := [n.op, n.i, n.e, n.g, n.x, n.y]
def cmpL : List Int → List Int → Int
  | p :: a, q :: b => if cmpI p q ≠ 0 then cmpI p q else cmpL a b
  | _, _ => 0
theorem cmpN_L (a b : Nd) : cmpN a b = cmpL (fieldsL a) (fieldsL b) := rfl
theorem cmpL_at (a b : List Int) (k : Nat) (h : k < a.length) (h2 : k < b.length) : cmpL (a.drop k) (b.drop k) = if cmpI (a.getD k 0) (b.getD k 0) ≠ 0 then cmpI (a.getD k 0) (b.getD k 0) else cmpL (a.drop (k + 1)) (b.drop (k + 1)) := by
  rw [List.drop_eq_getElem_cons h, List.drop_eq_getElem_cons h2, show a.getD k 0 = a[k] from by simp [h], show b.getD k 0 = b[k] from by simp [h2]]
  rfl
theorem cmpL_end (a b : List Int) (k : Nat) (h : a.length ≤ k) : cmpL (a.drop k) (b.drop k) = 0 := by
  rw [List.drop_of_length_le h]; rfl
theorem cmpI_lt {a b : Int} (h : a < b) : cmpI a b = -1 := by unfold cmpI; rw [if_pos h]
theorem cmpI_gt {a b : Int} (h : b < a) : cmpI a b = 1 := by unfold cmpI; rw [if_neg (by omega), if_pos h]
theorem cmpI_eq (a : Int) : cmpI a a = 0 := by unfold cmpI; rw [if_neg (by omega), if_neg (by omega)]
end Go.Proofs.Ws
namespace Go.Proofs.Ytcbmncafmofcpaa
open Go.RowKit Go.Proofs.Ws Go.Maps
theorem fields_any (a : Nd) (w : World) : Calls Try.prog 69 #[nv a] w fun e w' => ∃ g, e = .returned (.slice (some ⟨g, 0, none⟩) 6 6) ∧ Reads w' w'.heap.size 1 (some ⟨g, 0, none⟩) 6 (is (fieldsL a)) ∧ Below w.heap.size w w' := by
  have hbx := Box.made w a 44
  obtain ⟨x0, x1, x2, x3, x4, x5, _⟩ := hbx
  have HBL : Hid (Below w.heap.size w (w.alloc (.cells #[.int .i64 a.op, .int .i64 a.i, .int .i64 a.e, .int .i64 a.g, .int .i64 a.x, .int .i64 a.y] 44))) := Lib.hid ((Below.refl _ w).alloc (Nat.le_refl _) _)
  have HO : Hid (∀ (W : World) (p0 p1 p2 p3 p4 p5 : Int) (k : Nat), k = W.heap.size → Reads (W.alloc (.cells #[.int .i64 p0, .int .i64 p1, .int .i64 p2, .int .i64 p3, .int .i64 p4, .int .i64 p5] 3)) (W.alloc (.cells #[.int .i64 p0, .int .i64 p1, .int .i64 p2, .int .i64 p3, .int .i64 p4, .int .i64 p5] 3)).heap.size 1 (some ⟨k, 0, none⟩) 6 (is [p0, p1, p2, p3, p4, p5])) := Lib.hid (fun W p0 p1 p2 p3 p4 p5 k hk => by
    subst hk
    refine ⟨rfl, fun _ => ⟨_, rfl, by simp, fun j u hj => ?_⟩⟩
    have hh := heap_alloc_new W (.cells #[.int .i64 p0, .int .i64 p1, .int .i64 p2, .int .i64 p3, .int .i64 p4, .int .i64 p5] 3)
    rw [addr_zero, Lib.cell_of_heap hh, ← hj]
    simp [is])
  unfold nv fieldsL
  go_enter Try.func69, Try.ntmps69
  go_wp2
  go_ret
  refine ⟨_, rfl, HO.out _ _ _ _ _ _ _ _ (by simp), HBL.out.alloc HBL.out.size _⟩
set_option maxRecDepth 100000 in
set_option maxHeartbeats 4000000 in
theorem rSame_any (a b : List Nd) (A A2 : Option Addr) (n m c c2 : Nat) (w : World) (hR : Reads w w.heap.size 6 A n (nds a)) (hR2 : Reads w w.heap.size 6 A2 m (nds b)) (hm : n ≤ maxLen) (hm2 : m ≤ maxLen) :
    Calls Try.prog 35 #[.slice A n c, .slice A2 m c2] w fun e w' => e = .returned (.bool (sameF a b)) ∧ Below w.heap.size w w' := by
  have HV1 := Lib.hid (rCheck_any a A n c w hR hm)
  have HV2 : Hid (∀ W, Below w.heap.size w W → Calls Try.prog 13 #[.slice A2 m c2] W fun e w' => e = .returned (.int .i64 (fErr b)) ∧ Below W.heap.size W w') := Lib.hid (fun W h => rCheck_any b A2 m c2 W ((hR2.below h).more h.size) hm2)
  have HC1 : Hid (∀ W, Below w.heap.size w W → Calls Try.prog 26 #[.slice A n c] W fun e w' => ∃ A' c', e = .returned (.slice A' (compF a).length c') ∧ Reads w' w'.heap.size 6 A' (compF a).length (nds (compF a)) ∧ Below W.heap.size W w') :=
    Lib.hid (fun W h => rCompact_any a A n c W ((hR.below h).more h.size) hm)
  have HC2 : Hid (∀ W, Below w.heap.size w W → Calls Try.prog 26 #[.slice A2 m c2] W fun e w' => ∃ A' c', e = .returned (.slice A' (compF b).length c') ∧ Reads w' w'.heap.size 6 A' (compF b).length (nds (compF b)) ∧ Below W.heap.size W w') :=
    Lib.hid (fun W h => rCompact_any b A2 m c2 W ((hR2.below h).more h.size) hm2)
  have HLa : (compF a).length ≤ maxLen := Nat.le_trans (compF_le a) (by rw [hR.nd_len]; exact hm)
  have HLb : (compF b).length ≤ maxLen := Nat.le_trans (compF_le b) (by rw [hR2.nd_len]; exact hm2)
  have HR := Lib.hid hR
  have HR2 := Lib.hid hR2
  by_cases hza : fErr a = 0
  · by_cases hzb : fErr b = 0
    · have HS : Hid (sameF a b = decide (compF a = compF b)) := Lib.hid (by unfold sameF; simp [hza, hzb])
      rw [hza] at HV1
      rw [hzb] at HV2
      clear hR hR2
      generalize sameF a b = sf at *
      generalize compF a = p at *
      generalize compF b = q at *
      have HE := Lib.hid (fun A3 A4 c3 c4 W (h1 : Reads W W.heap.size 6 A3 p.length (nds p)) (h2 : Reads W W.heap.size 6 A4 q.length (nds q)) => rEqual_any p q A3 A4 p.length q.length c3 c4 W h1 h2 HLa HLb)
      unfold maxLen at HLa HLb
      clear hza hzb
      go_enter Try.func35, Try.ntmps35
      go_wp2_with fail
      refine (HV1.out).mono ?_
      rintro e w1 ⟨rfl, hb1⟩
      have HB1 := Lib.hid hb1
      clear hb1
      go_wp2_with fail
      refine (HV2.out _ HB1.out).mono ?_
      rintro e w2 ⟨rfl, hb2⟩
      have HB2 := Lib.hid (HB1.out.trans (hb2.mono HB1.out.size))
      clear hb2
      go_wp2_with fail
      refine (HC1.out _ HB2.out).mono ?_
      rintro e w3 ⟨A3, c3, rfl, hR3, hb3⟩
      have HR3 := Lib.hid hR3
      have HB3 := Lib.hid (HB2.out.trans (hb3.mono HB2.out.size))
      clear hR3 hb3
      go_wp2_with fail
      refine (HC2.out _ HB3.out).mono ?_
      rintro e w4 ⟨A4, c4, rfl, hR4, hb4⟩
      have HR4 := Lib.hid hR4
      have HR3b := Lib.hid ((HR3.out.below hb4).more hb4.size)
      have HB4 := Lib.hid (HB3.out.trans (hb4.mono HB3.out.size))
      clear hR4 hb4
      go_wp2_with fail
      refine (HE.out A3 A4 c3 c4 _ HR3b.out HR4.out).mono ?_
      rintro e w5 ⟨rfl, hb5⟩
      have HB5 := Lib.hid (HB4.out.trans (hb5.mono HB4.out.size))
      clear hb5
      go_wp2
      go_ret
      exact ⟨by rw [HS.out]; rfl, HB5.out⟩
    · have HS : Hid (sameF a b = false) := Lib.hid (by unfold sameF; simp [hzb])
      have hzc : (fErr b == 0) = false := by simpa using hzb
      rw [hza] at HV1
      generalize fErr b = zb at *
      clear hR hR2 hza hzb
      go_enter Try.func35, Try.ntmps35
      go_wp2_with fail
      refine (HV1.out).mono ?_
      rintro e w1 ⟨rfl, hb1⟩
      have HB1 := Lib.hid hb1
      clear hb1
      go_wp2_with fail
      refine (HV2.out _ HB1.out).mono ?_
      rintro e w2 ⟨rfl, hb2⟩
      have HB2 := Lib.hid (HB1.out.trans (hb2.mono HB1.out.size))
      clear hb2
      go_wp2
      go_ret
      exact ⟨by rw [HS.out]; rfl, HB2.out⟩
  · have HS : Hid (sameF a b = false) := Lib.hid (by unfold sameF; simp [hza])
    have hzc : (fErr a == 0) = false := by simpa using hza
    generalize fErr a = za at *
    clear hR hR2 hza
    go_enter Try.func35, Try.ntmps35
    go_wp2_with fail
    refine (HV1.out).mono ?_
    rintro e w1 ⟨rfl, hb1⟩
    have HB1 := Lib.hid hb1
    clear hb1
    go_wp2
    go_ret
    exact ⟨by rw [HS.out]; rfl, HB1.out⟩
set_option maxRecDepth 100000 in
set_option maxHeartbeats 8000000 in
theorem rCompare_any (a b : List Nd) (A A2 : Option Addr) (n m c c2 : Nat) (w : World) (hR : Reads w w.heap.size 6 A n (nds a)) (hR2 : Reads w w.heap.size 6 A2 m (nds b)) (hm : n ≤ maxLen) (hm2 : m ≤ maxLen) :
    Calls Try.prog 37 #[.slice A n c, .slice A2 m c2] w fun e w' => e = .returned (.int .i64 (cmpF a b)) ∧ Below w.heap.size w w' := by
  have HC1 := Lib.hid (rCompact_any a A n c w hR hm)
  have HC2 : Hid (∀ W, Below w.heap.size w W → Calls Try.prog 26 #[.slice A2 m c2] W fun e w' => ∃ A' c', e = .returned (.slice A' (compF b).length c') ∧ Reads w' w'.heap.size 6 A' (compF b).length (nds (compF b)) ∧ Below W.heap.size W w') :=
    Lib.hid (fun W h => rCompact_any b A2 m c2 W ((hR2.below h).more h.size) hm2)
  have HLa : (compF a).length ≤ maxLen := Nat.le_trans (compF_le a) (by rw [hR.nd_len]; exact hm)
  have HLb : (compF b).length ≤ maxLen := Nat.le_trans (compF_le b) (by rw [hR2.nd_len]; exact hm2)
  unfold cmpF
  generalize compF a = p at *
  generalize compF b = q at *
  unfold maxLen at HLa HLb
  clear hR hR2
  have start : ∀ P : Prop, P → P := fun _ h => h
  rcases Nat.lt_trichotomy p.length q.length with h | h | h
  · have HV : Hid ((if cmpI (p.length : Int) (q.length : Int) ≠ 0 then cmpI (p.length : Int) (q.length : Int) else cmpNs p q) = -1) := Lib.hid (by rw [cmpI_lt (by omega)]; rfl)
    have d1 : decide (p.length < q.length) = true := decide_eq_true h
    rw [HV.out]
    clear h start
    go_enter Try.func37, Try.ntmps37
    go_wp2_with fail
    refine (HC1.out).mono ?_
    rintro e w1 ⟨A3, c3, rfl, hR3, hb1⟩
    have HB1 := Lib.hid hb1
    clear hR3 hb1
    go_wp2_with fail
    refine (HC2.out _ HB1.out).mono ?_
    rintro e w2 ⟨A4, c4, rfl, hR4, hb2⟩
    have HB2 := Lib.hid (HB1.out.trans (hb2.mono HB1.out.size))
    clear hR4 hb2
    go_wp2
    go_ret
    exact ⟨rfl, HB2.out⟩
  · have HV : Hid ((if cmpI (p.length : Int) (q.length : Int) ≠ 0 then cmpI (p.length : Int) (q.length : Int) else cmpNs p q) = cmpNs p q) := Lib.hid (by rw [h, cmpI_eq]; rfl)
    rw [HV.out]
    have HL := Lib.hid h
    have HLL := Lib.hid h
    obtain ⟨r, hr⟩ : ∃ r, p.length = r := ⟨_, rfl⟩
    have hq : q.length = r := by omega
    rw [hr] at HC1
    rw [hq] at HC2
    have HP := Lib.hid hr
    have HQ := Lib.hid hq
    have hr63 : r ≤ 2 ^ 63 - 1 := by omega
    have d1 : decide (r < r) = false := decide_eq_false (by omega)
    have hfl : ∀ z : Nd, (fieldsL z).length = 6 := fun z => rfl
    have HFL := Lib.hid hfl
    clear h start hr hq HV HLa HLb hfl
    go_enter Try.func37, Try.ntmps37
    go_wp2_with fail
    refine (HC1.out).mono ?_
    rintro e w1 ⟨A3, c3, rfl, hR3, hb1⟩
    have HR3 := Lib.hid hR3
    have HB1 := Lib.hid hb1
    clear hR3 hb1
    go_wp2_with fail
    refine (HC2.out _ HB1.out).mono ?_
    rintro e w2 ⟨A4, c4, rfl, hR4, hb2⟩
    have HR4 := Lib.hid hR4
    have HR3b := Lib.hid ((HR3.out.below hb2).more hb2.size)
    have HB2 := Lib.hid (HB1.out.trans (hb2.mono HB1.out.size))
    clear hR4 hb2
    go_wp2
    go_loopw [7, 8, 9, 10] (fun i u1 u2 u3 wr => ∃ k : Nat, k ≤ r ∧ i = .int .i64 k ∧ Hid (cmpNs p q = cmpNs (p.drop k) (q.drop k)) ∧ Hid (Below w2.heap.size w2 wr)) (fun i _ _ _ _ => r - (intOf i).toNat)
    case atStart => exact ⟨0, Nat.zero_le _, rfl, Lib.hid rfl, Lib.hid (Below.refl _ _)⟩
    case round =>
      obtain ⟨k, hk, rfl, HI, HB⟩ := hrel
      by_cases hlt : k < r
      · have HA := Lib.hid (cmpNs_at p q k (by have := HP.out; omega) (by have := HQ.out; omega))
        obtain ⟨ad, rfl, hb, _⟩ := (HR3b.out.below HB.out).nd_at hlt
        obtain ⟨ad2, rfl, hb2, _⟩ := (HR4.out.below HB.out).nd_at hlt
        obtain ⟨x, hx⟩ : ∃ x, p.getD k nd0 = x := ⟨_, rfl⟩
        obtain ⟨y, hy⟩ : ∃ y, q.getD k nd0 = y := ⟨_, rfl⟩
        rw [hx, hy] at HA
        have HALL : Hid (∀ W, Hid (Below w2.heap.size w2 W) → (W.cell? (ad.add (k * 6)) = some (.int .i64 x.op) ∧ W.cell? ⟨(ad.add (k * 6)).block, (ad.add (k * 6)).off + 1, none⟩ = some (.int .i64 x.i) ∧ W.cell? ⟨(ad.add (k * 6)).block, (ad.add (k * 6)).off + 2, none⟩ = some (.int .i64 x.e) ∧ W.cell? ⟨(ad.add (k * 6)).block, (ad.add (k * 6)).off + 3, none⟩ = some (.int .i64 x.g) ∧ W.cell? ⟨(ad.add (k * 6)).block, (ad.add (k * 6)).off + 4, none⟩ = some (.int .i64 x.x) ∧ W.cell? ⟨(ad.add (k * 6)).block, (ad.add (k * 6)).off + 5, none⟩ = some (.int .i64 x.y) ∧
            W.cell? (ad2.add (k * 6)) = some (.int .i64 y.op) ∧ W.cell? ⟨(ad2.add (k * 6)).block, (ad2.add (k * 6)).off + 1, none⟩ = some (.int .i64 y.i) ∧ W.cell? ⟨(ad2.add (k * 6)).block, (ad2.add (k * 6)).off + 2, none⟩ = some (.int .i64 y.e) ∧ W.cell? ⟨(ad2.add (k * 6)).block, (ad2.add (k * 6)).off + 3, none⟩ = some (.int .i64 y.g) ∧ W.cell? ⟨(ad2.add (k * 6)).block, (ad2.add (k * 6)).off + 4, none⟩ = some (.int .i64 y.x) ∧ W.cell? ⟨(ad2.add (k * 6)).block, (ad2.add (k * 6)).off + 5, none⟩ = some (.int .i64 y.y) ∧ Hid (Below w2.heap.size w2 W))) := Lib.hid (fun W hW => by
          obtain ⟨ad', e1, _, m0, m1, m2, m3, m4, m5⟩ := (HR3b.out.below hW.out).nd_at hlt
          obtain ⟨ad2', e2, _, q0, q1, q2, q3, q4, q5⟩ := (HR4.out.below hW.out).nd_at hlt
          injection e1 with e1
          injection e2 with e2
          subst e1; subst e2
          rw [hx] at m0 m1 m2 m3 m4 m5
          rw [hy] at q0 q1 q2 q3 q4 q5
          exact ⟨m0, add_cell (j := 0) m1, add_cell (j := 1) m2, add_cell (j := 2) m3, add_cell (j := 3) m4, add_cell (j := 4) m5, q0, add_cell (j := 0) q1, add_cell (j := 1) q2, add_cell (j := 2) q3, add_cell (j := 3) q4, add_cell (j := 4) q5, hW⟩)
        have KF : Hid (∀ (z : Nd) (W : World), Hid (Below w2.heap.size w2 W) → Calls Try.prog 69 #[.agg #[.int .i64 z.op, .int .i64 z.i, .int .i64 z.e, .int .i64 z.g, .int .i64 z.x, .int .i64 z.y]] W fun e w' => ∃ g, e = .returned (.slice (some ⟨g, 0, none⟩) 6 6) ∧ Hid (Reads w' w'.heap.size 1 (some ⟨g, 0, none⟩) 6 (is (fieldsL z)) ∧ Below W.heap.size W w') ∧ Hid (Below w2.heap.size w2 w')) :=
          Lib.hid (fun z W hW => (fields_any z W).mono (by
            rintro e w' ⟨g, rfl, h1, h2⟩
            exact ⟨g, rfl, Lib.hid ⟨h1, h2⟩, Lib.hid (hW.out.trans (h2.mono hW.out.size))⟩))
        have HD0 : Hid (Below w2.heap.size w2 wr.drew) := Lib.hid HB.out.drew
        obtain ⟨s0, s1, s2, s3, s4, s5, t0, t1, t2, t3, t4, t5, _⟩ := HALL.out wr HB
        clear hx hy
        have tok1 : True := trivial
        go_wp2_with fail
        go_region_held3 (fun W => (W.cell? (ad.add (k * 6)) = some (.int .i64 x.op) ∧ W.cell? ⟨(ad.add (k * 6)).block, (ad.add (k * 6)).off + 1, none⟩ = some (.int .i64 x.i) ∧ W.cell? ⟨(ad.add (k * 6)).block, (ad.add (k * 6)).off + 2, none⟩ = some (.int .i64 x.e) ∧ W.cell? ⟨(ad.add (k * 6)).block, (ad.add (k * 6)).off + 3, none⟩ = some (.int .i64 x.g) ∧ W.cell? ⟨(ad.add (k * 6)).block, (ad.add (k * 6)).off + 4, none⟩ = some (.int .i64 x.x) ∧ W.cell? ⟨(ad.add (k * 6)).block, (ad.add (k * 6)).off + 5, none⟩ = some (.int .i64 x.y) ∧
            W.cell? (ad2.add (k * 6)) = some (.int .i64 y.op) ∧ W.cell? ⟨(ad2.add (k * 6)).block, (ad2.add (k * 6)).off + 1, none⟩ = some (.int .i64 y.i) ∧ W.cell? ⟨(ad2.add (k * 6)).block, (ad2.add (k * 6)).off + 2, none⟩ = some (.int .i64 y.e) ∧ W.cell? ⟨(ad2.add (k * 6)).block, (ad2.add (k * 6)).off + 3, none⟩ = some (.int .i64 y.g) ∧ W.cell? ⟨(ad2.add (k * 6)).block, (ad2.add (k * 6)).off + 4, none⟩ = some (.int .i64 y.x) ∧ W.cell? ⟨(ad2.add (k * 6)).block, (ad2.add (k * 6)).off + 5, none⟩ = some (.int .i64 y.y) ∧ Hid (Below w2.heap.size w2 W)))
          (first | assumption | exact HALL.out _ (by assumption))
          (first
            | (have _t := tok1; go_at_call 69; refine (KF.out _ _ (by assumption)).mono ?_; rintro e W1 ⟨g1, rfl, HZ1, hBz1⟩; clear tok1 _t)
            | (go_at_call 69; refine (KF.out _ _ (by assumption)).mono ?_; rintro e W2 ⟨g2, rfl, HZ2, hBz2⟩))
        have HF1 := Lib.hid ((HZ1.out.1.below HZ2.out.2).more HZ2.out.2.size)
        have HF2 := Lib.hid HZ2.out.1
        clear s0 s1 s2 s3 s4 s5 t0 t1 t2 t3 t4 t5 HZ1 HZ2 hBz1 HD0 HALL KF
        have HN : Hid (cmpN x y = cmpL (fieldsL x) (fieldsL y)) := Lib.hid (cmpN_L x y)
        have HFx := Lib.hid (HFL.out x)
        have HFy := Lib.hid (HFL.out y)
        generalize fieldsL x = fx at *
        generalize fieldsL y = fy at *
        go_wp2
        go_loopw [10] (fun i wq => ∃ j : Nat, j ≤ 6 ∧ i = .int .i64 j ∧ Hid (cmpL fx fy = cmpL (fx.drop j) (fy.drop j)) ∧ Hid (Below W2.heap.size W2 wq)) (fun i _ => 6 - (intOf i).toNat)
        case atStart => exact ⟨0, Nat.zero_le _, rfl, Lib.hid rfl, Lib.hid (Below.refl _ _)⟩
        case round =>
          obtain ⟨j, hj, rfl, HJ, HBJ⟩ := hrel
          by_cases hjlt : j < 6
          · obtain ⟨a1, ha1, _, hc1⟩ := (HF1.out.below HBJ.out).is_at hjlt
            obtain ⟨a2, ha2, _, hc2⟩ := (HF2.out.below HBJ.out).is_at hjlt
            injection ha1 with ha1
            injection ha2 with ha2
            subst ha1; subst ha2
            rw [addr_zero] at hc1 hc2
            have HAT := Lib.hid (cmpL_at fx fy j (by have := HFx.out; omega) (by have := HFy.out; omega))
            have HBE := Lib.hid (fun nq => below_drewN HBJ.out nq)
            generalize fx.getD j 0 = u at *
            generalize fy.getD j 0 = v at *
            rcases Int.lt_trichotomy u v with h | h | h
            · have d1 : decide (u < v) = true := decide_eq_true h
              have HE : Hid (cmpNs p q = -1) := Lib.hid (by
                have e1 : cmpL fx fy = -1 := by rw [HJ.out, HAT.out, cmpI_lt h]; rfl
                rw [HI.out, HA.out, HN.out, e1]; rfl)
              clear HI HA HN HJ HAT h
              go_wp2
              go_quiet (fail)
              go_wp2
              go_ret
              exact ⟨ret_i64 HE.out.symm, HB2.out.trans ((hBz2.out.trans ((HBE.out _).mono hBz2.out.size)).mono HB2.out.size)⟩
            · subst h
              have d1 : decide (u < u) = false := decide_eq_false (by omega)
              have HJ2 : Hid (cmpL fx fy = cmpL (fx.drop (j + 1)) (fy.drop (j + 1))) := Lib.hid (by rw [HJ.out, HAT.out, cmpI_eq]; rfl)
              clear HJ HAT
              go_wp2
              go_quiet (fail)
              go_wp2
              go_quiet (fail)
              go_wp2
              go_roundw
              case rel => exact ⟨j + 1, by omega, by go_num, HJ2, Lib.hid (below_drewN HBJ.out _)⟩
              case measure => simp [intOf]; omega
            · have d1 : decide (u < v) = false := decide_eq_false (by omega)
              have d2 : decide (v < u) = true := decide_eq_true h
              have HE : Hid (cmpNs p q = 1) := Lib.hid (by
                have e1 : cmpL fx fy = 1 := by rw [HJ.out, HAT.out, cmpI_gt h]; rfl
                rw [HI.out, HA.out, HN.out, e1]; rfl)
              clear HI HA HN HJ HAT h
              go_wp2
              go_quiet (fail)
              go_wp2
              go_quiet (fail)
              go_wp2
              go_ret
              exact ⟨ret_i64 HE.out.symm, HB2.out.trans ((hBz2.out.trans ((below_drewN (HBE.out _) _).mono hBz2.out.size)).mono HB2.out.size)⟩
          · have hj6 : j = 6 := by omega
            subst hj6
            have HI2 : Hid (cmpNs p q = cmpNs (p.drop (k + 1)) (q.drop (k + 1))) := Lib.hid (by
              have e1 : cmpL fx fy = 0 := HJ.out.trans (cmpL_end fx fy 6 (by have := HFx.out; omega))
              rw [HI.out, HA.out, HN.out, e1]; rfl)
            have HB3 := Lib.hid (hBz2.out.trans (HBJ.out.mono hBz2.out.size))
            clear HI HA HN HJ
            go_wp2
            go_roundw
            case rel => exact ⟨k + 1, by omega, by go_num, HI2, HB3⟩
            case measure => simp [intOf]; omega
      · have HI2 : Hid (cmpNs p q = 0) := Lib.hid (HI.out.trans (cmpNs_end p q k (by have := HP.out; omega)))
        clear HI
        go_wp2
        go_ret
        exact ⟨ret_i64 HI2.out.symm, HB2.out.trans (HB.out.mono HB2.out.size)⟩
  · have HV : Hid ((if cmpI (p.length : Int) (q.length : Int) ≠ 0 then cmpI (p.length : Int) (q.length : Int) else cmpNs p q) = 1) := Lib.hid (by rw [cmpI_gt (by omega)]; rfl)
    have d1 : decide (p.length < q.length) = false := decide_eq_false (by omega)
    have d2 : decide (q.length < p.length) = true := decide_eq_true h
    rw [HV.out]
    clear h start
    go_enter Try.func37, Try.ntmps37
    go_wp2_with fail
    refine (HC1.out).mono ?_
    rintro e w1 ⟨A3, c3, rfl, hR3, hb1⟩
    have HB1 := Lib.hid hb1
    clear hR3 hb1
    go_wp2_with fail
    refine (HC2.out _ HB1.out).mono ?_
    rintro e w2 ⟨A4, c4, rfl, hR4, hb2⟩
    have HB2 := Lib.hid (HB1.out.trans (hb2.mono HB1.out.size))
    clear hR4 hb2
    go_wp2
    go_ret
    exact ⟨rfl, HB2.out⟩
end Go.Proofs.Ytcbmncafmofcpaa
