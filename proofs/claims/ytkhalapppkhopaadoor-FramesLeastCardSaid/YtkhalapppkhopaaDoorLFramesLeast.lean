/- Layer 15: FramesLeast: closing gives the least model of the logic. -/
import Derived.Test.YtkhalapppkhopaaDoorNGp
import Derived.Test.YtkhalapppkhopaaDoorNGq
namespace Go.Proofs.YtkhalapppkhopaaDoor.framesLeast
open Go.ChangeShapes Go.WideShapes Go.ChangeAt Go.RowKit Go.Proofs.YtkhalapppkhopaaDoor Go.Proofs.YtkhalapppkhopaaDoor.fra Go.Proofs.Ws
open Go.ChangeMaps (open_string shut_string)
/-- how far the first worlds of a relation lie inside another one -/
noncomputable def insB (lst : Bool) (R r : List Nat) (k : Nat) : Bool := qB ((0 < k → lst = true) ∧ ∀ t, t < k → andN (R.getD t 0) (r.getD t 0) = 0)
theorem ins_zero (lst : Bool) (R r : List Nat) : insB lst R r 0 = true := (qB_iff _).2 ⟨fun h => absurd h (by omega), fun t ht => absurd ht (by omega)⟩
theorem ins_no (lst : Bool) (R r : List Nat) (k : Nat) (h : insB lst R r k = false) : insB lst R r (k + 1) = false := qB_false fun h2 => by
  have : insB lst R r k = true := (qB_iff _).2 ⟨fun _ => h2.1 (by omega), fun t ht => h2.2 t (by omega)⟩
  rw [h] at this
  cases this
theorem ins_not (R r : List Nat) (k : Nat) : insB false R r (k + 1) = false := qB_false fun h2 => by
  have := h2.1 (by omega)
  cases this
theorem ins_step (R r : List Nat) (k : Nat) (h : insB true R r k = true) : insB true R r (k + 1) = decide (andN (R.getD k 0) (r.getD k 0) = 0) := by
  have h1 := (qB_iff _).1 h
  unfold insB
  rw [Bool.eq_iff_iff, qB_iff, decide_eq_true_eq]
  constructor
  · intro h2; exact h2.2 k (by omega)
  · intro h2
    refine ⟨fun _ => rfl, fun t ht => ?_⟩
    by_cases e : t = k
    · rw [e]; exact h2
    · exact h1.2 t (by omega)
theorem andN_zero {x y : Nat} (hx : x < 18446744073709551616) (hy : y < 18446744073709551616) : andN x y = 0 ↔ ∀ v, x.testBit v = true → y.testBit v = true := sub_iff x y hx hy
theorem le_rows {n : Nat} {R r : List Nat} (hR : Sh n R) (hr : Sh n r) (hn : n ≤ 64) : (∀ t, t < n → andN (R.getD t 0) (r.getD t 0) = 0) ↔ Le R r := by
  have hw : ∀ {l : List Nat}, Sh n l → ∀ t, l.getD t 0 < 18446744073709551616 := fun {l} h t => by
    by_cases ht : t < l.length
    · exact Nat.lt_of_lt_of_le (h.2 _ (getD_mem ht)) (pow_le64 hn)
    · rw [List.getD_eq_getElem?_getD, List.getElem?_eq_none (by omega)]; decide
  constructor
  · intro h w v hb
    exact (andN_zero (hw hR w) (hw hr w)).1 (h w (bit_in hR hb).1) v hb
  · intro h t ht
    exact (andN_zero (hw hR t) (hw hr t)).2 (fun v hv => h t v hv)
theorem word64 {n : Nat} {l : List Nat} (h : Sh n l) (hn : n ≤ 64) (t : Nat) : l.getD t 0 < 18446744073709551616 := by
  by_cases ht : t < l.length
  · exact Nat.lt_of_lt_of_le (h.2 _ (getD_mem ht)) (pow_le64 hn)
  · rw [List.getD_eq_getElem?_getD, List.getElem?_eq_none (by omega)]; decide
theorem closM_sh {m c : Mo} {g : Int} (_h : ClosM m g c) (hg : ckE m g = 0) {k : Nat} (hk : k < m.rel.length) : Sh m.n.toNat (m.rel.getD k []) := by
  have hm : chkM m = 0 := by
    unfold ckE at hg
    by_cases k : chkM m = 0
    · exact k
    · rw [if_neg k] at hg; exact absurd hg k
  have hok := chkM_ok hm
  have hmem : m.rel.getD k [] ∈ m.rel := getD_mem' hk
  exact ⟨hok.len _ hmem, hok.rel _ hmem⟩
theorem closM_len {m c : Mo} {g : Int} (h : ClosM m g c) (hg : ckE m g = 0) {k : Nat} (hk : k < m.rel.length) : (m.rel.getD k []).length = m.n.toNat := (closM_sh h hg hk).1
/-- a relation in memory, word by word -/
theorem us_at {W : World} {n : Nat} {A : Option Addr} {l : List Nat} (h : Reads W W.heap.size 1 A n (us l)) (hn : 0 < n) : ∃ a, A = some a ∧ a.block < W.heap.size ∧ ∀ t, t < n → W.cell? (a.add t) = some (.int .u64 ((l.getD t 0 : Nat) : Int)) := by
  obtain ⟨a, hA, hb, _⟩ := h.word_k hn
  refine ⟨a, hA, hb, fun t ht => ?_⟩
  obtain ⟨a2, hA2, _, hc⟩ := h.word_k ht
  rw [hA] at hA2
  injection hA2 with hA2
  subst hA2
  exact hc
set_option maxRecDepth 100000
set_option maxHeartbeats 16000000 in
theorem walk (m : Mo) (v : Value) (l : List Nat) (A : Option Addr) (n c : Nat) (g : Int) (w : World) (hM : MoR w w.heap.size v m) (hR : Reads w w.heap.size 1 A n (us l)) (hw : Words l) (hm : n ≤ maxLen) (hT : Tab w) :
    Calls Tryd.prog 7 #[v, .slice A n c, .int .i64 g] w fun e w' => e = .returned (.bool true) ∧ Below w.heap.size w w' := by
  have hl := hR.word_len
  obtain ⟨A1, c1, A2, c2, rfl, hv, hr⟩ := hM.ex
  have HMW := Lib.hid (fun W (hb : Below w.heap.size w W) => hM.below hb hb.size)
  have HTW := Lib.hid (fun W (hb : Below w.heap.size w W) => hT.below hb)
  have HRW := Lib.hid (fun W (hb : Below w.heap.size w W) => (hR.below hb).more hb.size)
  have HLW := Lib.hid hw
  have HLM := Lib.hid hm
  have HLN := Lib.hid hl
  have HV := Lib.hid hv
  have HRR := Lib.hid hr
  have HWV := Lib.hid hM.wval
  have HWR := Lib.hid hM.wrel
  have HLIM := Lib.hid hM.lim
  have HAW : Hid (∀ W, Below w.heap.size w W → Calls Tryd.prog 11 #[] W fun e w' => e = .returned (.bool true) ∧ Below W.heap.size W w') := Lib.hid (fun W hb => awake_any W (hT.below hb))
  have HFW : Hid (∀ W, Below w.heap.size w W → Calls Tryd.prog 10 #[.agg #[.int .i64 m.n, .slice A1 m.val.length c1, .slice A2 m.rel.length c2], .int .i64 10] W fun e w' => e = .returned (.bool (fewK m 10)) ∧ Below W.heap.size W w') := Lib.hid (fun W hb => rFewK_any m _ 10 W (HMW.out W hb))
  have HGW : Hid (∀ W, Below w.heap.size w W → Calls Tryd.prog 20 #[.slice A n c, .int .i64 g] W fun e w' => e = .returned (.bool (qB (HasG l g))) ∧ Below W.heap.size W w') := Lib.hid (fun W hb => pHas_any l A n c g W (HRW.out W hb) HLW.out HLM.out (HTW.out W hb))
  have HIW : Hid (∀ W, Below w.heap.size w W → Calls Tryd.prog 25 #[.agg #[.int .i64 m.n, .slice A1 m.val.length c1, .slice A2 m.rel.length c2], .int .i64 g] W fun e w' => e = .returned (.bool (qB (InG m g))) ∧ Below W.heap.size W w') := Lib.hid (fun W hb => pIn_any m _ g W (HMW.out W hb) (HTW.out W hb))
  have HCW := Lib.hid (fun W (hb : Below w.heap.size w W) => pClose_any m _ g W (HMW.out W hb) (HTW.out W hb))
  have HB0 := Lib.hid ((Below.refl w.heap.size w).alloc (Nat.le_refl _) (.cells #[.int .i64 m.n, .slice A1 m.val.length c1, .slice A2 m.rel.length c2] 25))
  have KB0 := Lib.hid (MBox.made w m.n (.slice A1 m.val.length c1) (.slice A2 m.rel.length c2))
  clear hM hv hr hT hR hw hm hl
  go_enter Tryd.func7, Tryd.ntmps7
  by_cases hf : fewK m 10 = true
  case neg =>
    have hf2 : fewK m 10 = false := by simpa using hf
    rw [hf2] at HFW
    clear hf hf2
    go_wp2_with fail
    refine (HFW.out _ HB0.out).mono ?_
    rintro e w3 ⟨rfl, hb⟩
    have HB3 := Lib.hid (HB0.out.trans (hb.mono HB0.out.size))
    clear hb
    go_wp2_with fail
    refine (HAW.out _ HB3.out).mono ?_
    rintro e w9 ⟨rfl, hb⟩
    have HB9 := Lib.hid (HB3.out.trans (hb.mono HB3.out.size))
    clear hb
    go_wp2
    go_ret
    exact ⟨rfl, HB9.out⟩
  rw [hf] at HFW
  clear hf
  go_wp2_with fail
  refine (HFW.out _ HB0.out).mono ?_
  rintro e w1 ⟨rfl, hb⟩
  have HB1 := Lib.hid (HB0.out.trans (hb.mono HB0.out.size))
  have KB1 := Lib.hid (KB0.out.below hb KB0.out.lt)
  clear hb HFW
  have b0 := KB1.out.c0
  have b1 := KB1.out.c1
  have b2 := KB1.out.c2
  go_wp2_with fail
  refine (HCW.out _ HB1.out).mono ?_
  rintro e w2 ⟨va, a, rfl, hma, hca, hb⟩
  have HB2 := Lib.hid (HB1.out.trans (hb.mono HB1.out.size))
  have KB2 := Lib.hid (KB1.out.below hb KB1.out.lt)
  clear b0 b1 b2
  obtain ⟨A3, c3, A4, c4, rfl, hv2, hr2⟩ := hma.self.ex
  have HMA := Lib.hid (fun W (hb : Below w2.heap.size w2 W) => (hma.below hb).self)
  have HRA := Lib.hid hr2
  have HVA := Lib.hid hv2
  have HCA := Lib.hid hca
  clear hb hma hca hv2 hr2
  have HB3 := Lib.hid (HB2.out.alloc HB2.out.size (.cells #[.int .i64 a.n, .slice A3 a.val.length c3, .slice A4 a.rel.length c4] 25))
  have HA3 := Lib.hid ((Below.refl w2.heap.size w2).alloc (Nat.le_refl _) (.cells #[.int .i64 a.n, .slice A3 a.val.length c3, .slice A4 a.rel.length c4] 25))
  have KA3 := Lib.hid (MBox.made w2 a.n (.slice A3 a.val.length c3) (.slice A4 a.rel.length c4))
  have KB3 := Lib.hid (KB2.out.below HA3.out KB2.out.lt)
  by_cases hz : ckE m g = 0
  case neg =>
    have hz1 : (ckE m g != 0) = true := by rw [bne_iff_ne]; exact hz
    clear hz
    generalize ckE m g = er at *
    go_wp2_with fail
    refine (HAW.out _ HB3.out).mono ?_
    rintro e w9 ⟨rfl, hb⟩
    have HB9 := Lib.hid (HB3.out.trans (hb.mono HB3.out.size))
    clear hb
    go_wp2
    go_ret
    exact ⟨rfl, HB9.out⟩
  have HCK := Lib.hid (pClose_any a _ g _ (HMA.out _ HA3.out) (HTW.out _ HB3.out))
  have hok := HCA.out.ok hz
  rw [hok.2.1] at HCK
  have HOK := Lib.hid hok
  have HZ := Lib.hid hz
  rw [hz]
  clear hz hok
  go_wp2_with fail
  refine (HCK.out).mono ?_
  rintro e w4 ⟨vb, b, rfl, hmb, hcb, hb⟩
  have HB4 := Lib.hid (HB3.out.trans (hb.mono HB3.out.size))
  have HA4 := Lib.hid (HA3.out.trans (hb.mono HA3.out.size))
  have KB4 := Lib.hid (KB3.out.below hb KB3.out.lt)
  have KA4 := Lib.hid (KA3.out.below hb KA3.out.lt)
  obtain rfl : a = b := HCA.out.again HZ.out hcb
  obtain ⟨A5, c5, A6, c6, rfl, hv3, hr3⟩ := hmb.self.ex
  have HMB := Lib.hid (fun W (hb : Below w4.heap.size w4 W) => (hmb.below hb).self)
  clear hb hmb hcb hv3 hr3 HCK
  have HB5 := Lib.hid (HB4.out.alloc HB4.out.size (.cells #[.int .i64 a.n, .slice A5 a.val.length c5, .slice A6 a.rel.length c6] 25))
  have HC5 := Lib.hid ((Below.refl w4.heap.size w4).alloc (Nat.le_refl _) (.cells #[.int .i64 a.n, .slice A5 a.val.length c5, .slice A6 a.rel.length c6] 25))
  have KA5 := Lib.hid (KA4.out.below HC5.out KA4.out.lt)
  have KB5 := Lib.hid (KB4.out.below HC5.out KB4.out.lt)
  have KC5 := Lib.hid (MBox.made w4 a.n (.slice A5 a.val.length c5) (.slice A6 a.rel.length c6))
  have HA5 := Lib.hid (HA4.out.trans (HC5.out.mono HA4.out.size))
  have hrel := HCA.out.rel HZ.out
  have dN : (a.n != m.n) = false := by rw [hrel.1]; simp
  have dL : ((a.rel.length : Int) != (m.rel.length : Int)) = false := by rw [hrel.2.2.1]; simp
  have HCL := Lib.hid hrel.2.2.2
  have HIA : Hid (∀ W, Below w2.heap.size w2 W → Below w.heap.size w W → Calls Tryd.prog 25 #[.agg #[.int .i64 a.n, .slice A3 a.val.length c3, .slice A4 a.rel.length c4], .int .i64 g] W fun e w' => e = .returned (.bool true) ∧ Below W.heap.size W w') := Lib.hid (fun W h1 h2 => by
    have h := pIn_any a _ g W (HMA.out W h1) (HTW.out W h2)
    rwa [(qB_iff _).2 (HCA.out.in_ HZ.out)] at h)
  have HSB : Hid (∀ W, Below w2.heap.size w2 W → Below w4.heap.size w4 W → Calls Tryd.prog 14 #[.agg #[.int .i64 a.n, .slice A3 a.val.length c3, .slice A4 a.rel.length c4], .agg #[.int .i64 a.n, .slice A5 a.val.length c5, .slice A6 a.rel.length c6]] W fun e w' => e = .returned (.bool true) ∧ Below W.heap.size W w') := Lib.hid (fun W h1 h2 => by
    have h := rSame_any a a _ _ W (HMA.out W h1) (HMB.out W h2)
    rwa [decide_eq_true rfl] at h)
  have HSV : Hid (∀ W, Below w2.heap.size w2 W → Below w.heap.size w W → Calls Tryd.prog 26 #[.slice A3 a.val.length c3, .slice A1 m.val.length c1] W fun e w' => e = .returned (.bool true) ∧ Below W.heap.size W w') := Lib.hid (fun W h1 h2 => by
    have hl := HLIM.out.1
    have h := same_any a.val m.val A3 A1 a.val.length m.val.length c3 c1 W.heap.size W ((HVA.out.below h1).more h1.size) ((HV.out.below h2).more h2.size) (by rw [hrel.2.1]; exact hl) hl
    rw [decide_eq_true hrel.2.1] at h
    exact h.mono fun e w' h => ⟨h.1, by obtain ⟨_, q, rfl⟩ := h; exact below_drewN (Below.refl _ _) q⟩)
  have HSM : Hid (∀ W, Below w2.heap.size w2 W → Below w.heap.size w W → qB (InG m g) = true → Calls Tryd.prog 14 #[.agg #[.int .i64 a.n, .slice A3 a.val.length c3, .slice A4 a.rel.length c4], .agg #[.int .i64 m.n, .slice A1 m.val.length c1, .slice A2 m.rel.length c2]] W fun e w' => e = .returned (.bool true) ∧ Below W.heap.size W w') := Lib.hid (fun W h1 h2 h3 => by
    have h := rSame_any a m _ _ W (HMA.out W h1) (HMW.out W h2)
    rwa [decide_eq_true (HCA.out.same HZ.out ((qB_iff _).1 h3))] at h)
  have HNUM : Hid (m.n = (m.n.toNat : Int) ∧ 1 ≤ m.n.toNat ∧ m.n.toNat ≤ 64 ∧ a.rel.length = m.rel.length ∧ m.rel.length ≤ 4 ∧ proE g = 0 ∧ a.n = m.n) := Lib.hid (by
    have h := HOK.out.1
    have h2 := h.num
    rw [hrel.1] at h2
    exact ⟨h2, h.pos, h.le, hrel.2.2.1, by rw [← hrel.2.2.1]; exact h.agents, HOK.out.2.2, hrel.1⟩)
  clear hrel
  go_upto_region 7 with fail
  generalize w4.alloc (.cells #[.int .i64 a.n, .slice A5 a.val.length c5, .slice A6 a.rel.length c6] 25) = w5 at *
  have b0 := KA5.out.c0
  have b1 := KA5.out.c1
  have b2 := KA5.out.c2
  have e0 := KC5.out.c0
  have e1 := KC5.out.c1
  have e2 := KC5.out.c2
  have d0 := KB5.out.c0
  have d1 := KB5.out.c1
  have d2 := KB5.out.c2
  go_wp2_with fail
  refine (HIA.out _ HA5.out HB5.out).mono ?_
  rintro e w6 ⟨rfl, hb⟩
  have HB6 := Lib.hid (HB5.out.trans (hb.mono HB5.out.size))
  have HA6 := Lib.hid (HA5.out.trans (hb.mono HA5.out.size))
  have HC6 := Lib.hid (HC5.out.trans (hb.mono HC5.out.size))
  have KA6 := Lib.hid (KA5.out.below hb KA5.out.lt)
  have KB6 := Lib.hid (KB5.out.below hb KB5.out.lt)
  have KC6 := Lib.hid (KC5.out.below hb KC5.out.lt)
  clear hb b0 b1 b2 e0 e1 e2 d0 d1 d2
  have b0 := KA6.out.c0
  have b1 := KA6.out.c1
  have b2 := KA6.out.c2
  have e0 := KC6.out.c0
  have e1 := KC6.out.c1
  have e2 := KC6.out.c2
  go_wp2_with fail
  refine (HSB.out _ HA6.out HC6.out).mono ?_
  rintro e w7 ⟨rfl, hb⟩
  have HB7 := Lib.hid (HB6.out.trans (hb.mono HB6.out.size))
  have HA7 := Lib.hid (HA6.out.trans (hb.mono HA6.out.size))
  have KA7 := Lib.hid (KA6.out.below hb KA6.out.lt)
  have KB7 := Lib.hid (KB6.out.below hb KB6.out.lt)
  clear hb b0 b1 b2 e0 e1 e2
  have b0 := KA7.out.c0
  have b1 := KA7.out.c1
  have b2 := KA7.out.c2
  have d0 := KB7.out.c0
  have d1 := KB7.out.c1
  have d2 := KB7.out.c2
  go_wp2_with fail
  refine (HSV.out _ HA7.out HB7.out).mono ?_
  rintro e w8 ⟨rfl, hb⟩
  have HB8 := Lib.hid (HB7.out.trans (hb.mono HB7.out.size))
  have HA8 := Lib.hid (HA7.out.trans (hb.mono HA7.out.size))
  have KA8 := Lib.hid (KA7.out.below hb KA7.out.lt)
  have KB8 := Lib.hid (KB7.out.below hb KB7.out.lt)
  clear hb b0 b1 b2 d0 d1 d2 dN dL HSB HSV HIA
  go_upto_region 9 with fail
  go_cut [81] from 73 to 81 (fun v81 wx => v81 = .bool false ∧ Hid (Below w8.heap.size w8 wx))
  case first =>
    have d0 := KB8.out.c0
    have d1 := KB8.out.c1
    have d2 := KB8.out.c2
    go_wp2_with fail
    refine (HIW.out _ HB8.out).mono ?_
    rintro e w9 ⟨rfl, hb⟩
    have HB9 := Lib.hid (HB8.out.trans (hb.mono HB8.out.size))
    have HA9 := Lib.hid (HA8.out.trans (hb.mono HA8.out.size))
    have HX9 := Lib.hid hb
    have KA9 := Lib.hid (KA8.out.below hb KA8.out.lt)
    have KB9 := Lib.hid (KB8.out.below hb KB8.out.lt)
    clear hb d0 d1 d2
    cases hq : qB (InG m g) with
    | false =>
      go_wp2_with fail
      go_meet
      case rel => exact ⟨rfl, HX9⟩
    | true =>
      have HS9 := Lib.hid (HSM.out _ HA9.out HB9.out hq)
      clear hq
      have b0 := KA9.out.c0
      have b1 := KA9.out.c1
      have b2 := KA9.out.c2
      have d0 := KB9.out.c0
      have d1 := KB9.out.c1
      have d2 := KB9.out.c2
      go_wp2_with fail
      refine (HS9.out).mono ?_
      rintro e w10 ⟨rfl, hb⟩
      have HX10 := Lib.hid (HX9.out.trans (hb.mono HX9.out.size))
      clear hb b0 b1 b2 d0 d1 d2
      go_wp2_with fail
      go_meet
      case rel => exact ⟨rfl, HX10⟩
  case rest =>
    obtain ⟨rfl, HXC⟩ := hcut
    have HB9 := Lib.hid (HB8.out.trans (HXC.out.mono HB8.out.size))
    have HA9 := Lib.hid (HA8.out.trans (HXC.out.mono HA8.out.size))
    have KA9 := Lib.hid (KA8.out.below HXC.out KA8.out.lt)
    have KB9 := Lib.hid (KB8.out.below HXC.out KB8.out.lt)
    have HLST : Hid (∃ lst, lst = qB (g ≠ 1 ∧ g ≠ 5 ∧ (n : Int) = m.n ∧ HasG l g)) := Lib.hid ⟨_, rfl⟩
    obtain ⟨lst, hlst⟩ := HLST.out
    have HLS := Lib.hid hlst
    clear hlst HLST HXC
    go_upto_region 11 with fail
    go_cut [11] from 82 to 99 (fun v11 wx => v11 = .bool lst ∧ Hid (Below wc.heap.size wc wx))
    case first =>
      have d0 := KB9.out.c0
      by_cases g1 : g = 1
      · have e : lst = false := by rw [HLS.out]; exact qB_false (fun h => h.1 g1)
        have k1 : (g != 1) = false := by rw [g1]; rfl
        have HE := Lib.hid e
        clear e g1
        go_wp2_with fail
        go_meet
        case rel => exact ⟨by rw [HE.out], Lib.hid (Below.refl _ _)⟩
      · have k1 : (g != 1) = true := by rw [bne_iff_ne]; exact g1
        by_cases g5 : g = 5
        · have e : lst = false := by rw [HLS.out]; exact qB_false (fun h => h.2.1 g5)
          have k2 : (g != 5) = false := by rw [g5]; rfl
          have HE := Lib.hid e
          clear e g1 g5
          go_wp2_with fail
          go_meet
          case rel => exact ⟨by rw [HE.out], Lib.hid (Below.refl _ _)⟩
        · have k2 : (g != 5) = true := by rw [bne_iff_ne]; exact g5
          by_cases gn : (n : Int) = m.n
          · have k3 : ((n : Int) == m.n) = true := by rw [beq_iff_eq]; exact gn
            have e : lst = qB (HasG l g) := by rw [HLS.out]; exact qB_congr ⟨fun h => h.2.2.2, fun h => ⟨g1, g5, gn, h⟩⟩
            have HE := Lib.hid e
            have HGX := Lib.hid (HGW.out _ HB9.out)
            clear e g1 g5 gn
            generalize qB (HasG l g) = hb at *
            go_wp2_with fail
            refine (HGX.out).mono ?_
            rintro e w10 ⟨rfl, hb⟩
            have HX10 := Lib.hid hb
            clear hb
            go_wp2_with fail
            go_meet
            case rel => exact ⟨by rw [HE.out], HX10⟩
          · have k3 : ((n : Int) == m.n) = false := by rw [beq_eq_false_iff_ne]; exact gn
            have e : lst = false := by rw [HLS.out]; exact qB_false (fun h => gn h.2.2.1)
            have HE := Lib.hid e
            clear e g1 g5 gn
            go_wp2_with fail
            go_meet
            case rel => exact ⟨by rw [HE.out], Lib.hid (Below.refl _ _)⟩
    case rest =>
      obtain ⟨rfl, HXC⟩ := hcut
      have HB10 := Lib.hid (HB9.out.trans (HXC.out.mono HB9.out.size))
      have HA10 := Lib.hid (HA9.out.trans (HXC.out.mono HA9.out.size))
      have KA10 := Lib.hid (KA9.out.below HXC.out KA9.out.lt)
      have KB10 := Lib.hid (KB9.out.below HXC.out KB9.out.lt)
      have HASL : Hid (lst = true → n = m.n.toNat ∧ Sh m.n.toNat l ∧ ∀ R C, ClosR m.n.toNat g R C → Le R l → Le C l) := Lib.hid (fun h => by
        rw [HLS.out] at h
        obtain ⟨g1, g5, gn, hg⟩ := (qB_iff _).1 h
        have hn1 := HNUM.out.1
        have hnq : n = m.n.toNat := by omega
        have hln := HLN.out
        have hsh : Sh m.n.toNat l := by rw [← hnq, ← hln]; exact ⟨rfl, relErr_rows hg.2.1⟩
        refine ⟨hnq, hsh, fun R C hRC hle => closR_least hRC ⟨g1, g5⟩ hsh (fun p hp => ?_) hle⟩
        have h9 := (hg.2.2 p hp).2
        rwa [hln, hnq] at h9)
      clear HLS HXC
      have hgl := HNUM.out
      obtain ⟨q, hq⟩ : ∃ q, m.n.toNat = q := ⟨_, rfl⟩
      have hnq : m.n = (q : Int) := by rw [← hq]; exact hgl.1
      have hq1 : 1 ≤ q := by rw [← hq]; exact hgl.2.1
      have hq64 : q ≤ 64 := by rw [← hq]; exact hgl.2.2.1
      have hr4 := hgl.2.2.2.2.1
      have HRL := Lib.hid hgl.2.2.2.1
      have HMR : Hid (∀ k, k < m.rel.length → ∃ ad aj cj, A2 = some ad ∧ ad.block < w.heap.size ∧ aj.block < w.heap.size ∧ w.cell? (ad.add k) = some (.slice (some aj) q cj) ∧ ∀ t, t < q → w.cell? (aj.add t) = some (.int .u64 (((m.rel.getD k []).getD t 0 : Nat) : Int))) := Lib.hid (fun k hk => by
        obtain ⟨ad, Aj, cj, hA, hbl, hcc, hrj, hlj⟩ := HRR.out.at_ hk
        have hlen : (m.rel.getD k []).length = q := by
          rw [← hq]
          exact closM_len HCA.out HZ.out hk
        rw [hlen] at hcc hrj
        obtain ⟨aj, rfl, hb2, h3⟩ := us_at hrj (by omega)
        exact ⟨ad, aj, cj, hA, hbl, hb2, hcc, h3⟩)
      have HAR : Hid (∀ k, k < m.rel.length → ∃ ad aj cj, A4 = some ad ∧ ad.block < w2.heap.size ∧ aj.block < w2.heap.size ∧ w2.cell? (ad.add k) = some (.slice (some aj) q cj) ∧ ∀ t, t < q → w2.cell? (aj.add t) = some (.int .u64 (((a.rel.getD k []).getD t 0 : Nat) : Int))) := Lib.hid (fun k hk => by
        obtain ⟨ad, Aj, cj, hA, hbl, hcc, hrj, hlj⟩ := HRA.out.at_ (k := k) (by rw [HRL.out]; exact hk)
        have hlen : (a.rel.getD k []).length = q := by rw [← hq]; exact (HCL.out k hk).sh.1
        rw [hlen] at hcc hrj
        obtain ⟨aj, rfl, hb2, h3⟩ := us_at hrj (by omega)
        exact ⟨ad, aj, cj, hA, hbl, hb2, hcc, h3⟩)
      have HLR : Hid (n = q → ∃ ar, A = some ar ∧ ar.block < w.heap.size ∧ ∀ t, t < q → w.cell? (ar.add t) = some (.int .u64 ((l.getD t 0 : Nat) : Int))) := Lib.hid (fun hn => by
        have h := HRW.out w (Below.refl _ _)
        rw [hn] at h
        exact us_at h (by omega))
      rw [hq] at HASL HCL
      rw [hgl.2.2.2.2.2.2, hnq] at KA10
      rw [hnq] at KB10
      have HSR : Hid (∀ k, k < m.rel.length → Sh q (m.rel.getD k [])) := Lib.hid (fun k hk => by rw [← hq]; exact closM_sh HCA.out HZ.out hk)
      rw [HRL.out] at KA10
      clear hgl hq hnq HRL HNUM HLN HRW HMW HCA HZ HOK HRR HRA HV HVA HMA HMB HIW HGW HSM HLW HLM HLIM HWV HWR HTW
      generalize hnr : m.rel.length = nr at *
      clear hnr
      go_wp2
      go_loopw [12, 13, 14, 15] (fun i _ _ _ wr => ∃ k : Nat, k ≤ nr ∧ i = .int .i64 (k : Int) ∧ Hid (Below wc.heap.size wc wr)) (fun i _ _ _ _ => nr - (intOf i).toNat)
      case atStart => exact ⟨0, Nat.zero_le _, rfl, Lib.hid (Below.refl _ _)⟩
      case round =>
        obtain ⟨k, hk, rfl, HBk⟩ := hrel
        have HKB := Lib.hid (fun W (hb : Below wc.heap.size wc W) => KB10.out.below hb KB10.out.lt)
        have HKA := Lib.hid (fun W (hb : Below wc.heap.size wc W) => KA10.out.below hb KA10.out.lt)
        have d2 := (HKB.out _ HBk.out).c2
        by_cases hlt : k < nr
        · obtain ⟨ad, aj, cj, rfl, hadb, hajb, hcad, hcaj⟩ := HMR.out k hlt
          obtain ⟨be, bj, ej, rfl, hbeb, hbjb, hcbe, hcbj⟩ := HAR.out k hlt
          obtain ⟨R, hR⟩ : ∃ R, m.rel.getD k [] = R := ⟨_, rfl⟩
          obtain ⟨C, hC⟩ : ∃ C, a.rel.getD k [] = C := ⟨_, rfl⟩
          have hcl := HCL.out k hlt
          have hsr := HSR.out k hlt
          rw [hR] at hcaj hcl hsr
          rw [hC] at hcbj hcl
          have HCLR := Lib.hid hcl
          have HSR1 := Lib.hid hsr
          have HM1 : Hid (∀ W, Below wc.heap.size wc W → W.cell? (ad.add k) = some (.slice (some aj) q cj) ∧ (∀ t, t < q → W.cell? (aj.add t) = some (.int .u64 ((R.getD t 0 : Nat) : Int))) ∧ W.cell? (be.add k) = some (.slice (some bj) q ej) ∧ (∀ t, t < q → W.cell? (bj.add t) = some (.int .u64 ((C.getD t 0 : Nat) : Int)))) := Lib.hid (fun W hb =>
            have h1 := HB10.out.trans (hb.mono HB10.out.size)
            have h2 := HA10.out.trans (hb.mono HA10.out.size)
            ⟨(h1.cell (p := ad.add k) (by rw [block_of_add]; exact hadb)).trans hcad, fun t ht => (h1.cell (p := aj.add t) (by rw [block_of_add]; exact hajb)).trans (hcaj t ht), (h2.cell (p := be.add k) (by rw [block_of_add]; exact hbeb)).trans hcbe, fun t ht => (h2.cell (p := bj.add t) (by rw [block_of_add]; exact hbjb)).trans (hcbj t ht)⟩)
          have HR64 : Hid (∀ t, R.getD t 0 < 18446744073709551616) := Lib.hid (fun t => word64 hsr hq64 t)
          have HC64 : Hid (∀ t, C.getD t 0 < 18446744073709551616) := Lib.hid (fun t => word64 hcl.sh hq64 t)
          have HUP : Hid (∀ t, t < q → andN (R.getD t 0) (C.getD t 0) = 0) := Lib.hid ((le_rows hsr hcl.sh hq64).2 (closR_up hcl))
          clear hadb hajb hcad hcaj hbeb hbjb hcbe hcbj hcl hsr hR hC
          go_wp2
          clear d2
          have hiz := ins_zero lst R l
          rename World => wo
          go_loopw [13, 14] (fun v13 v14 wi => ∃ t : Nat, t ≤ q ∧ v14 = .int .i64 (t : Int) ∧ v13 = .bool (insB lst R l t) ∧ Hid (Below wc.heap.size wc wi)) (fun _ v14 _ => q - (intOf v14).toNat)
          case atStart => exact ⟨0, Nat.zero_le _, rfl, by rw [hiz], HBk⟩
          clear hiz
          case round =>
            obtain ⟨t, ht, rfl, rfl, HBt⟩ := hrel
            have d0 := (HKB.out _ HBt.out).c0
            have d2 := (HKB.out _ HBt.out).c2
            have b2 := (HKA.out _ HBt.out).c2
            by_cases htq : t < q
            · obtain ⟨m1, m2, m3, m4⟩ := HM1.out _ HBt.out
              have m2t := m2 t htq
              have m4t := m4 t htq
              have k1 : ((q : Int) != (q : Int)) = false := by simp
              have k2 : (bits .andNot .u64 ((R.getD t 0 : Nat) : Int) ((C.getD t 0 : Nat) : Int) != 0) = false := by
                rw [andN_run _ _ (HR64.out t) (HC64.out t), HUP.out t htq]; rfl
              have HK3 : Hid (l.getD t 0 < 18446744073709551616 → (bits .andNot .u64 ((R.getD t 0 : Nat) : Int) ((l.getD t 0 : Nat) : Int) == 0) = decide (andN (R.getD t 0) (l.getD t 0) = 0)) := Lib.hid (fun h => by
                rw [andN_run _ _ (HR64.out t) h, Bool.eq_iff_iff, beq_iff_eq, decide_eq_true_eq]
                omega)
              clear m2 m4
              have HINO := Lib.hid (ins_no lst R l t)
              have HIST := Lib.hid (ins_step R l t)
              have HINT := Lib.hid (ins_not R l t)
              generalize hrt : R.getD t 0 = rt at *
              generalize hct : C.getD t 0 = ct at *
              have HRT := Lib.hid hrt
              clear hrt hct
              have QUIETED : True := trivial
              cases hb : insB lst R l t with
              | false =>
                have hn := Lib.hid (HINO.out hb)
                clear hb QUIETED
                go_wp2
                go_quiet (fail)
                go_wp2
                have HB6 := Lib.hid (below_drewN HBt.out nq)
                generalize wr.drewN nq = w6 at *
                clear d0 d2 b2 m1 m3 m2t m4t
                go_quiet (fail)
                go_wp2
                go_roundw
                case rel => exact ⟨t + 1, by omega, by go_num, by rw [hn.out], Lib.hid (below_drewN HB6.out _)⟩
                case measure => simp [intOf]; omega
              | true =>
                clear QUIETED
                cases lst with
                | false =>
                  have hn := HINT
                  clear hb
                  go_wp2
                  go_quiet (fail)
                  go_wp2
                  have HB6 := Lib.hid (below_drewN HBt.out nq)
                  generalize wr.drewN nq = w6 at *
                  clear d0 d2 b2 m1 m3 m2t m4t
                  go_quiet (fail)
                  go_wp2
                  go_roundw
                  case rel => exact ⟨t + 1, by omega, by go_num, by rw [hn.out], Lib.hid (below_drewN HB6.out _)⟩
                  case measure => simp [intOf]; omega
                | true =>
                  have hn := Lib.hid (HIST.out hb)
                  obtain ⟨hnq, hsl, _⟩ := HASL.out rfl
                  obtain ⟨ar, rfl, harb, harc⟩ := HLR.out hnq
                  have HARC : Hid (∀ W, Below wc.heap.size wc W → W.cell? (ar.add t) = some (.int .u64 ((l.getD t 0 : Nat) : Int))) := Lib.hid (fun W hb =>
                    have h1 := HB10.out.trans (hb.mono HB10.out.size)
                    (h1.cell (p := ar.add t) (by rw [block_of_add]; exact harb)).trans (harc t htq))
                  have k3 := HK3.out (word64 hsl hq64 t)
                  have htn : t < n := by omega
                  clear hb hsl harb harc hnq
                  go_wp2
                  go_quiet (fail)
                  go_wp2
                  have HB6 := Lib.hid (below_drewN HBt.out nq)
                  generalize wr.drewN nq = w6 at *
                  clear d0 d2 b2 m1 m3 m2t m4t
                  have d2 := (HKB.out _ HB6.out).c2
                  obtain ⟨m1, m2, _, _⟩ := HM1.out _ HB6.out
                  have m2t := m2 t htq
                  rw [HRT.out] at m2t
                  have hcl := HARC.out _ HB6.out
                  generalize decide (andN rt (l.getD t 0) = 0) = bd at *
                  generalize l.getD t 0 = lt at *
                  clear m2
                  go_quiet (fail)
                  go_wp2
                  go_roundw
                  case rel => exact ⟨t + 1, by omega, by go_num, by rw [hn.out], Lib.hid (below_drewN HB6.out _)⟩
                  case measure => simp [intOf]; omega
            · obtain rfl : q = t := by omega
              have HFIN : Hid (insB lst R l q = true → (∃ ar, A = some ar ∧ q = n ∧ ∀ W, Below wc.heap.size wc W → ∀ t, t < q → W.cell? (ar.add t) = some (.int .u64 ((l.getD t 0 : Nat) : Int))) ∧ ∀ t, t < q → (bits .andNot .u64 ((C.getD t 0 : Nat) : Int) ((l.getD t 0 : Nat) : Int) != 0) = false) := Lib.hid (fun h => by
                have h1 := (qB_iff _).1 h
                have h2 := HASL.out (h1.1 hq1)
                obtain ⟨ar, hA, harb, harc⟩ := HLR.out h2.1
                have hle := (le_rows HSR1.out h2.2.1 hq64).1 h1.2
                have hle2 := (le_rows HCLR.out.sh h2.2.1 hq64).2 (h2.2.2 R C HCLR.out hle)
                refine ⟨⟨ar, hA, h2.1.symm, fun W hb t ht => ?_⟩, fun t ht => ?_⟩
                · have h9 := HB10.out.trans (hb.mono HB10.out.size)
                  exact (h9.cell (p := ar.add t) (by rw [block_of_add]; exact harb)).trans (harc t ht)
                · rw [andN_run _ _ (HC64.out t) (word64 h2.2.1 hq64 t), hle2 t ht]; rfl)
              clear b2
              generalize insB lst R l q = bi at *
              go_wp2
              clear d0 d2
              rename World => wi
              go_loopw [15] (fun v15 wj => ∃ s : Nat, s ≤ q ∧ v15 = .int .i64 (s : Int) ∧ Hid (Below wc.heap.size wc wj)) (fun v15 _ => q - (intOf v15).toNat)
              case atStart => exact ⟨0, Nat.zero_le _, rfl, HBt⟩
              case round =>
                obtain ⟨s, hs, rfl, HBs⟩ := hrel
                have d0 := (HKB.out _ HBs.out).c0
                have b2 := (HKA.out _ HBs.out).c2
                cases bi with
                | false =>
                  by_cases hsq : s < q
                  · go_wp2
                    go_roundw
                    case rel => exact ⟨k + 1, by omega, by go_num, HBs⟩
                    case measure => first | (simp [intOf]; done) | (simp [intOf]; omega)
                  · go_wp2
                    go_roundw
                    case rel => exact ⟨k + 1, by omega, by go_num, HBs⟩
                    case measure => first | (simp [intOf]; done) | (simp [intOf]; omega)
                | true =>
                  by_cases hsq : s < q
                  · obtain ⟨⟨ar, rfl, hqn, hac⟩, hzz⟩ := HFIN.out rfl
                    have hzs := hzz s hsq
                    have hacs := hac _ HBs.out s hsq
                    obtain ⟨_, _, m3, m4⟩ := HM1.out _ HBs.out
                    have m4s := m4 s hsq
                    have hsn : s < n := by omega
                    clear hzz hac m4 hqn
                    generalize C.getD s 0 = cs at *
                    generalize l.getD s 0 = ls at *
                    go_wp2
                    go_quiet (fail)
                    go_wp2
                    go_roundw
                    case rel => exact ⟨s + 1, by omega, by go_num, Lib.hid (below_drewN HBs.out _)⟩
                    case measure => simp [intOf]; omega
                  · go_wp2
                    go_roundw
                    case rel => exact ⟨k + 1, by omega, by go_num, HBs⟩
                    case measure => first | (simp [intOf]; done) | (simp [intOf]; omega)
        · obtain rfl : nr = k := by omega
          have HBX := Lib.hid (HB10.out.trans (HBk.out.mono HB10.out.size))
          go_wp2_with fail
          refine (HAW.out _ HBX.out).mono ?_
          rintro e w12 ⟨rfl, hb⟩
          have HBY := Lib.hid (HBX.out.trans (hb.mono HBX.out.size))
          clear hb
          go_wp2
          go_ret
          exact ⟨rfl, HBY.out⟩
set_option maxRecDepth 100000 in
theorem contract (H : Type) (enc : TypeId × Value → H) (W : World) (base : Nat) (args : Array Value) (ds gs : List (DataW H)) (before : List MemPlace)
    (hval : ∀ (j : Nat) t v, Tryd.f7.params[j]? = some t → args[j]? = some v → Value.okWide Tryd.prog W .any base t v)
    (hW : DataW.Whole enc Tryd.prog Tryd.f7.params.toList Rows.framesLeastSpec.vars false W args.toList ds gs before) (hE : Tab W) :
    Calls Tryd.prog 7 args W fun e W' => ∃ v, e = .returned v ∧ Rows.framesLeastSpec.post enc Tryd.prog Tryd.f7 false true false false W args v W' := by
  have hW' := hW
  obtain ⟨p, q, hA0, hV, rfl, hfz, hnd⟩ := hW
  have hA : DataW.TrodAll enc Tryd.prog W 0 (fun _ => true) true Tryd.f7.params.toList args.toList ds p := hA0
  rw [Tryd.params7] at hA hval
  obtain ⟨v0, vs0, d0, ds0, p0, q0, hargs, rfl, rfl, h0, r0⟩ := trodAll_cons hA
  obtain ⟨v1, vs1, d1, ds1, p1, q1, rfl, rfl, rfl, h1, r1⟩ := trodAll_cons r0
  obtain ⟨v2, vs2, d2, ds2, p2, q2, rfl, rfl, rfl, h2, r2⟩ := trodAll_cons r1
  obtain ⟨rfl, rfl, rfl⟩ := trodAll_nil r2
  obtain rfl : args = #[v0, v1, v2] := by cases args; simp_all
  obtain ⟨rfl, rfl⟩ := trodVars_none hV
  obtain ⟨m0, w0⟩ := open_mo (hval 0 25 v0 rfl rfl) h0
  have k0 := h0
  have lt0 : ∀ x ∈ p0, x.block < W.heap.size := by obtain ⟨m, hm⟩ := k0; exact DataW.trod_lt m _ _ _ hm
  obtain ⟨A1, n1, c1, l1, rfl, w1⟩ : ∃ A n c l, v1 = .slice A n c ∧ WRow W A n c l := by
    obtain ⟨fuel, hf⟩ := h1
    have hv9 := hval 1 22 v1 rfl rfl
    obtain ⟨A9, n9, c9, rfl⟩ := okWide_slice Tryd.underlying22 hv9
    exact open_words hf
  have k1 := h1
  have lt1 : ∀ x ∈ p1, x.block < W.heap.size := by obtain ⟨m, hm⟩ := k1; exact DataW.trod_lt m _ _ _ hm
  obtain ⟨g2, rfl, rfl, rfl, w2⟩ := open_int Tryd.underlying3 (hval 2 3 v2 rfl rfl) h2
  clear hA0
  simp only [List.append_nil] at hW'
  have hwalk := walk m0 _ l1 A1 n1 c1 g2 W w0 w1.1 w1.2.1 w1.2.2.2 hE
  refine hwalk.mono fun e W' ⟨he, hg⟩ => ?_
  subst he
  exact ⟨_, rfl, _, _, _, [], _, [], hW', trodAll_mk1 (shut_bool Tryd.underlying4 _), (trodAll_cons_mk (Below.trod laidOut (by kernel_rfl) (of_decide_eq_true (by kernel_rfl)) k0 hg lt0) (trodAll_cons_mk (Below.trod laidOut (by kernel_rfl) (of_decide_eq_true (by kernel_rfl)) k1 hg lt1) (trodAll_cons_mk (shut_int Tryd.underlying3 w2) trodAll_mk0))), rfl, hg.frame _, fun h => by cases h⟩
theorem reads (os : Os) {H : Type} (enc : TypeId × Value → H) : ∃ places, DataW.whole enc Tryd.prog ((laidW os).forCall (fun _ _ => 0) ⟨#[], #[.agg #[.int .i64 0, .slice none 0 0, .slice none 0 0], .slice none 0 0, .int .i64 0], []⟩).memory Tryd.f7.params.toList Rows.framesLeastSpec.vars false #[(.agg #[.int .i64 0, .slice none 0 0, .slice none 0 0] : Value), (.slice none 0 0 : Value), (.int .i64 0 : Value)].toList 8 = some ([.agg [.lit (.int .i64 0), .nil, .nil], .nil, .lit (.int .i64 0)], [], places) :=
  ⟨[], by kernel_rfl⟩
set_option maxRecDepth 100000 in
theorem lifted (os : Os) (started : os.Started) (H : Type) (enc : TypeId × Value → H) (F : Stop.Interp) :
    ReturnsInHanded {} Tryd.checked os 7 .any ((OpenSpec.ofChange Rows.framesLeastSpec).preRow enc Tryd.prog Tryd.f7 Rows.framesLeastRow.domain false Rows.framesLeastRow.laid) (((OpenSpec.ofChange Rows.framesLeastSpec).at F).post enc Tryd.prog Tryd.f7 false true false false) := by
  obtain ⟨places, hx⟩ := reads os enc
  refine returnsInHanded_of_row (C := Tryd.checked) (s := OpenSpec.ofChange Rows.framesLeastSpec) own started (by kernel_rfl) Tryd.func7
    (witness_row_atRef (enc := enc) (C := Tryd.checked) false (laidW os) #[.agg #[.int .i64 0, .slice none 0 0, .slice none 0 0], .slice none 0 0, .int .i64 0] (laidW_os os) (vars_ok os _) (heap_ok os _) (by kernel_rfl)
      (OpenSpec.preRow_of_cond 8 hx (by kernel_rfl) (fun k hk => by cases hk) (by kernel_rfl) (laid_met os _))) ?_
  intro W base args ds gs before hval hW _ _ _ hL hsh _
  exact contract H enc W base args ds gs before hval hW (env_of hL)
theorem said : Rows.FramesLeastSaid :=
  OpenClaim.holds_of_cond 7 Tryd.f7 rfl rfl rfl rfl rfl rfl rfl ⟨rfl, rfl, rfl, rfl, rfl⟩ rfl rfl rfl rfl rfl (by kernel_rfl) Tryd.func7 (by kernel_rfl)
    (of_decide_eq_true (by kernel_rfl)) (by unfold Func.isWrapper; first | (rw [if_pos (by decide +kernel)]; kernel_rfl) | (rw [if_neg (by decide +kernel)]; exact ⟨rfl, rfl⟩))
    (fun os started H enc _ F => by rw [OpenClaim.pre_eq_preRow]; exact lifted os started H enc F)
theorem plain (f : FuncId) (fn : Func) (hf : Tryd.pinned.checked.prog.funcNamed "witting/wittinglaw15.FramesLeast" = some f) (hfn : Tryd.pinned.checked.prog.funcs[f]? = some fn) :
    false = Tryd.pinned.checked.prog.looks [] ∧ ∀ (j : Nat) t, fn.params[j]? = some t → Tryd.pinned.checked.prog.wantsStandIn t = false := by
  obtain rfl : f = 7 := Option.some.inj ((show Tryd.prog.funcNamed "witting/wittinglaw15.FramesLeast" = some 7 by kernel_rfl).symm.trans hf) |>.symm
  obtain rfl : fn = Tryd.f7 := (Option.some.inj (Tryd.func7.symm.trans hfn)).symm
  refine ⟨no_looks, fun j t ht => ?_⟩
  rw [Tryd.params7] at ht
  have hm : t ∈ [25, 22, 3] := by simpa using Array.mem_of_getElem? ht
  have hall : ([25, 22, 3].all fun u => !Tryd.prog.wantsStandIn u) = true := by kernel_rfl
  exact (show Tryd.prog.wantsStandIn t = false by simpa using List.all_eq_true.1 hall t hm)
theorem card : Rows.FramesLeastCardSaid :=
  Claim7.holds_tied_plain_at .later [] _ _ _ _ said (fun _ h => by cases h) (by kernel_rfl) (fun _ h => by cases h) framesLeast_row_tie rfl ⟨rfl, rfl⟩ (by kernel_rfl) rfl plain (by kernel_rfl)
#print axioms card
end Go.Proofs.YtkhalapppkhopaaDoor.framesLeast
