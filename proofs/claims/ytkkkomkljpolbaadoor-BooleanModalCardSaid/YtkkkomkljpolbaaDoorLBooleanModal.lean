/- Layer 9: BooleanModal: if the facts of a propositional tautology of at most 20 nodes are replaced by formulas that know them, it remains one, and an excluded middle of any formula is one. -/
import Derived.Test.YtkkkomkljpolbaaDoorNIp
import Derived.Test.YtkkkomkljpolbaaDoorNIy
import Derived.Test.YtkkkomkljpolbaaDoorNIz
import Derived.Maps.AppendAt
import Derived.Deep.MidRow
namespace Go.Proofs.YtkkkomkljpolbaaDoor.booleanModal
open Go.ChangeShapes Go.WideShapes Go.ChangeAt Go.RowKit Go.Proofs.YtkkkomkljpolbaaDoor Go.Proofs.YtkkkomkljpolbaaDoor.bol Go.Proofs.Ws Go.Maps
open Go.ChangeMaps (open_string shut_string)
theorem wp_appN_at {ops : Array Oper} {rest : List Oper} {o : Oper} {a : Act} {Q : Exit → Act → World → Prop} {out : List Nd} (n : Nd) (W : World) (hgd : o.guard = none) (s x : Operand)
    (ho : o.op = .call { callee := .builtin .append, args := #[s, x], argTypes := #[22, 22] }) (base b : Nat) (v : Value)
    (hs : a.eval s = v) (hown : W.ownsRow base 62 6 v out.length (nds out)) (hx : a.eval x = .slice (some ⟨b, 0, none⟩) 1 1)
    (hc : ∀ j u, (ndC n)[j]? = some u → W.cell? ⟨b, j, none⟩ = some u) (hl : out.length ≤ 1000) (hbase : base ≤ W.heap.size)
    (h : ∀ v' w', w'.ownsRow base 62 6 v' (out ++ [n]).length (nds (out ++ [n])) → W.grownBy w' v.ownBlock → (v'.ownBlock = v.ownBlock ∨ v'.ownBlock = some W.heap.size) → wpList Tryd.prog ops Q rest (a.put o.dst v') w') : wpList Tryd.prog ops Q (o :: rest) a W := by
  obtain ⟨i0, hi, hz0, hz1, hz2⟩ := info_parts Tryd.infoNode
  refine wpList_append_own_at (w := W) hgd s x 22 ho base 62 i0 _ 6 48 Tryd.underlying22 hi hz0 hz1 hz2 rfl (by decide) v out.length (nds out) hs hown ⟨b, 0, none⟩ 1 1 (ndC n) hx rfl ?_ ?_ (by unfold maxLen; omega) (by omega) hbase ?_
  · intro j u hj
    have := hc j u hj
    rw [addr_zero]
    exact this
  · intro u hu
    simp only [ndC, List.mem_cons, List.not_mem_nil, or_false] at hu
    rcases hu with rfl | rfl | rfl | rfl | rfl | rfl <;> rfl
  · intro v' w' h1 h2 _ h5
    refine h v' w' ?_ h2 h5
    rw [nds_append, List.length_append]
    have e : nds [n] = ndC n := by simp [nds]
    rw [e]
    exact h1
theorem six_heap (W : World) (b : Nat) (v0 v1 v2 v3 v4 v5 : Value) {g : Nat} (h : g ≠ b) : ((((((W.setCell ⟨b, 0, none⟩ v0).setCell ⟨b, 1, none⟩ v1).setCell ⟨b, 2, none⟩ v2).setCell ⟨b, 3, none⟩ v3).setCell ⟨b, 4, none⟩ v4).setCell ⟨b, 5, none⟩ v5).heap[g]? = W.heap[g]? := by
  rw [Below.heap_setCell _ _ _ _ h, Below.heap_setCell _ _ _ _ h, Below.heap_setCell _ _ _ _ h, Below.heap_setCell _ _ _ _ h, Below.heap_setCell _ _ _ _ h, Below.heap_setCell _ _ _ _ h]
theorem Box.setOp {W : World} {g : Nat} {x : Nd} (h : Box W g x) (v : Int) : Box (W.setCell ⟨g, 0, none⟩ (.int .i64 v)) g { x with op := v } := by
  obtain ⟨h0, h1, h2, h3, h4, h5, hf⟩ := h
  have e : ∀ j, j ≠ 0 → (W.setCell ⟨g, 0, none⟩ (.int .i64 v)).cell? ⟨g, j, none⟩ = W.cell? ⟨g, j, none⟩ := fun j hj => World.cell?_setCell_other W ⟨g, 0, none⟩ ⟨g, j, none⟩ _ (fun e2 => by have h9 := congrArg Addr.off e2; have h9 : _ = _ := h9; dsimp only at h9; omega)
  exact ⟨World.cell?_setCell_same W _ _ h0, (e 1 (by decide)).trans h1, (e 2 (by decide)).trans h2, (e 3 (by decide)).trans h3, (e 4 (by decide)).trans h4, (e 5 (by decide)).trans h5, fun j => by rw [World.frozen?_setCell]; exact hf j⟩
theorem Box.setI {W : World} {g : Nat} {x : Nd} (h : Box W g x) (v : Int) : Box (W.setCell ⟨g, 1, none⟩ (.int .i64 v)) g { x with i := v } := by
  obtain ⟨h0, h1, h2, h3, h4, h5, hf⟩ := h
  have e : ∀ j, j ≠ 1 → (W.setCell ⟨g, 1, none⟩ (.int .i64 v)).cell? ⟨g, j, none⟩ = W.cell? ⟨g, j, none⟩ := fun j hj => World.cell?_setCell_other W ⟨g, 1, none⟩ ⟨g, j, none⟩ _ (fun e2 => by have h9 := congrArg Addr.off e2; have h9 : _ = _ := h9; dsimp only at h9; omega)
  exact ⟨(e 0 (by decide)).trans h0, World.cell?_setCell_same W _ _ h1, (e 2 (by decide)).trans h2, (e 3 (by decide)).trans h3, (e 4 (by decide)).trans h4, (e 5 (by decide)).trans h5, fun j => by rw [World.frozen?_setCell]; exact hf j⟩
theorem Box.setE {W : World} {g : Nat} {x : Nd} (h : Box W g x) (v : Int) : Box (W.setCell ⟨g, 2, none⟩ (.int .i64 v)) g { x with e := v } := by
  obtain ⟨h0, h1, h2, h3, h4, h5, hf⟩ := h
  have e : ∀ j, j ≠ 2 → (W.setCell ⟨g, 2, none⟩ (.int .i64 v)).cell? ⟨g, j, none⟩ = W.cell? ⟨g, j, none⟩ := fun j hj => World.cell?_setCell_other W ⟨g, 2, none⟩ ⟨g, j, none⟩ _ (fun e2 => by have h9 := congrArg Addr.off e2; have h9 : _ = _ := h9; dsimp only at h9; omega)
  exact ⟨(e 0 (by decide)).trans h0, (e 1 (by decide)).trans h1, World.cell?_setCell_same W _ _ h2, (e 3 (by decide)).trans h3, (e 4 (by decide)).trans h4, (e 5 (by decide)).trans h5, fun j => by rw [World.frozen?_setCell]; exact hf j⟩
theorem Box.setG {W : World} {g : Nat} {x : Nd} (h : Box W g x) (v : Int) : Box (W.setCell ⟨g, 3, none⟩ (.int .i64 v)) g { x with g := v } := by
  obtain ⟨h0, h1, h2, h3, h4, h5, hf⟩ := h
  have e : ∀ j, j ≠ 3 → (W.setCell ⟨g, 3, none⟩ (.int .i64 v)).cell? ⟨g, j, none⟩ = W.cell? ⟨g, j, none⟩ := fun j hj => World.cell?_setCell_other W ⟨g, 3, none⟩ ⟨g, j, none⟩ _ (fun e2 => by have h9 := congrArg Addr.off e2; have h9 : _ = _ := h9; dsimp only at h9; omega)
  exact ⟨(e 0 (by decide)).trans h0, (e 1 (by decide)).trans h1, (e 2 (by decide)).trans h2, World.cell?_setCell_same W _ _ h3, (e 4 (by decide)).trans h4, (e 5 (by decide)).trans h5, fun j => by rw [World.frozen?_setCell]; exact hf j⟩
theorem ownI9 {W : World} {b n : Nat} {v : Value} {l : List Nat} (h : W.ownsRow b 3 1 v n (iv l)) {k : Nat} (hk : k < n) : ∃ A c, v = .slice (some A) n c ∧ W.cell? (A.add k) = some (.int .i64 ((l.getD k 0 : Nat) : Int)) := by
  obtain ⟨A, c, rfl⟩ := own_sl h
  obtain ⟨ad, hA, _, hc⟩ := iv_read (Reads.of_own h) hk
  subst hA
  exact ⟨ad, c, rfl, hc⟩
set_option maxRecDepth 100000 in
set_option maxHeartbeats 8000000 in
theorem walk (f : List Nd) (A0 : Option Addr) (n0 c0 : Nat) (g : Nat) (hg : g < 256) (w : World) (hE : EnvB w w.heap.size) (h0 : NdRow w A0 n0 c0 f) :
    Calls Tryd.prog 13 #[.slice A0 n0 c0, .int .u8 (g : Int)] w fun e w' => e = .returned (.bool true) ∧ Below w.heap.size w w' := by
  obtain ⟨hR, _, _, hm⟩ := h0
  have HE := Lib.hid hE
  have HB0 : Hid (Below w.heap.size w w) := Lib.hid (Below.refl _ _)
  by_cases hn0 : n0 = 0
  · have hd : ((n0 : Int) == 0) = true := by rw [hn0]; rfl
    clear hR hn0
    go_enter Tryd.func13, Tryd.ntmps13
    go_wp2_with fail
    refine (awake9_any _ ((HE.out.below HB0.out).up HB0.out.size)).mono ?_
    rintro e wz ⟨rfl, hbz⟩
    have HBz := Lib.hid (HB0.out.trans (hbz.mono HB0.out.size))
    clear hbz
    go_wp2
    go_ret
    exact ⟨rfl, HBz.out⟩
  have hd0 : ((n0 : Int) == 0) = false := by simpa using hn0
  by_cases hn : 20 < n0
  · have hd : decide (20 < (n0 : Int)) = true := decide_eq_true (by omega)
    clear hR hn
    go_enter Tryd.func13, Tryd.ntmps13
    go_wp2_with fail
    refine (awake9_any _ ((HE.out.below HB0.out).up HB0.out.size)).mono ?_
    rintro e wz ⟨rfl, hbz⟩
    have HBz := Lib.hid (HB0.out.trans (hbz.mono HB0.out.size))
    clear hbz
    go_wp2
    go_ret
    exact ⟨rfl, HBz.out⟩
  have hd : decide (20 < (n0 : Int)) = false := decide_eq_false (by omega)
  have HC := Lib.hid (fun (W : World) (h : Below w.heap.size w W) => pCheck_any f A0 n0 c0 W (up8 hR h) hm)
  by_cases hz : fErr f = 0
  · rw [hz] at HC
    have HA := Lib.hid (fun (W : World) (h : Below w.heap.size w W) => pAtoms_any f A0 n0 c0 W (up8 hR h) hm)
    rw [hz, if_pos rfl] at HA
    have hal := atomsG_len f
    have hl := hR.nd_len
    by_cases hmany : 10 < (atomsOf (compF f)).length
    · have hmd : decide (10 < ((atomsG f).length : Int)) = true := decide_eq_true (by omega)
      clear hR hn hE hm hz hal hmany
      generalize atomsG f = ls at *
      go_enter Tryd.func13, Tryd.ntmps13
      go_wp2_with fail
      refine (HC.out _ HB0.out).mono ?_
      rintro e w1 ⟨rfl, hb1⟩
      have HB1 : Hid (Below w.heap.size w w1) := Lib.hid (HB0.out.trans (hb1.mono HB0.out.size))
      clear hb1
      go_wp2_with fail
      refine (HA.out _ HB1.out).mono ?_
      rintro e w2 ⟨v, rfl, hll, hb2⟩
      have HB2 : Hid (Below w.heap.size w w2) := Lib.hid (HB1.out.trans (hb2.mono HB1.out.size))
      obtain ⟨A1, c1, rfl, _⟩ := hll.item
      clear hll
      clear hb2
      go_wp2_with fail
      refine (awake9_any _ ((HE.out.below HB2.out).up HB2.out.size)).mono ?_
      rintro e wz ⟨rfl, hbz⟩
      have HBz := Lib.hid (HB2.out.trans (hbz.mono HB2.out.size))
      clear hbz
      go_wp2
      go_ret
      exact ⟨rfl, HBz.out⟩
    · have hmd : decide (10 < ((atomsG f).length : Int)) = false := decide_eq_false (by omega)
      obtain ⟨g1, g2, g3, g4⟩ := middle9 hz (by omega) (by omega)
      have HN := Lib.hid (fun (W : World) (h : Below w.heap.size w W) => pNot_any f A0 n0 c0 W (up8 hR h) hm)
      have HOR := Lib.hid (fun (A : Option Addr) (c : Nat) (W : World) (h : Below w.heap.size w W) (hr : Reads W W.heap.size 6 A (buildF ⟨4, 0, 0, 0, 0, 0⟩ [f]).length (nds (buildF ⟨4, 0, 0, 0, 0, 0⟩ [f]))) => pOr_any f A0 n0 c0 (buildF ⟨4, 0, 0, 0, 0, 0⟩ [f]) A _ c W (up8 hR h) hm hr (by unfold maxLen; omega))
      have HT1 := Lib.hid (fun (A : Option Addr) (c : Nat) (W : World) (h : Below w.heap.size w W) (hr : Reads W W.heap.size 6 A (buildF ⟨6, 0, 0, 0, 0, 0⟩ [f, buildF ⟨4, 0, 0, 0, 0, 0⟩ [f]]).length (nds (buildF ⟨6, 0, 0, 0, 0, 0⟩ [f, buildF ⟨4, 0, 0, 0, 0, 0⟩ [f]]))) => pTaut_any (buildF ⟨6, 0, 0, 0, 0, 0⟩ [f, buildF ⟨4, 0, 0, 0, 0, 0⟩ [f]]) A _ c W ((hE.below h).up h.size) hr (by unfold maxLen; omega))
      rw [g3, g4] at HT1
      have HFR := Lib.hid (fun (W : World) (h : Below w.heap.size w W) => pFrags_any f A0 n0 c0 W (up8 hR h) hm)
      have HT2 := Lib.hid (fun (W : World) (h : Below w.heap.size w W) => pTaut_any f A0 n0 c0 W ((hE.below h).up h.size) (up8 hR h) hm)
      have HT3 := Lib.hid (fun (O : List Nd) (A : Option Addr) (c : Nat) (W : World) (h : Below w.heap.size w W) (hr : Reads W W.heap.size 6 A O.length (nds O)) (hO : O.length ≤ 40) => pTaut_any O A _ c W ((hE.below h).up h.size) hr (by unfold maxLen; omega))
      have hats : (atomsOf (compF f)).length ≤ 10 := by omega
      have HM9 := Lib.hid (fun (h8 : ∀ x ∈ compF f, x.op ≤ 8) (O : List Nd) (a : Int) (T : List Nat) (hK : KnOk f a f.length O T) => modal9 hz (by omega) hats h8 hK)
      have HPM := Lib.hid (prop_mask (compF f))
      have HR := Lib.hid hR
      have HOP := Lib.hid (fErr_ops hz)
      have HFL := Lib.hid (fErr_fld hz)
      have HLN := Lib.hid hl
      clear hR hE hal hmany g1 g2 g3 g4 hats
      generalize atomsG f = ls at *
      generalize buildF ⟨6, 0, 0, 0, 0, 0⟩ [f, buildF ⟨4, 0, 0, 0, 0, 0⟩ [f]] = gO at *
      generalize buildF ⟨4, 0, 0, 0, 0, 0⟩ [f] = gN at *
      by_cases hmask : maskL fragD (compF f) = 0
      · have h8 := HPM.out.1 hmask
        have HM9 := Lib.hid (HM9.out h8)
        rw [hmask] at HFR
        clear hmask HPM h8
        obtain ⟨i0, hi0, hz0, hz1, hz2⟩ := info_parts Tryd.infoI
        have ha4 : 0 ≤ (g : Int) % 4 ∧ (g : Int) % 4 < 4 := by omega
        go_enter Tryd.func13, Tryd.ntmps13
        go_wp2_with fail
        refine (HC.out _ HB0.out).mono ?_
        rintro e w1 ⟨rfl, hb1⟩
        have HB1 : Hid (Below w.heap.size w w1) := Lib.hid (HB0.out.trans (hb1.mono HB0.out.size))
        clear hb1
        go_wp2_with fail
        refine (HA.out _ HB1.out).mono ?_
        rintro e w2 ⟨v, rfl, hll, hb2⟩
        have HB2 : Hid (Below w.heap.size w w2) := Lib.hid (HB1.out.trans (hb2.mono HB1.out.size))
        obtain ⟨A1, c1, rfl, _⟩ := hll.item
        clear hll
        clear hb2
        go_wp2_with fail
        refine (HN.out _ HB2.out).mono ?_
        rintro e w3 ⟨A3, c3, rfl, hr3, hb3⟩
        have HB3 : Hid (Below w.heap.size w w3) := Lib.hid (HB2.out.trans (hb3.mono HB2.out.size))
        have HR3 := Lib.hid hr3
        clear hr3
        clear hb3
        go_wp2_with fail
        refine (HOR.out _ _ _ HB3.out HR3.out).mono ?_
        rintro e w4 ⟨A4, c4, rfl, hr4, hb4⟩
        have HB4 : Hid (Below w.heap.size w w4) := Lib.hid (HB3.out.trans (hb4.mono HB3.out.size))
        have HR4 := Lib.hid hr4
        clear hr4
        clear hb4
        go_wp2_with fail
        refine (HT1.out _ _ _ HB4.out HR4.out).mono ?_
        rintro e w5 ⟨rfl, hb5⟩
        have HB5 : Hid (Below w.heap.size w w5) := Lib.hid (HB4.out.trans (hb5.mono HB4.out.size))
        clear hb5
        go_wp2_with fail
        refine (HFR.out _ HB5.out).mono ?_
        rintro e w6 ⟨rfl, hb6⟩
        have HB6 : Hid (Below w.heap.size w w6) := Lib.hid (HB5.out.trans (hb6.mono HB5.out.size))
        clear hb6
        have HR := Lib.hid (up8 HR.out HB6.out)
        have HBW := HB6
        clear HC HA HN HOR HT1 HFR HB1 HB2 HB3 HB4 HB5 HR3 HR4
        go_wp2
        generalize (g : Int) % 4 = av at *
        have hzw : w.heap.size ≤ w6.heap.size := HBW.out.size
        rename World => w0
        go_loopw [10, 11, 12, 13] (fun v10 v11 i _ wr => ∃ i' : Nat, i' ≤ n0 ∧ i = .int .i64 i' ∧ ∃ (O : List Nd) (T : List Nat), Hid (KnOk f av i' O T) ∧ Hid (wr.ownsRow w0.heap.size 62 6 v10 O.length (nds O)) ∧ Hid (wr.ownsRow w0.heap.size 3 1 v11 i' (iv T)) ∧ Hid (Below w0.heap.size w0 wr)) (fun _ _ i _ _ => n0 - (intOf i).toNat)
        case atStart => exact ⟨0, Nat.zero_le _, rfl, [], [], Lib.hid (KnOk.start f _), Lib.hid (World.ownsRow_nil _ _ _ _), Lib.hid (World.ownsRow_nil _ _ _ _), Lib.hid (Below.refl _ _)⟩
        case round =>
          obtain ⟨i, hi, rfl, O, T, HK, HO, HT, HBR⟩ := hrel
          by_cases hin : i < n0
          · obtain ⟨ad, rfl, hb, m0, m1, m2, m3, m4, m5⟩ := (HR.out.below HBR.out).nd_at hin
            have l1 := add_cell m1
            have l2 := add_cell m2
            have l3 := add_cell m3
            have l4 := add_cell m4
            have l5 := add_cell m5
            have hif : i < f.length := by have := HLN.out; omega
            have hop := HOP.out i hif
            have hfl := HFL.out _ (getD_mem hif)
            have hOl := HK.out.len
            have HKF := Lib.hid (fun h3 => HK.out.fact HOP.out hif hfl h3 ha4)
            have HKO := Lib.hid (fun h3 => HK.out.other HOP.out hif hfl h3)
            have HKL := Lib.hid HK.out.lt
            have HKT := Lib.hid HK.out.tl
            have hszr := HBR.out.size
            have hkn := hfl.1
            generalize f.getD i nd0 = x at *
            clear hfl HK
            by_cases h3 : x.op = 3
            · have HK2 := Lib.hid (HKF.out h3)
              have HOL := Lib.hid (fun g hg => (HO.out.lt g hg).2)
              have HOa := Lib.hid (HO.out.alloc (.cells #[.int .i64 x.op, .int .i64 x.i, .int .i64 x.e, .int .i64 x.g, .int .i64 x.x, .int .i64 x.y] 62))
              have HTa := Lib.hid (HT.out.alloc (.cells #[.int .i64 x.op, .int .i64 x.i, .int .i64 x.e, .int .i64 x.g, .int .i64 x.x, .int .i64 x.y] 62))
              have HBa : Hid (Below w0.heap.size w0 (wr.alloc (.cells #[.int .i64 x.op, .int .i64 x.i, .int .i64 x.e, .int .i64 x.g, .int .i64 x.x, .int .i64 x.y] 62))) := Lib.hid (HBR.out.alloc hszr _)
              have HBOX := Lib.hid (Box.made wr x 62)
              have hsx : (wr.alloc (.cells #[.int .i64 x.op, .int .i64 x.i, .int .i64 x.e, .int .i64 x.g, .int .i64 x.x, .int .i64 x.y] 62)).heap.size = wr.heap.size + 1 := by simp
              have HSX := Lib.hid hsx
              have g3 : (x.op == 3) = true := by rw [h3]; rfl
              clear HKF HKO hkn hsx h3
              go_wp2_with (at_builtin; (refine wp_appN_at x _ rfl _ _ rfl w0.heap.size _ _ rfl (HOa.out.alloc _) rfl ?k1 ?k2 ?k3 ?_))
              case k1 =>
                intro j' u hj'
                have hh := heap_alloc_new (wr.alloc (.cells #[.int .i64 x.op, .int .i64 x.i, .int .i64 x.e, .int .i64 x.g, .int .i64 x.x, .int .i64 x.y] 62)) (.cells (ndC x).toArray 62)
                have hq := Lib.cell_of_heap hh j'
                rw [HSX.out] at hq
                first
                | (rw [← hj']; simp [ndC]; done)
                | (rw [← hj']; simpa [ndC] using hq)
                | (rw [hj'] at hq; exact hq)
              case k2 => omega
              case k3 => simp; omega
              intro v5 w5 hown5 hgrow5 hrow5
              have HT5 := Lib.hid (own_keep1 HTa.out (fun g hg => (hgrow5.block g (by have := (HTa.out.lt g hg).2; simp at this ⊢; omega) (fun e => own_apart HTa.out HOa.out (by decide) hg e.symm)).trans (Below.heap_alloc _ _ _ (HTa.out.lt g hg).2)))
              have HB5 : Hid (Below w0.heap.size w0 w5) := Lib.hid ((HBa.out.alloc HBa.out.size _).grown hgrow5 (by have := HBa.out.size; simp at this ⊢; omega) (fun g hg => (HOa.out.lt g hg).1))
              have HX5 : Hid (Box w5 wr.heap.size x) := Lib.hid (HBOX.out.keep ((hgrow5.block wr.heap.size (by simp; omega) (fun e => by have := HOL.out _ e.symm; omega)).trans (Below.heap_alloc _ _ _ (by simp))))
              have HO5 := Lib.hid hown5
              have HTL := Lib.hid (fun g hg => (HT.out.lt g hg).2)
              have HSEP : Hid (v5.ownBlock ≠ some wr.heap.size) := Lib.hid (fun e => by
                rcases hrow5 with h9 | h9
                · rw [h9] at e
                  have := HOL.out _ e
                  omega
                · rw [h9] at e
                  injection e with e
                  first | omega | (simp at e; omega))
              have hlx5 : wr.heap.size < w5.heap.size := by have := hgrow5.size; simp at this; omega
              obtain ⟨A5, c5, rfl⟩ := own_sl hown5
              have hbs : (O ++ [x]).length = O.length + 1 := by simp
              have HY1 := Lib.hid (Box.setOp HX5.out 9)
              have HY2 := Lib.hid (Box.setI HY1.out av)
              have HY3 := Lib.hid (Box.setE HY2.out 0)
              have HY4 := Lib.hid (Box.setG HY3.out 0)
              have HY5 := Lib.hid (HY4.out.setX (O.length : Int))
              have HY6 := Lib.hid (HY5.out.setY 0)
              have f0 := HX5.out.2.2.2.2.2.2 0
              have b0 := HX5.out.1
              have f1 := HY1.out.2.2.2.2.2.2 1
              have b1 := HY1.out.2.1
              have f2 := HY2.out.2.2.2.2.2.2 2
              have b2 := HY2.out.2.2.1
              have f3 := HY3.out.2.2.2.2.2.2 3
              have b3 := HY3.out.2.2.2.1
              have f4 := HY4.out.2.2.2.2.2.2 4
              have b4 := HY4.out.2.2.2.2.1
              have f5 := HY5.out.2.2.2.2.2.2 5
              have b5 := HY5.out.2.2.2.2.2.1
              obtain ⟨d0, d1, d2, d3, d4, d5, _⟩ := HY6.out
              dsimp only at b0 b1 b2 b3 b4 b5 d0 d1 d2 d3 d4 d5
              have hW : ((((((w5.setCell ⟨wr.heap.size, 0, none⟩ (.int .i64 9)).setCell ⟨wr.heap.size, 1, none⟩ (.int .i64 av)).setCell ⟨wr.heap.size, 2, none⟩ (.int .i64 0)).setCell ⟨wr.heap.size, 3, none⟩ (.int .i64 0)).setCell ⟨wr.heap.size, 4, none⟩ (.int .i64 (O.length : Int))).setCell ⟨wr.heap.size, 5, none⟩ (.int .i64 0)).heap.size = w5.heap.size := by simp
              have HWS := Lib.hid hW
              have HOv := Lib.hid (own_keep1 HO5.out (fun g hg => six_heap w5 wr.heap.size (.int .i64 9) (.int .i64 av) (.int .i64 0) (.int .i64 0) (.int .i64 (O.length : Int)) (.int .i64 0) (g := g) (by
                intro e
                have h9 := HSEP.out
                rw [e] at hg
                exact h9 hg)))
              have HTv := Lib.hid (own_keep1 HT5.out (fun g hg => six_heap w5 wr.heap.size (.int .i64 9) (.int .i64 av) (.int .i64 0) (.int .i64 0) (.int .i64 (O.length : Int)) (.int .i64 0) (g := g) (by have := HTL.out g hg; omega)))
              have HBv : Hid (Below w0.heap.size w0 ((((((w5.setCell ⟨wr.heap.size, 0, none⟩ (.int .i64 9)).setCell ⟨wr.heap.size, 1, none⟩ (.int .i64 av)).setCell ⟨wr.heap.size, 2, none⟩ (.int .i64 0)).setCell ⟨wr.heap.size, 3, none⟩ (.int .i64 0)).setCell ⟨wr.heap.size, 4, none⟩ (.int .i64 (O.length : Int))).setCell ⟨wr.heap.size, 5, none⟩ (.int .i64 0))) := Lib.hid ((((((HB5.out.setCell hszr _).setCell hszr _).setCell hszr _).setCell hszr _).setCell hszr _).setCell hszr _)
              generalize hs0 : w5.setCell ⟨wr.heap.size, 0, none⟩ (.int .i64 9) = v1 at *
              generalize hs1 : v1.setCell ⟨wr.heap.size, 1, none⟩ (.int .i64 av) = v2 at *
              generalize hs2 : v2.setCell ⟨wr.heap.size, 2, none⟩ (.int .i64 0) = v3 at *
              generalize hs3 : v3.setCell ⟨wr.heap.size, 3, none⟩ (.int .i64 0) = v4 at *
              generalize hs4 : v4.setCell ⟨wr.heap.size, 4, none⟩ (.int .i64 (O.length : Int)) = v5 at *
              generalize hs5 : v5.setCell ⟨wr.heap.size, 5, none⟩ (.int .i64 0) = wv at *
              clear hown5 hgrow5 hrow5 m0 m1 m2 m3 m4 m5 l1 l2 l3 l4 l5 hW HX5 HY1 HY2 HY3 HY4 HY5 HY6
              replace HOv : Hid (wv.ownsRow w0.heap.size 62 6 (.slice A5 (O.length + 1) c5) (O ++ [x]).length (nds (O ++ [x]))) := Lib.hid (by rw [show (O ++ [x]).length = O.length + 1 from by simp]; exact HOv.out)
              go_wp2_with (at_builtin; (refine wp_appN (⟨9, av, 0, 0, (O.length : Int), 0⟩ : Nd) _ rfl _ _ rfl w0.heap.size _ _ rfl (HOv.out.alloc _) rfl ?k1 ?k2 ?k3 ?_))
              case k1 =>
                intro j' u hj'
                have hh := heap_alloc_new wv (.cells (ndC (⟨9, av, 0, 0, (O.length : Int), 0⟩ : Nd)).toArray 62)
                have hq := Lib.cell_of_heap hh j'
                rw [HWS.out] at hq
                first
                | (rw [← hj']; simp [ndC]; done)
                | (rw [← hj']; simpa [ndC] using hq)
                | (rw [hj'] at hq; exact hq)
              case k2 => omega
              case k3 => have := HBv.out.size; first | (simp; omega) | (simp at this ⊢; omega)
              intro v6 w6 hown6 hgrow6
              have HT6 := Lib.hid (own_keep1 HTv.out (fun g hg => (hgrow6.block g (by have := (HTv.out.lt g hg).2; first | (simp; omega) | (simp at this ⊢; omega)) (fun e => own_apart HTv.out HOv.out (by decide) hg e.symm)).trans (Below.heap_alloc _ _ _ (HTv.out.lt g hg).2)))
              have HB6 : Hid (Below w0.heap.size w0 w6) := Lib.hid ((HBv.out.alloc HBv.out.size _).grown hgrow6 (by have := HBv.out.size; first | (simp; omega) | (simp at this ⊢; omega)) (fun g hg => (HOv.out.lt g hg).1))
              have HO6 := Lib.hid hown6
              obtain ⟨A6, c6, rfl⟩ := own_sl hown6
              clear hown6 hgrow6
              have hsz6 := HB6.out.size
              go_wp2_with (at_builtin; (refine wpList_append_own _ rfl _ _ 60 rfl w0.heap.size 3 i0 (.int .i64 0) 1 8 Tryd.underlying60 hi0 hz0 hz1 hz2 rfl (by decide) _ _ _ rfl (HT6.out.alloc _) ⟨w6.heap.size, 0, none⟩ 1 1 [.int .i64 ((O.length + 1 : Nat) : Int)] rfl rfl ?k1 ?k2 ?k3 ?k4 ?k5 ?_))
              case k1 =>
                intro j u hj
                match j, hj with
                | 0, hj => simp at hj; subst hj; first | (simp [Addr.add]; done) | (simp [Addr.add]; omega)
              case k2 => intro u hu; simp at hu; subst hu; rfl
              case k3 => unfold maxLen; omega
              case k4 => omega
              case k5 => simp; omega
              intro v7 w7 hown7 hgrow7 _
              have HT7 : Hid (w7.ownsRow w0.heap.size 3 1 v7 (i + 1) (iv (T ++ [(O.length + 1)]))) := Lib.hid (by rw [iv_append]; exact hown7)
              have HO7 := Lib.hid (own_keep1 HO6.out (fun g hg => (hgrow7.block g (by have := (HO6.out.lt g hg).2; simp; omega) (fun e => own_apart HO6.out HT6.out (by decide) hg e.symm)).trans (Below.heap_alloc _ _ _ (HO6.out.lt g hg).2)))
              have HB7 : Hid (Below w0.heap.size w0 w7) := Lib.hid ((HB6.out.alloc HB6.out.size _).grown hgrow7 (by simp; omega) (fun g hg => (HT6.out.lt g hg).1))
              clear hown7 hgrow7
              go_wp2
              go_roundw
              case rel => exact ⟨i + 1, by omega, by go_num, O ++ [x] ++ [(⟨9, av, 0, 0, (O.length : Int), 0⟩ : Nd)], T ++ [(O.length + 1)], HK2, by rw [show (O ++ [x] ++ [(⟨9, av, 0, 0, (O.length : Int), 0⟩ : Nd)]).length = O.length + 2 from by simp, show O ++ [x] ++ [(⟨9, av, 0, 0, (O.length : Int), 0⟩ : Nd)] = O ++ [x, (⟨9, av, 0, 0, (O.length : Int), 0⟩ : Nd)] from by simp]; exact HO7, HT7, HB7⟩
              case measure => simp [intOf]; omega
            · have HK2 := Lib.hid (HKO.out h3)
              have d3 : (x.op == 3) = false := by simpa using h3
              have HUX := Lib.hid (fun W => rUsesX_any x.op hkn W)
              have HUY := Lib.hid (fun W => rUsesY_any x.op hkn W)
              have HBOX := Lib.hid (Box.made wr x 62)
              have HOx := Lib.hid (HO.out.alloc (.cells #[.int .i64 x.op, .int .i64 x.i, .int .i64 x.e, .int .i64 x.g, .int .i64 x.x, .int .i64 x.y] 62))
              have HTx := Lib.hid (HT.out.alloc (.cells #[.int .i64 x.op, .int .i64 x.i, .int .i64 x.e, .int .i64 x.g, .int .i64 x.x, .int .i64 x.y] 62))
              have HBx : Hid (Below w0.heap.size w0 (wr.alloc (.cells #[.int .i64 x.op, .int .i64 x.i, .int .i64 x.e, .int .i64 x.g, .int .i64 x.x, .int .i64 x.y] 62))) := Lib.hid (HBR.out.alloc hszr _)
              have hsx : (wr.alloc (.cells #[.int .i64 x.op, .int .i64 x.i, .int .i64 x.e, .int .i64 x.g, .int .i64 x.x, .int .i64 x.y] 62)).heap.size = wr.heap.size + 1 := by simp
              have HOL := Lib.hid (fun g hg => (HO.out.lt g hg).2)
              have HTL := Lib.hid (fun g hg => (HT.out.lt g hg).2)
              clear HKF HKO hkn h3
              go_wp2_with fail
              generalize wr.alloc (.cells #[.int .i64 x.op, .int .i64 x.i, .int .i64 x.e, .int .i64 x.g, .int .i64 x.x, .int .i64 x.y] 62) = wx at *
              have HSX := Lib.hid hsx
              obtain ⟨b0, b1, b2, b3, b4, b5, bf⟩ := HBOX.out
              clear hsx m0 m1 m2 m3 m4 m5 l1 l2 l3 l4 l5
              refine (HUX.out _).mono ?_
              rintro e w2 ⟨rfl, rfl⟩
              cases hux : usesX x.op
              · have huy : usesY x.op = false := by
                  cases hy : usesY x.op
                  · rfl
                  · rw [usesY_X hy] at hux; cases hux
                have hmv : mvN T x = x := by unfold mvN; rw [hux, huy]; simp
                rw [huy] at HUY
                rw [hmv] at HK2
                clear hux huy hmv
                go_wp2_with fail
                refine (HUY.out _).mono ?_
                rintro e w2 ⟨rfl, rfl⟩
                go_wp2_with (at_builtin; (refine wp_appN x _ rfl _ _ rfl w0.heap.size _ _ rfl (HOx.out.alloc _) rfl ?k1 ?k2 ?k3 ?_))
                case k1 =>
                  intro j' u hj'
                  have hh := heap_alloc_new wx (.cells (ndC x).toArray 62)
                  have hq := Lib.cell_of_heap hh j'
                  first
                  | (rw [← hj']; simp [ndC]; done)
                  | (rw [← hj']; simpa [ndC] using hq)
                  | (rw [hj'] at hq; exact hq)
                case k2 => omega
                case k3 => have := HBx.out.size; first | (simp; omega) | (simp at this ⊢; omega)
                intro v6 w6 hown6 hgrow6
                have HT6 := Lib.hid (own_keep1 HTx.out (fun g hg => (hgrow6.block g (by have := (HTx.out.lt g hg).2; first | (simp; omega) | (simp at this ⊢; omega)) (fun e => own_apart HTx.out HOx.out (by decide) hg e.symm)).trans (Below.heap_alloc _ _ _ (HTx.out.lt g hg).2)))
                have HB6 : Hid (Below w0.heap.size w0 w6) := Lib.hid ((HBx.out.alloc HBx.out.size _).grown hgrow6 (by have := HBx.out.size; first | (simp; omega) | (simp at this ⊢; omega)) (fun g hg => (HOx.out.lt g hg).1))
                have HO6 := Lib.hid hown6
                obtain ⟨A6, c6, rfl⟩ := own_sl hown6
                clear hown6 hgrow6
                have hsz6 := HB6.out.size
                go_wp2_with (at_builtin; (refine wpList_append_own _ rfl _ _ 60 rfl w0.heap.size 3 i0 (.int .i64 0) 1 8 Tryd.underlying60 hi0 hz0 hz1 hz2 rfl (by decide) _ _ _ rfl (HT6.out.alloc _) ⟨w6.heap.size, 0, none⟩ 1 1 [.int .i64 (O.length : Int)] rfl rfl ?k1 ?k2 ?k3 ?k4 ?k5 ?_))
                case k1 =>
                  intro j u hj
                  match j, hj with
                  | 0, hj => simp at hj; subst hj; first | (simp [Addr.add]; done) | (simp [Addr.add]; omega)
                case k2 => intro u hu; simp at hu; subst hu; rfl
                case k3 => unfold maxLen; omega
                case k4 => omega
                case k5 => simp; omega
                intro v7 w7 hown7 hgrow7 _
                have HT7 : Hid (w7.ownsRow w0.heap.size 3 1 v7 (i + 1) (iv (T ++ [O.length]))) := Lib.hid (by rw [iv_append]; exact hown7)
                have HO7 := Lib.hid (own_keep1 HO6.out (fun g hg => (hgrow7.block g (by have := (HO6.out.lt g hg).2; simp; omega) (fun e => own_apart HO6.out HT6.out (by decide) hg e.symm)).trans (Below.heap_alloc _ _ _ (HO6.out.lt g hg).2)))
                have HB7 : Hid (Below w0.heap.size w0 w7) := Lib.hid ((HB6.out.alloc HB6.out.size _).grown hgrow7 (by simp; omega) (fun g hg => (HT6.out.lt g hg).1))
                clear hown7 hgrow7
                go_wp2
                go_roundw
                case rel => exact ⟨i + 1, by omega, by go_num, O ++ [x], T ++ [O.length], HK2, by rw [show (O ++ [x]).length = O.length + 1 from by simp]; exact HO7, HT7, HB7⟩
                case measure => simp [intOf]; omega
              · obtain ⟨hx0, hx1⟩ := opsOk_x hop hux
                have hxl := HKL.out _ hx1
                obtain ⟨adT, cT, rfl, hct⟩ := ownI9 HTx.out hx1
                obtain ⟨kx, hkx⟩ : ∃ k : Nat, x.x = (k : Int) := ⟨x.x.toNat, by omega⟩
                rw [hkx] at b4
                have hkx2 : x.x.toNat = kx := by rw [hkx]; exact Int.toNat_natCast _
                rw [hkx2] at hct hxl
                have hbf4 := bf 4
                have HKX : Hid (((T.getD kx 0 : Nat) : Int) = ((T.getD x.x.toNat 0 : Nat) : Int)) := Lib.hid (by rw [hkx2])
                have hmx : (mvN T x).x = ((T.getD kx 0 : Nat) : Int) := by unfold mvN; rw [if_pos hux, hkx2]
                have hmo : (mvN T x).op = x.op ∧ (mvN T x).i = x.i ∧ (mvN T x).e = x.e ∧ (mvN T x).g = x.g := ⟨rfl, rfl, rfl, rfl⟩
                have HMY : Hid ((mvN T x).y = if usesY x.op = true then ((T.getD x.y.toNat 0 : Nat) : Int) else x.y) := Lib.hid rfl
                generalize hmv : mvN T x = y at *
                obtain ⟨yo, yi, ye, yg, yx, yy⟩ := y
                dsimp only at hmx hmo HMY
                obtain ⟨rfl, rfl, rfl, rfl⟩ := hmo
                subst hmx
                generalize T.getD kx 0 = tx at *
                have HBOy : Hid (Box (wx.setCell ⟨wr.heap.size, 4, none⟩ (.int .i64 (tx : Int))) wr.heap.size { x with x := (tx : Int) }) := Lib.hid (HBOX.out.setX (tx : Int))
                have HOy := Lib.hid (own_keep1 HOx.out (fun g hg => Below.heap_setCell wx ⟨wr.heap.size, 4, none⟩ (.int .i64 (tx : Int)) g (by have := HOL.out g hg; show g ≠ wr.heap.size; omega)))
                have HTy := Lib.hid (own_keep1 HTx.out (fun g hg => Below.heap_setCell wx ⟨wr.heap.size, 4, none⟩ (.int .i64 (tx : Int)) g (by have := HTL.out g hg; show g ≠ wr.heap.size; omega)))
                have HBy : Hid (Below w0.heap.size w0 (wx.setCell ⟨wr.heap.size, 4, none⟩ (.int .i64 (tx : Int)))) := Lib.hid (HBx.out.setCell hszr _)
                have hcty : (wx.setCell ⟨wr.heap.size, 4, none⟩ (.int .i64 (tx : Int))).cell? (adT.add kx) = some (.int .i64 (tx : Int)) := by
                  rw [World.cell?_setCell_other _ _ _ _ (fun e => by
                    have h9 := congrArg Addr.block e
                    dsimp only at h9
                    have := HTL.out adT.block rfl
                    have hb9 : (adT.add kx).block = adT.block := by unfold Addr.add; split <;> rfl
                    omega)]
                  exact hct
                clear hmv HKX hkx2 HBx
                go_wp2_with fail
                generalize wx.setCell ⟨wr.heap.size, 4, none⟩ (.int .i64 (tx : Int)) = wy at *
                clear b0 b1 b2 b3 b4 b5 bf hbf4 hct HOx HTx HBOX
                obtain ⟨b0, b1, b2, b3, b4, b5, bf⟩ := HBOy.out
                dsimp only at b0 b1 b2 b3 b4 b5
                refine (HUY.out _).mono ?_
                rintro e w2 ⟨rfl, rfl⟩
                cases huy : usesY x.op
                · rw [huy, if_neg (by decide)] at HMY
                  have hyy := HMY.out
                  subst hyy
                  clear huy HMY
                  go_wp2_with (at_builtin; (refine wp_appN (⟨x.op, x.i, x.e, x.g, (tx : Int), x.y⟩ : Nd) _ rfl _ _ rfl w0.heap.size _ _ rfl (HOy.out.alloc _) rfl ?k1 ?k2 ?k3 ?_))
                  case k1 =>
                    intro j' u hj'
                    have hh := heap_alloc_new wy (.cells (ndC (⟨x.op, x.i, x.e, x.g, (tx : Int), x.y⟩ : Nd)).toArray 62)
                    have hq := Lib.cell_of_heap hh j'
                    first
                    | (rw [← hj']; simp [ndC]; done)
                    | (rw [← hj']; simpa [ndC] using hq)
                    | (rw [hj'] at hq; exact hq)
                  case k2 => omega
                  case k3 => have := HBy.out.size; first | (simp; omega) | (simp at this ⊢; omega)
                  intro v6 w6 hown6 hgrow6
                  have HT6 := Lib.hid (own_keep1 HTy.out (fun g hg => (hgrow6.block g (by have := (HTy.out.lt g hg).2; first | (simp; omega) | (simp at this ⊢; omega)) (fun e => own_apart HTy.out HOy.out (by decide) hg e.symm)).trans (Below.heap_alloc _ _ _ (HTy.out.lt g hg).2)))
                  have HB6 : Hid (Below w0.heap.size w0 w6) := Lib.hid ((HBy.out.alloc HBy.out.size _).grown hgrow6 (by have := HBy.out.size; first | (simp; omega) | (simp at this ⊢; omega)) (fun g hg => (HOy.out.lt g hg).1))
                  have HO6 := Lib.hid hown6
                  obtain ⟨A6, c6, rfl⟩ := own_sl hown6
                  clear hown6 hgrow6
                  have hsz6 := HB6.out.size
                  go_wp2_with (at_builtin; (refine wpList_append_own _ rfl _ _ 60 rfl w0.heap.size 3 i0 (.int .i64 0) 1 8 Tryd.underlying60 hi0 hz0 hz1 hz2 rfl (by decide) _ _ _ rfl (HT6.out.alloc _) ⟨w6.heap.size, 0, none⟩ 1 1 [.int .i64 (O.length : Int)] rfl rfl ?k1 ?k2 ?k3 ?k4 ?k5 ?_))
                  case k1 =>
                    intro j u hj
                    match j, hj with
                    | 0, hj => simp at hj; subst hj; first | (simp [Addr.add]; done) | (simp [Addr.add]; omega)
                  case k2 => intro u hu; simp at hu; subst hu; rfl
                  case k3 => unfold maxLen; omega
                  case k4 => omega
                  case k5 => simp; omega
                  intro v7 w7 hown7 hgrow7 _
                  have HT7 : Hid (w7.ownsRow w0.heap.size 3 1 v7 (i + 1) (iv (T ++ [O.length]))) := Lib.hid (by rw [iv_append]; exact hown7)
                  have HO7 := Lib.hid (own_keep1 HO6.out (fun g hg => (hgrow7.block g (by have := (HO6.out.lt g hg).2; simp; omega) (fun e => own_apart HO6.out HT6.out (by decide) hg e.symm)).trans (Below.heap_alloc _ _ _ (HO6.out.lt g hg).2)))
                  have HB7 : Hid (Below w0.heap.size w0 w7) := Lib.hid ((HB6.out.alloc HB6.out.size _).grown hgrow7 (by simp; omega) (fun g hg => (HT6.out.lt g hg).1))
                  clear hown7 hgrow7
                  go_wp2
                  go_roundw
                  case rel => exact ⟨i + 1, by omega, by go_num, O ++ [(⟨x.op, x.i, x.e, x.g, (tx : Int), x.y⟩ : Nd)], T ++ [O.length], HK2, by rw [show (O ++ [(⟨x.op, x.i, x.e, x.g, (tx : Int), x.y⟩ : Nd)]).length = O.length + 1 from by simp]; exact HO7, HT7, HB7⟩
                  case measure => simp [intOf]; omega
                · rw [huy, if_pos rfl] at HMY
                  have hyy := HMY.out
                  subst hyy
                  obtain ⟨hy0, hy1⟩ := opsOk_y hop huy
                  obtain ⟨ky, hky⟩ : ∃ k : Nat, x.y = (k : Int) := ⟨x.y.toNat, by omega⟩
                  rw [hky] at b5
                  have hky2 : x.y.toNat = ky := by rw [hky]; exact Int.toNat_natCast _
                  rw [hky2] at HK2 hy1
                  have hyl := HKL.out _ hy1
                  obtain ⟨ad5, e5, _, hc5⟩ := iv_read (Reads.of_own HTy.out) hy1
                  injection e5 with e5
                  subst e5
                  have hbf5 := bf 5
                  generalize T.getD ky 0 = ty at *
                  have HBOz : Hid (Box (wy.setCell ⟨wr.heap.size, 5, none⟩ (.int .i64 (ty : Int))) wr.heap.size ⟨x.op, x.i, x.e, x.g, (tx : Int), (ty : Int)⟩) := Lib.hid (HBOy.out.setY (ty : Int))
                  have HOz := Lib.hid (own_keep1 HOy.out (fun g hg => Below.heap_setCell wy ⟨wr.heap.size, 5, none⟩ (.int .i64 (ty : Int)) g (by have := HOL.out g hg; show g ≠ wr.heap.size; omega)))
                  have HTz := Lib.hid (own_keep1 HTy.out (fun g hg => Below.heap_setCell wy ⟨wr.heap.size, 5, none⟩ (.int .i64 (ty : Int)) g (by have := HTL.out g hg; show g ≠ wr.heap.size; omega)))
                  have HBz : Hid (Below w0.heap.size w0 (wy.setCell ⟨wr.heap.size, 5, none⟩ (.int .i64 (ty : Int)))) := Lib.hid (HBy.out.setCell hszr _)
                  obtain ⟨z0, z1, z2, z3, z4, z5, zf⟩ := HBOz.out
                  dsimp only at z0 z1 z2 z3 z4 z5
                  clear huy HMY hky hky2 zf HBy HBOy HBOz
                  go_wp2_with (at_builtin; (refine wp_appN (⟨x.op, x.i, x.e, x.g, (tx : Int), (ty : Int)⟩ : Nd) _ rfl _ _ rfl w0.heap.size _ _ rfl (HOz.out.alloc _) rfl ?k1 ?k2 ?k3 ?_))
                  case k1 =>
                    intro j' u hj'
                    have hh := heap_alloc_new (wy.setCell ⟨wr.heap.size, 5, none⟩ (.int .i64 (ty : Int))) (.cells (ndC (⟨x.op, x.i, x.e, x.g, (tx : Int), (ty : Int)⟩ : Nd)).toArray 62)
                    have hq := Lib.cell_of_heap hh j'
                    rw [show (wy.setCell ⟨wr.heap.size, 5, none⟩ (.int .i64 (ty : Int))).heap.size = wy.heap.size from by simp] at hq
                    first
                    | (rw [← hj']; simp [ndC]; done)
                    | (rw [← hj']; simpa [ndC] using hq)
                    | (rw [hj'] at hq; exact hq)
                  case k2 => omega
                  case k3 => have := HBz.out.size; first | (simp; omega) | (simp at this ⊢; omega)
                  intro v6 w6 hown6 hgrow6
                  have HT6 := Lib.hid (own_keep1 HTz.out (fun g hg => (hgrow6.block g (by have := (HTz.out.lt g hg).2; first | (simp; omega) | (simp at this ⊢; omega)) (fun e => own_apart HTz.out HOz.out (by decide) hg e.symm)).trans (Below.heap_alloc _ _ _ (HTz.out.lt g hg).2)))
                  have HB6 : Hid (Below w0.heap.size w0 w6) := Lib.hid ((HBz.out.alloc HBz.out.size _).grown hgrow6 (by have := HBz.out.size; first | (simp; omega) | (simp at this ⊢; omega)) (fun g hg => (HOz.out.lt g hg).1))
                  have HO6 := Lib.hid hown6
                  obtain ⟨A6, c6, rfl⟩ := own_sl hown6
                  clear hown6 hgrow6
                  have hsz6 := HB6.out.size
                  go_wp2_with (at_builtin; (refine wpList_append_own _ rfl _ _ 60 rfl w0.heap.size 3 i0 (.int .i64 0) 1 8 Tryd.underlying60 hi0 hz0 hz1 hz2 rfl (by decide) _ _ _ rfl (HT6.out.alloc _) ⟨w6.heap.size, 0, none⟩ 1 1 [.int .i64 (O.length : Int)] rfl rfl ?k1 ?k2 ?k3 ?k4 ?k5 ?_))
                  case k1 =>
                    intro j u hj
                    match j, hj with
                    | 0, hj => simp at hj; subst hj; first | (simp [Addr.add]; done) | (simp [Addr.add]; omega)
                  case k2 => intro u hu; simp at hu; subst hu; rfl
                  case k3 => unfold maxLen; omega
                  case k4 => omega
                  case k5 => simp; omega
                  intro v7 w7 hown7 hgrow7 _
                  have HT7 : Hid (w7.ownsRow w0.heap.size 3 1 v7 (i + 1) (iv (T ++ [O.length]))) := Lib.hid (by rw [iv_append]; exact hown7)
                  have HO7 := Lib.hid (own_keep1 HO6.out (fun g hg => (hgrow7.block g (by have := (HO6.out.lt g hg).2; simp; omega) (fun e => own_apart HO6.out HT6.out (by decide) hg e.symm)).trans (Below.heap_alloc _ _ _ (HO6.out.lt g hg).2)))
                  have HB7 : Hid (Below w0.heap.size w0 w7) := Lib.hid ((HB6.out.alloc HB6.out.size _).grown hgrow7 (by simp; omega) (fun g hg => (HT6.out.lt g hg).1))
                  clear hown7 hgrow7
                  go_wp2
                  go_roundw
                  case rel => exact ⟨i + 1, by omega, by go_num, O ++ [(⟨x.op, x.i, x.e, x.g, (tx : Int), (ty : Int)⟩ : Nd)], T ++ [O.length], HK2, by rw [show (O ++ [(⟨x.op, x.i, x.e, x.g, (tx : Int), (ty : Int)⟩ : Nd)]).length = O.length + 1 from by simp]; exact HO7, HT7, HB7⟩
                  case measure => simp [intOf]; omega
          · have hin2 : n0 = i := by omega
            subst hin2
            rw [← HLN.out] at HK
            obtain ⟨k1, k2, k3, k4⟩ := HM9.out O av T HK.out
            obtain ⟨A9, c9, rfl⟩ := own_sl HO.out
            have HR9 := Lib.hid (Reads.of_own HO.out)
            have HBF : Hid (Below w.heap.size w wr) := Lib.hid (HBW.out.trans (HBR.out.mono hzw))
            have HT3 := Lib.hid (fun (W : World) (h : Below w.heap.size w W) (hr : Reads W W.heap.size 6 A9 O.length (nds O)) => HT3.out O A9 c9 W h hr k1)
            rw [k2, k4] at HT3
            rw [k3] at HT2
            clear hin HO HT HBR HK k1 k2 k3 k4 HM9
            generalize tauV f = tv at *
            cases tv
            all_goals
              go_wp2_with fail
              refine (HT2.out _ HBF.out).mono ?_
              rintro e wa ⟨rfl, hba⟩
              have HBa : Hid (Below w.heap.size w wa) := Lib.hid (HBF.out.trans (hba.mono HBF.out.size))
              have HR9 := Lib.hid (up8 HR9.out hba)
              clear hba
              go_wp2_with fail
              refine (HT3.out _ HBa.out HR9.out).mono ?_
              rintro e wb ⟨rfl, hbb⟩
              have HBb : Hid (Below w.heap.size w wb) := Lib.hid (HBa.out.trans (hbb.mono HBa.out.size))
              clear hbb
              go_wp2_with fail
              refine (awake9_any _ ((HE.out.below HBb.out).up HBb.out.size)).mono ?_
              rintro e wz ⟨rfl, hbz⟩
              have HBz := Lib.hid (HBb.out.trans (hbz.mono HBb.out.size))
              clear hbz
              go_wp2
              go_ret
              exact ⟨rfl, HBz.out⟩
      · have hmf : (((maskL fragD (compF f) : Nat) : Int) != 0) = true := by
          simp only [bne_iff_ne, ne_eq]
          exact_mod_cast hmask
        clear hmask HPM HM9
        generalize maskL fragD (compF f) = mk at *
        go_enter Tryd.func13, Tryd.ntmps13
        go_wp2_with fail
        refine (HC.out _ HB0.out).mono ?_
        rintro e w1 ⟨rfl, hb1⟩
        have HB1 : Hid (Below w.heap.size w w1) := Lib.hid (HB0.out.trans (hb1.mono HB0.out.size))
        clear hb1
        go_wp2_with fail
        refine (HA.out _ HB1.out).mono ?_
        rintro e w2 ⟨v, rfl, hll, hb2⟩
        have HB2 : Hid (Below w.heap.size w w2) := Lib.hid (HB1.out.trans (hb2.mono HB1.out.size))
        obtain ⟨A1, c1, rfl, _⟩ := hll.item
        clear hll
        clear hb2
        go_wp2_with fail
        refine (HN.out _ HB2.out).mono ?_
        rintro e w3 ⟨A3, c3, rfl, hr3, hb3⟩
        have HB3 : Hid (Below w.heap.size w w3) := Lib.hid (HB2.out.trans (hb3.mono HB2.out.size))
        have HR3 := Lib.hid hr3
        clear hr3
        clear hb3
        go_wp2_with fail
        refine (HOR.out _ _ _ HB3.out HR3.out).mono ?_
        rintro e w4 ⟨A4, c4, rfl, hr4, hb4⟩
        have HB4 : Hid (Below w.heap.size w w4) := Lib.hid (HB3.out.trans (hb4.mono HB3.out.size))
        have HR4 := Lib.hid hr4
        clear hr4
        clear hb4
        go_wp2_with fail
        refine (HT1.out _ _ _ HB4.out HR4.out).mono ?_
        rintro e w5 ⟨rfl, hb5⟩
        have HB5 : Hid (Below w.heap.size w w5) := Lib.hid (HB4.out.trans (hb5.mono HB4.out.size))
        clear hb5
        go_wp2_with fail
        refine (HFR.out _ HB5.out).mono ?_
        rintro e w6 ⟨rfl, hb6⟩
        have HB6 : Hid (Below w.heap.size w w6) := Lib.hid (HB5.out.trans (hb6.mono HB5.out.size))
        clear hb6
        go_wp2_with fail
        refine (awake9_any _ ((HE.out.below HB6.out).up HB6.out.size)).mono ?_
        rintro e wz ⟨rfl, hbz⟩
        have HBz := Lib.hid (HB6.out.trans (hbz.mono HB6.out.size))
        clear hbz
        go_wp2
        go_ret
        exact ⟨rfl, HBz.out⟩
  · have hz1 : (fErr f != 0) = true := by simpa using hz
    clear hR hn hE hm hz
    generalize fErr f = te at *
    go_enter Tryd.func13, Tryd.ntmps13
    go_wp2_with fail
    refine (HC.out _ HB0.out).mono ?_
    rintro e w1 ⟨rfl, hb1⟩
    have HB1 : Hid (Below w.heap.size w w1) := Lib.hid (HB0.out.trans (hb1.mono HB0.out.size))
    clear hb1
    go_wp2_with fail
    refine (awake9_any _ ((HE.out.below HB1.out).up HB1.out.size)).mono ?_
    rintro e wz ⟨rfl, hbz⟩
    have HBz := Lib.hid (HB1.out.trans (hbz.mono HB1.out.size))
    clear hbz
    go_wp2
    go_ret
    exact ⟨rfl, HBz.out⟩
set_option maxRecDepth 100000 in
theorem contract (H : Type) (enc : TypeId × Value → H) (W : World) (base : Nat) (args : Array Value) (ds gs : List (DataW H)) (before : List MemPlace)
    (hval : ∀ (j : Nat) t v, Tryd.f13.params[j]? = some t → args[j]? = some v → Value.okWide Tryd.prog W .any base t v)
    (hW : DataW.Whole enc Tryd.prog Tryd.f13.params.toList Rows.booleanModalSpec.vars false W args.toList ds gs before) (hE : EnvB W W.heap.size) :
    Calls Tryd.prog 13 args W fun e W' => ∃ v, e = .returned v ∧ Rows.booleanModalSpec.post enc Tryd.prog Tryd.f13 false true false false W args v W' := by
  have hW' := hW
  obtain ⟨p, q, hA0, hV, rfl, hfz, hnd⟩ := hW
  have hA : DataW.TrodAll enc Tryd.prog W 0 (fun _ => true) true Tryd.f13.params.toList args.toList ds p := hA0
  rw [Tryd.params13] at hA hval
  obtain ⟨v0, vs0, d0, ds0, p0, q0, hargs, rfl, rfl, h0, r0⟩ := trodAll_cons hA
  obtain ⟨v1, vs1, d1, ds1, p1, q1, rfl, rfl, rfl, h1, r1⟩ := trodAll_cons r0
  obtain ⟨rfl, rfl, rfl⟩ := trodAll_nil r1
  obtain rfl : args = #[v0, v1] := by cases args; simp_all
  obtain ⟨rfl, rfl⟩ := trodVars_none hV
  obtain ⟨af0, nf0, cf0, rfl⟩ := okWide_slice Tryd.underlying22 (hval 0 22 v0 rfl rfl)
  obtain ⟨f0, w0⟩ : ∃ l, NdRow W af0 nf0 cf0 l := by
    obtain ⟨fuel, hf⟩ := h0
    exact open_nodes hf
  have k0 := h0
  have lt0 : ∀ x ∈ p0, x.block < W.heap.size := by obtain ⟨m, hm⟩ := k0; exact DataW.trod_lt m _ _ _ hm
  obtain ⟨g1, rfl, rfl, rfl, w1⟩ := open_int Tryd.underlying5 (hval 1 5 v1 rfl rfl) h1
  obtain ⟨g1, rfl, hu1⟩ : ∃ n : Nat, g1 = (n : Int) ∧ n < 256 := by have hz := w1; have q1 : IntKind.u8.min = 0 := rfl; have q2 : IntKind.u8.max = 255 := rfl; simp [Lit.wf] at hz; exact ⟨g1.toNat, by omega, by omega⟩
  clear hA0
  simp only [List.append_nil] at hW'
  have hwalk := walk f0 af0 nf0 cf0 g1 hu1 W hE w0
  refine hwalk.mono fun e W' ⟨he, hg⟩ => ?_
  subst he
  exact ⟨_, rfl, _, _, _, [], _, [], hW', trodAll_mk1 (shut_bool Tryd.underlying4 _), (trodAll_cons_mk (Below.trod laidOut (by kernel_rfl) (of_decide_eq_true (by kernel_rfl)) k0 hg lt0) (trodAll_cons_mk (shut_int Tryd.underlying5 w1) trodAll_mk0)), rfl, hg.frame _, fun h => by cases h⟩
theorem reads (os : Os) {H : Type} (enc : TypeId × Value → H) : ∃ places, DataW.whole enc Tryd.prog ((laidW os).forCall (fun _ _ => 0) ⟨#[], #[.slice none 0 0, .int .u8 0], []⟩).memory Tryd.f13.params.toList Rows.booleanModalSpec.vars false #[(.slice none 0 0 : Value), (.int .u8 0 : Value)].toList 8 = some ([.nil, .lit (.int .u8 0)], [], places) :=
  ⟨[], by kernel_rfl⟩
set_option maxRecDepth 100000 in
theorem lifted (os : Os) (started : os.Started) (H : Type) (enc : TypeId × Value → H) (F : Stop.Interp) :
    ReturnsInHanded {} Tryd.checked os 13 .any ((OpenSpec.ofChange Rows.booleanModalSpec).preRow enc Tryd.prog Tryd.f13 Rows.booleanModalRow.domain false Rows.booleanModalRow.laid) (((OpenSpec.ofChange Rows.booleanModalSpec).at F).post enc Tryd.prog Tryd.f13 false true false false) := by
  obtain ⟨places, hx⟩ := reads os enc
  refine returnsInHanded_of_row (C := Tryd.checked) (s := OpenSpec.ofChange Rows.booleanModalSpec) own started (by kernel_rfl) Tryd.func13
    (witness_row_atRef (enc := enc) (C := Tryd.checked) false (laidW os) #[.slice none 0 0, .int .u8 0] (laidW_os os) (vars_ok os _) (heap_ok os _) (by kernel_rfl)
      (OpenSpec.preRow_of_cond 8 hx (by kernel_rfl) (fun k hk => by cases hk) (by kernel_rfl) (laid_met os _))) ?_
  intro W base args ds gs before hval hW _ _ _ hL hsh _
  exact contract H enc W base args ds gs before hval hW (env_of hL)
theorem said : Rows.BooleanModalSaid :=
  OpenClaim.holds_of_cond 13 Tryd.f13 rfl rfl rfl rfl rfl rfl rfl ⟨rfl, rfl, rfl, rfl, rfl⟩ rfl rfl rfl rfl rfl (by kernel_rfl) Tryd.func13 (by kernel_rfl)
    (of_decide_eq_true (by kernel_rfl)) (by unfold Func.isWrapper; first | (rw [if_pos (by decide +kernel)]; kernel_rfl) | (rw [if_neg (by decide +kernel)]; exact ⟨rfl, rfl⟩))
    (fun os started H enc _ F => by rw [OpenClaim.pre_eq_preRow]; exact lifted os started H enc F)
theorem plain (f : FuncId) (fn : Func) (hf : Tryd.pinned.checked.prog.funcNamed "witting/wittinglaw09.BooleanModal" = some f) (hfn : Tryd.pinned.checked.prog.funcs[f]? = some fn) :
    false = Tryd.pinned.checked.prog.looks [] ∧ ∀ (j : Nat) t, fn.params[j]? = some t → Tryd.pinned.checked.prog.wantsStandIn t = false := by
  obtain rfl : f = 13 := Option.some.inj ((show Tryd.prog.funcNamed "witting/wittinglaw09.BooleanModal" = some 13 by kernel_rfl).symm.trans hf) |>.symm
  obtain rfl : fn = Tryd.f13 := (Option.some.inj (Tryd.func13.symm.trans hfn)).symm
  refine ⟨no_looks, fun j t ht => ?_⟩
  rw [Tryd.params13] at ht
  have hm : t ∈ [22, 5] := by simpa using Array.mem_of_getElem? ht
  have hall : ([22, 5].all fun u => !Tryd.prog.wantsStandIn u) = true := by kernel_rfl
  exact (show Tryd.prog.wantsStandIn t = false by simpa using List.all_eq_true.1 hall t hm)
theorem card : Rows.BooleanModalCardSaid :=
  Claim7.holds_tied_plain_at .later [] _ _ _ _ said (fun _ h => by cases h) (by kernel_rfl) (fun _ h => by cases h) booleanModal_row_tie rfl ⟨rfl, rfl⟩ (by kernel_rfl) rfl plain (by kernel_rfl)
#print axioms card
end Go.Proofs.YtkkkomkljpolbaaDoor.booleanModal
