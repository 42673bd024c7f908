/- Layer 6: texts joined: Xo Xp Xq Xac. -/
import Derived.Test.YtenbhalnpiahaaaGreatDoorJf
import Derived.Test.YtenbhalnpiahaaaGreatDoorJn
import Derived.Test.YtenbhalnpiahaaaGreatDoorJy
import Derived.Test.YtenbhalnpiahaaaGreatDoorPc
import Derived.Test.YtenbhalnpiahaaaGreatDoorPd
import Derived.Test.YtenbhalnpiahaaaGreatDoorXj
import Derived.Test.YtenbhalnpiahaaaGreatDoorXk
/- Layer 7: all nodes are written. -/
namespace Go.Proofs.YtenbhalnpiahaaaGreatDoor
open Go.RowKit Go.Proofs.Ws
theorem node_any {K : QK} (hE : QE K) (hL : LayW K.w0) (ho : opsL K.l) (hX : ∀ n ∈ K.l, okX ⟨K.A, K.F, K.X, []⟩ n) : ∀ i, i < K.l.length → NodeOK K i := by
  intro i
  induction i using Nat.strongRecOn with
  | ind i ih =>
    intro hi W t h ht
    by_cases hf : 4000 < t.length
    · exact node_full h hf
    · obtain ⟨n, hn⟩ : ∃ n, K.l.getD i nd0 = n := ⟨_, rfl⟩
      have hmem : n ∈ K.l := by rw [← hn]; exact getD_mem hi
      have hx := hX n hmem
      have hk : known n.op = true := hx.1.1.1
      have hop := ho i hi
      rw [hn] at hop
      have cx : ∀ (_ : usesX n.op = true) r, OperOK K n.x.toNat r ∧ 0 ≤ n.x ∧ n.x.toNat < i := fun hu r => by
        have h1 := opsOk_x hop hu
        have h2 : n.x.toNat < K.l.length := by omega
        exact ⟨qOperand_any hE hL h2 (hX _ (getD_mem h2)).1.1.1 (ih _ h1.2 h2), h1⟩
      have cy : ∀ (_ : usesY n.op = true) r, OperOK K n.y.toNat r ∧ 0 ≤ n.y ∧ n.y.toNat < i := fun hu r => by
        have h1 := opsOk_y hop hu
        have h2 : n.y.toNat < K.l.length := by omega
        exact ⟨qOperand_any hE hL h2 (hX _ (getD_mem h2)).1.1.1 (ih _ h1.2 h2), h1⟩
      have hfi := fld_i hx.1.1
      rcases kinds hk with hq | hq | hq | hq | hq | hq | hq | hq
      · exact node_const hE hL hi hn ho hq h hf
      · have h1 := hfi.1 hq
        have h2 := hx.1.2.1 hq
        exact node_fact hE hL hi hn ho hq ⟨n.i.toNat, by omega, by dsimp only at h2; omega⟩ h hf
      · have hu : usesX n.op = true := by rcases hq with h9 | h9 | h9 <;> rw [h9] <;> rfl
        exact node_before hE hL hi hn ho hq (cx hu _).1 (cx hu 0).2 h hf
      · have hu : usesY n.op = true := by unfold MidN at hq; rcases hq with h9 | h9 | h9 | h9 | h9 | h9 <;> rw [h9] <;> rfl
        exact node_between hE hL hi hn ho hq (cx (usesY_X hu) _).1 (cx (usesY_X hu) 0).2 (cy hu _).1 (cy hu 0).2 h hf
      · have hu : usesX n.op = true := by rcases hq with h9 | h9 | h9 | h9 | h9 <;> rw [h9] <;> rfl
        exact node_agents hE hL hi hn ho hq (cx hu _).1 (cx hu 0).2 hx.1 h hf
      · have hu : usesY n.op = true := by rcases hq with h9 | h9 <;> rw [h9] <;> rfl
        have h1 := cx (usesY_X hu) 0
        exact node_if hE hL hi hn ho hq (qCond_any hE (by omega) h1.1) h1.2 (cy hu _).1 (cy hu 0).2 hx.1 h hf
      · have hu : usesY n.op = true := by rw [hq]; rfl
        exact node_ann hE hL hi hn ho hq (cx (usesY_X hu) _).1 (cx (usesY_X hu) 0).2 (cy hu _).1 (cy hu 0).2 h hf
      · have hu : usesX n.op = true := by rw [hq]; rfl
        have h2 := hx.2 hq
        have hf17 := hx.1.1
        have hr : (0 ≤ n.i ∧ n.i < 8) ∧ (0 ≤ n.e ∧ n.e < 8) := by
          obtain ⟨op, i0, e0, g0, x0, y0⟩ := n
          have hq : op = 17 := hq
          subst hq
          have h3 := hf17.2.2
          simp [rangeOk, shN, shE, shG, hasAgent, hasGroup] at h3
          exact ⟨⟨h3.1.1, h3.1.2⟩, ⟨h3.2.1, h3.2.2⟩⟩
        exact node_event hE hL hi hn ho hq (cx hu _).1 (cx hu 0).2 ⟨n.i.toNat, by omega, by dsimp only at h2; omega⟩ ⟨n.e.toNat, by omega, by omega⟩ h hf
end Go.Proofs.YtenbhalnpiahaaaGreatDoor
/- Layer 7: hasNames. -/
namespace Go.Proofs.YtenbhalnpiahaaaGreatDoor
open Go.RowKit Go.Proofs.Ws
def actB (nx : Nat) (n : Nd) : Bool := decide (n.op = 17 → n.i < (nx : Int))
theorem act_take {nx : Nat} {l : List Nd} {k : Nat} (hk : k < l.length) : (l.take (k + 1)).all (actB nx) = ((l.take k).all (actB nx) && actB nx (l.getD k nd0)) := by
  rw [List.take_add_one, List.getD_eq_getElem?_getD, List.getElem?_eq_getElem hk]
  show (l.take k ++ [l[k]]).all (actB nx) = ((l.take k).all (actB nx) && actB nx l[k])
  rw [List.all_append]
  simp only [List.all_cons, List.all_nil, Bool.and_true]
theorem act_bad {nx : Nat} {l : List Nd} {k : Nat} (hk : k < l.length) (h : actB nx (l.getD k nd0) = false) : l.all (actB nx) = false := by
  rw [List.all_eq_false]
  exact ⟨l.getD k nd0, getD_mem hk, by rw [h]; decide⟩
set_option maxRecDepth 100000 in
set_option maxHeartbeats 4000000 in
theorem pHasNames_any (a0 : Option Addr) (n0 c0 : Nat) (a1 : Option Addr) (n1 c1 : Nat) (a2 : Option Addr) (n2 c2 : Nat) (A F X : List ByteArray) (l : List Nd) (al : Option Addr) (L c : Nat) (w : World)
    (hS : SigR w w.heap.size (sv a0 n0 c0 a1 n1 c1 a2 n2 c2) A F X) (hR : Reads w w.heap.size 6 al L (nds l)) (hl : L ≤ 200) :
    Calls Tryz.prog 28 #[.agg #[.slice a0 n0 c0, .slice a1 n1 c1, .slice a2 n2 c2], .slice al L c] w fun e w' => e = .returned (.bool (l.all (actB X.length) && fitsF l (A.length : Int) (F.length : Int))) ∧ Below w.heap.size w w' := by
  have hlen := hR.nd_len
  obtain ⟨_, _, _, _, _, _, _, _, _, esv, s0, s1, s2⟩ := hS
  injection esv with esv
  have esv := congrArg Array.toList esv
  simp only [List.cons.injEq, Value.slice.injEq, and_true] at esv
  obtain ⟨⟨rfl, rfl, rfl⟩, ⟨rfl, rfl, rfl⟩, ⟨rfl, rfl, rfl⟩⟩ := esv
  have e0 := s0.1.str_len
  have e1 := s1.1.str_len
  have e2 := s2.1.str_len
  rw [e0, e1, e2]
  have HXB := Lib.hid (@boxed w a0 a1 a2 n0 c0 n1 c1 n2 c2 24)
  have HB0 : Hid (∀ W, Below (w.heap.size + 1) (w.alloc (.cells #[.slice a0 n0 c0, .slice a1 n1 c1, .slice a2 n2 c2] 24)) W → Below w.heap.size w W ∧ w.heap.size + 1 ≤ W.heap.size) := Lib.hid (fun W hW => ⟨((Below.refl _ w).alloc (Nat.le_refl _) _).trans (hW.mono (by omega)), by have := hW.size; simpa using this⟩)
  have HR := Lib.hid hR
  have HFT : Hid (∀ W, Below w.heap.size w W → Calls Tryz.prog 21 #[.slice al L c, .int .i64 (n0 : Int), .int .i64 (n1 : Int)] W fun e w' => e = .returned (.bool (fitsF l n0 n1)) ∧ Below W.heap.size W w') := Lib.hid (fun W hW => pFits_any l n0 n1 al L c W ((hR.below hW).more hW.size) (by unfold maxLen; omega))
  have hn2 : n2 ≤ 20 := s2.2.2.1
  clear s0 s1 s2 hR e0 e1 e2
  go_enter Tryz.func28, Tryz.ntmps28
  go_wp2
  generalize hw0 : w.alloc (.cells #[.slice a0 n0 c0, .slice a1 n1 c1, .slice a2 n2 c2] 24) = w0 at *
  clear hw0
  go_loopw [6, 9] (fun _ i wr => ∃ k : Nat, k ≤ L ∧ i = .int .i64 k ∧ Hid ((l.take k).all (actB n2) = true) ∧ Hid (Below (w.heap.size + 1) w0 wr)) (fun _ i _ => L - (intOf i).toNat)
  case atStart => exact ⟨0, Nat.zero_le _, rfl, Lib.hid rfl, Lib.hid (Below.refl _ _)⟩
  case round =>
    obtain ⟨k, hk, rfl, HT, HB⟩ := hrel
    by_cases hlt : k < L
    · obtain ⟨ad, rfl, hb, m0, m1, m2, m3, m4, m5⟩ := (HR.out.below (HB0.out _ HB.out).1).nd_at hlt
      have HS := Lib.hid (act_take (nx := n2) (l := l) (k := k) (by omega))
      have HBD := Lib.hid (act_bad (nx := n2) (l := l) (k := k) (by omega))
      obtain ⟨x, hx⟩ : ∃ x, l.getD k nd0 = x := ⟨_, rfl⟩
      rw [hx] at m0 m1 m2 m3 m4 m5 HS HBD
      have l1 := add_cell m1
      have l2 := add_cell m2
      have l3 := add_cell m3
      have l4 := add_cell m4
      have l5 := add_cell m5
      have HBN : Hid (∀ o, Below (w.heap.size + 1) w0 (wr.alloc o)) := Lib.hid (fun o => HB.out.alloc (HB0.out _ HB.out).2 o)
      obtain ⟨_, _, q2⟩ := HXB.out (wr.alloc (.cells #[.int .i64 x.op, .int .i64 x.i, .int .i64 x.e, .int .i64 x.g, .int .i64 x.x, .int .i64 x.y] 65)) (HBN.out _)
      clear m1 m2 m3 m4 m5 hb hx
      by_cases h17 : x.op = 17
      · by_cases hi : x.i < (n2 : Int)
        · have d1 : decide ((n2 : Int) ≤ x.i) = false := decide_eq_false (by omega)
          have HT1 : Hid ((l.take (k + 1)).all (actB n2) = true) := Lib.hid (by rw [HS.out, HT.out]; unfold actB; rw [decide_eq_true (fun _ => hi)]; rfl)
          rw [h17] at m0 q2
          clear hi HS HBD HT
          go_wp2
          go_roundw
          case rel => exact ⟨k + 1, by omega, by go_num, HT1, Lib.hid (HBN.out _)⟩
          case measure => simp [intOf]; omega
        · have d1 : decide ((n2 : Int) ≤ x.i) = true := decide_eq_true (by omega)
          have HV : Hid ((l.all (actB n2) && fitsF l (n0 : Int) (n1 : Int)) = false) := Lib.hid (by rw [HBD.out (by unfold actB; exact decide_eq_false (fun hh => hi (hh h17)))]; rfl)
          rw [h17] at m0 q2
          clear hi HS HBD HT HFT
          go_wp2
          go_ret
          exact ⟨by rw [HV.out]; rfl, (HB0.out _ (HBN.out _)).1⟩
      · have d1 : (x.op == 17) = false := by rw [beq_eq_false_iff_ne]; exact h17
        have HT1 : Hid ((l.take (k + 1)).all (actB n2) = true) := Lib.hid (by rw [HS.out, HT.out]; unfold actB; rw [decide_eq_true (fun hh => absurd hh h17)]; rfl)
        clear h17 HS HBD HT
        go_wp2
        go_roundw
        case rel => exact ⟨k + 1, by omega, by go_num, HT1, Lib.hid (HBN.out _)⟩
        case measure => simp [intOf]; omega
    · have hkn : L = k := by omega
      subst hkn
      have HV : Hid (l.all (actB n2) = true) := Lib.hid (by have := HT.out; rwa [List.take_of_length_le (by omega)] at this)
      obtain ⟨q0, q1, _⟩ := HXB.out wr HB.out
      clear HT HR hlt
      go_wp2_with fail
      refine (HFT.out _ (HB0.out _ HB.out).1).mono ?_
      rintro e w5 ⟨rfl, hb⟩
      have HB5 : Hid (Below w.heap.size w w5) := Lib.hid ((HB0.out _ HB.out).1.trans (hb.mono (by have := (HB0.out _ HB.out).2; omega)))
      clear hb
      go_wp2
      go_ret
      exact ⟨by rw [HV.out]; rfl, HB5.out⟩
end Go.Proofs.YtenbhalnpiahaaaGreatDoor
/- Layer 7: Print of the program. -/
namespace Go.Proofs.YtenbhalnpiahaaaGreatDoor
open Go.RowKit Go.Proofs.Ws
theorem comp_twice {f : List Nd} (h : fErr f = 0) : compF (compF f) = compF f := by
  have h1 := compF_ok h
  have h2 : compF (compF f) = canonF (compF f) := by unfold compF at h1 ⊢; rw [if_pos h1]
  rw [h2, compF_tree h]
  obtain ⟨hne, hl, _⟩ := fErr_ok h
  exact canonF_canT (treeAt_ok (fErr_ops h) _ _ (Nat.lt_succ_self _) (by have := List.length_pos_iff.2 hne; omega))
theorem fits_comp {f : List Nd} (h : fErr f = 0) (a b : Int) : fitsF (compF f) a b = fitsF f a b := by
  unfold fitsF
  rw [comp_twice h, h, compF_ok h]
theorem names_comp {A F X : List ByteArray} {f : List Nd} (h : fErr f = 0) : ((compF f).all (actB X.length) && fitsF (compF f) (A.length : Int) (F.length : Int)) = namedB A F X f := by
  rw [fits_comp h, Bool.and_comm]
  rfl
theorem QP.begin (K : QK) (T : TypeId) (hT : T = 54) : QP K (K.w0.alloc (.cells #[.slice K.a0 K.n0 K.c0, .slice K.a1 K.n1 K.c1, .slice K.a2 K.n2 K.c2, .slice K.al K.l.length K.cl, .pointer none, .slice none 0 0] T)) [] := by
  subst hT
  exact ⟨(Below.refl _ _).alloc (Nat.le_refl _) _, .pointer none, .slice none 0 0, heap_alloc_new K.w0 _, .inl rfl, World.ownsRow_nil _ _ _ _⟩
theorem tx_whole {A F X : List ByteArray} {f : List Nd} (h : fErr f = 0) (h3 : namedB A F X f = true) : tx A F X (compF f) ((compF f).length - 1) = textP A F X (treeAt f (f.length - 1)) := by
  obtain ⟨ht, hc, _⟩ := named_tree h h3
  unfold tx
  rw [hc, canT_tree ht]
/-- what the calls ask of the world -/
def EnvP (w : World) : Prop := EnvS w ∧ LayW w
theorem EnvP.below {w w' : World} (h : EnvP w) (hb : Below w.heap.size w w') : EnvP w' := ⟨h.1.below hb, h.2.below hb⟩
theorem ret_pair {p : ByteArray × Int} {t : ByteArray} {z : Int} (h : p = (t, z)) : Ending.returned (.tuple #[.string t, .int .i64 z]) = .returned (.tuple #[.string p.1, .int .i64 p.2]) := by rw [h]
theorem print_s {A F X : List ByteArray} {f : List Nd} (h : sigErr A F X ≠ 0) : printV A F X f = (⟨#[]⟩, sigErr A F X) := by unfold printV; rw [if_pos h]
theorem print_f {A F X : List ByteArray} {f : List Nd} (h : sigErr A F X = 0) (h2 : fErr f ≠ 0) : printV A F X f = (⟨#[]⟩, fErr f) := by unfold printV; rw [if_neg (fun e => e h), if_pos h2]
theorem print_n {A F X : List ByteArray} {f : List Nd} (h : sigErr A F X = 0) (h2 : fErr f = 0) (h3 : namedB A F X f = false) : printV A F X f = (⟨#[]⟩, 2) := by unfold printV; rw [if_neg (fun e => e h), if_neg (fun e => e h2), if_pos h3]
theorem print_l {A F X : List ByteArray} {f : List Nd} (h : sigErr A F X = 0) (h2 : fErr f = 0) (h3 : namedB A F X f = true) (h4 : 4000 < (tx A F X (compF f) ((compF f).length - 1)).length) : printV A F X f = (⟨#[]⟩, 8) := by
  rw [tx_whole h2 h3] at h4
  unfold printV; rw [if_neg (fun e => e h), if_neg (fun e => e h2), if_neg (by rw [h3]; decide), if_pos h4]
theorem print_ok {A F X : List ByteArray} {f : List Nd} (h : sigErr A F X = 0) (h2 : fErr f = 0) (h3 : namedB A F X f = true) (h4 : ¬ 4000 < (tx A F X (compF f) ((compF f).length - 1)).length) : printV A F X f = (⟨(tx A F X (compF f) ((compF f).length - 1)).toArray⟩, 0) := by
  rw [tx_whole h2 h3] at h4 ⊢
  unfold printV; rw [if_neg (fun e => e h), if_neg (fun e => e h2), if_neg (by rw [h3]; decide), if_neg h4]
theorem tx_full {A F X : List ByteArray} {f : List Nd} (h : sigErr A F X = 0) (h2 : fErr f = 0) (h3 : namedB A F X f = true) : tx A F X (compF f) ((compF f).length - 1) ≠ [] := by
  rw [tx_whole h2 h3]
  have := text_pos (NmT.of_sig h) (named_tree h2 h3).2.2
  exact List.length_pos_iff.1 this
theorem comp_okX {A F X : List ByteArray} {f : List Nd} (h3 : namedB A F X f = true) : ∀ n ∈ compF f, okX ⟨A, F, X, []⟩ n := by
  unfold namedB at h3
  rw [Bool.and_eq_true, List.all_eq_true] at h3
  exact fun n hn => ⟨fits_nodes h3.1 n hn, of_decide_eq_true (h3.2 n hn)⟩
set_option maxRecDepth 100000 in
set_option maxHeartbeats 8000000 in
theorem pPrint_any (a0 : Option Addr) (n0 c0 : Nat) (a1 : Option Addr) (n1 c1 : Nat) (a2 : Option Addr) (n2 c2 : Nat) (A F X : List ByteArray) (f : List Nd) (af : Option Addr) (nf cf : Nat) (w : World)
    (hS : SigR w w.heap.size (sv a0 n0 c0 a1 n1 c1 a2 n2 c2) A F X) (hE : EnvP w) (hR : Reads w w.heap.size 6 af nf (nds f)) (hm : nf ≤ maxLen) :
    Calls Tryz.prog 12 #[.agg #[.slice a0 n0 c0, .slice a1 n1 c1, .slice a2 n2 c2], .slice af nf cf] w fun e w' => e = .returned (.tuple #[.string (printV A F X f).1, .int .i64 (printV A F X f).2]) ∧ Below w.heap.size w w' := by
  have HX := Lib.hid (@boxed w a0 a1 a2 n0 c0 n1 c1 n2 c2 24)
  have HG : Hid (∀ W, Below (w.heap.size + 1) (w.alloc (.cells #[.slice a0 n0 c0, .slice a1 n1 c1, .slice a2 n2 c2] 24)) W → EnvP W ∧ SigR W W.heap.size (.agg #[.slice a0 n0 c0, .slice a1 n1 c1, .slice a2 n2 c2]) A F X ∧ Below w.heap.size w W ∧ w.heap.size + 1 ≤ W.heap.size ∧ Reads W W.heap.size 6 af nf (nds f)) := Lib.hid (fun W hW => by
    have h1 : Below w.heap.size w W := ((Below.refl _ w).alloc (Nat.le_refl _) _).trans (hW.mono (by omega))
    exact ⟨hE.below h1, hS.on h1, h1, by have := hW.size; simpa using this, (hR.below h1).more h1.size⟩)
  have HB0 := Lib.hid (Below.refl (w.heap.size + 1) (w.alloc (.cells #[.slice a0 n0 c0, .slice a1 n1 c1, .slice a2 n2 c2] 24)))
  have HCK := Lib.hid (pSigCheck_any _ A F X _ (HG.out _ HB0.out).2.1 (HG.out _ HB0.out).1.1)
  have HFC : Hid (∀ W, Below (w.heap.size + 1) (w.alloc (.cells #[.slice a0 n0 c0, .slice a1 n1 c1, .slice a2 n2 c2] 24)) W → Calls Tryz.prog 24 #[.slice af nf cf] W fun e w' => e = .returned (.int .i64 (fErr f)) ∧ Below W.heap.size W w') := Lib.hid (fun W hW => pCheck_any f af nf cf W (HG.out W hW).2.2.2.2 hm)
  clear hS hE hR
  by_cases hs : sigErr A F X = 0
  · rw [hs] at HCK
    by_cases hf : fErr f = 0
    · rw [hf] at HFC
      have HS0 := Lib.hid hs
      have HF0 := Lib.hid hf
      have HCO : Hid (∀ W, Hid (Below (w.heap.size + 1) (w.alloc (.cells #[.slice a0 n0 c0, .slice a1 n1 c1, .slice a2 n2 c2] 24)) W) → Calls Tryz.prog 16 #[.slice af nf cf] W fun e W' => (∃ A' c', e = .returned (.slice A' (compF f).length c') ∧ Hid (Reads W' W'.heap.size 6 A' (compF f).length (nds (compF f)) ∧ (compF f).length ≤ c')) ∧ W'.cell? ⟨w.heap.size, 0, none⟩ = some (.slice a0 n0 c0) ∧ W'.cell? ⟨w.heap.size, 1, none⟩ = some (.slice a1 n1 c1) ∧ W'.cell? ⟨w.heap.size, 2, none⟩ = some (.slice a2 n2 c2) ∧ Hid (Below (w.heap.size + 1) (w.alloc (.cells #[.slice a0 n0 c0, .slice a1 n1 c1, .slice a2 n2 c2] 24)) W')) := Lib.hid (fun W hW => by
        refine (pCompact_own f af nf cf W (HG.out W hW.out).2.2.2.2 hm).mono ?_
        rintro e w' ⟨A', c', rfl, hO, hb⟩
        have hb' := hW.out.trans (hb.mono (HG.out W hW.out).2.2.2.1)
        obtain ⟨g0, g1, g2⟩ := HX.out w' hb'
        exact ⟨⟨A', c', rfl, Lib.hid ⟨Reads.of_own hO, own_cap hO⟩⟩, g0, g1, g2, Lib.hid hb'⟩)
      clear hs hf
      go_enter Tryz.func12, Tryz.ntmps12
      go_wp2_with fail
      refine (HCK.out).mono ?_
      rintro e w1 ⟨rfl, hb⟩
      have HB1 : Hid (Below (w.heap.size + 1) (w.alloc (.cells #[.slice a0 n0 c0, .slice a1 n1 c1, .slice a2 n2 c2] 24)) w1) := Lib.hid (HB0.out.trans (hb.mono (HG.out _ HB0.out).2.2.2.1))
      clear hb HCK
      go_wp2_with fail
      refine (HFC.out _ HB1.out).mono ?_
      rintro e w2 ⟨rfl, hb⟩
      have HB2 : Hid (Below (w.heap.size + 1) (w.alloc (.cells #[.slice a0 n0 c0, .slice a1 n1 c1, .slice a2 n2 c2] 24)) w2) := Lib.hid (HB1.out.trans (hb.mono (HG.out _ HB1.out).2.2.2.1))
      clear hb HFC HB1
      obtain ⟨q0, q1, q2⟩ := HX.out w2 HB2.out
      obtain ⟨d0, d1, d2⟩ := HX.out w2.drew HB2.out.drew
      have HD2 : Hid (Below (w.heap.size + 1) (w.alloc (.cells #[.slice a0 n0 c0, .slice a1 n1 c1, .slice a2 n2 c2] 24)) w2.drew) := Lib.hid HB2.out.drew
      generalize hw0 : w.alloc (.cells #[.slice a0 n0 c0, .slice a1 n1 c1, .slice a2 n2 c2] 24) = wz at *
      clear hw0
      go_wp2_with fail
      go_region_held3 (fun W => (W.cell? ⟨w.heap.size, 0, none⟩ = some (.slice a0 n0 c0) ∧ W.cell? ⟨w.heap.size, 1, none⟩ = some (.slice a1 n1 c1) ∧ W.cell? ⟨w.heap.size, 2, none⟩ = some (.slice a2 n2 c2))) (first | assumption | (refine ⟨?_, ?_, ?_⟩ <;> first | assumption | go_keep) | go_keep)
        (first
          | (go_at_call 16; refine (HCO.out _ HD2).mono ?_; rintro e Wb ⟨⟨A', c', rfl, hR2⟩, k0, k1, k2, k3⟩))
      obtain ⟨L, hL⟩ : ∃ L, (compF f).length = L := ⟨_, rfl⟩
      have hcf := fErr_ok (compF_ok HF0.out)
      have hL200 : L ≤ 200 := by have := hcf.2.1; omega
      have hL1 : 1 ≤ L := by have := List.length_pos_iff.2 hcf.1; omega
      have HK : Hid (∃ K : QK, K = ⟨Wb, A, F, X, compF f, a0, n0, c0, a1, n1, c1, a2, n2, c2, A', c'⟩) := Lib.hid ⟨_, rfl⟩
      obtain ⟨K, hK⟩ := HK.out
      have HQ0 : Hid (QP K (Wb.alloc (.cells #[.slice a0 n0 c0, .slice a1 n1 c1, .slice a2 n2 c2, .slice A' L c', .pointer none, .slice none 0 0] 54)) []) := Lib.hid (by
        have := QP.begin K _ rfl
        rw [hK] at this ⊢
        rw [← hL]
        exact this)
      have HW0 : Hid (K.w0 = Wb ∧ K.A = A ∧ K.F = F ∧ K.X = X ∧ K.l = compF f) := Lib.hid (by rw [hK]; exact ⟨rfl, rfl, rfl, rfl, rfl⟩)
      have HKE : Hid (QE K) := Lib.hid (by
        rw [hK]
        exact ⟨(HG.out _ k3.out).2.1, HS0.out, (HG.out _ k3.out).1.1, hR2.out.1, by rw [hL]; exact hL200, hR2.out.2⟩)
      have HKL : Hid (LayW K.w0) := Lib.hid (by rw [hK]; exact (HG.out _ k3.out).1.2)
      have HCM : Hid (Below w.heap.size w Wb ∧ w.heap.size + 1 ≤ Wb.heap.size) := Lib.hid ⟨(HG.out _ k3.out).2.2.1, (HG.out _ k3.out).2.2.2.1⟩
      have HHN0 : Hid (∀ W, Below Wb.heap.size Wb W → Calls Tryz.prog 28 #[.agg #[.slice a0 n0 c0, .slice a1 n1 c1, .slice a2 n2 c2], .slice A' L c'] W fun e w' => e = .returned (.bool (namedB A F X f)) ∧ Below W.heap.size W w') := Lib.hid (fun W hW => by
        have h5 := pHasNames_any a0 n0 c0 a1 n1 c1 a2 n2 c2 A F X (compF f) A' L c' W (((HG.out _ k3.out).2.1.below hW).more hW.size) ((hL ▸ hR2.out.1).below hW |>.more hW.size) hL200
        rw [names_comp HF0.out] at h5
        exact h5)
      rw [hL]
      replace hL := Lib.hid hL
      clear hK hcf HK HCO HD2 HB2 d0 d1 d2 q0 q1 q2
      have hwb := HCM.out.2
      generalize hv : Wb.alloc (.cells #[.slice a0 n0 c0, .slice a1 n1 c1, .slice a2 n2 c2, .slice A' L c', .pointer none, .slice none 0 0] 54) = v at *
      have HBv : Hid (Below Wb.heap.size Wb v) := Lib.hid (by rw [← hv]; exact (Below.refl _ Wb).alloc (Nat.le_refl _) _)
      have HCV : Hid (∀ W, Below v.heap.size v W → W.cell? ⟨w.heap.size, 0, none⟩ = some (.slice a0 n0 c0) ∧ W.cell? ⟨w.heap.size, 1, none⟩ = some (.slice a1 n1 c1) ∧ W.cell? ⟨w.heap.size, 2, none⟩ = some (.slice a2 n2 c2) ∧ W.cell? ⟨Wb.heap.size, 3, none⟩ = some (.slice A' L c') ∧ Hid (Below v.heap.size v W)) := Lib.hid (fun W hW => by
        have h5 : Below Wb.heap.size Wb W := HBv.out.trans (hW.mono HBv.out.size)
        have h6 : v.heap[Wb.heap.size]? = some (.cells #[.slice a0 n0 c0, .slice a1 n1 c1, .slice a2 n2 c2, .slice A' L c', .pointer none, .slice none 0 0] 54 (0, 0)) := by rw [← hv]; exact heap_alloc_new Wb _
        exact ⟨(h5.cell (p := ⟨w.heap.size, 0, none⟩) (by show w.heap.size < _; omega)).trans k0, (h5.cell (p := ⟨w.heap.size, 1, none⟩) (by show w.heap.size < _; omega)).trans k1, (h5.cell (p := ⟨w.heap.size, 2, none⟩) (by show w.heap.size < _; omega)).trans k2, by
          rw [Lib.cell_of_heap ((hW.block _ (heap_lt h6)).trans h6)]; rfl, Lib.hid hW⟩)
      have HHN : Hid (Calls Tryz.prog 28 #[.agg #[.slice a0 n0 c0, .slice a1 n1 c1, .slice a2 n2 c2], .slice A' L c'] v.drew fun e W' => e = .returned (.bool (namedB A F X f)) ∧ W'.cell? ⟨w.heap.size, 0, none⟩ = some (.slice a0 n0 c0) ∧ W'.cell? ⟨w.heap.size, 1, none⟩ = some (.slice a1 n1 c1) ∧ W'.cell? ⟨w.heap.size, 2, none⟩ = some (.slice a2 n2 c2) ∧ W'.cell? ⟨Wb.heap.size, 3, none⟩ = some (.slice A' L c') ∧ Hid (Below v.heap.size v W')) := Lib.hid (by
        refine (HHN0.out _ HBv.out.drew).mono ?_
        rintro e w' ⟨he, hb⟩
        exact ⟨he, HCV.out w' ((Below.refl _ v).drew.trans hb)⟩)
      obtain ⟨d0, d1, d2, d3, d4⟩ := HCV.out v.drew (Below.refl _ v).drew
      obtain ⟨e0, e1, e2, e3, e4⟩ := HCV.out v (Below.refl _ v)
      clear k0 k1 k2 k3 HHN0 hv
      obtain ⟨bN, hbN⟩ : ∃ b, namedB A F X f = b := ⟨_, rfl⟩
      rw [hbN] at HHN
      have HBN := Lib.hid hbN
      clear hbN
      go_wp2_with fail
      go_region_held3 (fun W => (W.cell? ⟨w.heap.size, 0, none⟩ = some (.slice a0 n0 c0) ∧ W.cell? ⟨w.heap.size, 1, none⟩ = some (.slice a1 n1 c1) ∧ W.cell? ⟨w.heap.size, 2, none⟩ = some (.slice a2 n2 c2) ∧ W.cell? ⟨Wb.heap.size, 3, none⟩ = some (.slice A' L c'))) (first | assumption | (refine ⟨?_, ?_, ?_, ?_⟩ <;> first | assumption | go_keep) | go_keep)
        (first
          | (go_at_call 28; refine (HHN.out).mono ?_; rintro e W5 ⟨rfl, k0, k1, k2, k3, k4⟩))
      have HB5 : Hid (Below w.heap.size w W5) := Lib.hid ((HCM.out.1.trans (HBv.out.mono (by have := HCM.out.2; omega))).trans (k4.out.mono (by have := HBv.out.size; omega)))
      have HQ5 : Hid (QP K W5 []) := Lib.hid (HQ0.out.below k4.out)
      clear d0 d1 d2 d3 d4 e0 e1 e2 e3 e4 HHN HCV HQ0 k0 k1 k2 k4 HBv
      cases bN with
      | false =>
        have HV := Lib.hid (print_n HS0.out HF0.out HBN.out)
        clear HQ5
        go_wp2
        go_ret2
        exact ⟨ret_pair HV.out, HB5.out⟩
      | true =>
        have HN := Lib.hid (node_any HKE.out HKL.out (by rw [HW0.out.2.2.2.2]; exact fErr_ops (compF_ok HF0.out)) (by rw [HW0.out.2.1, HW0.out.2.2.1, HW0.out.2.2.2.1, HW0.out.2.2.2.2]; exact comp_okX HBN.out) (L - 1) (by rw [HW0.out.2.2.2.2, hL.out]; omega) W5 [] HQ5.out (by decide))
        rw [HW0.out.1, HW0.out.2.1, HW0.out.2.2.1, HW0.out.2.2.2.1, HW0.out.2.2.2.2] at HN
        have hcast : ((L - 1 : Nat) : Int) = (L : Int) - 1 := by omega
        rw [hcast] at HN
        have HFU := Lib.hid (fun W t (h : QP K W t) => qFull_any h)
        have HST := Lib.hid (fun W t (h : QP K W t) (h0 : t ≠ []) => qString_any h h0)
        rw [HW0.out.1] at HFU HST
        clear HQ5 hcast
        go_wp2_with fail
        refine (HN.out).mono ?_
        rintro e W6 ⟨rfl, t', hq, he, _, _⟩
        have HE := Lib.hid he.end_
        have HQ6 := Lib.hid hq
        have HB6 : Hid (Below w.heap.size w W6) := Lib.hid (HCM.out.1.trans (by have := hq.be; rw [HW0.out.1] at this; exact this.mono (by have := HCM.out.2; omega)))
        clear hq he HN HB5 k3
        go_wp2_with fail
        refine (HFU.out _ _ HQ6.out).mono ?_
        rintro e W7 ⟨rfl, hW7⟩
        subst W7
        by_cases hl : 4000 < t'.length
        · have hl2 := HE.out.1.1 hl
          rw [← hL.out] at hl2
          have HV := Lib.hid (print_l HS0.out HF0.out HBN.out hl2)
          rw [decide_eq_true hl]
          clear hl hl2 HE
          go_wp2
          go_ret2
          exact ⟨ret_pair HV.out, HB6.out⟩
        · have hl2 := fun h => hl (HE.out.1.2 h)
          have ht := HE.out.2 hl
          rw [← hL.out] at hl2 ht
          have HV := Lib.hid (print_ok HS0.out HF0.out HBN.out hl2)
          have HTF := Lib.hid (tx_full HS0.out HF0.out HBN.out)
          rw [decide_eq_false hl]
          rw [← ht] at HV HTF
          have HSS := Lib.hid (HST.out _ _ HQ6.out HTF.out)
          clear hl hl2 HE ht HFU HST
          go_wp2_with fail
          refine (HSS.out).mono ?_
          rintro e W8 ⟨rfl, hb8⟩
          have HB8 : Hid (Below w.heap.size w W8) := Lib.hid (HB6.out.trans (hb8.mono (by have := HCM.out.1.size; omega)))
          clear hb8 HSS
          go_wp2
          go_ret2
          exact ⟨ret_pair HV.out, HB8.out⟩
    · have hne : (fErr f != 0) = true := by rw [bne_iff_ne]; exact hf
      have HV := Lib.hid (print_f (X := X) hs hf)
      generalize fErr f = z at *
      clear hs hf
      go_enter Tryz.func12, Tryz.ntmps12
      go_wp2_with fail
      refine (HCK.out).mono ?_
      rintro e w1 ⟨rfl, hb⟩
      have HB1 : Hid (Below (w.heap.size + 1) (w.alloc (.cells #[.slice a0 n0 c0, .slice a1 n1 c1, .slice a2 n2 c2] 24)) w1) := Lib.hid (HB0.out.trans (hb.mono (HG.out _ HB0.out).2.2.2.1))
      clear hb HCK
      go_wp2_with fail
      refine (HFC.out _ HB1.out).mono ?_
      rintro e w2 ⟨rfl, hb⟩
      have HB2 : Hid (Below w.heap.size w w2) := Lib.hid ((HG.out _ HB1.out).2.2.1.trans (hb.mono (by have := (HG.out _ HB1.out).2.2.2.1; omega)))
      clear hb HFC HB1
      go_wp2
      go_ret2
      exact ⟨ret_pair HV.out, HB2.out⟩
  · have hne : (sigErr A F X != 0) = true := by rw [bne_iff_ne]; exact hs
    have HV := Lib.hid (print_s (f := f) hs)
    generalize sigErr A F X = z at *
    clear hs HFC
    go_enter Tryz.func12, Tryz.ntmps12
    go_wp2_with fail
    refine (HCK.out).mono ?_
    rintro e w1 ⟨rfl, hb⟩
    have HB1 : Hid (Below w.heap.size w w1) := Lib.hid ((HG.out _ HB0.out).2.2.1.trans (hb.mono (by have := (HG.out _ HB0.out).2.2.2.1; omega)))
    clear hb HCK
    go_wp2
    go_ret2
    exact ⟨ret_pair HV.out, HB1.out⟩
end Go.Proofs.YtenbhalnpiahaaaGreatDoor
/- Layer 7: lists of names that come in; few. -/
namespace Go.Proofs.YtenbhalnpiahaaaGreatDoor
open Go.RowKit Go.Proofs.Ws
/-- a list of names as it comes in: any length, any sizes -/
def SLw (w : World) (B : Nat) (a : Option Addr) (n _c : Nat) (l : List ByteArray) : Prop :=
  Reads w B 1 a n (ss l) ∧ (∀ x ∈ l, x.size ≤ maxLen) ∧ n ≤ maxLen
def fewS (n0 n1 n2 : Nat) : Bool := decide (n0 ≤ 12) && decide (n1 ≤ 12) && decide (n2 ≤ 12)
def fewP (n n0 n1 n2 : Nat) : Bool := decide (n ≤ 60) && fewS n0 n1 n2
set_option maxRecDepth 100000 in
theorem kFewP_any (a0 a1 a2 : Option Addr) (n0 c0 n1 c1 n2 c2 : Nat) (af : Option Addr) (nf cf : Nat) (w : World) (h0 : n0 ≤ maxLen) (h1 : n1 ≤ maxLen) (h2 : n2 ≤ maxLen) (hf : nf ≤ maxLen) :
    Calls Tryz.prog 10 #[.agg #[.slice a0 n0 c0, .slice a1 n1 c1, .slice a2 n2 c2], .slice af nf cf] w fun e w' => e = .returned (.bool (fewP nf n0 n1 n2)) ∧ Below w.heap.size w w' := by
  have HB : Hid (∀ o, Below w.heap.size w (w.alloc o)) := Lib.hid (fun o => (Below.refl _ w).alloc (Nat.le_refl _) o)
  have HF := Lib.hid (fun W => pFew_any a0 a1 a2 n0 c0 n1 c1 n2 c2 W h0 h1 h2)
  unfold maxLen at hf
  unfold sv at HF
  by_cases h : nf ≤ 60
  · have d1 : decide ((nf : Int) ≤ 60) = true := decide_eq_true (by omega)
    have d2 : decide (nf ≤ 60) = true := decide_eq_true h
    have HV : Hid (fewP nf n0 n1 n2 = (decide (n0 ≤ 12) && decide (n1 ≤ 12) && decide (n2 ≤ 12))) := Lib.hid (by unfold fewP fewS; rw [d2, Bool.true_and])
    generalize (decide (n0 ≤ 12) && decide (n1 ≤ 12) && decide (n2 ≤ 12)) = b at *
    clear h h0 h1 h2
    go_enter Tryz.func10, Tryz.ntmps10
    go_wp2_with fail
    refine (HF.out _).mono ?_
    rintro e w1 ⟨rfl, hb⟩
    have HB1 : Hid (Below w.heap.size w w1) := Lib.hid ((HB.out _).trans (hb.mono (HB.out _).size))
    clear hb
    go_wp2
    go_ret
    exact ⟨by rw [HV.out]; first | rfl | simp, HB1.out⟩
  · have d1 : decide ((nf : Int) ≤ 60) = false := decide_eq_false (by omega)
    have d2 : decide (nf ≤ 60) = false := decide_eq_false h
    have HV : Hid (fewP nf n0 n1 n2 = false) := Lib.hid (by unfold fewP; rw [d2, Bool.false_and])
    clear h h0 h1 h2
    go_enter Tryz.func10, Tryz.ntmps10
    go_wp2
    go_ret
    exact ⟨by rw [HV.out]; first | rfl | simp, by first | exact HB.out _ | exact Below.refl _ _⟩
end Go.Proofs.YtenbhalnpiahaaaGreatDoor
