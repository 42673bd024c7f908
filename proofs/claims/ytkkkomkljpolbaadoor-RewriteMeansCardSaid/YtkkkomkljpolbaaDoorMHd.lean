/- Layer 6: texts joined: Hmd Hme. -/
import Derived.Test.YtkkkomkljpolbaaDoorMHa
import Derived.Test.YtkkkomkljpolbaaDoorMJl
import Derived.Test.YtkkkomkljpolbaaDoorMQq
import Derived.Test.YtkkkomkljpolbaaDoorMRl
import Derived.Laws.BitsAllLaws
import Derived.Laws.BitsLemmas
import Derived.OpenShut
/- Layer 8 as plain mathematics: the law's truth is the semantics' truth. -/
namespace Go.Proofs.YtkkkomkljpolbaaDoor
open Go.RowKit Go.Proofs.Ws Go.Maps
set_option maxRecDepth 100000
def val (x : B4) : Int := (x.val : Int)
def toB (z : Int) : B4 := ⟨z.toNat % 16, Nat.mod_lt _ (by decide)⟩
theorem toB_val : ∀ x : B4, toB (val x) = x := by decide
def R16 (z : Int) : Prop := ∃ x : B4, z = val x
theorem R16.to {z : Int} (h : R16 z) : z = val (toB z) := by obtain ⟨x, rfl⟩ := h; rw [toB_val]
theorem R16.mk {z : Int} (h0 : 0 ≤ z) (h1 : z < 16) : R16 z := ⟨toB z, by
  show z = ((z.toNat % 16 : Nat) : Int)
  omega⟩
theorem v_not : ∀ x : B4, bits .andNot .u8 15 (val x) = val (nB x) := by decide +kernel
theorem v_and : ∀ x y : B4, bits .and .u8 (val x) (val y) = val (aB x y) := by decide +kernel
theorem v_or : ∀ x y : B4, bits .or .u8 (val x) (val y) = val (oB x y) := by decide +kernel
theorem v_iff : ∀ x y : B4, bits .andNot .u8 15 (bits .xor .u8 (val x) (val y)) = val (oB (aB x y) (aB (nB x) (nB y))) := by decide +kernel
theorem v_com : ∀ x : B4, bits .and .u8 (bits .xor .u8 IntKind.u8.max (val x)) 15 = val (nB x) := by decide +kernel
theorem v_sub : ∀ x : B4, bits .andNot .u8 (val x) 15 = 0 := by decide +kernel
theorem r16_outI (both b0 b1 : Bool) (T : Nat → Nat → Int) (s : Int) : R16 (outI both b0 b1 T s 4) := by
  unfold outI outI outI outI outI
  by_cases h0 : bits .andNot .u8 (toI both b0 b1 T 0 2) s = 0 <;> by_cases h1 : bits .andNot .u8 (toI both b0 b1 T 1 2) s = 0 <;> by_cases h2 : bits .andNot .u8 (toI both b0 b1 T 2 2) s = 0 <;> by_cases h3 : bits .andNot .u8 (toI both b0 b1 T 3 2) s = 0 <;> simp only [h0, h1, h2, h3, if_true, if_false] <;> exact R16.mk (by decide +kernel) (by decide +kernel)
theorem r16_and {z t : Int} (h : R16 z) (h0 : 0 ≤ t) (h1 : t < 256) : R16 (bits .and .u8 z t) := by
  obtain ⟨x, rfl⟩ := h
  obtain ⟨n, rfl⟩ : ∃ n : Nat, t = (n : Int) := ⟨t.toNat, by omega⟩
  have hl := Nat.and_le_left (n := x.val) (m := n)
  have hx := x.isLt
  refine ⟨⟨x.val &&& n, by omega⟩, ?_⟩
  show bits .and .u8 ((x.val : Nat) : Int) (n : Int) = _
  rw [u8_and_nat _ _ (by omega) (by omega)]
  rfl
theorem r16_low {t : Int} (h0 : 0 ≤ t) (h1 : t < 256) : R16 (bits .and .u8 t 15) := by
  rw [u8_and15 _ h0 h1]
  refine ⟨⟨(t % 16).toNat, by omega⟩, ?_⟩
  show _ = (((t % 16).toNat : Nat) : Int)
  omega
theorem r16_or {z t : Int} (h : R16 z) (k : R16 t) : R16 (bits .or .u8 z t) := by
  obtain ⟨x, rfl⟩ := h
  obtain ⟨y, rfl⟩ := k
  exact ⟨_, v_or x y⟩
/-- bytes -/
def By (T : Nat → Nat → Int) : Prop := ∀ k j, k < 4 → j < 2 → 0 ≤ T k j ∧ T k j < 256
theorem r16_step {both gb : Bool} {z t : Int} (h : R16 z) (h0 : 0 ≤ t) (h1 : t < 256) : R16 (stepTo both gb z t) := by
  unfold stepTo
  split
  · split
    · exact r16_and h h0 h1
    · exact r16_or h (r16_low h0 h1)
  · exact h
theorem r16_toI {both b0 b1 : Bool} {T : Nat → Nat → Int} (hT : By T) {k : Nat} (hk : k < 4) : ∀ j, j ≤ 2 → R16 (toI both b0 b1 T k j)
  | 0, _ => by
    unfold toI
    split
    · exact ⟨15, rfl⟩
    · exact ⟨0, rfl⟩
  | j + 1, hj => by
    unfold toI
    exact r16_step (r16_toI hT hk j (by omega)) (hT k j hk (by omega)).1 (hT k j hk (by omega)).2
theorem outI_full (both b0 b1 : Bool) {T : Nat → Nat → Int} (hT : By T) : outI both b0 b1 T 15 4 = 15 := by
  have h : ∀ k, k < 4 → bits .andNot .u8 (toI both b0 b1 T k 2) 15 = 0 := fun k hk => by
    obtain ⟨x, hx⟩ := r16_toI (both := both) (b0 := b0) (b1 := b1) hT hk 2 (Nat.le_refl _)
    rw [hx]
    exact v_sub x
  unfold outI outI outI outI outI
  simp only [h 0 (by decide), h 1 (by decide), h 2 (by decide), h 3 (by decide), if_true]
  decide +kernel
theorem r16_com {b0 b1 : Bool} {T : Nat → Nat → Int} (x y : Int) : ∀ i, R16 (comI b0 b1 T x y i)
  | 0 => ⟨15, rfl⟩
  | _i + 1 => r16_outI _ _ _ _ _
theorem com_full {b0 b1 : Bool} {T : Nat → Nat → Int} (hT : By T) {x y : B4} (h : x = 0 ∨ y = 15) : ∀ i, comI b0 b1 T (val x) (val y) i = 15
  | 0 => rfl
  | i + 1 => by
    have ih := com_full (b0 := b0) (b1 := b1) hT h i
    unfold comI
    rw [ih, v_com, show (15 : Int) = val 15 from rfl, v_and, v_or]
    have e : oB (nB x) (aB y 15) = 15 := by
      rcases h with rfl | rfl
      · rw [(aB_t y).2.1]
        exact (by decide : ∀ z : B4, oB (nB 0) z = 15) y
      · exact (by decide : ∀ z : B4, oB (nB z) (aB 15 15) = 15) x
    rw [e]
    exact outI_full _ _ _ hT
theorem r16_bit {z : Int} (h0 : 0 ≤ z) (h1 : z < 256) {k : Nat} (hk : k < 4) : R16 (shl8 (bits .and .u8 z 1) k) := by
  have e : bits .and .u8 z 1 = 0 ∨ bits .and .u8 z 1 = 1 := by
    obtain ⟨n, rfl⟩ : ∃ n : Nat, z = (n : Int) := ⟨z.toNat, by omega⟩
    rw [show (1 : Int) = ((1 : Nat) : Int) from rfl, u8_and_nat _ _ (by omega) (by omega)]
    have := Nat.and_le_right (n := n) (m := 1)
    omega
  have hk4 : k = 0 ∨ k = 1 ∨ k = 2 ∨ k = 3 := by omega
  rcases e with e | e <;> rw [e] <;> rcases hk4 with rfl | rfl | rfl | rfl <;> exact R16.mk (by decide +kernel) (by decide +kernel)
theorem sh8_ok {z : Int} (h0 : 0 ≤ z) (h1 : z < 256) (i : Nat) : 0 ≤ sh8 z i ∧ sh8 z i < 256 := by
  unfold sh8
  repeat' split
  all_goals omega
theorem r16_fa {F : Nat → Int} (hF : ∀ k, k < 4 → 0 ≤ F k ∧ F k < 256) (i : Nat) : ∀ k, k ≤ 4 → R16 (faI F i k)
  | 0, _ => ⟨0, rfl⟩
  | k + 1, hk => by
    unfold faI
    obtain ⟨h0, h1⟩ := hF k (by omega)
    obtain ⟨g0, g1⟩ := sh8_ok h0 h1 i
    exact r16_or (r16_fa hF i k (by omega)) (r16_bit g0 g1 (by omega))
def semM (F : Nat → Int) (T : Nat → Nat → Int) (hT : By T) : Go.Proofs.Ws.Sem where
  fact i := toB (faI F i.toNat 4)
  know i x := toB (afG T (gI i) false (val x))
  every g x := toB (afG T g false (val x))
  dist g x := toB (afG T g true (val x))
  com g x y := toB (coG T g (val x) (val y))
  know_t i := by
    have : afG T (gI i) false (val 15) = val 15 := outI_full _ _ _ hT
    rw [this, toB_val]
  every_t g := by
    have : afG T g false (val 15) = val 15 := outI_full _ _ _ hT
    rw [this, toB_val]
  dist_t g := by
    have : afG T g true (val 15) = val 15 := outI_full _ _ _ hT
    rw [this, toB_val]
  com_f g y := by
    have : coG T g (val 0) (val y) = val 15 := com_full hT (.inl rfl) 5
    rw [this, toB_val]
  com_t g x := by
    have : coG T g (val x) (val 15) = val 15 := com_full hT (.inr rfl) 5
    rw [this, toB_val]
theorem tr_ev {F : Nat → Int} {T : Nat → Nat → Int} (hF : ∀ k, k < 4 → 0 ≤ F k ∧ F k < 256) (hT : By T) {n : Nd} (hn : stF n) (x y : B4) : trN F T n (val x) (val y) = val (evN (semM F T hT) n x y) := by
  obtain ⟨h1, h2, _⟩ := hn
  unfold trN evN
  by_cases e1 : n.op = 1
  · rw [if_pos e1, if_pos e1]; rfl
  rw [if_neg e1, if_neg e1]
  by_cases e2 : n.op = 2
  · rw [if_pos e2, if_pos e2]; rfl
  rw [if_neg e2, if_neg e2]
  by_cases e3 : n.op = 3
  · rw [if_pos e3, if_pos e3]; exact (r16_fa hF _ 4 (Nat.le_refl _)).to
  rw [if_neg e3, if_neg e3]
  by_cases e4 : n.op = 4
  · rw [if_pos e4, if_pos e4]; exact v_not x
  rw [if_neg e4, if_neg e4]
  by_cases e5 : n.op = 5
  · rw [if_pos e5, if_pos e5]; exact v_and x y
  rw [if_neg e5, if_neg e5]
  by_cases e6 : n.op = 6
  · rw [if_pos e6, if_pos e6]; exact v_or x y
  rw [if_neg e6, if_neg e6]
  by_cases e7 : n.op = 7
  · rw [if_pos e7, if_pos e7, v_not]; exact v_or _ y
  rw [if_neg e7, if_neg e7]
  by_cases e8 : n.op = 8
  · rw [if_pos e8, if_pos e8]; exact v_iff x y
  rw [if_neg e8, if_neg e8]
  by_cases e9 : n.op = 9
  · rw [if_pos e9, if_pos e9]; exact (r16_outI _ _ _ _ _).to
  rw [if_neg e9, if_neg e9]
  by_cases e10 : n.op = 10
  · rw [if_pos e10, if_pos e10, v_not]
    have h := (r16_outI false (b0G (gI n.i)) (b1G (gI n.i)) T (val (nB x))).to
    show bits .andNot .u8 15 (outI false (b0G (gI n.i)) (b1G (gI n.i)) T (val (nB x)) 4) = _
    rw [h, v_not]
    rfl
  rw [if_neg e10, if_neg e10]
  by_cases e11 : n.op = 11
  · rw [if_pos e11, if_pos e11]; exact (r16_outI _ _ _ _ _).to
  rw [if_neg e11, if_neg e11]
  by_cases e12 : n.op = 12
  · rw [if_pos e12, if_pos e12]; exact (r16_outI _ _ _ _ _).to
  rw [if_neg e12, if_neg e12, if_pos (by omega)]
  exact (r16_com _ _ 5).to
theorem getD_val (l : List B4) (k : Nat) : (l.map val).getD k 0 = val (l.getD k 0) := by
  rw [List.getD_eq_getElem?_getD, List.getElem?_map, List.getD_eq_getElem?_getD]
  cases l[k]? with
  | none => rfl
  | some x => rfl
theorem trL_ev {F : Nat → Int} {T : Nat → Nat → Int} (hF : ∀ k, k < 4 → 0 ≤ F k ∧ F k < 256) (hT : By T) {q : List Nd} (hq : ∀ n ∈ q, stF n) : ∀ i, i ≤ q.length → trL F T q i = (evL (semM F T hT) q i).map val
  | 0, _ => rfl
  | i + 1, hi => by
    have ih := trL_ev hF hT hq i (by omega)
    have hn := hq _ (getD_mem (show i < q.length by omega))
    show trL F T q i ++ [_] = (evL (semM F T hT) q i ++ [_]).map val
    rw [List.map_append, ih]
    congr 1
    show [_] = [_]
    congr 1
    have e : ∀ (c : Prop) [Decidable c] (k : Nat), (if c then ((evL (semM F T hT) q i).map val).getD k 0 else 0) = val (if c then (evL (semM F T hT) q i).getD k 0 else 0) := fun c _ k => by
      split
      · exact getD_val _ _
      · rfl
    rw [e, e]
    exact tr_ev hF hT hn _ _
/-- the law's truth of a formula -/
theorem tr_last {F : Nat → Int} {T : Nat → Nat → Int} (hF : ∀ k, k < 4 → 0 ≤ F k ∧ F k < 256) (hT : By T) {f : List Nd} (hz : fErr f = 0) (hs : ∀ n ∈ compF f, stF n) : (trL F T (compF f) (compF f).length).getD ((compF f).length - 1) 0 = val (evT (semM F T hT) (tOf f)) := by
  have hk := compF_ok hz
  have hp := List.length_pos_iff.2 (fErr_ok hk).1
  have ho := fErr_ops hk
  rw [trL_ev hF hT hs _ (Nat.le_refl _), getD_val, evL_at _ ho _ (Nat.le_refl _) _ (by omega), ← tOf_comp hz]
  rfl
theorem f8_st_const {op : Int} (h : op = 1 ∨ op = 2) : trAll stF (cT op) := by
  rcases h with rfl | rfl
  · exact (by unfold stF opN; decide : stF (opN 1))
  · exact (by unfold stF opN; decide : stF (opN 2))
theorem f8_st_not {a : Tr} (h : trAll stF a) : trAll stF (notT a) := ⟨(by unfold stF opN; decide : stF (opN 4)), h⟩
theorem f8_st_join {op : Int} (ho : op = 5 ∨ op = 6) {a b : Tr} (h : trAll stF a) (k : trAll stF b) : trAll stF (jT op a b) := by
  rcases ho with rfl | rfl
  · exact ⟨(by unfold stF opN; decide : stF (opN 5)), h, k⟩
  · exact ⟨(by unfold stF opN; decide : stF (opN 6)), h, k⟩
theorem f8_st_neg {a : Tr} (h : trAll stF a) : trAll stF (negT a) := by
  cases a with
  | leaf n => exact f8_st_not h
  | bin n a b => exact f8_st_not h
  | un n a =>
    show trAll stF (if n.op = 4 then a else notT (.un n a))
    split
    · exact h.2
    · exact f8_st_not h
theorem f8_st_mk {n : Nd} (hn : stF n) {a b : Tr} (hx : usesX n.op = true → trAll stF a) (hy : usesY n.op = true → trAll stF b) : trAll stF (mkT n a b) := by
  unfold mkT
  split
  · rename_i h
    exact ⟨hn, hx (usesY_X h), hy h⟩
  · split
    · rename_i h2
      exact ⟨hn, hx h2⟩
    · exact hn
theorem f8_ifS {c : Prop} [Decidable c] {s t : Tr} (h : c → trAll stF s) (k : ¬ c → trAll stF t) : trAll stF (if c then s else t) := ifOr (P := trAll stF) h k
theorem f8_st_sim {n : Nd} (hn : stF n) {a b : Tr} (hx : usesX n.op = true → trAll stF a) (hy : usesY n.op = true → trAll stF b) : trAll stF (simT n a b) := by
  have hm := f8_st_mk hn hx hy
  have jn : ∀ (ne de : Int), (de = 1 ∨ de = 2) → trAll stF a → trAll stF b → trAll stF (sJoinT n ne de a b) := fun ne de hd ha hb =>
    f8_ifS (fun _ => f8_st_const hd) fun _ => f8_ifS (fun _ => hb) fun _ => f8_ifS (fun _ => ha) fun _ => f8_ifS (fun _ => f8_st_const hd) fun _ => hm
  unfold simT
  refine f8_ifS (fun e => ?_) fun _ => f8_ifS (fun e => ?_) fun _ => f8_ifS (fun e => ?_) fun _ => f8_ifS (fun e => ?_) fun _ => f8_ifS (fun e => ?_) fun _ => f8_ifS (fun e => ?_) fun _ => f8_ifS (fun e => ?_) fun _ => f8_ifS (fun e => ?_) fun _ => f8_ifS (fun _ => ?_) fun _ => hm
  · have ha := hx (by rw [e]; decide)
    exact f8_ifS (fun _ => f8_st_const (.inr rfl)) fun _ => f8_ifS (fun _ => f8_st_const (.inl rfl)) fun _ => f8_st_neg ha
  · exact jn 1 2 (.inr rfl) (hx (by rw [e]; decide)) (hy (by rw [e]; decide))
  · exact jn 2 1 (.inl rfl) (hx (by rw [e]; decide)) (hy (by rw [e]; decide))
  · have ha := hx (by rw [e]; decide)
    have hb := hy (by rw [e]; decide)
    exact f8_ifS (fun _ => f8_st_const (.inl rfl)) fun _ => f8_ifS (fun _ => hb) fun _ => f8_ifS (fun _ => f8_st_neg ha) fun _ => hm
  · have ha := hx (by rw [e]; decide)
    have hb := hy (by rw [e]; decide)
    exact f8_ifS (fun _ => f8_st_const (.inl rfl)) fun _ => f8_ifS (fun _ => f8_st_const (.inr rfl)) fun _ => f8_ifS (fun _ => hb) fun _ => f8_ifS (fun _ => ha) fun _ => f8_ifS (fun _ => f8_st_neg hb) fun _ => f8_ifS (fun _ => f8_st_neg ha) fun _ => hm
  · exact f8_ifS (fun _ => hx (by rw [e]; decide)) fun _ => hm
  · have ha := hx (by
      unfold boxOp at e
      unfold usesX
      simp only [Bool.or_eq_true, Bool.and_eq_true, decide_eq_true_eq] at e ⊢
      omega)
    exact f8_ifS (fun _ => ha) fun _ => hm
  · exact f8_ifS (fun _ => hy (by rw [e]; decide)) fun _ => f8_ifS (fun _ => f8_st_const (.inl rfl)) fun _ => hm
  · exact f8_ifS (fun _ => f8_st_const (.inl rfl)) fun _ => hm
theorem f8_st_wih {a b : Tr} (ha : trAll stF a) (hb : trAll stF b) : trAll stF (wihT a b) := f8_st_not (f8_st_join (.inl rfl) ha (f8_st_not hb))
theorem f8_st_core {n : Nd} (hn : stF n) {a b : Tr} (hx : usesX n.op = true → trAll stF a) (hy : usesY n.op = true → trAll stF b) : trAll stF (coreT n a b) := by
  unfold coreT
  refine f8_ifS (fun e => ?_) fun _ => f8_ifS (fun e => ?_) fun _ => f8_ifS (fun e => ?_) fun _ => f8_ifS (fun e => ?_) fun _ => f8_ifS (fun e => ?_) fun _ => f8_st_mk hn hx hy
  · exact f8_st_not (f8_st_const (.inr rfl))
  · exact f8_st_wih (f8_st_not (hx (by rw [e]; decide))) (hy (by rw [e]; decide))
  · exact f8_st_wih (hx (by rw [e]; decide)) (hy (by rw [e]; decide))
  · have ha := hx (by rw [e]; decide)
    have hb := hy (by rw [e]; decide)
    exact f8_st_join (.inl rfl) (f8_st_wih ha hb) (f8_st_wih hb ha)
  · exact f8_st_not ⟨⟨(by show (1 : Int) ≤ 9; decide), (by show (9 : Int) ≤ 13; decide), fun k => absurd (show (9 : Int) = 3 from k) (by decide), fun _ => hn.2.2.2.1 (.inr e), fun k => absurd (show (11 : Int) ≤ 9 from k) (by decide)⟩, f8_st_not (hx (by rw [e]; decide))⟩
theorem f8_mapT_st {R : Nd → Tr → Tr → Tr} (hR : ∀ (n : Nd) (a b : Tr), stF n → (usesX n.op = true → trAll stF a) → (usesY n.op = true → trAll stF b) → trAll stF (R n a b)) : ∀ (t : Tr), trOk t → trAll stF t → trAll stF (mapT R t)
  | .leaf n, ⟨h1, h2, _⟩, hs => hR n noT noT hs (fun k => by rw [h1] at k; cases k) (fun k => by rw [h2] at k; cases k)
  | .un n a, ⟨_, h2, _, h5⟩, hs => hR n _ noT hs.1 (fun _ => f8_mapT_st hR a h5 hs.2) (fun k => by rw [h2] at k; cases k)
  | .bin n a b, ⟨_, _, _, h5, h7⟩, hs => hR n _ _ hs.1 (fun _ => f8_mapT_st hR a h5 hs.2.1) (fun _ => f8_mapT_st hR b h7 hs.2.2)
theorem f8_sim_static {t : Tr} (h : trOk t) (hs : trAll stF t) : trAll stF (mapT simT t) := f8_mapT_st (fun _ _ _ k1 k2 k3 => f8_st_sim k1 k2 k3) t h hs
theorem f8_core_static {t : Tr} (h : trOk t) (hs : trAll stF t) : trAll stF (mapT coreT t) := f8_mapT_st (fun _ _ _ k1 k2 k3 => f8_st_core k1 k2 k3) t h hs
theorem f8_dual_st {n : Nd} (hn : stF n) (h : dualOf n.op ≠ 0) : stF { n with op := dualOf n.op } := by
  obtain ⟨h1, h2, h3, h4, h5⟩ := hn
  have hop : n.op = 1 ∨ n.op = 2 ∨ n.op = 5 ∨ n.op = 6 ∨ n.op = 9 ∨ n.op = 10 := by
    unfold dualOf at h
    by_cases a1 : n.op = 1
    · exact .inl a1
    by_cases a2 : n.op = 2
    · exact .inr (.inl a2)
    by_cases a3 : n.op = 5
    · exact .inr (.inr (.inl a3))
    by_cases a4 : n.op = 6
    · exact .inr (.inr (.inr (.inl a4)))
    by_cases a5 : n.op = 9
    · exact .inr (.inr (.inr (.inr (.inl a5))))
    by_cases a6 : n.op = 10
    · exact .inr (.inr (.inr (.inr (.inr a6))))
    rw [if_neg a1, if_neg a2, if_neg a3, if_neg a4, if_neg a5, if_neg a6] at h
    exact absurd rfl h
  have hd : dualOf n.op = 2 ∨ dualOf n.op = 1 ∨ dualOf n.op = 6 ∨ dualOf n.op = 5 ∨ ((n.op = 9 ∨ n.op = 10) ∧ (dualOf n.op = 10 ∨ dualOf n.op = 9)) := by
    rcases hop with e | e | e | e | e | e
    · exact .inl (by rw [e]; decide)
    · exact .inr (.inl (by rw [e]; decide))
    · exact .inr (.inr (.inl (by rw [e]; decide)))
    · exact .inr (.inr (.inr (.inl (by rw [e]; decide))))
    · exact .inr (.inr (.inr (.inr ⟨.inl e, .inl (by rw [e]; decide)⟩)))
    · exact .inr (.inr (.inr (.inr ⟨.inr e, .inr (by rw [e]; decide)⟩)))
  unfold stF
  show 1 ≤ dualOf n.op ∧ dualOf n.op ≤ 13 ∧ (dualOf n.op = 3 → _) ∧ (dualOf n.op = 9 ∨ dualOf n.op = 10 → n.i = 0 ∨ n.i = 1) ∧ (11 ≤ dualOf n.op → n.g = 1 ∨ n.g = 2 ∨ n.g = 3)
  rcases hd with e | e | e | e | ⟨e0, e⟩
  · rw [e]; exact ⟨by decide, by decide, fun k => absurd k (by decide), fun k => absurd k (by decide), fun k => absurd k (by decide)⟩
  · rw [e]; exact ⟨by decide, by decide, fun k => absurd k (by decide), fun k => absurd k (by decide), fun k => absurd k (by decide)⟩
  · rw [e]; exact ⟨by decide, by decide, fun k => absurd k (by decide), fun k => absurd k (by decide), fun k => absurd k (by decide)⟩
  · rw [e]; exact ⟨by decide, by decide, fun k => absurd k (by decide), fun k => absurd k (by decide), fun k => absurd k (by decide)⟩
  · have hi := h4 e0
    refine ⟨by omega, by omega, fun k => by omega, fun _ => hi, fun k => by omega⟩
theorem f8_st_nf {n : Nd} (hn : stF n) {a b : Tr × Tr} (hx : usesX n.op = true → trAll stF a.1 ∧ trAll stF a.2) (hy : usesY n.op = true → trAll stF b.1 ∧ trAll stF b.2) : trAll stF (nfPos n a b) ∧ trAll stF (nfNeg n a b) := by
  have h1 : trAll stF (nfPos n a b) := by
    unfold nfPos
    refine f8_ifS (fun e => ?_) fun _ => f8_ifS (fun e => ?_) fun _ => f8_ifS (fun e => ?_) fun _ => f8_st_mk hn (fun k => (hx k).1) (fun k => (hy k).1)
    · exact (hx (by rw [e]; decide)).2
    · exact f8_st_join (.inr rfl) (hx (by rw [e]; decide)).2 (hy (by rw [e]; decide)).1
    · have h1 := hx (by rw [e]; decide)
      have h2 := hy (by rw [e]; decide)
      exact f8_st_join (.inl rfl) (f8_st_join (.inr rfl) h1.2 h2.1) (f8_st_join (.inr rfl) h1.1 h2.2)
  refine ⟨h1, ?_⟩
  unfold nfNeg
  refine f8_ifS (fun e => ?_) fun _ => f8_ifS (fun e => ?_) fun _ => f8_ifS (fun e => ?_) fun _ => f8_ifS (fun e => ?_) fun _ => f8_st_not h1
  · exact (hx (by rw [e]; decide)).1
  · exact f8_st_join (.inl rfl) (hx (by rw [e]; decide)).1 (hy (by rw [e]; decide)).2
  · have h1 := hx (by rw [e]; decide)
    have h2 := hy (by rw [e]; decide)
    exact f8_st_join (.inr rfl) (f8_st_join (.inl rfl) h1.1 h2.2) (f8_st_join (.inl rfl) h1.2 h2.1)
  · have hu := dual_uses e
    exact f8_st_mk (n := { n with op := dualOf n.op }) (f8_dual_st hn e) (fun k => (hx (by rw [← hu.1]; exact k)).2) (fun k => (hy (by rw [← hu.2]; exact k)).2)
theorem f8_nf_static : ∀ (t : Tr), trOk t → trAll stF t → trAll stF (nfT t).1 ∧ trAll stF (nfT t).2
  | .leaf n, ⟨h1, h2, _⟩, hs => f8_st_nf hs (fun k => by rw [h1] at k; cases k) (fun k => by rw [h2] at k; cases k)
  | .un n a, ⟨_, h2, _, h5⟩, hs => f8_st_nf hs.1 (fun _ => f8_nf_static a h5 hs.2) (fun k => by rw [h2] at k; cases k)
  | .bin n a b, ⟨_, _, _, h5, h7⟩, hs => f8_st_nf hs.1 (fun _ => f8_nf_static a h5 hs.2.1) (fun _ => f8_nf_static b h7 hs.2.2)
theorem f8_stN {n : Nd} (h : stF n) : stN n := ⟨h.1, h.2.1⟩
theorem f8_all {t : Tr} (h : trAll stF t) : trAll stN t := by
  induction t with
  | leaf n => exact f8_stN h
  | un n a ih => exact ⟨f8_stN h.1, ih h.2⟩
  | bin n a b ih ih2 => exact ⟨f8_stN h.1, ih h.2.1, ih2 h.2.2⟩
/-- the nodes of a canonical list are those of its tree -/
theorem f8_list {t : Tr} (ht : trOk t) (hs : trAll stF t) : ∀ n ∈ canT t, stF n := fun n hn => by
  obtain ⟨j, hj, rfl⟩ := List.getElem_of_mem hn
  have h1 := trAll_root (trAll_sub (canT_sub ht hj) hs)
  rw [rootN_at (canT_ops ht) hj, List.getD_eq_getElem?_getD, List.getElem?_eq_getElem hj] at h1
  exact h1
theorem f8_tree {f : List Nd} (hz : fErr f = 0) (hs : ∀ n ∈ compF f, stF n) : trAll stF (tOf f) := by
  have hk := compF_ok hz
  have ho := fErr_ops hk
  rw [← tOf_comp hz]
  exact treeAt_all ho (fun n hn => hs n hn) _ _ (Nat.lt_succ_self _) (by have := List.length_pos_iff.2 (fErr_ok hk).1; omega)
end Go.Proofs.YtkkkomkljpolbaaDoor
/- Layer 8: what the law RewriteMeans asks of a formula, and what it gives. -/
namespace Go.Proofs.YtkkkomkljpolbaaDoor
open Go.RowKit Go.Proofs.Ws Go.Maps
set_option maxRecDepth 100000
theorem maskL_ge (g : Nd → Nat) (l : List Nd) (n : Nd) (hn : n ∈ l) : g n ≤ maskL g l := by
  have key : ∀ (l : List Nd) (a : Nat), a ≤ l.foldl (fun m n => m ||| g n) a ∧ ∀ n ∈ l, g n ≤ l.foldl (fun m n => m ||| g n) a := by
    intro l
    induction l with
    | nil => intro a; exact ⟨Nat.le_refl _, fun n hn => absurd hn (by simp)⟩
    | cons x l ih =>
      intro a
      obtain ⟨h1, h2⟩ := ih (a ||| g x)
      refine ⟨Nat.le_trans Nat.left_le_or h1, fun n hn => ?_⟩
      rcases List.mem_cons.1 hn with rfl | hn
      · exact Nat.le_trans Nat.right_le_or h1
      · exact h2 n hn
  exact (key l 0).2 n hn
theorem fr_small : ∀ m : Fin 512, bits .andNot .i64 ((m.val : Nat) : Int) 15 = 0 → m.val < 16 := by decide +kernel
theorem ag_small : ∀ m : Fin 16, belowM m.val 2 = true → m.val < 4 := by decide +kernel
theorem frag13 (op : Int) (hk : known op = true) (h : fragN op < 16) : 1 ≤ op ∧ op ≤ 13 := by
  rcases known_cases op hk with rfl | rfl | rfl | rfl | rfl | rfl | rfl | rfl | rfl | rfl | rfl | rfl | rfl | rfl | rfl | rfl | rfl | rfl | rfl | rfl | rfl
  all_goals first | exact ⟨by decide, by decide⟩ | exact absurd h (by decide)
theorem stF_of {f : List Nd} (hfit : fitsF f 2 8 = true) (hfr : bits .andNot .i64 ((maskL fragD (compF f) : Nat) : Int) 15 = 0) : fErr f = 0 ∧ ∀ n ∈ compF f, stF n := by
  unfold fitsF at hfit
  simp only [Bool.and_eq_true, decide_eq_true_eq] at hfit
  obtain ⟨hz, hag, _⟩ := hfit
  refine ⟨hz, fun n hn => ?_⟩
  have hm : maskL fragD (compF f) < 512 := maskL_lt _ _ (fun x _ => fragN_lt _)
  have h16 := fr_small ⟨_, hm⟩ hfr
  have ha4 := ag_small ⟨_, agentM_16 f⟩ hag
  have hfl := compF_fld f n hn
  obtain ⟨f1, f2, f3, f4⟩ := fld_i hfl
  have g1 := Nat.lt_of_le_of_lt (maskL_ge fragD _ n hn) h16
  have g2 := Nat.lt_of_le_of_lt (maskL_ge agentD _ n hn) ha4
  obtain ⟨k1, k2⟩ := frag13 n.op hfl.1 g1
  refine ⟨k1, k2, f1, fun h => ?_, fun h => ?_⟩
  · have h1 : hasAgent n.op = true := by rcases h with e | e <;> (rw [e]; decide)
    obtain ⟨i0, i4⟩ := f2 h1
    unfold agentD at g2
    rw [if_pos h1] at g2
    have hi : n.i = 0 ∨ n.i = 1 ∨ n.i = 2 ∨ n.i = 3 := by omega
    rcases hi with e | e | e | e
    · exact .inl e
    · exact .inr e
    · rw [e] at g2; exact absurd g2 (by decide)
    · rw [e] at g2; exact absurd g2 (by decide)
  · have h1 : hasGroup n.op = true := by unfold hasGroup; simp; omega
    have h2 : ¬ hasAgent n.op = true := by unfold hasAgent; simp; omega
    obtain ⟨j0, j1⟩ := f3 h1
    unfold agentD at g2
    rw [if_neg h2] at g2
    omega
theorem hm_can {t : Tr} (h : AllOk t) (hl : (canT t).length ≤ 200) : fErr (canT t) = 0 ∧ compF (canT t) = canT t := by
  have e := canT_good h hl
  refine ⟨e, ?_⟩
  have := compF_tree e
  rw [show treeAt (canT t) ((canT t).length - 1) = t from canT_tree h.1] at this
  exact this
/-- a rewritten formula: too long, or one whose truth is known -/
def ResM (M : Go.Proofs.Ws.Sem) (x : List Nd) (er : Int) (v : B4) : Prop := (er = 8 ∧ x = []) ∨ (er = 0 ∧ fErr x = 0 ∧ x.length ≤ 200 ∧ (∀ n ∈ compF x, stF n) ∧ evT M (tOf x) = v)
theorem res_of (M : Go.Proofs.Ws.Sem) {t : Tr} (h : AllOk t) (hs : trAll stF t) : ResM M (resL t) (resE t) (evT M t) := by
  unfold resE
  by_cases hl : 200 < (canT t).length
  · rw [if_pos hl]
    exact .inl ⟨rfl, resL_nil.2 hl⟩
  · rw [if_neg hl, resL_short (by omega)]
    have hc := hm_can h (by omega)
    refine .inr ⟨rfl, hc.1, by omega, ?_, by rw [tOf_canT h.1]⟩
    rw [hc.2]
    exact f8_list h.1 hs
structure MeansOf (M : Go.Proofs.Ws.Sem) (f : List Nd) (v : B4) : Prop where
  nnf : ResM M (mapF (fun t => (nfT t).1) f) (mapE (fun t => (nfT t).1) f) v
  core : ResM M (mapF (mapT coreT) f) (mapE (mapT coreT) f) v
  sim : ResM M (mapF (mapT simT) f) (mapE (mapT simT) f) v ∧ mapE (mapT simT) f = 0
  neg : ResM M (mapF negT f) (mapE negT f) (nB v) ∧ mapE negT f = 0
theorem means_of (M : Go.Proofs.Ws.Sem) {f : List Nd} (hz : fErr f = 0) (h30 : f.length ≤ 30) (hs : ∀ n ∈ compF f, stF n) : MeansOf M f (evT M (tOf f)) := by
  have ha := tOf_all hz
  have ht := f8_tree hz hs
  have hN := f8_all ht
  have hlen : (canT (tOf f)).length ≤ 30 := by
    have e : compF f = canT (tOf f) := compF_tree hz
    rw [← e]
    exact Nat.le_trans (compF_le f) h30
  have eF : ∀ T : Tr → Tr, mapF T f = resL (T (tOf f)) := fun T => if_pos hz
  have eE : ∀ T : Tr → Tr, mapE T f = resE (T (tOf f)) := fun T => if_pos hz
  have hsim : (canT (mapT simT (tOf f))).length ≤ 30 := by
    have hk := compF_ok hz
    have ok := OkL_of hk
    have hp := List.length_pos_iff.2 ok.ne
    have e2 : mapT simT (tOf f) = mapT simT (treeAt (compF f) ((compF f).length - 1)) := by rw [← tOf_comp hz]; rfl
    rw [e2]
    have h1 := sim_part ok.ops (show (compF f).length - 1 < (compF f).length by omega)
    have h2 := compF_le f
    omega
  refine ⟨?_, ?_, ⟨?_, ?_⟩, ⟨?_, ?_⟩⟩
  · rw [eF, eE, ← (nf_means M (tOf f) ha.1 hN).1]
    exact res_of M (nfT_all _ ha).1 (f8_nf_static _ ha.1 ht).1
  · rw [eF, eE, ← core_means M (tOf f) ha.1 hN]
    exact res_of M (mapT_all core_keep _ ha) (f8_core_static ha.1 ht)
  · rw [eF, eE, ← sim_means M (tOf f) ha hN]
    exact res_of M (mapT_all sim_keep _ ha) (f8_sim_static ha.1 ht)
  · rw [eE]; unfold resE; rw [if_neg (by omega)]
  · rw [eF, eE, ← ev_neg M ha]
    exact res_of M (all_neg ha) (f8_st_neg ht)
  · rw [eE]; unfold resE; have := neg_len ha; rw [if_neg (by omega)]
/-- the law's second argument -/
theorem trod_u8 {H : Type} {enc : TypeId × Value → H} {W : World} {fuel : Nat} {c : Value} {y : DataW H × List MemPlace} (h : DataW.trod enc Tryd.prog W 0 (fun _ => true) true fuel 5 [c] = some y) : ∃ z : Int, c = .int .u8 z ∧ 0 ≤ z ∧ z < 256 := by
  cases fuel with
  | zero => simp [DataW.trod] at h
  | succ m =>
    unfold DataW.trod at h
    rw [Tryd.underlying5] at h
    split at h
    all_goals try (simp_all; done)
    rename_i k k' n e1 e2
    simp only [Option.some.injEq, TypeDesc.int.injEq] at e1
    simp only [List.cons.injEq, and_true] at e2
    subst e1
    by_cases hw : k' = IntKind.u8 ∧ (Lit.int .u8 n).wf = true
    · obtain ⟨rfl, h2⟩ := hw
      have := bounds_u8 h2
      exact ⟨n, e2, this.1, by omega⟩
    · rw [if_neg hw] at h
      cases h
theorem len12 {α : Type} (l : List α) (h : l.length = 12) : ∃ a0 a1 a2 a3 a4 a5 a6 a7 a8 a9 a10 a11, l = [a0, a1, a2, a3, a4, a5, a6, a7, a8, a9, a10, a11] := by
  match l, h with
  | [a0, a1, a2, a3, a4, a5, a6, a7, a8, a9, a10, a11], _ => exact ⟨a0, a1, a2, a3, a4, a5, a6, a7, a8, a9, a10, a11, rfl⟩
theorem trod_some {α : Type} {xs : List α} {n i : Nat} {o : Option α} (hl : xs.length = n) (hi : i < n) (h : o = xs[i]?) : ∃ y, o = some y := by
  rw [List.getElem?_eq_getElem (by omega)] at h
  exact ⟨_, h⟩
theorem trod_world {H : Type} {enc : TypeId × Value → H} {W : World} {fuel : Nat} {a b c : Value} {y : DataW H × List MemPlace} (h : DataW.trod enc Tryd.prog W 0 (fun _ => true) true fuel 35 [a, b, c] = some y) :
    ∃ x0 x1 x2 : Int, a = .int .u8 x0 ∧ b = .int .u8 x1 ∧ c = .int .u8 x2 ∧ (0 ≤ x0 ∧ x0 < 256) ∧ (0 ≤ x1 ∧ x1 < 256) ∧ (0 ≤ x2 ∧ x2 < 256) := by
  obtain ⟨y0, y1, n, _, _, h0, h1⟩ := Go.ChangeShapes.trod_struct2 Tryd.underlying35 h
  have hc5 : Tryd.prog.cellsOf 5 = 1 := by kernel_rfl
  have hc33 : Tryd.prog.cellsOf 33 = 2 := by kernel_rfl
  rw [hc5] at h0
  rw [hc33] at h1
  obtain ⟨x0, rfl, b0⟩ := trod_u8 h0
  obtain ⟨xs, m, rfl, _, _, hl, hf⟩ := DataW.trod_array Tryd.underlying33 h1
  have g0 := hf 0 (by decide)
  have g1 := hf 1 (by decide)
  rw [hc5] at g0 g1
  obtain ⟨z0, e0⟩ := trod_some hl (by decide) g0
  obtain ⟨z1, e1⟩ := trod_some hl (by decide) g1
  obtain ⟨x1, rfl, b1⟩ := trod_u8 e0
  obtain ⟨x2, rfl, b2⟩ := trod_u8 e1
  exact ⟨x0, x1, x2, rfl, rfl, rfl, b0, b1, b2⟩
def fn4 (a b c d : Int) (k : Nat) : Int := if k = 0 then a else if k = 1 then b else if k = 2 then c else d
theorem open_mod {H : Type} {enc : TypeId × Value → H} {W : World} {v : Value} {d : DataW H} {p : List MemPlace} (h : DataW.Trod enc Tryd.prog W 0 (fun _ => true) true 36 v d p) :
    ∃ (F : Nat → Int) (T : Nat → Nat → Int), v = mV F T ∧ (∀ k, k < 4 → 0 ≤ F k ∧ F k < 256) ∧ By T := by
  obtain ⟨fuel, h⟩ := h
  obtain ⟨xs, m, rfl, _, hcl, hl, hf⟩ := DataW.trod_array Tryd.underlying36 h
  have hc36 : Tryd.prog.cellsOf 36 = 12 := by kernel_rfl
  have hc35 : Tryd.prog.cellsOf 35 = 3 := by kernel_rfl
  rw [hc36] at hcl
  obtain ⟨a0, a1, a2, a3, a4, a5, a6, a7, a8, a9, a10, a11, e⟩ := len12 _ hcl
  have g0 := hf 0 (by decide)
  have g1 := hf 1 (by decide)
  have g2 := hf 2 (by decide)
  have g3 := hf 3 (by decide)
  rw [hc35, e] at g0 g1 g2 g3
  obtain ⟨z0, e0⟩ := trod_some hl (by decide) g0
  obtain ⟨z1, e1⟩ := trod_some hl (by decide) g1
  obtain ⟨z2, e2⟩ := trod_some hl (by decide) g2
  obtain ⟨z3, e3⟩ := trod_some hl (by decide) g3
  obtain ⟨x0, x1, x2, rfl, rfl, rfl, b0, b1, b2⟩ := trod_world e0
  obtain ⟨x3, x4, x5, rfl, rfl, rfl, b3, b4, b5⟩ := trod_world e1
  obtain ⟨x6, x7, x8, rfl, rfl, rfl, b6, b7, b8⟩ := trod_world e2
  obtain ⟨x9, x10, x11, rfl, rfl, rfl, b9, b10, b11⟩ := trod_world e3
  refine ⟨fn4 x0 x3 x6 x9, fun k j => if j = 0 then fn4 x1 x4 x7 x10 k else fn4 x2 x5 x8 x11 k, ?_, fun k hk => ?_, fun k j hk hj => ?_⟩
  · cases v with
    | agg cs =>
      have : cs = #[.int .u8 x0, .int .u8 x1, .int .u8 x2, .int .u8 x3, .int .u8 x4, .int .u8 x5, .int .u8 x6, .int .u8 x7, .int .u8 x8, .int .u8 x9, .int .u8 x10, .int .u8 x11] := by
        have e9 : cs.toList = _ := e
        exact Array.toList_inj.1 e9
      rw [this]
      rfl
    | _ => exact absurd hcl (by simp [Value.cells])
  · have hk4 : k = 0 ∨ k = 1 ∨ k = 2 ∨ k = 3 := by omega
    rcases hk4 with rfl | rfl | rfl | rfl
    · exact b0
    · exact b3
    · exact b6
    · exact b9
  · have hk4 : k = 0 ∨ k = 1 ∨ k = 2 ∨ k = 3 := by omega
    have hj2 : j = 0 ∨ j = 1 := by omega
    rcases hj2 with rfl | rfl
    · rcases hk4 with rfl | rfl | rfl | rfl
      · exact b1
      · exact b4
      · exact b7
      · exact b10
    · rcases hk4 with rfl | rfl | rfl | rfl
      · exact b2
      · exact b5
      · exact b8
      · exact b11
end Go.Proofs.YtkkkomkljpolbaaDoor
