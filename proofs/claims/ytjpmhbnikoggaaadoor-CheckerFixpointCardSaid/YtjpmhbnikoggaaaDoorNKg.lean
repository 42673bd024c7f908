/- Layer 6: texts joined: Cv Cw. -/
import Derived.Test.YtjpmhbnikoggaaaDoorNIi
import Derived.Test.YtjpmhbnikoggaaaDoorNJk
import Derived.Test.YtjpmhbnikoggaaaDoorNJm
import Derived.Test.YtjpmhbnikoggaaaDoorNKe
import Derived.Test.YtjpmhbnikoggaaaDoorNKf
/- Layer 17 as mathematics: what an operator makes of formulas that have a meaning. -/
namespace Go.Proofs.YtjpmhbnikoggaaaDoor
open Go.RowKit Go.Proofs.Ws
set_option maxRecDepth 100000
/-- a formula of at most k nodes with a meaning, and where it holds -/
structure Mng (m : Mo) (g : List Nd) (k z : Nat) : Prop where
  err : fErr g = 0
  len : g.length ≤ k
  chk : chkF m g = 0
  val : holdV m g = z
theorem Mng.of {m : Mo} {f : List Nd} (h : chkF m f = 0) {k : Nat} (hl : f.length ≤ k) : Mng m f k (holdV m f) := ⟨(chkF_zero h).2.1, hl, h, rfl⟩
theorem Mng.has {m : Mo} {g : List Nd} {k z : Nat} (h : Mng m g k z) : hasT m.rel.length m.val.length (treeOf g) = true := by
  have hz := chkF_zero h.chk
  have ok := chkM_ok hz.1
  have ha := ok.agents
  have hf := ok.facts
  exact (chk_has h.err (by omega) hf).1 ⟨hz.2.2.1, hz.2.2.2⟩
theorem Mng.set {m : Mo} {g : List Nd} {k z : Nat} (h : Mng m g k z) : setT m (treeOf g) = z := by
  have hv := h.val
  unfold holdV valT at hv
  rw [if_pos h.chk] at hv
  have hh := h.has
  unfold treeOf at hh ⊢
  rw [if_pos hh] at hv
  exact hv
/-- a canonical list whose tree has a meaning -/
theorem Mng.can {m : Mo} {T : Tr} {k : Nat} (hm : chkM m = 0) (ht : trOk T) (hF : trAll fldOk T) (hl : (canT T).length ≤ k) (h2 : (canT T).length ≤ 200) (hh : hasT m.rel.length m.val.length T = true) : Mng m (canT T) k (setT m T) := by
  have ok := chkM_ok hm
  have ha := ok.agents
  have hf := ok.facts
  have he : fErr (canT T) = 0 := fErr_zero (canT_ne T) h2 (fun _ hj => ⟨canT_ops ht _ hj, finT_all (P := fldOk) T ht hF (fun n hn => absurd hn (by simp)) _ (Ws.getD_mem hj)⟩)
  have htr : treeAt (canT T) ((canT T).length - 1) = T := canT_tree ht
  have hch := (chk_has he (nr := m.rel.length) (nv := m.val.length) (by omega) hf).2 (by rw [htr]; exact hh)
  have hc : chkF m (canT T) = 0 := by
    unfold chkF
    rw [if_neg (fun h => h hm), if_neg (fun h => h he), if_neg (fun h => h hch.1), if_neg (by rw [hch.2]; decide)]
  refine ⟨he, hl, hc, ?_⟩
  unfold holdV valT
  rw [if_pos hc, htr, if_pos hh]
theorem tree_all {f : List Nd} (h : fErr f = 0) : trOk (treeOf f) ∧ trAll fldOk (treeOf f) := by
  have hne : f.length ≠ 0 := by simpa using (fErr_ok h).1
  have h1 := fErr_fld h
  exact ⟨treeAt_ok (fErr_ops h) (f.length - 1 + 1) (f.length - 1) (by omega) (by omega), treeAt_all (fErr_ops h) h1 (f.length - 1 + 1) (f.length - 1) (by omega) (by omega)⟩
theorem canon_le {l : List Nd} (h : opsL l) (hne : l ≠ []) : (canonF l).length ≤ l.length := by
  rw [canonF_tree h hne]
  have := List.length_pos_iff.2 hne
  exact finW_out_le h _ (by omega)
/-- what may stand over formulas -/
structure OpN (nr nv : Nat) (n : Nd) : Prop where
  kn : known n.op = true
  cl : cleanN n
  rg : rangeOk n = true
  br : bare n = n
  ok : okC nr nv n
theorem OpN.fld {nr nv : Nat} {n : Nd} (h : OpN nr nv n) : fldOk n := ⟨h.kn, h.cl, h.rg⟩
theorem short_eq {T : Tr} {L : List Nd} (h : L = shortT T) (hne : L ≠ []) : L = canT T ∧ (canT T).length ≤ 200 := by
  unfold shortT at h
  split at h
  · exact absurd h hne
  · exact ⟨h, by omega⟩
theorem Mng.un {m : Mo} {f : List Nd} {k z : Nat} {n : Nd} (h : Mng m f k z) (hk : k + 1 ≤ 200) (hn : OpN m.rel.length m.val.length n) (hux : usesX n.op = true) (huy : usesY n.op = false) : Mng m (buildF n [f]) (k + 1) (setN m n z 0) := by
  obtain ⟨hx, hy⟩ := bare_x hn.br
  have hok := (fin_1 n f hn.kn hn.cl hy hux huy hn.rg (by intro g hg; simp at hg; rw [hg]; exact h.err)).1
  have e : catK [f] [f].length = f := by simp [catK, catS, map_shift0]
  rw [e] at hok
  have hle := canon_le hok.ops hok.ne
  have hlc : (f ++ [lastN n [f]]).length = f.length + 1 := by simp
  have hl := h.len
  have hne : canonF (f ++ [lastN n [f]]) ≠ [] := by
    rw [canonF_tree hok.ops hok.ne]
    exact canT_ne _
  have hb : buildF n [f] = canonF (f ++ [lastN n [f]]) := by
    unfold buildF
    have e2 : catS [f] [] = f := by simp [catS, map_shift0]
    rw [if_neg (by rw [hn.rg]; decide), if_neg (by simp [h.err]), e2, if_neg (by omega)]
  have hs := build_un hn.kn hn.cl hn.rg hn.br hux huy h.err
  obtain ⟨h1, h2⟩ := short_eq hs (by rw [hb]; exact hne)
  obtain ⟨ht, hF⟩ := tree_all h.err
  have h3 := Mng.can (T := .un n (treeOf f)) (chkF_zero h.chk).1 ⟨hux, huy, hn.br, ht⟩ ⟨hn.fld, hF⟩ (k := k + 1) (by rw [← h1, hb]; omega) h2 (by
    show hasN _ _ n (hasT _ _ (treeOf f)) false = true
    exact hasN_parts.2 ⟨hn.ok, fun _ => h.has, fun hh => by rw [huy] at hh; cases hh⟩)
  rw [h1]
  have e9 : setT m (.un n (treeOf f)) = setN m n z 0 := by show setN m n (setT m (treeOf f)) 0 = _; rw [h.set]
  rw [← e9]
  exact h3
theorem Mng.bin {m : Mo} {f g : List Nd} {k j z y : Nat} {n : Nd} (h : Mng m f k z) (h2 : Mng m g j y) (hk : k + j + 1 ≤ 200) (hn : OpN m.rel.length m.val.length n) (hux : usesX n.op = true) (huy : usesY n.op = true) : Mng m (buildF n [f, g]) (k + j + 1) (setN m n z y) := by
  have hok := (fin_2 n f g hn.kn hn.cl hux huy hn.rg (by intro h9 hh; simp at hh; rcases hh with rfl | rfl <;> first | exact h.err | exact h2.err)).1
  have e : catK [f, g] [f, g].length = f ++ g.map (shiftN f.length) := by simp [catK, catS, map_shift0]
  rw [e] at hok
  have hle := canon_le hok.ops hok.ne
  have hlc : (f ++ g.map (shiftN f.length) ++ [lastN n [f, g]]).length = f.length + g.length + 1 := by simp; omega
  have hl := h.len
  have hl2 := h2.len
  have hne : canonF (f ++ g.map (shiftN f.length) ++ [lastN n [f, g]]) ≠ [] := by
    rw [canonF_tree hok.ops hok.ne]
    exact canT_ne _
  have hb : buildF n [f, g] = canonF (f ++ g.map (shiftN f.length) ++ [lastN n [f, g]]) := by
    unfold buildF
    have e2 : catS [f, g] [] = f ++ g.map (shiftN f.length) := by simp [catS, map_shift0]
    rw [if_neg (by rw [hn.rg]; decide), if_neg (by simp [h.err, h2.err]), e2, if_neg (by omega)]
  have hs := build_bin hn.kn hn.cl hn.rg hn.br hux huy h.err h2.err
  obtain ⟨h1, h5⟩ := short_eq hs (by rw [hb]; exact hne)
  obtain ⟨ht, hF⟩ := tree_all h.err
  obtain ⟨ht2, hF2⟩ := tree_all h2.err
  have h3 := Mng.can (T := .bin n (treeOf f) (treeOf g)) (chkF_zero h.chk).1 ⟨hux, huy, hn.br, ht, ht2⟩ ⟨hn.fld, hF, hF2⟩ (k := k + j + 1) (by rw [← h1, hb]; omega) h5 (by
    show hasN _ _ n (hasT _ _ (treeOf f)) (hasT _ _ (treeOf g)) = true
    exact hasN_parts.2 ⟨hn.ok, fun _ => h.has, fun _ => h2.has⟩)
  rw [h1]
  have e9 : setT m (.bin n (treeOf f) (treeOf g)) = setN m n z y := by show setN m n (setT m (treeOf f)) (setT m (treeOf g)) = _; rw [h.set, h2.set]
  rw [← e9]
  exact h3
theorem op_not (nr nv : Nat) : OpN nr nv ⟨4, 0, 0, 0, 0, 0⟩ := ⟨rfl, ⟨.inr (.inr (.inr rfl)), .inr rfl, .inr rfl⟩, rfl, rfl, rfl⟩
theorem op_and (nr nv : Nat) : OpN nr nv ⟨5, 0, 0, 0, 0, 0⟩ := ⟨rfl, ⟨.inr (.inr (.inr rfl)), .inr rfl, .inr rfl⟩, rfl, rfl, rfl⟩
theorem op_or (nr nv : Nat) : OpN nr nv ⟨6, 0, 0, 0, 0, 0⟩ := ⟨rfl, ⟨.inr (.inr (.inr rfl)), .inr rfl, .inr rfl⟩, rfl, rfl, rfl⟩
theorem op_imp (nr nv : Nat) : OpN nr nv ⟨7, 0, 0, 0, 0, 0⟩ := ⟨rfl, ⟨.inr (.inr (.inr rfl)), .inr rfl, .inr rfl⟩, rfl, rfl, rfl⟩
theorem op_iff (nr nv : Nat) : OpN nr nv ⟨8, 0, 0, 0, 0, 0⟩ := ⟨rfl, ⟨.inr (.inr (.inr rfl)), .inr rfl, .inr rfl⟩, rfl, rfl, rfl⟩
theorem op_agent {op a : Int} {nr nv : Nat} (ho : op = 9 ∨ op = 10) (h0 : 0 ≤ a) (h : a < (nr : Int)) (hr : nr ≤ 4) : OpN nr nv ⟨op, a, 0, 0, 0, 0⟩ := by
  have ha : a < 4 := by omega
  rcases ho with rfl | rfl
  · refine ⟨rfl, ⟨.inr (.inl rfl), .inr rfl, .inr rfl⟩, ?_, rfl, ?_⟩
    · unfold rangeOk
      simp [shN, shE, shG, hasAgent, hasGroup]
      omega
    · unfold okC hasN
      simp
      exact h
  · refine ⟨rfl, ⟨.inr (.inl rfl), .inr rfl, .inr rfl⟩, ?_, rfl, ?_⟩
    · unfold rangeOk
      simp [shN, shE, shG, hasAgent, hasGroup]
      omega
    · unfold okC hasN
      simp
      exact h
theorem op_group {op g : Int} {nr nv : Nat} (ho : op = 11 ∨ op = 12 ∨ op = 13) (h0 : 1 ≤ g) (h : g < 2 ^ nr) (hr : nr ≤ 4) : OpN nr nv ⟨op, 0, 0, g, 0, 0⟩ := by
  have hg : g ≤ 15 := by
    have h2 : (2 : Int) ^ nr ≤ 2 ^ 4 := by
      have e : ((2 : Int) ^ nr) = ((2 ^ nr : Nat) : Int) := by simp
      rw [e]
      exact_mod_cast Nat.pow_le_pow_right (by decide) hr
    omega
  rcases ho with rfl | rfl | rfl <;>
  · refine ⟨rfl, ⟨.inr (.inr (.inr rfl)), .inr rfl, .inl rfl⟩, ?_, rfl, ?_⟩
    · unfold rangeOk
      simp [shN, shE, shG, hasAgent, hasGroup]
      omega
    · unfold okC hasN
      simp
      exact h
/-- no operator leaves the model -/
theorem whV_bnd {N : Nat} (p : Nat → Bool) {R : List Nat} (h : R.length ≤ N) : whV p R < 2 ^ N := by
  unfold whV
  split
  · apply Nat.lt_pow_two_of_testBit
    intro i hi
    cases hb : (whU p R R.length).testBit i with
    | false => rfl
    | true =>
      have := ((whU_bit p R i _).1 hb).1
      omega
  · exact Nat.two_pow_pos N
theorem allV_bnd {N : Nat} (h : N ≤ 64) : allV (N : Int) < 2 ^ N := by
  rw [allV_natC h]
  have := Nat.two_pow_pos N
  omega
theorem grp_len {m : Mo} {N : Nat} (hN : m.n = (N : Int)) (g : Int) : (groupL m g).length ≤ N ∧ (meetL m g).length ≤ N := by
  unfold groupL meetL
  rw [hN]
  constructor <;> (split <;> simp)
theorem getD_or {α : Type} (P : α → Prop) {l : List α} (d : α) (hd : P d) (h : ∀ x ∈ l, P x) (k : Nat) : P (l.getD k d) := by
  rw [List.getD_eq_getElem?_getD]
  cases hk : l[k]? with
  | none => exact hd
  | some x => exact h x (List.mem_of_getElem? hk)
theorem ite_bnd {c : Prop} [Decidable c] {a b B : Nat} (ha : a < B) (hb : b < B) : (if c then a else b) < B := by
  by_cases h : c
  · rw [if_pos h]; exact ha
  · rw [if_neg h]; exact hb
theorem setN_bnd {m : Mo} {N : Nat} (ok : OkM N m) (n : Nd) {x y : Nat} (hx : x < 2 ^ N) (hy : y < 2 ^ N) : setN m n x y < 2 ^ N := by
  have hN := ok.num
  have hal : allV m.n < 2 ^ N := by rw [hN]; exact allV_bnd ok.le
  have ha : ∀ z, anN (allV m.n) z < 2 ^ N := fun z => Nat.lt_of_le_of_lt Nat.and_le_left hal
  have hr : ∀ k, (m.rel.getD k []).length ≤ N := getD_or (fun r => r.length ≤ N) [] (Nat.zero_le _) (fun r h => Nat.le_of_eq (ok.len r h))
  have hv : ∀ k, m.val.getD k 0 < 2 ^ N := getD_or (fun r => r < 2 ^ N) 0 (Nat.two_pow_pos N) ok.val
  unfold setN
  exact ite_bnd hal (ite_bnd (hv _) (ite_bnd (ha _) (ite_bnd (Nat.lt_of_le_of_lt Nat.and_le_left hx) (ite_bnd (Nat.or_lt_two_pow hx hy) (ite_bnd (Nat.or_lt_two_pow (ha _) hy) (ite_bnd (ha _) (ite_bnd (whV_bnd _ (hr _)) (ite_bnd (whV_bnd _ (hr _)) (ite_bnd (whV_bnd _ (grp_len hN _).1) (ite_bnd (whV_bnd _ (grp_len hN _).2) (ite_bnd (ha _) (Nat.two_pow_pos N))))))))))))
theorem setT_bnd {m : Mo} {N : Nat} (ok : OkM N m) : ∀ t, setT m t < 2 ^ N
  | .leaf n => setN_bnd ok n (Nat.two_pow_pos N) (Nat.two_pow_pos N)
  | .un n a => setN_bnd ok n (setT_bnd ok a) (Nat.two_pow_pos N)
  | .bin n a b => setN_bnd ok n (setT_bnd ok a) (setT_bnd ok b)
theorem holdV_bnd {m : Mo} {N : Nat} (ok : OkM N m) (f : List Nd) : holdV m f < 2 ^ N := by
  unfold holdV
  split
  · unfold valT
    split
    · exact setT_bnd ok _
    · exact Nat.two_pow_pos N
  · exact Nat.two_pow_pos N
theorem pow_le64 {N x : Nat} (h : N ≤ 64) (hx : x < 2 ^ N) : x < 18446744073709551616 := Nat.lt_of_lt_of_le hx (Nat.pow_le_pow_right (by decide) h)
theorem iff_bits {N a b : Nat} (hn : N ≤ 64) (ha : a < 2 ^ N) (hb : b < 2 ^ N) : anN (allV (N : Int)) (a ^^^ b) = a &&& b ||| anN (allV (N : Int)) (a ||| b) := by
  have hA := pow_le64 hn (allV_bnd hn)
  apply Nat.eq_of_testBit_eq
  intro i
  have e : ∀ z, z < 2 ^ N → (anN (allV (N : Int)) z).testBit i = (decide (i < N) && !z.testBit i) := fun z hz => by
    rw [Bool.eq_iff_iff, anN_bit _ _ _ hA (pow_le64 hn hz), allV_bit N i hn]
    simp
  rw [e _ (Nat.xor_lt_two_pow ha hb), Nat.testBit_or, e _ (Nat.or_lt_two_pow ha hb), Nat.testBit_xor, Nat.testBit_and, Nat.testBit_or]
  by_cases hi : i < N
  · rw [decide_eq_true hi]
    cases a.testBit i <;> cases b.testBit i <;> rfl
  · have h1 : a.testBit i = false := Nat.testBit_lt_two_pow (Nat.lt_of_lt_of_le ha (Nat.pow_le_pow_right (by decide) (by omega)))
    have h2 : b.testBit i = false := Nat.testBit_lt_two_pow (Nat.lt_of_lt_of_le hb (Nat.pow_le_pow_right (by decide) (by omega)))
    rw [decide_eq_false hi, h1, h2]
    rfl
end Go.Proofs.YtjpmhbnikoggaaaDoor
/- Layer 17: the law's own set; lists of nodes as values of a region. -/
namespace Go.Proofs.YtjpmhbnikoggaaaDoor
open Go.RowKit Go.Proofs.Ws
set_option maxRecDepth 100000
set_option maxHeartbeats 4000000 in
theorem lSet_any (m : Mo) (v : Value) (f : List Nd) (A : Option Addr) (n c : Nat) (w : World) (hM : MoR w w.heap.size v m) (hR : Reads w w.heap.size 6 A n (nds f)) (hn : n ≤ maxLen) (hT : Tab w) :
    Calls Tryd.prog 12 #[v, .slice A n c] w fun e w' => e = .returned (.tuple #[.int .u64 ((holdV m f : Nat) : Int), .bool (decide (chkF m f = 0))]) ∧ Below w.heap.size w w' := by
  obtain ⟨A1, c1, A2, c2, rfl, hv, hr⟩ := hM.ex
  have HB0 := Lib.hid ((Below.refl w.heap.size w).alloc (Nat.le_refl _) (.cells #[.int .i64 m.n, .slice A1 m.val.length c1, .slice A2 m.rel.length c2] 25))
  have HH := Lib.hid (fun W (hb : Below w.heap.size w W) => pHolds_anyC m _ f A n c W (hM.below hb hb.size) ((hR.below hb).more hb.size) hn (hT.below hb))
  clear hM hR hn hT hv hr
  generalize holdV m f = hd at *
  generalize chkF m f = z at *
  have he : (z == 0) = decide (z = 0) := by rw [Bool.eq_iff_iff, beq_iff_eq, decide_eq_true_eq]
  go_enter Tryd.func12, Tryd.ntmps12
  go_wp2_with fail
  refine (HH.out _ HB0.out).mono ?_
  rintro e w1 ⟨rfl, hb⟩
  have HB1 := Lib.hid (HB0.out.trans (hb.mono HB0.out.size))
  clear hb
  go_wp2
  go_ret2
  exact ⟨by first | rfl | rw [he], HB1.out⟩
/-- what is known of the lists of nodes that a region makes -/
def vNdQ (Q : Nat → List Nd) (i : Nat) (v : Value) (W : World) : Prop := ∃ A c, v = .slice A (Q i).length c ∧ Reads W W.heap.size 6 A (Q i).length (nds (Q i))
theorem vNdQ_up {Q : Nat → List Nd} : ∀ i v W W', vNdQ Q i v W → Below W.heap.size W W' → vNdQ Q i v W' := fun _ _ _ _ ⟨A, c, e, h⟩ hb => ⟨A, c, e, (h.below hb).more hb.size⟩
end Go.Proofs.YtjpmhbnikoggaaaDoor
