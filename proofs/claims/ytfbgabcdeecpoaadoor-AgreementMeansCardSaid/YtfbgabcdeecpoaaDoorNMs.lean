/- Layer 6: texts joined: Zj Zk. -/
import Derived.Test.YtfbgabcdeecpoaaDoorNMe
import Derived.Test.YtfbgabcdeecpoaaDoorNMr
/- Layer 24: the example; what it comes to. -/
namespace Go.Proofs.YtfbgabcdeecpoaaDoor
open Go.RowKit Go.Proofs.Ws
set_option maxRecDepth 100000
def exP : Pri := ⟨[1, 1, 1, 1, 1, 1, 1, 1, 1], [[0, 0, 0, 3, 3, 3, 6, 6, 6], [0, 0, 0, 0, 4, 4, 4, 4, 8]]⟩
def exQ : Pri := ⟨[1, 1, 1, 1, 1, 1, 1, 1, 1], [[0, 0, 0, 3, 4, 4, 6, 6, 8], [0, 0, 0, 3, 4, 4, 4, 4, 8]]⟩
theorem one_lit (W : World) (base : Nat) (l : List Int) (cs : Array Value) (hcs : cs.toList = ints l) (hb : base ≤ W.heap.size) (h1 : 1 ≤ l.length) (h2 : l.length ≤ 64) :
    OneZ (W.alloc (.cells cs 3)) base (.slice (some ⟨W.heap.size, 0, none⟩) l.length l.length) l := by
  have hsz : cs.size = l.length * 1 := by rw [← Array.length_toList, hcs, ints_length]; omega
  have h := World.ownsRow_lit (base := base) (e := 3) (size := 1) W cs l.length hb (by unfold maxLen; omega) hsz
  rw [hcs] at h
  exact OneZ.of_own h rfl h1
/-- two rows, laid out -/
theorem rows_lit (W : World) (base : Nat) (b c : List Int) (cb cc : Array Value) (hcb : cb.toList = ints b) (hcc : cc.toList = ints c) (hb : base ≤ W.heap.size) (h1 : 1 ≤ b.length ∧ b.length ≤ 64) (h2 : 1 ≤ c.length ∧ c.length ≤ 64) :
    RowsZ (((W.alloc (.cells cb 3)).alloc (.cells cc 3)).alloc (.cells #[.slice (some ⟨W.heap.size, 0, none⟩) b.length b.length, .slice (some ⟨W.heap.size + 1, 0, none⟩) c.length c.length] 22)) base (.slice (some ⟨W.heap.size + 2, 0, none⟩) 2 2) 2 (fun j => [b, c].getD j []) := by
  have hb1 : Below W.heap.size W (W.alloc (.cells cb 3)) := (Below.refl _ W).alloc (Nat.le_refl _) _
  have hs1 : (W.alloc (.cells cb 3)).heap.size = W.heap.size + 1 := by simp
  have hb2 : Below (W.alloc (.cells cb 3)).heap.size (W.alloc (.cells cb 3)) ((W.alloc (.cells cb 3)).alloc (.cells cc 3)) := (Below.refl _ _).alloc (Nat.le_refl _) _
  have hs2 : ((W.alloc (.cells cb 3)).alloc (.cells cc 3)).heap.size = W.heap.size + 2 := by simp
  have o1 := one_lit W base b cb hcb hb h1.1 h1.2
  have o2 := one_lit (W.alloc (.cells cb 3)) base c cc hcc (by omega) h2.1 h2.2
  rw [hs1] at o2
  have o1 := o1.below hb2
  generalize hW2 : (W.alloc (.cells cb 3)).alloc (.cells cc 3) = W2 at *
  have hb3 : Below W2.heap.size W2 (W2.alloc (.cells #[.slice (some ⟨W.heap.size, 0, none⟩) b.length b.length, .slice (some ⟨W.heap.size + 1, 0, none⟩) c.length c.length] 22)) := (Below.refl _ _).alloc (Nat.le_refl _) _
  have h := World.ownsRow_lit (base := base) (e := 22) (size := 1) W2 #[.slice (some ⟨W.heap.size, 0, none⟩) b.length b.length, .slice (some ⟨W.heap.size + 1, 0, none⟩) c.length c.length] 2 (by omega) (by decide) rfl
  rw [hs2] at h
  refine ⟨_, h, fun j hj => ?_⟩
  match j, hj with
  | 0, _ => exact ⟨_, rfl, o1.below hb3⟩
  | 1, _ => exact ⟨_, rfl, o2.below hb3⟩
set_option maxHeartbeats 4000000 in
theorem example_any (w : World) :
    Calls Tryd.prog 41 #[] w fun e w' => ∃ v, e = .returned v ∧ PrO w' w.heap.size v exP ∧ Below w.heap.size w w' := by
  have HW : Hid (∀ W : World, w.heap.size + 1 = W.heap.size → PrO ((((W.alloc (.cells #[.int .i64 1, .int .i64 1, .int .i64 1, .int .i64 1, .int .i64 1, .int .i64 1, .int .i64 1, .int .i64 1, .int .i64 1] 3)).alloc (.cells #[.int .i64 0, .int .i64 0, .int .i64 0, .int .i64 3, .int .i64 3, .int .i64 3, .int .i64 6, .int .i64 6, .int .i64 6] 3)).alloc (.cells #[.int .i64 0, .int .i64 0, .int .i64 0, .int .i64 0, .int .i64 4, .int .i64 4, .int .i64 4, .int .i64 4, .int .i64 8] 3)).alloc (.cells #[.slice (some ⟨w.heap.size + 1 + 1, 0, none⟩) 9 9, .slice (some ⟨w.heap.size + 1 + 1 + 1, 0, none⟩) 9 9] 22)) w.heap.size (.agg #[.slice (some ⟨w.heap.size + 1, 0, none⟩) 9 9, .slice (some ⟨w.heap.size + 1 + 1 + 1 + 1, 0, none⟩) 2 2]) exP ∧
      Below W.heap.size W ((((W.alloc (.cells #[.int .i64 1, .int .i64 1, .int .i64 1, .int .i64 1, .int .i64 1, .int .i64 1, .int .i64 1, .int .i64 1, .int .i64 1] 3)).alloc (.cells #[.int .i64 0, .int .i64 0, .int .i64 0, .int .i64 3, .int .i64 3, .int .i64 3, .int .i64 6, .int .i64 6, .int .i64 6] 3)).alloc (.cells #[.int .i64 0, .int .i64 0, .int .i64 0, .int .i64 0, .int .i64 4, .int .i64 4, .int .i64 4, .int .i64 4, .int .i64 8] 3)).alloc (.cells #[.slice (some ⟨w.heap.size + 1 + 1, 0, none⟩) 9 9, .slice (some ⟨w.heap.size + 1 + 1 + 1, 0, none⟩) 9 9] 22))) := Lib.hid (fun W hs => by
    have o0 := one_lit W w.heap.size exP.wt #[.int .i64 1, .int .i64 1, .int .i64 1, .int .i64 1, .int .i64 1, .int .i64 1, .int .i64 1, .int .i64 1, .int .i64 1] rfl (by omega) (by decide) (by decide)
    have hs1 : (W.alloc (.cells #[.int .i64 1, .int .i64 1, .int .i64 1, .int .i64 1, .int .i64 1, .int .i64 1, .int .i64 1, .int .i64 1, .int .i64 1] 3)).heap.size = w.heap.size + 1 + 1 := by simp; omega
    have hb1 : Below W.heap.size W (W.alloc (.cells #[.int .i64 1, .int .i64 1, .int .i64 1, .int .i64 1, .int .i64 1, .int .i64 1, .int .i64 1, .int .i64 1, .int .i64 1] 3)) := (Below.refl _ W).alloc (Nat.le_refl _) _
    rw [← hs] at o0
    generalize W.alloc (.cells #[.int .i64 1, .int .i64 1, .int .i64 1, .int .i64 1, .int .i64 1, .int .i64 1, .int .i64 1, .int .i64 1, .int .i64 1] 3) = W1 at *
    have r := rows_lit W1 w.heap.size [0, 0, 0, 3, 3, 3, 6, 6, 6] [0, 0, 0, 0, 4, 4, 4, 4, 8] #[.int .i64 0, .int .i64 0, .int .i64 0, .int .i64 3, .int .i64 3, .int .i64 3, .int .i64 6, .int .i64 6, .int .i64 6] #[.int .i64 0, .int .i64 0, .int .i64 0, .int .i64 0, .int .i64 4, .int .i64 4, .int .i64 4, .int .i64 4, .int .i64 8] rfl rfl (by omega) (by decide) (by decide)
    rw [hs1] at r
    have hb4 : Below W1.heap.size W1 (((W1.alloc (.cells #[.int .i64 0, .int .i64 0, .int .i64 0, .int .i64 3, .int .i64 3, .int .i64 3, .int .i64 6, .int .i64 6, .int .i64 6] 3)).alloc (.cells #[.int .i64 0, .int .i64 0, .int .i64 0, .int .i64 0, .int .i64 4, .int .i64 4, .int .i64 4, .int .i64 4, .int .i64 8] 3)).alloc (.cells #[.slice (some ⟨w.heap.size + 1 + 1, 0, none⟩) 9 9, .slice (some ⟨w.heap.size + 1 + 1 + 1, 0, none⟩) 9 9] 22)) := (((Below.refl _ W1).alloc (Nat.le_refl _) _).alloc (by simp) _).alloc (by simp; omega) _
    exact ⟨⟨_, _, rfl, o0.below hb4, r⟩, belowNext hb1 hb4⟩)
  have hb0 : Below w.heap.size w (w.alloc (.cells #[.slice (some ⟨w.heap.size + 1, 0, none⟩) 9 9, .slice (some ⟨w.heap.size + 1 + 1 + 1 + 1, 0, none⟩) 2 2] 25)) := (Below.refl _ w).alloc (Nat.le_refl _) _
  have HX := Lib.hid (HW.out (w.alloc (.cells #[.slice (some ⟨w.heap.size + 1, 0, none⟩) 9 9, .slice (some ⟨w.heap.size + 1 + 1 + 1 + 1, 0, none⟩) 2 2] 25)) (by simp))
  have HB := Lib.hid (belowNext hb0 HX.out.2)
  have HP := Lib.hid ((PBox.made w (.slice (some ⟨w.heap.size + 1, 0, none⟩) 9 9) (.slice (some ⟨w.heap.size + 1 + 1 + 1 + 1, 0, none⟩) 2 2)).below HX.out.2 (PBox.made w _ _).lt)
  clear hb0 HW
  go_enter Tryd.func41, Tryd.ntmps41
  go_wp2
  (try simp only [Exit.inBlock, Exit.then])
  refine bodyPost_ret (ret_cell1 rfl _ _ w.heap.size _ _ _ _ rfl HP.out Tryd.underlying25 rfl (by kernel_rfl)) rfl ?_
  exact ⟨_, rfl, HX.out.1, HB.out⟩
theorem exP_ok : OkP exP := chkP_ok (by decide +kernel)
theorem ex_ev : evE exP 268 = 0 := by decide +kernel
theorem ex_p0 : postE exP 0 0 268 = 0 ∧ postV exP 0 0 268 = (1, 3) := by decide +kernel
theorem ex_p1 : postE exP 1 0 268 = 0 ∧ postV exP 1 0 268 = (1, 2) := by decide +kernel
theorem ex_two : exN exP 268 2 = exQ := by
  refine pri_eq ?_ ?_
  · decide +kernel
  · decide +kernel
theorem ex_k : ExK exP 268 3 where
  pos := by decide
  diff := fun j hj => by
    match j, hj with
    | 0, _ => decide +kernel
    | 1, _ => decide +kernel
  stop := by decide +kernel
theorem ex_ag0 : agE exP 0 268 = 0 ∧ agV exP 0 268 = false := by decide +kernel
theorem ex_ag2 : agE exQ 0 268 = 0 ∧ agV exQ 0 268 = true := by decide +kernel
theorem ex_lub : LubK exP 2 [0, 0, 0, 0, 0, 0, 0, 0, 0] where
  can := ⟨rfl, by decide +kernel⟩
  up := fun a ha i => by
    by_cases hi : i < 9
    · match a, ha with
      | 0, _ => revert i; decide +kernel
      | 1, _ => revert i; decide +kernel
    · match a, ha with
      | 0, _ => rw [fo_out (n := 9) (l := exP.cells.getD 0 []) rfl hi]
      | 1, _ => rw [fo_out (n := 9) (l := exP.cells.getD 1 []) rfl hi]
  least := fun q hq i => by
    have h0 := hq 0 (by decide)
    have h1 := hq 1 (by decide)
    by_cases hi : i < 9
    · have e1 : fo q 0 = fo q 1 := h0 1
      have e2 : fo q 0 = fo q 2 := h0 2
      have e3 : fo q 3 = fo q 4 := h0 4
      have e4 : fo q 3 = fo q 5 := h0 5
      have e5 : fo q 6 = fo q 7 := h0 7
      have e6 : fo q 6 = fo q 8 := h0 8
      have e7 : fo q 0 = fo q 3 := h1 3
      have e8 : fo q 4 = fo q 6 := h1 6
      have e9 : fo [0, 0, 0, 0, 0, 0, 0, 0, 0] i = 0 := by revert i; decide +kernel
      rw [e9]
      match i, hi with
      | 0, _ => rfl
      | 1, _ => omega
      | 2, _ => omega
      | 3, _ => omega
      | 4, _ => omega
      | 5, _ => omega
      | 6, _ => omega
      | 7, _ => omega
      | 8, _ => omega
    · rw [fo_out (n := 9) rfl hi]
theorem ex_com {C : Nat} (h : ComV exP 0 C) : C = 511 := by
  obtain ⟨j, h1, rfl⟩ := h.2 (by decide +kernel)
  rw [h1.unique ex_lub]
  decide +kernel
end Go.Proofs.YtfbgabcdeecpoaaDoor
/- Layer 24: the example of the chapter is met. -/
namespace Go.Proofs.YtfbgabcdeecpoaaDoor
open Go.RowKit Go.Proofs.Ws
set_option maxRecDepth 100000
theorem prs_three {W0 : World} {base : Nat} {LV : Value} {X : Nat → Pri} (h : PrsO W0 base LV 3 X) (hok : ∀ j, OkP (X j)) :
    ∃ gL cL V0 V1 V4 V5, LV = .slice (some ⟨gL, 0, none⟩) 3 cL ∧ (∀ W, Below W0.heap.size W0 W → W.cell? ⟨gL, 0, none⟩ = some V0 ∧ W.cell? ⟨gL, 1, none⟩ = some V1 ∧ W.cell? ⟨gL, 4, none⟩ = some V4 ∧ W.cell? ⟨gL, 5, none⟩ = some V5 ∧ PrR W W.heap.size (.agg #[V0, V1]) (X 0) ∧ PrR W W.heap.size (.agg #[V4, V5]) (X 2)) := by
  obtain ⟨cs, hown, hel⟩ := h
  obtain ⟨AL, cL, rfl⟩ := own_sl hown
  obtain ⟨gL, hAL⟩ : ∃ gL, AL = some ⟨gL, 0, none⟩ := by
    rcases hown.2 with ⟨_, h⟩ | ⟨g, cap, cur, h, _⟩
    · omega
    · injection h with h1
      exact ⟨g, h1⟩
  subst hAL
  obtain ⟨V0, V1, e0, e1, hO0⟩ := hel 0 (by omega)
  obtain ⟨V4, V5, e4, e5, hO2⟩ := hel 2 (by omega)
  refine ⟨gL, cL, V0, V1, V4, V5, rfl, fun W hb => ?_⟩
  have hown2 := own_keep1 hown (fun g hg => hb.block g (hown.lt g hg).2)
  exact ⟨by rw [hown2.cellAt _ (by omega), ← e0], by rw [hown2.cellAt _ (by omega), ← e1], by rw [hown2.cellAt _ (by omega), ← e4], by rw [hown2.cellAt _ (by omega), ← e5], (hO0.below hb).prr (hok 0), (hO2.below hb).prr (hok 2)⟩
def vAw (k : Nat) (v : Value) (W : World) : Prop :=
  match k with
  | 17 => PrR W W.heap.size v exP
  | 18 => ∃ A c, v = .slice A 9 c ∧ Reads W W.heap.size 1 A 9 (ints exQ.wt)
  | 19 => ∃ A c, v = .slice A 9 c ∧ Reads W W.heap.size 1 A 9 (ints [0, 0, 0, 3, 4, 4, 6, 6, 8])
  | 20 => ∃ A c, v = .slice A 9 c ∧ Reads W W.heap.size 1 A 9 (ints [0, 0, 0, 3, 4, 4, 4, 4, 8])
  | 21 => ∃ A c, v = .slice A 2 c ∧ ZsR W W.heap.size A 2 exQ.cells
  | 22 => PrR W W.heap.size v exQ
  | _ => False
theorem vAw_up : ∀ k v W W', vAw k v W → Below W.heap.size W W' → vAw k v W' := fun k v W W' h hb => by
  unfold vAw at *
  split at h
  · exact h.step hb
  · obtain ⟨A, c, e, h2⟩ := h
    exact ⟨A, c, e, h2.step hb⟩
  · obtain ⟨A, c, e, h2⟩ := h
    exact ⟨A, c, e, h2.step hb⟩
  · obtain ⟨A, c, e, h2⟩ := h
    exact ⟨A, c, e, h2.step hb⟩
  · obtain ⟨A, c, e, h2⟩ := h
    exact ⟨A, c, e, h2.below hb hb.size⟩
  · exact h.step hb
  · exact h
theorem row_lit (W : World) (l : List Int) (cs : Array Value) (hcs : cs.toList = ints l) (h1 : 1 ≤ l.length) (h2 : l.length ≤ 64) :
    Reads (W.alloc (.cells cs 3)) (W.alloc (.cells cs 3)).heap.size 1 (some ⟨W.heap.size, 0, none⟩) l.length (ints l) := by
  obtain ⟨A, c, e, h⟩ := (one_lit W W.heap.size l cs hcs (Nat.le_refl _) h1 h2).reads
  injection e with e1 e2 e3
  subst e1
  exact h
theorem ZsR.pair {W : World} {n c1 c2 : Nat} {l1 l2 : List Int} {A1 A2 : Option Addr} (hR1 : Reads W W.heap.size 1 A1 n (ints l1)) (hR2 : Reads W W.heap.size 1 A2 n (ints l2)) (hn : n ≤ maxLen) :
    ZsR (W.alloc (.cells #[.slice A1 n c1, .slice A2 n c2] 22)) (W.alloc (.cells #[.slice A1 n c1, .slice A2 n c2] 22)).heap.size (some ⟨W.heap.size, 0, none⟩) 2 [l1, l2] := by
  have hl1 := hR1.int_len
  have hl2 := hR2.int_len
  have hb : Below W.heap.size W (W.alloc (.cells #[.slice A1 n c1, .slice A2 n c2] 22)) := (Below.refl _ W).alloc (Nat.le_refl _) _
  refine ⟨rfl, [.slice A1 n c1, .slice A2 n c2], ⟨rfl, fun _ => ⟨_, rfl, by simp, fun j u hj => ?_⟩⟩, fun j hj => ?_⟩
  · match j, hj with
    | 0, hj =>
      simp at hj
      subst hj
      rw [addr0, Lib.cell_of_heap (heap_alloc_new W _)]
      rfl
    | 1, hj =>
      simp at hj
      subst hj
      rw [addr0, Lib.cell_of_heap (heap_alloc_new W _)]
      rfl
  · match j, hj with
    | 0, _ =>
      refine ⟨A1, c1, ?_, ?_, ?_⟩
      · show some _ = some (Value.slice A1 l1.length c1)
        rw [hl1]
      · show Reads _ _ 1 A1 l1.length (ints l1)
        rw [hl1]
        exact (hR1.below hb).more hb.size
      · show l1.length ≤ maxLen
        omega
    | 1, _ =>
      refine ⟨A2, c2, ?_, ?_, ?_⟩
      · show some _ = some (Value.slice A2 l2.length c2)
        rw [hl2]
      · show Reads _ _ 1 A2 l2.length (ints l2)
        rw [hl2]
        exact (hR2.below hb).more hb.size
      · show l2.length ≤ maxLen
        omega
set_option maxHeartbeats 4000000 in
theorem awake_any (w : World) (hT : Tab w) (hF : FinW w) :
    Calls Tryd.prog 14 #[] w fun e w' => e = .returned (.bool true) ∧ Below w.heap.size w w' := by
  have HEX : Hid (∀ W : World, Below w.heap.size w W → Calls Tryd.prog 41 #[] W fun e w' => ∃ v, e = .returned v ∧ PrR w' w'.heap.size v exP ∧ Below W.heap.size W w') := Lib.hid (fun W hb => (example_any W).mono fun e w' ⟨v, h1, h2, h3⟩ => ⟨v, h1, h2.prr exP_ok, h3⟩)
  have HP0 : Hid (∀ (v : Value) (W : World), Below w.heap.size w W → PrR W W.heap.size v exP → Calls Tryd.prog 22 #[v, .int .i64 0, .int .i64 0, .int .u64 268] W fun e w' => e = .returned (.tuple #[.agg #[.int .i64 1, .int .i64 3], .int .i64 0]) ∧ Below W.heap.size W w') := Lib.hid (fun v W hb hM => by
    have h := aPosterior_any exP v 0 0 268 W hM (by decide) (hT.belowAt hb hT.2)
    rw [ex_p0.1, ex_p0.2] at h
    exact h.mono fun e w' ⟨h1, h2⟩ => ⟨h1, h2⟩)
  have HP1 : Hid (∀ (v : Value) (W : World), Below w.heap.size w W → PrR W W.heap.size v exP → Calls Tryd.prog 22 #[v, .int .i64 1, .int .i64 0, .int .u64 268] W fun e w' => e = .returned (.tuple #[.agg #[.int .i64 1, .int .i64 2], .int .i64 0]) ∧ Below W.heap.size W w') := Lib.hid (fun v W hb hM => by
    have h := aPosterior_any exP v 1 0 268 W hM (by decide) (hT.belowAt hb hT.2)
    rw [ex_p1.1, ex_p1.2] at h
    exact h.mono fun e w' ⟨h1, h2⟩ => ⟨h1, h2⟩)
  have HX : Hid (∀ (v : Value) (W : World), Below w.heap.size w W → PrR W W.heap.size v exP → Calls Tryd.prog 34 #[v, .int .u64 268] W fun e w' => ∃ LV, e = .returned (.tuple #[LV, .int .i64 0]) ∧ PrsO w' W.heap.size LV 3 (exN exP 268) ∧ Below W.heap.size W w') := Lib.hid (fun v W hb hM => by
    refine (aExchange_ok exP 268 v W hM ex_ev (by decide) (hT.belowAt hb hT.2)).mono ?_
    rintro e w' ⟨K, LV, h1, h2, h3, h4⟩
    obtain rfl := h2.unique ex_k
    exact ⟨LV, h1, h3, h4⟩)
  have HCM : Hid (∀ (v : Value) (W : World), Below w.heap.size w W → PrR W W.heap.size v exP → Calls Tryd.prog 15 #[v, .int .i64 0] W fun e w' => e = .returned (.tuple #[.int .u64 511, .int .i64 0]) ∧ Below W.heap.size W w') := Lib.hid (fun v W hb hM => by
    refine (aCommon_any exP 0 v W hM (hF.below hb)).mono ?_
    rintro e w' ⟨C, h1, h2, h3⟩
    obtain rfl := ex_com h2
    exact ⟨h1, h3⟩)
  have HA0 : Hid (∀ (v : Value) (W : World), Below w.heap.size w W → PrR W W.heap.size v exP → Calls Tryd.prog 26 #[v, .int .i64 0, .int .u64 268] W fun e w' => e = .returned (.tuple #[.bool false, .int .i64 0]) ∧ Below W.heap.size W w') := Lib.hid (fun v W hb hM => by
    have h := aAgree_any exP v 0 268 W hM (by decide) (hT.belowAt hb hT.2)
    rw [ex_ag0.1, ex_ag0.2] at h
    exact h.mono fun e w' ⟨h1, h2⟩ => ⟨h1, h2⟩)
  have HA2 : Hid (∀ (v : Value) (W : World), Below w.heap.size w W → PrR W W.heap.size v exQ → Calls Tryd.prog 26 #[v, .int .i64 0, .int .u64 268] W fun e w' => e = .returned (.tuple #[.bool true, .int .i64 0]) ∧ Below W.heap.size W w') := Lib.hid (fun v W hb hM => by
    have h := aAgree_any exQ v 0 268 W hM (by decide) (hT.belowAt hb hT.2)
    rw [ex_ag2.1, ex_ag2.2] at h
    exact h.mono fun e w' ⟨h1, h2⟩ => ⟨h1, h2⟩)
  have HSM : Hid (∀ (v v' : Value) (W : World), PrR W W.heap.size v exQ → PrR W W.heap.size v' exQ → Calls Tryd.prog 33 #[v, v'] W fun e w' => e = .returned (.bool true) ∧ Below W.heap.size W w') := Lib.hid (fun v v' W h1 h2 => by
    have h := rSameP_any exQ exQ v v' W h1 h2
    rw [decide_eq_true rfl] at h
    exact h)
  have hN1 : ∀ W : World, (binOp .neq 41 (.agg #[.int .i64 1, .int .i64 3]) (.agg #[.int .i64 1, .int .i64 3])).run Tryd.prog W = .ok (.bool false) W := fun W => neqFr (1, 3) (1, 3) W
  have hN2 : ∀ W : World, (binOp .neq 41 (.agg #[.int .i64 1, .int .i64 2]) (.agg #[.int .i64 1, .int .i64 2])).run Tryd.prog W = .ok (.bool false) W := fun W => neqFr (1, 2) (1, 2) W
  have HB0 := Lib.hid (Below.refl w.heap.size w)
  have HN1 := Lib.hid hN1
  have HN2 := Lib.hid hN2
  clear hT hF hN1 hN2
  go_enter Tryd.func14, Tryd.ntmps14
  go_wp2_with fail
  refine (HEX.out _ HB0.out).mono ?_
  rintro e w1 ⟨v1, rfl, hM1, hb1⟩
  have HB1 := Lib.hid (belowNext HB0.out hb1)
  have HM1 := Lib.hid hM1
  clear hM1 hb1
  go_wp2_with fail
  refine (HP0.out v1 w1 HB1.out HM1.out).mono ?_
  rintro e w2 ⟨rfl, hb2⟩
  have hba : Below w2.heap.size w2 (w2.alloc (.cells #[.int .i64 1, .int .i64 3] 41)) := (Below.refl _ w2).alloc (Nat.le_refl _) _
  have HB2 := Lib.hid (belowNext (belowNext HB1.out hb2) hba)
  have HF2 := Lib.hid (FBox.made w2 (.int .i64 1) (.int .i64 3))
  clear hb2 hba HM1 HB1
  go_wp2_with fail
  generalize w2.alloc (.cells #[.int .i64 1, .int .i64 3] 41) = w3 at *
  generalize w2.heap.size = F1 at *
  refine (HEX.out _ HB2.out).mono ?_
  rintro e w4 ⟨v4, rfl, hM4, hb4⟩
  have HB4 := Lib.hid (belowNext HB2.out hb4)
  have HM4 := Lib.hid hM4
  have HF4 := Lib.hid (HF2.out.below hb4 HF2.out.lt)
  clear hM4 hb4 HF2 HB2
  go_wp2_with fail
  refine (HP1.out v4 w4 HB4.out HM4.out).mono ?_
  rintro e w5 ⟨rfl, hb5⟩
  have hba : Below w5.heap.size w5 (w5.alloc (.cells #[.int .i64 1, .int .i64 2] 41)) := (Below.refl _ w5).alloc (Nat.le_refl _) _
  have HB5 := Lib.hid (belowNext (belowNext HB4.out hb5) hba)
  have hf5 := HF4.out.below hb5 HF4.out.lt
  have HF5 := Lib.hid (⟨hf5.below hba hf5.lt, FBox.made w5 (.int .i64 1) (.int .i64 2)⟩ : _ ∧ _)
  clear hb5 hba hf5 HM4 HB4 HF4
  go_wp2_with fail
  generalize w5.alloc (.cells #[.int .i64 1, .int .i64 2] 41) = w6 at *
  generalize w5.heap.size = F2 at *
  refine (HEX.out _ HB5.out).mono ?_
  rintro e w7 ⟨v7, rfl, hM7, hb7⟩
  have HB7 := Lib.hid (belowNext HB5.out hb7)
  have HM7 := Lib.hid hM7
  have HF7 := Lib.hid (⟨HF5.out.1.below hb7 HF5.out.1.lt, HF5.out.2.below hb7 HF5.out.2.lt⟩ : _ ∧ _)
  clear hM7 hb7 HF5 HB5
  go_wp2_with fail
  refine (HX.out v7 w7 HB7.out HM7.out).mono ?_
  rintro e w8 ⟨LV, rfl, hL8, hb8⟩
  have HB8 := Lib.hid (belowNext HB7.out hb8)
  have HF8 := Lib.hid (⟨HF7.out.1.below hb8 HF7.out.1.lt, HF7.out.2.below hb8 HF7.out.2.lt⟩ : _ ∧ _)
  obtain ⟨gL, cL, V0, V1, V4, V5, rfl, hL⟩ := prs_three hL8 (fun j => exN_ok exP_ok 268 j)
  rw [ex_two] at hL
  have hL0 : ∀ W, Below w8.heap.size w8 W → W.cell? ⟨gL, 0, none⟩ = some V0 ∧ W.cell? ⟨gL, 1, none⟩ = some V1 ∧ W.cell? ⟨gL, 4, none⟩ = some V4 ∧ W.cell? ⟨gL, 5, none⟩ = some V5 ∧ PrR W W.heap.size (.agg #[V0, V1]) exP ∧ PrR W W.heap.size (.agg #[V4, V5]) exQ := hL
  have HL := Lib.hid hL0
  clear hL hL0 hL8 hb8 HF7 HM7 HB7
  go_wp2_with fail
  refine (HEX.out _ HB8.out).mono ?_
  rintro e w9 ⟨v9, rfl, hM9, hb9⟩
  have HB9 := Lib.hid (belowNext HB8.out hb9)
  have HM9 := Lib.hid hM9
  have HF9 := Lib.hid (⟨HF8.out.1.below hb9 HF8.out.1.lt, HF8.out.2.below hb9 HF8.out.2.lt⟩ : _ ∧ _)
  have HC9 := Lib.hid hb9
  clear hM9 hb9 HF8 HB8
  go_wp2_with fail
  refine (HCM.out v9 w9 HB9.out HM9.out).mono ?_
  rintro e w10 ⟨rfl, hb10⟩
  have HB10 := Lib.hid (belowNext HB9.out hb10)
  have HC10 := Lib.hid (belowNext HC9.out hb10)
  have x0 := (HF9.out.1.below hb10 HF9.out.1.lt).c0
  have x1 := (HF9.out.1.below hb10 HF9.out.1.lt).c1
  have x2 := (HF9.out.2.below hb10 HF9.out.2.lt).c0
  have x3 := (HF9.out.2.below hb10 HF9.out.2.lt).c1
  have l0 := (HL.out _ HC10.out).1
  have l1 := (HL.out _ HC10.out).2.1
  have hN1 := HN1.out
  have hN2 := HN2.out
  clear hb10 HF9 HM9 HB9 HC9
  go_wp2_with fail
  refine (HA0.out _ _ HB10.out (HL.out _ HC10.out).2.2.2.2.1).mono ?_
  rintro e w11 ⟨rfl, hb11⟩
  have HB11 := Lib.hid (belowNext HB10.out hb11)
  have HC11 := Lib.hid (belowNext HC10.out hb11)
  clear x0 x1 x2 x3 l0 l1 hN1 hN2 hb11 HB10 HC10
  have l4 := (HL.out _ HC11.out).2.2.1
  have l5 := (HL.out _ HC11.out).2.2.2.1
  go_wp2_with fail
  refine (HA2.out _ _ HB11.out (HL.out _ HC11.out).2.2.2.2.2).mono ?_
  rintro e w12 ⟨rfl, hb12⟩
  have HB12 := Lib.hid (belowNext HB11.out hb12)
  have HC12 := Lib.hid (belowNext HC11.out hb12)
  clear l4 l5 hb12 HB11 HC11
  go_wp2
  have HU : Hid (∀ W, Below w12.heap.size w12 W → Below w.heap.size w W ∧ W.cell? ⟨gL, 4, none⟩ = some V4 ∧ W.cell? ⟨gL, 5, none⟩ = some V5 ∧ PrR W W.heap.size (.agg #[V4, V5]) exQ) := Lib.hid (fun W hb => by
    have hc := belowNext HC12.out hb
    obtain ⟨_, _, h4, h5, _, h2⟩ := HL.out _ hc
    exact ⟨belowNext HB12.out hb, h4, h5, h2⟩)
  refine wp_region_wild [.bool false, .bool true, .bool true, .int .i64 0, .bool true, .bool true, .bool true, .bool true, .bool true, .bool true, .int .i64 0, .bool true, .bool true, .bool true, .slice (some ⟨gL, 0, none⟩) 3 cL, .pointer (some ⟨gL, 4, none⟩), .agg #[V4, V5], undef, undef, undef, undef, undef, undef, .bool true, .bool true, .bool true] [80, 81, 82, 83, 84, 85, 86, 87, 88, 89, 90, 91, 92, 93, 94, 95, 96, 97, 98, 99, 100, 101, 102, 103, 104, 0] [4, 11, 15, 16, 17, 18, 19, 20, 21, 22, 23] [17, 18, 19, 20, 21, 22] vAw (fun W => Below w12.heap.size w12 W) (fun W W' => Below W.heap.size W W') 26 105 rfl rfl rfl (by decide) (by decide) (by kernel_rfl) (by kernel_rfl) (by kernel_rfl) (by kernel_rfl) (fun W => Below.refl _ W) (fun W1 W2 W3 h1 h2 => h1.trans (h2.mono h1.size)) (fun W W' h h2 => h.trans (h2.mono h.size)) vAw_up (Below.refl w12.heap.size w12).drew (by kernel_rfl) [] rfl ?hop ?fin
  case hop =>
    refine (And.intro ?s4 (And.intro ?s11 (And.intro ?s15 (And.intro ?s16 (And.intro ?s17 (And.intro ?s18 (And.intro ?s19 (And.intro ?s20 (And.intro ?s21 (And.intro ?s22 (And.intro ?s23 (trivial))))))))))))
    case s4 =>
      refine And.intro (by rfl) (fun tm W hS hsz hfr hdep K hK => ?_)
      change tm.size = 105 at hsz
      have t83 : tm.getD 83 undef = .int .i64 0 := wildV_known (by rfl) (hdep 3 (by rfl) (by decide))
      clear hdep hfr
      go_simp
      exact hK _ W (Below.refl _ W) (wildV_of (by rfl))
    case s11 =>
      refine And.intro (by rfl) (fun tm W hS hsz hfr hdep K hK => ?_)
      change tm.size = 105 at hsz
      have t90 : tm.getD 90 undef = .int .i64 0 := wildV_known (by rfl) (hdep 10 (by rfl) (by decide))
      clear hdep hfr
      go_simp
      exact hK _ W (Below.refl _ W) (wildV_of (by rfl))
    case s15 =>
      refine And.intro (by rfl) (fun tm W hS hsz hfr hdep K hK => ?_)
      change tm.size = 105 at hsz
      have t94 : tm.getD 94 undef = .slice (some ⟨gL, 0, none⟩) 3 cL := wildV_known (by rfl) (hdep 14 (by rfl) (by decide))
      clear hdep hfr
      go_simp
      exact hK _ W (Below.refl _ W) (wildV_of (by rfl))
    case s16 =>
      refine And.intro (by rfl) (fun tm W hS hsz hfr hdep K hK => ?_)
      change tm.size = 105 at hsz
      have t95 : tm.getD 95 undef = .pointer (some ⟨gL, 4, none⟩) := wildV_known (by rfl) (hdep 15 (by rfl) (by decide))
      obtain ⟨_, y4, y5, _⟩ := HU.out W hS
      clear hdep hfr
      go_simp
      exact hK _ W (Below.refl _ W) (wildV_of (by rfl))
    case s17 =>
      refine And.intro (by rfl) (fun tm W hS hsz hfr hdep K hK => ?_)
      change tm.size = 105 at hsz
      clear hdep hfr
      refine wp_call _ _ _ _ _ rfl rfl (by rfl) (by kernel_rfl) (HEX.out W (HU.out W hS).1) (fun e W9 h9 => ?_)
      obtain ⟨v9, rfl, hr9, hb9⟩ := h9
      exact ⟨_, rfl, hK _ W9 hb9 (show vAw 17 v9 W9 from hr9)⟩
    case s18 =>
      refine And.intro (by rfl) (fun tm W hS hsz hfr hdep K hK => ?_)
      change tm.size = 105 at hsz
      have h17 : vAw 17 (tm.getD 97 undef) W := wildV_wild (by rfl) (hdep 17 (by rfl) (by decide))
      clear hdep hfr
      obtain ⟨A9, c9, B9, e9, t97, hr9, _⟩ := (show PrR W W.heap.size (tm.getD 97 undef) exP from h17).ex
      replace t97 : tm.getD 97 undef = .agg #[.slice A9 9 c9, .slice B9 2 e9] := t97
      go_simp
      exact hK _ W (Below.refl _ W) (show vAw 18 (.slice A9 9 c9) W from ⟨A9, c9, rfl, hr9⟩)
    case s19 =>
      refine And.intro (by rfl) (fun tm W hS hsz hfr hdep K hK => ?_)
      change tm.size = 105 at hsz
      clear hdep hfr
      have hx := row_lit W [0, 0, 0, 3, 4, 4, 6, 6, 8] #[.int .i64 0, .int .i64 0, .int .i64 0, .int .i64 3, .int .i64 4, .int .i64 4, .int .i64 6, .int .i64 6, .int .i64 8] rfl (by decide) (by decide)
      have hb9 : Below W.heap.size W (W.alloc (.cells #[.int .i64 0, .int .i64 0, .int .i64 0, .int .i64 3, .int .i64 4, .int .i64 4, .int .i64 6, .int .i64 6, .int .i64 8] 3)) := (Below.refl _ W).alloc (Nat.le_refl _) _
      go_simp
      exact hK _ _ hb9 (show vAw 19 (.slice (some ⟨W.heap.size, 0, none⟩) 9 9) _ from ⟨_, 9, rfl, hx⟩)
    case s20 =>
      refine And.intro (by rfl) (fun tm W hS hsz hfr hdep K hK => ?_)
      change tm.size = 105 at hsz
      clear hdep hfr
      have hx := row_lit W [0, 0, 0, 3, 4, 4, 4, 4, 8] #[.int .i64 0, .int .i64 0, .int .i64 0, .int .i64 3, .int .i64 4, .int .i64 4, .int .i64 4, .int .i64 4, .int .i64 8] rfl (by decide) (by decide)
      have hb9 : Below W.heap.size W (W.alloc (.cells #[.int .i64 0, .int .i64 0, .int .i64 0, .int .i64 3, .int .i64 4, .int .i64 4, .int .i64 4, .int .i64 4, .int .i64 8] 3)) := (Below.refl _ W).alloc (Nat.le_refl _) _
      go_simp
      exact hK _ _ hb9 (show vAw 20 (.slice (some ⟨W.heap.size, 0, none⟩) 9 9) _ from ⟨_, 9, rfl, hx⟩)
    case s21 =>
      refine And.intro (by rfl) (fun tm W hS hsz hfr hdep K hK => ?_)
      change tm.size = 105 at hsz
      have h19 : vAw 19 (tm.getD 99 undef) W := wildV_wild (by rfl) (hdep 19 (by rfl) (by decide))
      have h20 : vAw 20 (tm.getD 100 undef) W := wildV_wild (by rfl) (hdep 20 (by rfl) (by decide))
      clear hdep hfr
      obtain ⟨A1, c1, t99, hr1⟩ := h19
      obtain ⟨A2, c2, t100, hr2⟩ := h20
      have u99 : tm[99]'(by omega) = .slice A1 9 c1 := by have := t99; simpa [Array.getD, hsz] using this
      have u100 : tm[100]'(by omega) = .slice A2 9 c2 := by have := t100; simpa [Array.getD, hsz] using this
      have hx := ZsR.pair (c1 := c1) (c2 := c2) hr1 hr2 (by unfold maxLen; decide)
      have hb9 : Below W.heap.size W (W.alloc (.cells #[.slice A1 9 c1, .slice A2 9 c2] 22)) := (Below.refl _ W).alloc (Nat.le_refl _) _
      go_simp
      exact hK _ _ hb9 (show vAw 21 (.slice (some ⟨W.heap.size, 0, none⟩) 2 2) _ from ⟨_, 2, rfl, hx⟩)
    case s22 =>
      refine And.intro (by rfl) (fun tm W hS hsz hfr hdep K hK => ?_)
      change tm.size = 105 at hsz
      have h18 : vAw 18 (tm.getD 98 undef) W := wildV_wild (by rfl) (hdep 18 (by rfl) (by decide))
      have h21 : vAw 21 (tm.getD 101 undef) W := wildV_wild (by rfl) (hdep 21 (by rfl) (by decide))
      clear hdep hfr
      obtain ⟨A1, c1, t98, hr1⟩ := h18
      obtain ⟨A2, c2, t101, hr2⟩ := h21
      have u98 : tm[98]'(by omega) = .slice A1 9 c1 := by have := t98; simpa [Array.getD, hsz] using this
      have u101 : tm[101]'(by omega) = .slice A2 2 c2 := by have := t101; simpa [Array.getD, hsz] using this
      go_simp
      exact hK _ W (Below.refl _ W) (show vAw 22 (.agg #[.slice A1 9 c1, .slice A2 2 c2]) W from ⟨⟨A1, c1, A2, c2, rfl, hr1, hr2⟩, by unfold maxLen; decide⟩)
    case s23 =>
      refine And.intro (by rfl) (fun tm W hS hsz hfr hdep K hK => ?_)
      change tm.size = 105 at hsz
      have t96 : tm.getD 96 undef = .agg #[V4, V5] := wildV_known (by rfl) (hdep 16 (by rfl) (by decide))
      have h22 : vAw 22 (tm.getD 102 undef) W := wildV_wild (by rfl) (hdep 22 (by rfl) (by decide))
      have hq := (HU.out W hS).2.2.2
      clear hdep hfr
      generalize ht : tm.getD 102 undef = u at *
      have hc := HSM.out (.agg #[V4, V5]) u W hq (show PrR W W.heap.size u exQ from h22)
      refine wp_call _ _ _ _ _ rfl rfl (by simp [Act.eval, t96, ht]) (by kernel_rfl) hc (fun e W9 h9 => ?_)
      obtain ⟨rfl, hb9⟩ := h9
      exact ⟨_, rfl, hK _ W9 hb9 (wildV_of (by rfl))⟩
  case fin =>
    intro f W hS hV
    have hvl : ((List.range 26).map (fun i => if [17, 18, 19, 20, 21, 22].contains i then f i else ([.bool false, .bool true, .bool true, .int .i64 0, .bool true, .bool true, .bool true, .bool true, .bool true, .bool true, .int .i64 0, .bool true, .bool true, .bool true, .slice (some ⟨gL, 0, none⟩) 3 cL, .pointer (some ⟨gL, 4, none⟩), .agg #[V4, V5], undef, undef, undef, undef, undef, undef, .bool true, .bool true, .bool true] : List Value).getD i undef)) = [.bool false, .bool true, .bool true, .int .i64 0, .bool true, .bool true, .bool true, .bool true, .bool true, .bool true, .int .i64 0, .bool true, .bool true, .bool true, .slice (some ⟨gL, 0, none⟩) 3 cL, .pointer (some ⟨gL, 4, none⟩), .agg #[V4, V5], f 17, f 18, f 19, f 20, f 21, f 22, .bool true, .bool true, .bool true] := by rfl
    rw [hvl]
    clear hvl hV
    have HS := Lib.hid hS
    clear hS
    generalize f 17 = f17 at *
    generalize f 18 = f18 at *
    generalize f 19 = f19 at *
    generalize f 20 = f20 at *
    generalize f 21 = f21 at *
    generalize f 22 = f22 at *
    simp only [fillD]
    go_simp
    go_wp2
    go_ret
    exact ⟨rfl, (HU.out _ HS.out).1⟩
end Go.Proofs.YtfbgabcdeecpoaaDoor
