/- Layer 4: the usual names, by the program. -/
import Derived.Test.YtichhbnpdhfimaaDoorSp
import Derived.Laws.CopyOwn
import Derived.BigRegion
import Derived.Laws.ResultCell
namespace Go.Proofs.YtichhbnpdhfimaaDoor
open Go.RowKit Go.Proofs.Ws
theorem pOutside_any (n l : Int) (w : World) : Calls Tryd.prog 66 #[.int .i64 n, .int .i64 l] w fun e w' => e = .returned (.bool (decide (n < 0) || decide (l < n))) ∧ w = w' := by
  cases h1 : decide (n < 0) with
  | true =>
    go_enter Tryd.func66, Tryd.ntmps66
    go_wp2
    go_ret
    exact ⟨rfl, rfl⟩
  | false =>
    obtain ⟨b, h2⟩ : ∃ b, decide (l < n) = b := ⟨_, rfl⟩
    rw [h2]
    cases b
    all_goals
      go_enter Tryd.func66, Tryd.ntmps66
      go_wp2
      go_ret
      exact ⟨rfl, rfl⟩
theorem made_ss (n : Nat) : madeCells (Value.string ByteArray.empty).cells n = (ss (List.replicate n ByteArray.empty)).toArray := by
  apply Array.ext
  · simp [madeCells, ss]
  · intro i h1 h2
    simp [madeCells, ss, Value.cells, Nat.mod_one]
theorem makeS (w : World) (n : Nat) (hn : n ≤ 1000000) : (Instr.makeSlice 37 (.int .i64 (n : Int)) (.int .i64 (n : Int))).run Tryd.prog w = .ok (.slice (some ⟨w.heap.size, 0, none⟩) n n) (w.alloc (.cells (ss (List.replicate n ByteArray.empty)).toArray 9)) := by
  obtain ⟨i0, hi, hz0, hz1, hz2⟩ := info_parts Tryd.infoS
  have h := run_make (P := Tryd.prog) w 37 9 i0 (.string ByteArray.empty) Tryd.underlying37 hi hz0 .i64 .i64 n n (by omega) (Int.le_refl _) (by rw [hz2]; omega) (by omega)
  rw [h, hz1]
  simp only [Int.toNat_natCast, Nat.mul_one]
  rw [made_ss]
theorem copy_all {P : Program} {w : World} {ops : Array Oper} {rest : List Oper} {o : Oper} {a : Act} {Q : Exit → Act → World → Prop} (hgd : o.guard = none) (d s : Operand) (dT sT : TypeId)
    (ho : o.op = .call { callee := .builtin .copy, args := #[d, s], argTypes := #[dT, sT] }) (elem : TypeId) (hu : P.underlying dT = some (.slice elem)) (hsz : (P.info? elem).map (·.size) = some 1)
    (dp sp : Option Addr) (dLen dCap sLen sCap : Nat) (hd : a.eval d = .slice dp dLen dCap) (hs : a.eval s = .slice sp sLen sCap)
    (g : Nat) (cur : List Value) (t : TypeId) (hg : w.heap[g]? = some (.cells cur.toArray t (0, 0))) (cs : List Value) (hn : cs.length = Nat.min sLen dLen)
    (hpos : 0 < cs.length → dp = some ⟨g, 0, none⟩ ∧ ∃ ad, sp = some ad ∧ ∀ j v, cs[j]? = some v → w.cell? (ad.add j) = some v)
    (hfit : cs.length = cur.length) (h1 : ∀ v ∈ cs, v.oneCell' = true)
    (h : ∀ w', Hid (w'.heap[g]? = some (.cells cs.toArray t (0, 0)) ∧ (∀ b, b ≠ g → w'.heap[b]? = w.heap[b]?) ∧ w'.heap.size = w.heap.size ∧ ∀ B, B ≤ g → Below B w w') → wpList P ops Q rest (a.put o.dst (goInt cs.length)) w') :
    wpList P ops Q (o :: rest) a w := by
  by_cases h0 : cs.length = 0
  · obtain rfl : cs = [] := List.eq_nil_of_length_eq_zero h0
    obtain rfl : cur = [] := List.eq_nil_of_length_eq_zero (by simpa using hfit.symm)
    refine wpList_copy_nothing hgd d s dT sT ho elem hu hsz dp sp dLen dCap sLen sCap hd hs (by simpa using hn.symm) ?_
    exact h w (Lib.hid ⟨hg, fun _ _ => rfl, rfl, fun B _ => Below.refl B w⟩)
  · obtain ⟨rfl, ad, rfl, hsrc⟩ := hpos (by omega)
    refine wpList_copy_own hgd d s dT sT ho elem hu hsz g 0 dLen dCap ad sLen sCap hd hs cur.toArray t hg cs hn hsrc (by simp; omega) h1 ?_
    have e : (cur.toArray.toList.take 0 ++ (cs ++ cur.toArray.toList.drop (0 + cs.length))).toArray = cs.toArray := by
      rw [Nat.zero_add, hfit]
      simp
    rw [e]
    exact h _ (Lib.hid ⟨setRow_heap w g _ _ t _ hg, fun b hb => setRow_other w g b _ (fun e => hb e), size_setRow _ _ _, fun B hB => below_setRow (Below.refl B w) hB _⟩)
theorem four_at (w : World) (z o1 o2 o3 o4 : Array Value) (T0 t1 t2 t3 t4 : TypeId) :
    ((((((w.alloc (.cells z T0)).alloc (.cells o1 t1)).alloc (.cells o2 t2)).alloc (.cells o3 t3)).alloc (.cells o4 t4)).drew.heap[w.heap.size]? = some (.cells z T0 (0, 0))) ∧
    ((((((w.alloc (.cells z T0)).alloc (.cells o1 t1)).alloc (.cells o2 t2)).alloc (.cells o3 t3)).alloc (.cells o4 t4)).drew.heap[w.heap.size + 1]? = some (.cells o1 t1 (0, 0))) ∧
    ((((((w.alloc (.cells z T0)).alloc (.cells o1 t1)).alloc (.cells o2 t2)).alloc (.cells o3 t3)).alloc (.cells o4 t4)).drew.heap[w.heap.size + 1 + 1]? = some (.cells o2 t2 (0, 0))) ∧
    ((((((w.alloc (.cells z T0)).alloc (.cells o1 t1)).alloc (.cells o2 t2)).alloc (.cells o3 t3)).alloc (.cells o4 t4)).drew.heap[w.heap.size + 1 + 1 + 1]? = some (.cells o3 t3 (0, 0))) ∧
    ((((((w.alloc (.cells z T0)).alloc (.cells o1 t1)).alloc (.cells o2 t2)).alloc (.cells o3 t3)).alloc (.cells o4 t4)).drew.heap[w.heap.size + 1 + 1 + 1 + 1]? = some (.cells o4 t4 (0, 0))) ∧
    Below w.heap.size w (((((w.alloc (.cells z T0)).alloc (.cells o1 t1)).alloc (.cells o2 t2)).alloc (.cells o3 t3)).alloc (.cells o4 t4)).drew := by
  have sz : ∀ (W : World) (o : Obj), (W.alloc o).heap.size = W.heap.size + 1 := fun W o => by simp
  have new : ∀ (W : World) (o : Array Value) (t : TypeId) (k : Nat), k = W.heap.size → (W.alloc (.cells o t)).heap[k]? = some (.cells o t (0, 0)) := fun W o t k hk => by subst hk; exact heap_alloc_new W (.cells o t)
  have keep : ∀ (W : World) (o : Obj) (k : Nat) (x : Obj), W.heap[k]? = some x → (W.alloc o).heap[k]? = some x := fun W o k x h => (Below.heap_alloc W o k (Array.getElem?_eq_some_iff.1 h).1).trans h
  refine ⟨?_, ?_, ?_, ?_, ?_, ?_⟩
  · exact keep _ _ _ _ (keep _ _ _ _ (keep _ _ _ _ (keep _ _ _ _ (new _ _ _ _ rfl))))
  · exact keep _ _ _ _ (keep _ _ _ _ (keep _ _ _ _ (new _ _ _ _ (by simp only [sz]))))
  · exact keep _ _ _ _ (keep _ _ _ _ (new _ _ _ _ (by simp only [sz])))
  · exact keep _ _ _ _ (new _ _ _ _ (by simp only [sz]))
  · exact new _ _ _ _ (by simp only [sz])
  · exact (((((((Below.refl _ w).alloc (Nat.le_refl _) _).alloc (by simp) _).alloc (by simp; omega) _).alloc (by simp; omega) _).alloc (by simp; omega) _)).drew
theorem ret_cell_row {P : Program} {fn : Func} {p u : Tmp} {ty : TypeId} (h : fn.results = #[.cell p ty, .tmp u]) (tmps : Array Value) (w : World) (g : Nat) (t : TypeId) (cs : Array Value) (fr : Nat × Nat) (d : TypeDesc)
    (hp : tmps.getD p undef = .pointer (some ⟨g, 0, none⟩)) (hg : w.heap[g]? = some (.cells cs t fr))
    (hu : P.underlying ty = some d) (hd : (match d with | .struct _ | .array _ _ => true | _ => false) = true) (hi : (P.info? ty).map (·.size) = some cs.size) :
    (results fn tmps).run P w = .ok (.tuple #[.agg cs, tmps.getD u undef]) w := by
  rw [results_cell_tmp h, hp]
  simp [asAddr, Result.andThen, run_loadVar_row w g t ty cs fr d hg hu hd hi]
/-- the rows of a signature under way -/
def Dft (w wx : World) (S G0 G1 G2 n0 n1 n2 : Nat) (L0 L1 L2 : List ByteArray) : Prop :=
  wx.heap[w.heap.size]? = some (.cells #[.slice none 0 0, .slice none 0 0, .slice none 0 0] 39 (0, 0)) ∧
  wx.heap[S]? = some (.cells #[.slice (some ⟨G0, 0, none⟩) n0 n0, .slice (some ⟨G1, 0, none⟩) n1 n1, .slice (some ⟨G2, 0, none⟩) n2 n2] 39 (0, 0)) ∧
  wx.heap[G0]? = some (.cells (ss L0).toArray 9 (0, 0)) ∧ wx.heap[G1]? = some (.cells (ss L1).toArray 9 (0, 0)) ∧ wx.heap[G2]? = some (.cells (ss L2).toArray 9 (0, 0)) ∧
  Below w.heap.size w wx ∧ (w.heap.size < S ∧ w.heap.size < G0 ∧ w.heap.size < G1 ∧ w.heap.size < G2 ∧ S ≠ G0 ∧ S ≠ G1 ∧ S ≠ G2 ∧ G0 ≠ G1 ∧ G0 ≠ G2 ∧ G1 ≠ G2)
def Copied (W W' : World) (g : Nat) (l : List ByteArray) : Prop := W'.heap[g]? = some (.cells (ss l).toArray 9 (0, 0)) ∧ (∀ b, b ≠ g → W'.heap[b]? = W.heap[b]?) ∧ W'.heap.size = W.heap.size ∧ ∀ B, B ≤ g → Below B W W'
theorem dft_put0 {w W W' : World} {S G0 G1 G2 n0 n1 n2 : Nat} {L0 L1 L2 l : List ByteArray} (h : Dft w W S G0 G1 G2 n0 n1 n2 L0 L1 L2) (k : Copied W W' G0 l) : Dft w W' S G0 G1 G2 n0 n1 n2 l L1 L2 := by
  obtain ⟨zH, zS, z0, z1, z2, zb, lt0, lt1, lt2, lt3, ne0, ne1, ne2, ne3, ne4, ne5⟩ := h
  obtain ⟨k1, k2, k3, k4⟩ := k
  exact ⟨(k2 _ (by omega)).trans zH, (k2 _ ne0).trans zS, k1, (k2 _ (fun e => ne3 e.symm)).trans z1, (k2 _ (fun e => ne4 e.symm)).trans z2, zb.trans (k4 _ (by omega)), lt0, lt1, lt2, lt3, ne0, ne1, ne2, ne3, ne4, ne5⟩
theorem dft_put1 {w W W' : World} {S G0 G1 G2 n0 n1 n2 : Nat} {L0 L1 L2 l : List ByteArray} (h : Dft w W S G0 G1 G2 n0 n1 n2 L0 L1 L2) (k : Copied W W' G1 l) : Dft w W' S G0 G1 G2 n0 n1 n2 L0 l L2 := by
  obtain ⟨zH, zS, z0, z1, z2, zb, lt0, lt1, lt2, lt3, ne0, ne1, ne2, ne3, ne4, ne5⟩ := h
  obtain ⟨k1, k2, k3, k4⟩ := k
  exact ⟨(k2 _ (by omega)).trans zH, (k2 _ ne1).trans zS, (k2 _ ne3).trans z0, k1, (k2 _ (fun e => ne5 e.symm)).trans z2, zb.trans (k4 _ (by omega)), lt0, lt1, lt2, lt3, ne0, ne1, ne2, ne3, ne4, ne5⟩
theorem dft_put2 {w W W' : World} {S G0 G1 G2 n0 n1 n2 : Nat} {L0 L1 L2 l : List ByteArray} (h : Dft w W S G0 G1 G2 n0 n1 n2 L0 L1 L2) (k : Copied W W' G2 l) : Dft w W' S G0 G1 G2 n0 n1 n2 L0 L1 l := by
  obtain ⟨zH, zS, z0, z1, z2, zb, lt0, lt1, lt2, lt3, ne0, ne1, ne2, ne3, ne4, ne5⟩ := h
  obtain ⟨k1, k2, k3, k4⟩ := k
  exact ⟨(k2 _ (by omega)).trans zH, (k2 _ ne2).trans zS, (k2 _ ne4).trans z0, (k2 _ ne5).trans z1, k1, zb.trans (k4 _ (by omega)), lt0, lt1, lt2, lt3, ne0, ne1, ne2, ne3, ne4, ne5⟩
theorem Dft.cells {w W : World} {S G0 G1 G2 n0 n1 n2 : Nat} {L0 L1 L2 : List ByteArray} (h : Dft w W S G0 G1 G2 n0 n1 n2 L0 L1 L2) :
    W.cell? ⟨S, 0, none⟩ = some (.slice (some ⟨G0, 0, none⟩) n0 n0) ∧ W.cell? ⟨S, 1, none⟩ = some (.slice (some ⟨G1, 0, none⟩) n1 n1) ∧ W.cell? ⟨S, 2, none⟩ = some (.slice (some ⟨G2, 0, none⟩) n2 n2) := by
  refine ⟨?_, ?_, ?_⟩ <;> (rw [Lib.cell_of_heap h.2.1]; rfl)
/-- a slice of one of the program's lists of usual names -/
theorem lst_src {w W : World} {g m : Nat} {l : List ByteArray} (h : Lst w g l) (hb : Below w.heap.size w W) : ∃ A c, W.cell? ⟨g, 0, none⟩ = some (.slice A l.length c) ∧
    (0 < (ss (l.take m)).length → ∃ ad, A = some ad ∧ ∀ j v, (ss (l.take m))[j]? = some v → W.cell? (ad.add j) = some v) := by
  obtain ⟨h1, A, c, h2, h3, h5, h4⟩ := h
  refine ⟨A, c, (hb.cell (p := ⟨g, 0, none⟩) h1).trans h2, fun h0 => ?_⟩
  rw [ss_length, List.length_take] at h0
  obtain ⟨ad, hA, hbl, hc⟩ := h4.2 (by omega)
  refine ⟨ad, hA, fun j v hv => (hb.cell (p := ad.add j) (by rw [block_of_add]; exact hbl)).trans (hc j v ?_)⟩
  unfold ss at hv ⊢
  rw [List.map_take, List.getElem?_take] at hv
  split at hv
  · exact hv
  · cases hv
theorem row_reads {w : World} {g n : Nat} {l : List ByteArray} {T : TypeId} (h : w.heap[g]? = some (.cells (ss l).toArray T (0, 0))) (hl : l.length = n) : Reads w w.heap.size 1 (some ⟨g, 0, none⟩) n (ss l) :=
  ⟨by rw [ss_length]; omega, fun _ => ⟨_, rfl, (Array.getElem?_eq_some_iff.1 h).1, fun j u hu => by
    rw [addr0, Lib.cell_of_heap h]
    simpa using hu⟩⟩
theorem set3 {W : World} {H : Nat} {x y z a b c : Value} {T : TypeId} (h : W.heap[H]? = some (.cells #[x, y, z] T (0, 0))) :
    ((((W.setCell ⟨H, 0, none⟩ a).setCell ⟨H, 1, none⟩ b).setCell ⟨H, 2, none⟩ c).heap[H]? = some (.cells #[a, b, c] T (0, 0))) ∧
    ((((W.setCell ⟨H, 0, none⟩ a).setCell ⟨H, 1, none⟩ b).setCell ⟨H, 2, none⟩ c).heap.size = W.heap.size) ∧
    (∀ k, k ≠ H → (((W.setCell ⟨H, 0, none⟩ a).setCell ⟨H, 1, none⟩ b).setCell ⟨H, 2, none⟩ c).heap[k]? = W.heap[k]?) := by
  refine ⟨by simp [World.setCell, Array.getElem?_modify, h], by simp [World.setCell], fun k hk => ?_⟩
  exact (Below.heap_setCell _ ⟨H, 2, none⟩ c k hk).trans ((Below.heap_setCell _ ⟨H, 1, none⟩ b k hk).trans (Below.heap_setCell _ ⟨H, 0, none⟩ a k hk))
theorem sl_of {w : World} {g n : Nat} {l : List ByteArray} {T : TypeId} (h : w.heap[g]? = some (.cells (ss l).toArray T (0, 0))) (hl : l.length = n) (hn : n ≤ 20) (hs : ∀ x ∈ l, x.size ≤ maxLen) : SL w w.heap.size (some ⟨g, 0, none⟩) n n l :=
  ⟨row_reads h hl, (fun e => by cases e), hn, hs, Nat.le_refl _, by omega⟩
theorem usual_size : (∀ x ∈ agW, x.size ≤ 8) ∧ (∀ x ∈ faW, x.size ≤ 8) ∧ (∀ x ∈ acW, x.size ≤ 8) := by
  refine ⟨?_, ?_, ?_⟩ <;> decide
set_option maxRecDepth 100000 in
set_option maxHeartbeats 4000000 in
theorem pDefault_ok (n0 n1 n2 : Nat) (w : World) (hE : EnvS w) (h0 : n0 ≤ 4) (h1 : n1 ≤ 8) (h2 : n2 ≤ 8) :
    Calls Tryd.prog 33 #[.int .i64 n0, .int .i64 n1, .int .i64 n2] w fun e w' => ∃ v, e = .returned (.tuple #[v, .int .i64 0]) ∧ SigR w' w'.heap.size v (agW.take n0) (faW.take n1) (acW.take n2) ∧ Below w.heap.size w w' := by
  have HO := Lib.hid (fun n l W => pOutside_any n l W)
  have d0 : (decide ((n0 : Int) < 0) || decide ((4 : Int) < (n0 : Int))) = false := by simp; omega
  have d1 : (decide ((n1 : Int) < 0) || decide ((8 : Int) < (n1 : Int))) = false := by simp; omega
  have d2 : (decide ((n2 : Int) < 0) || decide ((8 : Int) < (n2 : Int))) = false := by simp; omega
  have HO0 := Lib.hid (fun W => d0 ▸ pOutside_any (n0 : Int) 4 W)
  have HO1 := Lib.hid (fun W => d1 ▸ pOutside_any (n1 : Int) 8 W)
  have HO2 := Lib.hid (fun W => d2 ▸ pOutside_any (n2 : Int) 8 W)
  clear d0 d1 d2 HO
  have hmk0 := fun W => makeS W n0 (by omega)
  have hmk1 := fun W => makeS W n1 (by omega)
  have hmk2 := fun W => makeS W n2 (by omega)
  go_enter Tryd.func33, Tryd.ntmps33
  go_wp2_with fail
  refine (HO0.out _).mono ?_
  rintro e w1 ⟨rfl, rfl⟩
  go_wp2_with fail
  refine (HO1.out _).mono ?_
  rintro e w1 ⟨rfl, rfl⟩
  go_wp2_with fail
  refine (HO2.out _).mono ?_
  rintro e w1 ⟨rfl, rfl⟩
  go_upto_region 3 with fail
  go_cut [8] from 20 to 26 (fun v8 wx => ∃ S G0 G1 G2 : Nat, v8 = .pointer (some ⟨S, 0, none⟩) ∧ Hid (Dft w wx S G0 G1 G2 n0 n1 n2 (List.replicate n0 ByteArray.empty) (List.replicate n1 ByteArray.empty) (List.replicate n2 ByteArray.empty)))
  case first =>
    go_big_region
    all_goals (go_wp2_with fail; go_meet)
    all_goals
      apply Exists.intro
      apply Exists.intro
      apply Exists.intro
      apply Exists.intro
      refine ⟨rfl, Lib.hid ⟨(four_at w _ _ _ _ _ _ _ _ _ _).1, ?h1, ?h2, ?h3, ?h4, (four_at w _ _ _ _ _ _ _ _ _ _).2.2.2.2.2, ?h5⟩⟩
      case h1 => first | exact (four_at w _ _ _ _ _ _ _ _ _ _).2.1 | exact (four_at w _ _ _ _ _ _ _ _ _ _).2.2.1 | exact (four_at w _ _ _ _ _ _ _ _ _ _).2.2.2.1 | exact (four_at w _ _ _ _ _ _ _ _ _ _).2.2.2.2.1
      case h2 => first | exact (four_at w _ _ _ _ _ _ _ _ _ _).2.1 | exact (four_at w _ _ _ _ _ _ _ _ _ _).2.2.1 | exact (four_at w _ _ _ _ _ _ _ _ _ _).2.2.2.1 | exact (four_at w _ _ _ _ _ _ _ _ _ _).2.2.2.2.1
      case h3 => first | exact (four_at w _ _ _ _ _ _ _ _ _ _).2.1 | exact (four_at w _ _ _ _ _ _ _ _ _ _).2.2.1 | exact (four_at w _ _ _ _ _ _ _ _ _ _).2.2.2.1 | exact (four_at w _ _ _ _ _ _ _ _ _ _).2.2.2.2.1
      case h4 => first | exact (four_at w _ _ _ _ _ _ _ _ _ _).2.1 | exact (four_at w _ _ _ _ _ _ _ _ _ _).2.2.1 | exact (four_at w _ _ _ _ _ _ _ _ _ _).2.2.2.1 | exact (four_at w _ _ _ _ _ _ _ _ _ _).2.2.2.2.1
      case h5 => omega
  case rest =>
    obtain ⟨S, G0, G1, G2, rfl, HD⟩ := hcut
    have HE := Lib.hid hE
    clear hmk0 hmk1 hmk2 HO0 HO1 HO2 hE
    obtain ⟨A0, C0, hg0, hs0⟩ := lst_src (m := n0) HE.out.2.1 HD.out.2.2.2.2.2.1
    have HSR0 := Lib.hid hs0
    have hcl0 := HD.out.cells.1
    have hll0 : agW.length = 4 := rfl
    rw [hll0] at hg0
    clear hs0 hll0
    go_wp2_with (with_reducible refine copy_all rfl (.tmp 28) (.tmp 29) 37 37 rfl 9 Tryd.underlying37 (by kernel_rfl) _ _ _ _ _ _ rfl rfl G0 (ss (List.replicate n0 ByteArray.empty)) 9 ?cg (ss (agW.take n0)) ?cn ?cp ?cf ?c1 ?_)
    case cg => exact HD.out.2.2.1
    case cn => rw [ss_length, List.length_take]; exact Nat.min_comm _ _
    case cp => first | exact fun h => ⟨rfl, HSR0.out h⟩ | exact fun h => HSR0.out h | (simp; exact fun h => HSR0.out h)
    case cf => rw [ss_length, ss_length, List.length_take, List.length_replicate]; show min n0 4 = n0; omega
    case c1 => exact ss_oneCell _
    intro w2 HK0
    have HD0 := Lib.hid (dft_put0 HD.out HK0.out)
    clear HK0 HSR0 HD hg0 hcl0
    obtain ⟨A1, C1, hg1, hs1⟩ := lst_src (m := n1) HE.out.2.2.1 HD0.out.2.2.2.2.2.1
    have HSR1 := Lib.hid hs1
    have hcl1 := HD0.out.cells.2.1
    have hll1 : faW.length = 8 := rfl
    rw [hll1] at hg1
    clear hs1 hll1
    go_wp2_with (with_reducible refine copy_all rfl (.tmp 32) (.tmp 33) 37 37 rfl 9 Tryd.underlying37 (by kernel_rfl) _ _ _ _ _ _ rfl rfl G1 (ss (List.replicate n1 ByteArray.empty)) 9 ?cg (ss (faW.take n1)) ?cn ?cp ?cf ?c1 ?_)
    case cg => exact HD0.out.2.2.2.1
    case cn => rw [ss_length, List.length_take]; exact Nat.min_comm _ _
    case cp => first | exact fun h => ⟨rfl, HSR1.out h⟩ | exact fun h => HSR1.out h | (simp; exact fun h => HSR1.out h)
    case cf => rw [ss_length, ss_length, List.length_take, List.length_replicate]; show min n1 8 = n1; omega
    case c1 => exact ss_oneCell _
    intro w3 HK1
    have HD1 := Lib.hid (dft_put1 HD0.out HK1.out)
    clear HK1 HSR1 HD0 hg1 hcl1
    obtain ⟨A2, C2, hg2, hs2⟩ := lst_src (m := n2) HE.out.2.2.2.1 HD1.out.2.2.2.2.2.1
    have HSR2 := Lib.hid hs2
    have hcl2 := HD1.out.cells.2.2
    have hll2 : acW.length = 8 := rfl
    rw [hll2] at hg2
    clear hs2 hll2
    go_wp2_with (with_reducible refine copy_all rfl (.tmp 36) (.tmp 37) 37 37 rfl 9 Tryd.underlying37 (by kernel_rfl) _ _ _ _ _ _ rfl rfl G2 (ss (List.replicate n2 ByteArray.empty)) 9 ?cg (ss (acW.take n2)) ?cn ?cp ?cf ?c1 ?_)
    case cg => exact HD1.out.2.2.2.2.1
    case cn => rw [ss_length, List.length_take]; exact Nat.min_comm _ _
    case cp => first | exact fun h => ⟨rfl, HSR2.out h⟩ | exact fun h => HSR2.out h | (simp; exact fun h => HSR2.out h)
    case cf => rw [ss_length, ss_length, List.length_take, List.length_replicate]; show min n2 8 = n2; omega
    case c1 => exact ss_oneCell _
    intro w4 HK2
    have HD2 := Lib.hid (dft_put2 HD1.out HK2.out)
    clear HK2 HSR2 HD1 hg2 hcl2
    have zc := HD2.out.cells
    obtain ⟨zc0, zc1, zc2⟩ := zc
    have zH := HD2.out.1
    have y0 : w4.cell? ⟨w.heap.size, 0, none⟩ = some (.slice none 0 0) := by rw [Lib.cell_of_heap zH]; rfl
    have y1 : w4.cell? ⟨w.heap.size, 1, none⟩ = some (.slice none 0 0) := by rw [Lib.cell_of_heap zH]; rfl
    have y2 : w4.cell? ⟨w.heap.size, 2, none⟩ = some (.slice none 0 0) := by rw [Lib.cell_of_heap zH]; rfl
    have f0 := Lib.frozen_of_heap zH 0
    have f1 := Lib.frozen_of_heap zH 1
    have f2 := Lib.frozen_of_heap zH 2
    clear zH
    go_wp2
    have HZ3 := Lib.hid (set3 (a := .slice (some ⟨G0, 0, none⟩) n0 n0) (b := .slice (some ⟨G1, 0, none⟩) n1 n1) (c := .slice (some ⟨G2, 0, none⟩) n2 n2) HD2.out.1)
    have HB3 : Hid (Below w.heap.size w (((w4.setCell ⟨w.heap.size, 0, none⟩ (.slice (some ⟨G0, 0, none⟩) n0 n0)).setCell ⟨w.heap.size, 1, none⟩ (.slice (some ⟨G1, 0, none⟩) n1 n1)).setCell ⟨w.heap.size, 2, none⟩ (.slice (some ⟨G2, 0, none⟩) n2 n2))) := Lib.hid (((HD2.out.2.2.2.2.2.1.setCell (p := ⟨w.heap.size, 0, none⟩) (Nat.le_refl _) _).setCell (p := ⟨w.heap.size, 1, none⟩) (Nat.le_refl _) _).setCell (p := ⟨w.heap.size, 2, none⟩) (Nat.le_refl _) _)
    clear zc0 zc1 zc2 y0 y1 y2 f0 f1 f2
    generalize (((w4.setCell ⟨w.heap.size, 0, none⟩ (.slice (some ⟨G0, 0, none⟩) n0 n0)).setCell ⟨w.heap.size, 1, none⟩ (.slice (some ⟨G1, 0, none⟩) n1 n1)).setCell ⟨w.heap.size, 2, none⟩ (.slice (some ⟨G2, 0, none⟩) n2 n2)) = w5 at *
    (try simp only [Exit.inBlock, Exit.then])
    refine bodyPost_ret (ret_cell_row rfl _ _ w.heap.size _ _ _ _ rfl HZ3.out.1 Tryd.underlying39 rfl (by kernel_rfl)) rfl ?_
    obtain ⟨_, _, z0, z1, z2, _, lt0, lt1, lt2, lt3, _⟩ := HD2.out
    have r0 := (HZ3.out.2.2 G0 (by omega)).trans z0
    have r1 := (HZ3.out.2.2 G1 (by omega)).trans z1
    have r2 := (HZ3.out.2.2 G2 (by omega)).trans z2
    refine ⟨_, rfl, ⟨some ⟨G0, 0, none⟩, n0, n0, some ⟨G1, 0, none⟩, n1, n1, some ⟨G2, 0, none⟩, n2, n2, rfl, ?_, ?_, ?_⟩, HB3.out⟩
    · exact sl_of r0 (by rw [List.length_take]; show min n0 4 = n0; omega) (by omega) (fun x hx => Nat.le_trans (usual_size.1 x (List.mem_of_mem_take hx)) (by unfold maxLen; omega))
    · exact sl_of r1 (by rw [List.length_take]; show min n1 8 = n1; omega) (by omega) (fun x hx => Nat.le_trans (usual_size.2.1 x (List.mem_of_mem_take hx)) (by unfold maxLen; omega))
    · exact sl_of r2 (by rw [List.length_take]; show min n2 8 = n2; omega) (by omega) (fun x hx => Nat.le_trans (usual_size.2.2 x (List.mem_of_mem_take hx)) (by unfold maxLen; omega))
end Go.Proofs.YtichhbnpdhfimaaDoor
