/- Layer 13: the model of some worlds, by the reference. -/
import Derived.Test.YtofclgapgjcflaaDoorDj
import Derived.Deep.RegionHeld3
import Derived.Deep.RegionLaw
import Derived.Deep.AppendLies
import Derived.Maps.AppendAt
namespace Go.Proofs.YtofclgapgjcflaaDoor
open Go.RowKit Go.Proofs.Ws
set_option maxRecDepth 100000
theorem us_app (l : List Nat) (x : Nat) : us (l ++ [x]) = us l ++ [.int .u64 (x : Int)] := by unfold us; simp
theorem addr_zero' (b : Nat) : (⟨b, 0, none⟩ : Addr).add 0 = ⟨b, 0, none⟩ := rfl
theorem step_appW {ops : Array Oper} {o : Oper} {a : Act} {K : Act → World → Prop} {Q : Exit → Act → World → Prop} {E : Prop} {l : List Nat} (n v : Nat) (W : World) (hgd : o.guard = none) (s x : Operand)
    (ho : o.op = .call { callee := .builtin .append, args := #[s, x], argTypes := #[22, 22] }) (base b : Nat) (V : Value)
    (hs : a.eval s = V) (hown : W.ownsRow base 31 1 V n (us l)) (hx : a.eval x = .slice (some ⟨b, 0, none⟩) 1 1)
    (hc : W.cell? ⟨b, 0, none⟩ = some (.int .u64 (v : Int))) (hl : n ≤ 1000000) (hbase : base ≤ W.heap.size)
    (h : ∀ g cap w', w'.ownsRow base 31 1 (.slice (some ⟨g, 0, none⟩) (n + 1) cap) (n + 1) (us (l ++ [v])) → W.grownBy w' V.ownBlock → (V.ownBlock = some g ∨ W.heap.size ≤ g) → g < w'.heap.size → K (a.put o.dst (.slice (some ⟨g, 0, none⟩) (n + 1) cap)) w') :
    if Region.wanted o (yielded ops a.tmps) = true then Oper.wp Tryd.prog o a W K Q else E := by
  obtain ⟨i0, hi, hz0, hz1, hz2⟩ := info_parts Tryd.infoU
  refine step_append_lies W hgd s x 22 ho base 31 i0 _ 1 8 Tryd.underlying22 hi hz0 hz1 hz2 rfl (by decide) V n (us l) hs hown ⟨b, 0, none⟩ 1 1 [.int .u64 (v : Int)] hx rfl ?_ ?_ (by decide) (by unfold maxLen; omega) (by omega) hbase _ rfl ?_
  · intro j u hj
    cases j with
    | zero => simp at hj; subst hj; rw [addr_zero']; exact hc
    | succ j => simp at hj
  · intro u hu
    rw [List.mem_singleton.1 hu]; rfl
  · intro g cap w' h1 h2 h3 h4
    exact h g cap w' (by rw [us_app]; exact h1) h2 (h3.imp id (fun e => by omega)) h4
theorem own_keep1 {W W' : World} {lo size : Nat} {e : TypeId} {v : Value} {n : Nat} {xs : List Value} (h : W.ownsRow lo e size v n xs) (hk : ∀ g, v.ownBlock = some g → W'.heap[g]? = W.heap[g]?) : W'.ownsRow lo e size v n xs := by
  refine ⟨h.1, ?_⟩
  rcases h.2 with hn | ⟨g, cap, cur, hv, hb, hg, rest⟩
  · exact .inl hn
  · exact .inr ⟨g, cap, cur, hv, hb, by rw [hk g (by rw [hv]; rfl)]; exact hg, rest⟩
theorem own_type {W : World} {b size n : Nat} {e : TypeId} {v : Value} {xs : List Value} (h : W.ownsRow b e size v n xs) {g : Nat} (hg : v.ownBlock = some g) : ∃ cur, W.heap[g]? = some (.cells cur e (0, 0)) := by
  rcases h.2 with ⟨rfl, _⟩ | ⟨g2, cap, cur, rfl, _, h2, _⟩
  · cases hg
  · have e2 : g2 = g := by injection hg
    subst e2
    exact ⟨cur, h2⟩
theorem own_apart {W : World} {b b2 size size2 n n2 : Nat} {e e2 : TypeId} {v v2 : Value} {xs xs2 : List Value} (h : W.ownsRow b e size v n xs) (h2 : W.ownsRow b2 e2 size2 v2 n2 xs2) (hne : e ≠ e2) {g : Nat} (hg : v.ownBlock = some g) : v2.ownBlock ≠ some g := by
  intro hg2
  obtain ⟨c1, k1⟩ := own_type h hg
  obtain ⟨c2, k2⟩ := own_type h2 hg2
  rw [k1] at k2
  injection k2 with k2
  injection k2 with _ k3
  exact hne k3
theorem own_base {W : World} {b b' size n : Nat} {e : TypeId} {v : Value} {xs : List Value} (h : W.ownsRow b e size v n xs) (hb : b' ≤ b) : W.ownsRow b' e size v n xs := by
  refine ⟨h.1, ?_⟩
  rcases h.2 with hn | ⟨g, cap, cur, hv, hbb, rest⟩
  · exact .inl hn
  · exact .inr ⟨g, cap, cur, hv, Nat.le_trans hb hbb, rest⟩
theorem own_sl {w : World} {base : Nat} {e : TypeId} {v : Value} {n size : Nat} {xs : List Value} (h : w.ownsRow base e size v n xs) : ∃ A c, v = .slice A n c := by
  rcases h.2 with ⟨rfl, rfl⟩ | ⟨g, cap, cur, rfl, _⟩
  · exact ⟨_, _, rfl⟩
  · exact ⟨_, _, rfl⟩
/-- rows of words that the reference has made -/
def RowsO (W : World) (base k : Nat) (RV : Value) (a : Nat) (F : Nat → List Nat) : Prop :=
  ∃ vs, W.ownsRow base 22 1 RV a vs ∧ ∀ j, j < a → ∃ A c, vs[j]? = some (.slice A k c) ∧ W.ownsRow base 31 1 (.slice A k c) k (us (F j))
theorem RowsO.below {W W' : World} {base k a : Nat} {RV : Value} {F : Nat → List Nat} (h : RowsO W base k RV a F) (hb : Below W.heap.size W W') : RowsO W' base k RV a F := by
  obtain ⟨vs, h1, h2⟩ := h
  refine ⟨vs, own_keep1 h1 (fun g hg => hb.block g (h1.lt g hg).2), fun j hj => ?_⟩
  obtain ⟨A, c, e, h3⟩ := h2 j hj
  exact ⟨A, c, e, own_keep1 h3 (fun g hg => hb.block g (h3.lt g hg).2)⟩
theorem RowsO.set {W : World} {base k a b j : Nat} {RV u : Value} {F : Nat → List Nat} (h : RowsO W base k RV a F) (hb : b < base) : RowsO (W.setCell ⟨b, j, none⟩ u) base k RV a F := by
  obtain ⟨vs, h1, h2⟩ := h
  refine ⟨vs, own_keep1 h1 (fun g hg => Below.heap_setCell W ⟨b, j, none⟩ u g (by have := (h1.lt g hg).1; show g ≠ b; omega)), fun j hj => ?_⟩
  obtain ⟨A, c, e, h3⟩ := h2 j hj
  exact ⟨A, c, e, own_keep1 h3 (fun g hg => Below.heap_setCell W _ u g (by have := (h3.lt g hg).1; show g ≠ b; omega))⟩
theorem RowsO.snoc {W w4 : World} {base k a : Nat} {RV RV' : Value} {F : Nat → List Nat} {A : Option Addr} {c : Nat} {o : Obj} {vs : List Value}
    (h1 : W.ownsRow base 22 1 RV a vs) (h2 : ∀ j, j < a → ∃ A c, vs[j]? = some (.slice A k c) ∧ W.ownsRow base 31 1 (.slice A k c) k (us (F j)))
    (hr : W.ownsRow base 31 1 (.slice A k c) k (us (F a))) (hg : (W.alloc o).grownBy w4 RV.ownBlock) (ho : w4.ownsRow base 22 1 RV' (a + 1) (vs ++ [.slice A k c])) : RowsO w4 base k RV' (a + 1) F := by
  have hvl : vs.length = a := by have := h1.1; omega
  have keep : ∀ (m : List Nat) (A' : Option Addr) (c' : Nat), W.ownsRow base 31 1 (.slice A' k c') k (us m) → w4.ownsRow base 31 1 (.slice A' k c') k (us m) := by
    intro m A' c' hr
    refine own_keep1 hr (fun g hgg => ?_)
    have hlt := (hr.lt g hgg).2
    exact (hg.block g (Nat.lt_of_lt_of_le hlt (by simp)) (fun e => own_apart hr h1 (by decide) hgg e.symm)).trans (Below.heap_alloc W o g hlt)
  refine ⟨_, ho, fun j hj => ?_⟩
  by_cases e : j = a
  · subst e
    exact ⟨A, c, by rw [List.getElem?_append_right (by omega), hvl, Nat.sub_self]; rfl, keep _ _ _ hr⟩
  · obtain ⟨A', c', e', h3⟩ := h2 j (by omega)
    exact ⟨A', c', by rw [List.getElem?_append_left (by omega)]; exact e', keep _ _ _ h3⟩
theorem RowsO.usr {W : World} {base k a : Nat} {RV : Value} {F : Nat → List Nat} (h : RowsO W base k RV a F) (hf : ∀ j, j < a → (F j).length = k) (hk : k ≤ maxLen) : ∃ A c, RV = .slice A a c ∧ UsR W W.heap.size A a ((List.range a).map F) := by
  obtain ⟨vs, h1, h2⟩ := h
  obtain ⟨A, c, rfl, hR⟩ := own_reads h1
  refine ⟨A, c, rfl, by simp, vs, hR, fun j hj => ?_⟩
  obtain ⟨A', c', e', h3⟩ := h2 j hj
  have e : ((List.range a).map F).getD j [] = F j := by simp [hj]
  rw [e, hf j hj]
  exact ⟨A', c', e', Reads.of_own h3, hk⟩
/-- a model that the reference makes: its parameter, the result's cell, the part -/
structure Tk (w wx : World) (n : Int) (v1 v2 : Value) (k : Nat) (VV RV : Value) : Prop where
  box : MBox wx w.heap.size n v1 v2
  res : MBox wx (w.heap.size + 1) 0 (.slice none 0 0) (.slice none 0 0)
  part : MBox wx (w.heap.size + 1 + 1) (k : Int) VV RV
  below : Below w.heap.size w wx
  size : w.heap.size + 3 ≤ wx.heap.size
section
variable {w wx wy : World} {n : Int} {v1 v2 VV RV : Value} {k : Nat}
theorem Tk.drew (h : Tk w wx n v1 v2 k VV RV) : Tk w wx.drew n v1 v2 k VV RV := ⟨h.box, h.res, h.part, h.below.drew, h.size⟩
/-- whatever lies behind the three blocks may change -/
theorem Tk.keep (h : Tk w wx n v1 v2 k VV RV) (hb : Below (w.heap.size + 3) wx wy) : Tk w wy n v1 v2 k VV RV :=
  ⟨(hb.block _ (by omega)).trans h.box, (hb.block _ (by omega)).trans h.res, (hb.block _ (by omega)).trans h.part, h.below.trans (hb.mono (by omega)), Nat.le_trans h.size hb.size⟩
theorem Tk.put1 (h : Tk w wx n v1 v2 k VV RV) (v : Value) : Tk w (wx.setCell ⟨w.heap.size + 1 + 1, 1, none⟩ v) n v1 v2 k v RV := by
  have hb := OnlyB.set (w.heap.size + 1 + 1) 1 wx v
  have hs := h.size
  refine ⟨(hb.block _ (by omega) (by omega)).trans h.box, (hb.block _ (by omega) (by omega)).trans h.res, ?_, h.below.trans (hb.below (by omega) (by omega)), Nat.le_trans hs hb.size⟩
  have hp := h.part
  unfold MBox at hp ⊢
  simp [World.setCell, Array.getElem?_modify, hp]
theorem Tk.put2 (h : Tk w wx n v1 v2 k VV RV) (v : Value) : Tk w (wx.setCell ⟨w.heap.size + 1 + 1, 2, none⟩ v) n v1 v2 k VV v := by
  have hb := OnlyB.set (w.heap.size + 1 + 1) 2 wx v
  have hs := h.size
  refine ⟨(hb.block _ (by omega) (by omega)).trans h.box, (hb.block _ (by omega) (by omega)).trans h.res, ?_, h.below.trans (hb.below (by omega) (by omega)), Nat.le_trans hs hb.size⟩
  have hp := h.part
  unfold MBox at hp ⊢
  simp [World.setCell, Array.getElem?_modify, hp]
theorem grown_below {B : Nat} {g : Option Nat} (hg : wx.grownBy wy g) (hB : B ≤ wx.heap.size) (h : ∀ j, g = some j → B ≤ j) : Below B wx wy := (Below.refl B wx).grown hg hB h
theorem own_lo {B b : Nat} {e : TypeId} {V : Value} {q : Nat} {xs : List Value} (h : wx.ownsRow b e 1 V q xs) (hB : B ≤ b) : ∀ j, V.ownBlock = some j → B ≤ j := fun j hj => Nat.le_trans hB (h.lt j hj).1
end
set_option maxHeartbeats 16000000 in
theorem take_any (m : Mo) (n : Nat) (l : List Nat) (v : Value) (A : Option Addr) (k c : Nat) (w : World) (hM : MoR w w.heap.size v m) (hok : OkM n m) (hR : Reads w w.heap.size 1 A k (iv l)) (hk : k ≤ 64) (hl : ∀ x ∈ l, x < n) :
    Calls Tryd.prog 43 #[v, .slice A k c] w fun e w' => ∃ v', e = .returned v' ∧ MoF w' w.heap.size v' (pickM m l) ∧ Below w.heap.size w w' := by
  obtain ⟨A1, c1, A2, c2, rfl, hv, hr⟩ := hM.ex
  have hnv : m.val.length ≤ 8 := hok.facts
  have hnr : m.rel.length ≤ 4 := hok.agents
  have HV := Lib.hid hv
  have HRR := Lib.hid hr
  have HL := Lib.hid hR
  have HM := Lib.hid hM
  have HOK := Lib.hid hok
  have HLT := Lib.hid hl
  clear hM hok hv hr hR hl
  generalize hnve : m.val.length = nv at *
  generalize hnre : m.rel.length = nr at *
  have HNV := Lib.hid hnve
  have HNR := Lib.hid hnre
  clear hnve hnre
  have HI := Lib.hid (fun W (hb : Below w.heap.size w W) (s : Nat) (hs : s < 18446744073709551616) => squeeze_any l s A k c W.heap.size W ((HL.out.below hb).more hb.size) hk (fun x hx => by have := HLT.out x hx; have := HOK.out.le; omega) hs)
  have HWV := Lib.hid (fun j => words_getD HM.out.wval j)
  have HWR := Lib.hid (fun a j => Nat.lt_of_lt_of_le (relW_lt HOK.out.rel a j) (show 2 ^ n ≤ 18446744073709551616 from Nat.pow_le_pow_right (show 0 < 2 by decide) HOK.out.le))
  have HRL := Lib.hid (fun a (h : a < nr) => HOK.out.len (m.rel.getD a []) (getD_mem' (by have := HNR.out; omega)))
  have HLX := Lib.hid (fun j (h : j < k) => HLT.out (l.getD j 0) (getD_mem' (by have := HL.out.iv_len; omega)))
  go_enter Tryd.func43, Tryd.ntmps43
  go_wp2
  have HT0 : Hid (Tk w (((w.alloc (.cells #[.int .i64 m.n, .slice A1 nv c1, .slice A2 nr c2] 25)).alloc (.cells #[.int .i64 0, .slice none 0 0, .slice none 0 0] 25)).alloc (.cells #[.int .i64 (k : Int), .slice none 0 0, .slice none 0 0] 25)) m.n (.slice A1 nv c1) (.slice A2 nr c2) k (.slice none 0 0) (.slice none 0 0)) := Lib.hid (by
    have h1 := (BoxBox w m.n (.slice A1 nv c1) (.slice A2 nr c2) 0 (.slice none 0 0) (.slice none 0 0))
    have h2 := MBox.made ((w.alloc (.cells #[.int .i64 m.n, .slice A1 nv c1, .slice A2 nr c2] 25)).alloc (.cells #[.int .i64 0, .slice none 0 0, .slice none 0 0] 25)) (k : Int) (.slice none 0 0) (.slice none 0 0)
    have e : ((w.alloc (.cells #[.int .i64 m.n, .slice A1 nv c1, .slice A2 nr c2] 25)).alloc (.cells #[.int .i64 0, .slice none 0 0, .slice none 0 0] 25)).heap.size = w.heap.size + 1 + 1 := by simp
    rw [e] at h2
    exact ⟨(Below.heap_alloc _ _ _ (by rw [e]; omega)).trans h1.1, (Below.heap_alloc _ _ _ (by rw [e]; omega)).trans h1.2.1, h2, h1.2.2.alloc (by rw [e]; omega) _, by simp⟩)
  generalize (((w.alloc (.cells #[.int .i64 m.n, .slice A1 nv c1, .slice A2 nr c2] 25)).alloc (.cells #[.int .i64 0, .slice none 0 0, .slice none 0 0] 25)).alloc (.cells #[.int .i64 (k : Int), .slice none 0 0, .slice none 0 0] 25)) = w1 at *
  go_loopw [6] (fun i wr => ∃ (j : Nat) (VV : Value), j ≤ nv ∧ i = .int .i64 j ∧ Hid (Tk w wr m.n (.slice A1 nv c1) (.slice A2 nr c2) k VV (.slice none 0 0)) ∧ Hid (wr.ownsRow (w.heap.size + 3) 31 1 VV j (us ((List.range j).map (fun i => ix l (m.val.getD i 0)))))) (fun i _ => nv - (intOf i).toNat)
  case atStart => exact ⟨0, .slice none 0 0, Nat.zero_le _, rfl, HT0, Lib.hid (World.ownsRow_nil _ _ _ _)⟩
  case round =>
    obtain ⟨j, VV, hj, rfl, HT, HO⟩ := hrel
    have b1 := HT.out.box.c1
    by_cases hlt : j < nv
    · obtain ⟨ad, rfl, hb, hc⟩ := (HV.out.below HT.out.below).word_k hlt
      have hz := HWV.out j
      generalize hzz : m.val.getD j 0 = z at *
      have HZ := Lib.hid hzz
      clear hzz
      have HII := Lib.hid (fun W (hW : Below w.heap.size w W) => HI.out W hW z hz)
      have p1 := HT.out.part.c1
      have HBd : Hid (Below w.heap.size w wr.drew) := Lib.hid HT.out.below.drew
      have hO1 : Hid (∀ o, (wr.drew.alloc o).ownsRow (w.heap.size + 3) 31 1 VV j (us ((List.range j).map (fun i => ix l (m.val.getD i 0))))) := Lib.hid (fun o => own_keep1 HO.out (fun g hg => Below.heap_alloc wr.drew o g (HO.out.lt g hg).2))
      have hsz := HT.out.size
      have hO2 : Hid (∀ o, w.heap.size + 3 ≤ (wr.drew.alloc o).heap.size) := Lib.hid (fun o => by have h9 : (wr.drew.alloc o).heap.size = wr.heap.size + 1 := (by simp); omega)
      have HTA : Hid (∀ o w4, (wr.drew.alloc o).grownBy w4 VV.ownBlock → Tk w w4 m.n (.slice (some ad) nv c1) (.slice A2 nr c2) k VV (.slice none 0 0)) := Lib.hid (fun o w4 hg => by
        have h1 : Below (w.heap.size + 3) wr (wr.drew.alloc o) := ((Below.refl _ wr).drew).alloc hsz o
        exact (HT.out.keep h1).keep (grown_below hg (hO2.out o) (own_lo HO.out (Nat.le_refl _))))
      have hadb : ad.block < w.heap.size := hb
      have HCA : Hid (∀ w4, Below w.heap.size w w4 → w4.cell? (ad.add j) = some (.int .u64 (z : Int))) := Lib.hid (fun w4 hb4 => by
        obtain ⟨ad2, e2, _, h2⟩ := (HV.out.below hb4).word_k hlt
        injection e2 with e2
        subst e2
        rw [HZ.out] at h2
        exact h2)
      have HKA : Hid (∀ o, (wr.alloc o).drew.cell? ⟨w.heap.size, 1, none⟩ = some (.slice (some ad) nv c1) ∧ (wr.alloc o).drew.cell? (ad.add j) = some (.int .u64 (z : Int))) := Lib.hid (fun o => by
        have h1 : Below (w.heap.size + 3) wr (wr.alloc o).drew := ((Below.refl _ wr).alloc hsz o).drew
        exact ⟨(HT.out.keep h1).box.c1, HCA.out _ (HT.out.keep h1).below⟩)
      have p1a : ∀ o, (wr.alloc o).cell? ⟨w.heap.size + 1 + 1, 1, none⟩ = some VV := fun o => (Below.cell (p := ⟨w.heap.size + 1 + 1, 1, none⟩) ((Below.refl wr.heap.size wr).alloc (Nat.le_refl _) o) (by show w.heap.size + 1 + 1 < wr.heap.size; omega)).trans p1
      have p1b := p1a (.cells #[.int .u64 ((ix l z : Nat) : Int)] 31)
      clear hb p1a
      go_wp2
      go_region_law
        (first
          | (go_simp; go_at_call 56; refine (HII.out _ HBd.out).mono ?_; rintro e W ⟨rfl, rfl⟩)
          | (refine step_appW j (ix l z) _ (by rfl) _ _ (by rfl) (w.heap.size + 3) _ _ (by rfl) (hO1.out _) (by rfl) (by go_simp) (by omega) (hO2.out _) ?_; intro g3 c3 w4 ho3 hg3 hr3 hl3; have HT4 := Lib.hid (HTA.out _ _ hg3); have t1 := HT4.out.box.c1; have t2 := HCA.out _ HT4.out.below; have t3 := HT4.out.part.c1; have t4 := HT4.out.part.free 1; have HO4 := Lib.hid ho3; clear ho3 hg3 hr3))
      all_goals
        have HJ : Hid (us ((List.range j).map (fun i => ix l (m.val.getD i 0)) ++ [ix l z]) = us ((List.range (j + 1)).map (fun i => ix l (m.val.getD i 0)))) := Lib.hid (by rw [List.range_succ, List.map_append, ← HZ.out]; rfl)
        clear t1 t2 t3 t4 b1 p1 p1b hc
        go_wp2
        go_roundw
        case rel => exact ⟨j + 1, _, by omega, by go_num, Lib.hid (Tk.put1 HT4.out _), Lib.hid (by
          rw [← HJ.out]
          exact own_keep1 HO4.out (fun g hg => Below.heap_setCell w4 _ _ g (by have := (HO4.out.lt g hg).1; show g ≠ w.heap.size + 1 + 1; omega)))⟩
        case measure => first | (simp [intOf]; done) | (simp [intOf]; omega)
    · obtain rfl : nv = j := by omega
      obtain ⟨F, hF⟩ : ∃ F : Nat → List Nat, F = fun a => l.map (fun x => ix l ((m.rel.getD a []).getD x 0)) := ⟨_, rfl⟩
      have HF := Lib.hid hF
      clear hF hlt
      go_wp2
      clear b1
      go_loopw [7, 8, 9] (fun i _ _ wx => ∃ (a : Nat) (RV : Value), a ≤ nr ∧ i = .int .i64 a ∧ Hid (Tk w wx m.n (.slice A1 nv c1) (.slice A2 nr c2) k VV RV) ∧ Hid (wx.ownsRow (w.heap.size + 3) 31 1 VV nv (us ((List.range nv).map (fun i => ix l (m.val.getD i 0))))) ∧ Hid (RowsO wx (w.heap.size + 3) k RV a F)) (fun i _ _ _ => nr - (intOf i).toNat)
      case atStart => exact ⟨0, .slice none 0 0, Nat.zero_le _, rfl, HT, HO, Lib.hid ⟨[], World.ownsRow_nil _ _ _ _, fun j hj => absurd hj (by omega)⟩⟩
      case round =>
        obtain ⟨a, RV, ha, rfl, HTa, HOa, HRa⟩ := hrel
        have b2 := HTa.out.box.c2
        by_cases hlt : a < nr
        · obtain ⟨ad, Aj, cj, rfl, hb, hc0, hrj, hlj⟩ := HRR.out.at_ hlt
          have hlen := HRL.out a hlt
          rw [hlen] at hc0 hrj
          have HRJ := Lib.hid hrj
          have HC0 : Hid (∀ w4, Below w.heap.size w w4 → w4.cell? (ad.add a) = some (.slice Aj n cj)) := Lib.hid (fun w4 hb4 => (hb4.cell (p := ad.add a) (by rw [block_of_add]; exact hb)).trans hc0)
          have HFA : Hid (F a = (List.range k).map (fun j => ix l ((m.rel.getD a []).getD (l.getD j 0) 0))) := Lib.hid (by
            rw [HF.out]
            have hlk : l.length = k := HL.out.iv_len
            rw [← hlk]
            exact (map_getD (fun x => ix l ((m.rel.getD a []).getD x 0)) l 0).symm)
          clear hlen hrj hlj hc0 hb
          go_wp2
          clear b2
          generalize wr = w5 at *
          go_loopw [8, 9] (fun v i wy => ∃ (j : Nat) (vv : Value), j ≤ k ∧ i = .int .i64 j ∧ vv = v ∧ Hid (wy.ownsRow w5.heap.size 31 1 vv j (us ((List.range j).map (fun j => ix l ((m.rel.getD a []).getD (l.getD j 0) 0))))) ∧ Hid (Below w5.heap.size w5 wy)) (fun _ i _ => k - (intOf i).toNat)
          case atStart => exact ⟨0, .slice none 0 0, Nat.zero_le _, rfl, rfl, Lib.hid (World.ownsRow_nil _ _ _ _), Lib.hid (Below.refl _ _)⟩
          case round =>
            obtain ⟨j, vv, hj, rfl, rfl, HOj, HBj⟩ := hrel
            have hs5 : w.heap.size + 3 ≤ w5.heap.size := HTa.out.size
            have HBw : Hid (Below w.heap.size w wr) := Lib.hid (HTa.out.below.trans (HBj.out.mono (by omega)))
            by_cases hlt2 : j < k
            · obtain ⟨al, rfl, hal, hcl2⟩ := (HL.out.below HBw.out).iv_k hlt2
              have hxn := HLX.out j hlt2
              obtain ⟨aj, rfl, haj, hcj⟩ := (HRJ.out.below HBw.out).word_k (k := l.getD j 0) hxn
              have hzw := HWR.out a (l.getD j 0)
              have HII := Lib.hid (fun W (hW : Below w.heap.size w W) => HI.out W hW _ hzw)
              have HCL : Hid (∀ w4, Below w.heap.size w w4 → w4.cell? ⟨w.heap.size, 2, none⟩ = w4.cell? ⟨w.heap.size, 2, none⟩) := Lib.hid (fun _ _ => rfl)
              have HJ : Hid (us ((List.range j).map (fun j => ix l ((m.rel.getD a []).getD (l.getD j 0) 0)) ++ [ix l ((m.rel.getD a []).getD (l.getD j 0) 0)]) = us ((List.range (j + 1)).map (fun j => ix l ((m.rel.getD a []).getD (l.getD j 0) 0)))) := Lib.hid (by rw [List.range_succ, List.map_append]; rfl)
              have HCS : Hid (∀ w4, Below w5.heap.size w5 w4 → w4.cell? ⟨w.heap.size, 2, none⟩ = some (.slice (some ad) nr c2) ∧ w4.cell? (ad.add a) = some (.slice (some aj) n cj) ∧ w4.cell? (al.add j) = some (.int .i64 ((l.getD j 0 : Nat) : Int)) ∧ w4.cell? (aj.add (l.getD j 0)) = some (.int .u64 (((m.rel.getD a []).getD (l.getD j 0) 0 : Nat) : Int))) := Lib.hid (fun w4 hb4 => by
                have hbw : Below w.heap.size w w4 := HTa.out.below.trans (hb4.mono (by omega))
                obtain ⟨al2, e2, _, h2⟩ := (HL.out.below hbw).iv_k hlt2
                injection e2 with e2
                subst e2
                obtain ⟨aj2, e3, _, h3⟩ := (HRJ.out.below hbw).word_k (k := l.getD j 0) hxn
                injection e3 with e3
                subst e3
                exact ⟨(HTa.out.keep (hb4.mono hs5)).box.c2, HC0.out w4 hbw, h2, h3⟩)
              clear hzw HCL hcl2 hcj
              generalize (m.rel.getD a []).getD (l.getD j 0) 0 = z at *
              generalize hxx : l.getD j 0 = x at *
              clear hxx
              have hszr := HBj.out.size
              have hS0 := HCS.out wr HBj.out
              obtain ⟨q1, q2, q3, q4⟩ := hS0
              have HBd : Hid (Below w.heap.size w wr.drew) := Lib.hid HBw.out.drew
              have hO1 : Hid (∀ o, (wr.drew.alloc o).ownsRow w5.heap.size 31 1 vv j (us ((List.range j).map (fun j => ix l ((m.rel.getD a []).getD (l.getD j 0) 0))))) := Lib.hid (fun o => own_keep1 HOj.out (fun g hg => Below.heap_alloc wr.drew o g (HOj.out.lt g hg).2))
              have hO2 : Hid (∀ o, w5.heap.size ≤ (wr.drew.alloc o).heap.size) := Lib.hid (fun o => by have h9 : (wr.drew.alloc o).heap.size = wr.heap.size + 1 := (by simp); omega)
              have HKA : Hid (∀ o, (wr.alloc o).drew.cell? ⟨w.heap.size, 2, none⟩ = some (.slice (some ad) nr c2) ∧ (wr.alloc o).drew.cell? (ad.add a) = some (.slice (some aj) n cj) ∧ (wr.alloc o).drew.cell? (al.add j) = some (.int .i64 (x : Int)) ∧ (wr.alloc o).drew.cell? (aj.add x) = some (.int .u64 (z : Int))) := Lib.hid (fun o => HCS.out _ ((HBj.out.alloc hszr o).drew))
              have HBA : Hid (∀ o w4, (wr.drew.alloc o).grownBy w4 vv.ownBlock → Below w5.heap.size w5 w4) := Lib.hid (fun o w4 hg => ((HBj.out.drew).alloc hszr o).grown hg (hO2.out o) (own_lo HOj.out (Nat.le_refl _)))
              go_wp2
              go_region_held3 (fun W => W.cell? ⟨w.heap.size, 2, none⟩ = some (.slice (some ad) nr c2) ∧ W.cell? (ad.add a) = some (.slice (some aj) n cj) ∧ W.cell? (al.add j) = some (.int .i64 (x : Int)) ∧ W.cell? (aj.add x) = some (.int .u64 (z : Int))) (first | assumption | (refine ⟨?_, ?_, ?_, ?_⟩ <;> assumption) | exact HKA.out _)
                (first
                  | (go_at_call 56; refine (HII.out _ HBd.out).mono ?_; rintro e W ⟨rfl, rfl⟩)
                  | (refine step_appW j (ix l z) _ (by rfl) _ _ (by rfl) w5.heap.size _ _ (by rfl) (hO1.out _) (by rfl) (by go_simp) (by omega) (hO2.out _) ?_; intro g3 c3 w4 ho3 hg3 hr3 hl3; have HB4 := Lib.hid (HBA.out _ _ hg3); have hS4 := HCS.out _ HB4.out; have HO4 := Lib.hid ho3; clear ho3 hg3 hr3))
              all_goals
                clear q1 q2 q3 q4 hS4
                go_wp2
                go_roundw
                case rel => exact ⟨j + 1, _, by omega, by go_num, rfl, Lib.hid (by rw [← HJ.out]; exact HO4.out), HB4⟩
                case measure => first | (simp [intOf]; done) | (simp [intOf]; omega)
            · obtain rfl : k = j := by omega
              have HOF := HOj
              rw [← HFA.out] at HOF
              obtain ⟨Av, cv, rfl⟩ := own_sl HOF.out
              have HT6 := Lib.hid (HTa.out.keep (HBj.out.mono hs5))
              have HV6 := Lib.hid (own_keep1 HOa.out (fun g hg => HBj.out.block g (HOa.out.lt g hg).2))
              have HR6 := Lib.hid (HRa.out.below HBj.out)
              have HRr := Lib.hid (own_base HOF.out hs5)
              have hs6 := HT6.out.size
              have p2 := HT6.out.part.c2
              have f2 := HT6.out.part.free 2
              clear hlt2 HOj HOF HBj HTa HOa HRa HBw
              obtain ⟨vs, hvs1, hvs2⟩ := HR6.out
              have HVS1 := Lib.hid hvs1
              have HVS2 := Lib.hid hvs2
              clear hvs1 hvs2
              obtain ⟨iv0, hiv, hzv0, hzv1, hzv2⟩ := info_parts Tryd.infoV
              go_wp2_with (at_builtin; refine wpList_append_own _ rfl _ _ 23 rfl (w.heap.size + 3) 22 iv0 (.slice none 0 0) 1 24 Tryd.underlying23 hiv hzv0 hzv1 hzv2 rfl (by decide) _ _ _ rfl (HVS1.out.alloc _) ⟨wr.heap.size, 0, none⟩ 1 1 [.slice Av k cv] rfl rfl ?c1 ?c2 ?c3 ?c4 ?c5 ?_)
              case c1 =>
                intro j u hj
                match j, hj with
                | 0, hj => simp at hj; subst hj; simp [Addr.add]
              case c2 => intro u hu; simp at hu; subst hu; rfl
              case c3 => unfold maxLen; omega
              case c4 => omega
              case c5 => simp; omega
              · intro v' w6 hown' hgrow _
                obtain ⟨Ag, cg, rfl⟩ := own_sl hown'
                have HG6 := Lib.hid (RowsO.snoc HVS1.out HVS2.out HRr.out hgrow hown')
                have hb6 : Below (w.heap.size + 3) wr w6 := ((Below.refl _ wr).alloc hs6 _).grown hgrow (by simp; omega) (own_lo HVS1.out (Nat.le_refl _))
                have HT7 := Lib.hid (HT6.out.keep hb6)
                have HV7 : Hid (w6.ownsRow (w.heap.size + 3) 31 1 VV nv (us ((List.range nv).map (fun i => ix l (m.val.getD i 0))))) := Lib.hid (own_keep1 HV6.out (fun g hg => (hgrow.block g (Nat.lt_of_lt_of_le (HV6.out.lt g hg).2 (by simp)) (fun e => own_apart HV6.out HVS1.out (by decide) hg e.symm)).trans (Below.heap_alloc wr _ g (HV6.out.lt g hg).2)))
                have p3 := HT7.out.part.c2
                have f3 := HT7.out.part.free 2
                clear hgrow hown' hb6 p2 f2
                go_wp2
                go_roundw
                case rel => exact ⟨a + 1, _, by omega, by go_num, Lib.hid (Tk.put2 HT7.out _), Lib.hid (own_keep1 HV7.out (fun g hg => Below.heap_setCell w6 _ _ g (by have := (HV7.out.lt g hg).1; show g ≠ w.heap.size + 1 + 1; omega))), Lib.hid (HG6.out.set (by omega))⟩
                case measure => first | (simp [intOf]; done) | (simp [intOf]; omega)
        · obtain rfl : nr = a := by omega
          have q0 := HTa.out.part.c0
          have q1 := HTa.out.part.c1
          have q2 := HTa.out.part.c2
          have y0 := HTa.out.res.c0
          have y1 := HTa.out.res.c1
          have y2 := HTa.out.res.c2
          have f0 := HTa.out.res.free 0
          have f1 := HTa.out.res.free 1
          have f2 := HTa.out.res.free 2
          have HLK := Lib.hid HL.out.iv_len
          obtain ⟨Av, cv, rfl⟩ := own_sl HOa.out
          obtain ⟨Ar, cr, rfl⟩ : ∃ A c, RV = .slice A nr c := by
            obtain ⟨vs, h1, _⟩ := HRa.out
            exact own_sl h1
          clear hlt
          go_wp2
          have HZ3 := Lib.hid (HTa.out.res.set3 (n' := (k : Int)) (b := .slice Av nv cv) (c := .slice Ar nr cr))
          clear q0 q1 q2 y0 y1 y2 f0 f1 f2 b2
          generalize (((wr.setCell ⟨w.heap.size + 1, 0, none⟩ (.int .i64 (k : Int))).setCell ⟨w.heap.size + 1, 1, none⟩ (.slice Av nv cv)).setCell ⟨w.heap.size + 1, 2, none⟩ (.slice Ar nr cr)) = w7 at *
          (try simp only [Exit.inBlock, Exit.then])
          refine bodyPost_ret (ret_cell1 rfl _ _ (w.heap.size + 1) _ _ _ _ rfl HZ3.out.1 Tryd.underlying25 rfl (by kernel_rfl)) rfl ?_
          have hsz := HTa.out.size
          have hBz := HZ3.out.2.below (B := w.heap.size) (by omega) (by omega)
          have hvv : w7.ownsRow (w.heap.size + 3) 31 1 (.slice Av nv cv) nv (us ((List.range nv).map (fun i => ix l (m.val.getD i 0)))) := own_keep1 HOa.out (fun g hg => HZ3.out.2.block g (HOa.out.lt g hg).2 (by have := (HOa.out.lt g hg).1; omega))
          have hrr : RowsO w7 (w.heap.size + 3) k (.slice Ar nr cr) nr F := by
            obtain ⟨vs, h1, h2⟩ := HRa.out
            refine ⟨vs, own_keep1 h1 (fun g hg => HZ3.out.2.block g (h1.lt g hg).2 (by have := (h1.lt g hg).1; omega)), fun j hj => ?_⟩
            obtain ⟨A, c, e, h3⟩ := h2 j hj
            exact ⟨A, c, e, own_keep1 h3 (fun g hg => HZ3.out.2.block g (h3.lt g hg).2 (by have := (h3.lt g hg).1; omega))⟩
          have ev : (List.range nv).map (fun i => ix l (m.val.getD i 0)) = (pickM m l).val := by
            show _ = m.val.map (ix l)
            rw [← HNV.out]
            exact map_getD (ix l) m.val 0
          have er : (List.range nr).map F = (pickM m l).rel := by
            show _ = m.rel.map _
            rw [HF.out, ← HNR.out]
            exact map_getD (fun r : List Nat => l.map (fun x => ix l (r.getD x 0))) m.rel []
          have lv : (pickM m l).val.length = nv := by rw [← ev]; simp
          have lr : (pickM m l).rel.length = nr := by rw [← er]; simp
          have hix : ∀ s, ix l s < 18446744073709551616 := fun s => Nat.lt_of_lt_of_le (ixN_lt l s l.length) (Nat.pow_le_pow_right (show 0 < 2 by decide) (show l.length ≤ 64 by have := HLK.out; omega))
          refine ⟨_, rfl, fun W' _ hag => ?_, HTa.out.below.trans hBz⟩
          have hvv := own_keep1 hvv (W' := W') (fun g hg => hag g (by have := (hvv.lt g hg).1; omega) (hvv.lt g hg).2)
          have hrr : RowsO W' (w.heap.size + 3) k (.slice Ar nr cr) nr F := by
            obtain ⟨vs, h1, h2⟩ := hrr
            refine ⟨vs, own_keep1 h1 (fun g hg => hag g (by have := (h1.lt g hg).1; omega) (h1.lt g hg).2), fun j hj => ?_⟩
            obtain ⟨A, c, e, h3⟩ := h2 j hj
            exact ⟨A, c, e, own_keep1 h3 (fun g hg => hag g (by have := (h3.lt g hg).1; omega) (h3.lt g hg).2)⟩
          obtain ⟨Ar2, cr2, e2, hur⟩ := hrr.usr (fun j _ => by rw [HF.out]; simp [HLK.out]) (by unfold maxLen; omega)
          injection e2 with e2 _ e3
          subst e2 e3
          refine ⟨⟨Av, cv, Ar, cr, ?_, ?_, ?_⟩, ⟨by rw [lv]; unfold maxLen; omega, by rw [lr]; unfold maxLen; omega⟩, ?_, ?_, ?_⟩
          · rw [lv, lr]
            show _ = Value.agg #[.int .i64 ((l.length : Nat) : Int), _, _]
            rw [HLK.out]
          · rw [lv, ← ev]
            exact Reads.of_own hvv
          · rw [lr, ← er]
            exact hur
          · show -9223372036854775808 ≤ ((l.length : Nat) : Int) ∧ ((l.length : Nat) : Int) < 9223372036854775808
            have := HLK.out
            omega
          · intro x hx
            have hx : x ∈ m.val.map (ix l) := hx
            obtain ⟨y, _, rfl⟩ := List.mem_map.1 hx
            exact hix y
          · intro r hr
            have hr : r ∈ m.rel.map (fun r : List Nat => l.map (fun x => ix l (r.getD x 0))) := hr
            obtain ⟨q, _, rfl⟩ := List.mem_map.1 hr
            intro x hx
            obtain ⟨y, _, rfl⟩ := List.mem_map.1 hx
            exact hix _
end Go.Proofs.YtofclgapgjcflaaDoor
