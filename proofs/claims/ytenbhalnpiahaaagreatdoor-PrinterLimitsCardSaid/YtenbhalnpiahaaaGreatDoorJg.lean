/- Layer 6: texts joined: Sn Si Ue Uf Ug Uh Ui. -/
import Derived.Test.YtenbhalnpiahaaaGreatDoorJa
import Derived.Test.YtenbhalnpiahaaaGreatDoorJf
import Derived.Lib.Join
/- Layer 4 as plain mathematics: a group's text says the group; the order of names does not matter. -/
namespace Go.Proofs.Ws
open Go
theorem selK_ne (A : List ByteArray) {g : Nat} (h0 : 1 ≤ g) (hg : g < 2 ^ A.length) : selK A g A.length ≠ [] := by
  intro h
  have hl : (selK A g A.length).length = 0 := by rw [h]; rfl
  rw [selK_length] at hl
  unfold popK at hl
  have hnil := List.eq_nil_of_length_eq_zero hl
  have : g = 0 := by
    apply Nat.eq_of_testBit_eq
    intro i
    rw [Nat.zero_testBit]
    by_cases hi : i < A.length
    · cases hb : g.testBit i
      · rfl
      · have : i ∈ (List.range A.length).filter (fun i => g.testBit i) := List.mem_filter.2 ⟨List.mem_range.2 hi, hb⟩
        rw [hnil] at this
        cases this
    · exact Nat.testBit_lt_two_pow (Nat.lt_of_lt_of_le hg (Nat.pow_le_pow_right (by decide) (by omega)))
  omega
theorem selK_mem {A : List ByteArray} {g k : Nat} {x : ByteArray} (hk : k ≤ A.length) (h : x ∈ selK A g k) : x ∈ A := by
  unfold selK at h
  obtain ⟨i, hi, rfl⟩ := List.mem_map.1 h
  have := List.mem_range.1 (List.mem_filter.1 hi).1
  rw [List.getD_eq_getElem?_getD, List.getElem?_eq_getElem (by omega)]
  exact List.getElem_mem (by omega)
/-! the order of names -/
def ix (A : List ByteArray) (x : ByteArray) : Nat := (Lib.idxOfS A x).toNat
theorem ix_inj {A : List ByteArray} {x y : ByteArray} (hx : x ∈ A) (hy : y ∈ A) (h : ix A x = ix A y) : x = y := by
  obtain ⟨i, h1, h2, h3⟩ := idx_mem hx
  obtain ⟨j, h4, h5, h6⟩ := idx_mem hy
  unfold ix at h
  rw [h2, h5, Int.toNat_natCast, Int.toNat_natCast] at h
  subst h
  exact h3.symm.trans h6
def Fine (A l : List ByteArray) (m : Nat) : Prop := (∀ x ∈ l, x ∈ A ∧ m.testBit (ix A x) = false) ∧ l.Nodup
theorem Fine.tail {A xs : List ByteArray} {x : ByteArray} {m : Nat} (h : Fine A (x :: xs) m) : Fine A xs (m ||| 2 ^ ix A x) := by
  obtain ⟨h1, h2⟩ := h
  obtain ⟨h3, h4⟩ := List.nodup_cons.1 h2
  refine ⟨fun y hy => ⟨(h1 y (by simp [hy])).1, ?_⟩, h4⟩
  rw [Nat.testBit_or, (h1 y (by simp [hy])).2, Nat.testBit_two_pow, Bool.false_or, decide_eq_false_iff_not]
  intro e
  have := ix_inj (h1 x (by simp)).1 (h1 y (by simp [hy])).1 e
  exact h3 (this ▸ hy)
/-! each name lies at its place -/
end Go.Proofs.Ws
/- Layer 4: the mask of a group, by the program. -/
namespace Go.Proofs.YtenbhalnpiahaaaGreatDoor
open Go.RowKit Go.Proofs.Ws
theorem bit_i64 : ∀ m : Fin 16, ∀ j : Fin 4, (bits BinOp.and IntKind.i64 ((m.1 : Int) / 2 ^ j.1) 1 == 1) = m.1.testBit j.1 := by decide
theorem or_i64 : ∀ m : Fin 16, ∀ j : Fin 4, bits BinOp.or IntKind.i64 (m.1 : Int) (wrap64 (2 ^ j.1)) = ((m.1 ||| 2 ^ j.1 : Nat) : Int) := by decide +kernel
theorem boxed {w : World} {a0 a1 a2 : Option Addr} {n0 c0 n1 c1 n2 c2 : Nat} {T : TypeId} :
    ∀ wr, Below (w.heap.size + 1) (w.alloc (.cells #[.slice a0 n0 c0, .slice a1 n1 c1, .slice a2 n2 c2] T)) wr → wr.cell? ⟨w.heap.size, 0, none⟩ = some (.slice a0 n0 c0) ∧ wr.cell? ⟨w.heap.size, 1, none⟩ = some (.slice a1 n1 c1) ∧ wr.cell? ⟨w.heap.size, 2, none⟩ = some (.slice a2 n2 c2) := fun wr hb => by
  have hh := heap_alloc_new w (.cells #[.slice a0 n0 c0, .slice a1 n1 c1, .slice a2 n2 c2] T)
  refine ⟨(hb.cell (p := ⟨w.heap.size, 0, none⟩) (by simp)).trans ?_, (hb.cell (p := ⟨w.heap.size, 1, none⟩) (by simp)).trans ?_, (hb.cell (p := ⟨w.heap.size, 2, none⟩) (by simp)).trans ?_⟩ <;> (rw [Lib.cell_of_heap hh]; rfl)
end Go.Proofs.YtenbhalnpiahaaaGreatDoor
/- Layer 6: the state of the program's parser; its next token. -/
namespace Go.Proofs.YtenbhalnpiahaaaGreatDoor
open Go.RowKit Go.Proofs.Ws Go.Maps
/-- what stays the same while a text is read -/
structure PK where
  E : SEnv
  w0 : World
  bp : Nat
  bm : Nat
  base : Nat
  a0 : Option Addr
  n0 : Nat
  c0 : Nat
  a1 : Option Addr
  n1 : Nat
  c1 : Nat
  a2 : Option Addr
  n2 : Nat
  c2 : Nat
  aw : Option Addr
  cw : Nat
  aa : Option Addr
  ca : Nat
structure PE (K : PK) : Prop where
  sig : SigR K.w0 K.w0.heap.size (sv K.a0 K.n0 K.c0 K.a1 K.n1 K.c1 K.a2 K.n2 K.c2) K.E.P.A K.E.P.F K.E.P.X
  ok : sigErr K.E.P.A K.E.P.F K.E.P.X = 0
  env : EnvS K.w0
  wd : Reads K.w0 K.w0.heap.size 1 K.aw K.E.P.ws.length (ss K.E.P.ws)
  at_ : Reads K.w0 K.w0.heap.size 1 K.aa K.E.ats.length (ni K.E.ats)
  wl : K.E.P.ws.length ≤ 4000
  al : K.E.ats.length ≤ 4000
  wz : ∀ x ∈ K.E.P.ws, x.size ≤ 4000
def pcl (K : PK) (s : SS) (A : Option Addr) (c : Nat) : List Value :=
  [.slice K.a0 K.n0 K.c0, .slice K.a1 K.n1 K.c1, .slice K.a2 K.n2 K.c2, .slice K.aw K.E.P.ws.length K.cw, .slice K.aa K.E.ats.length K.ca, .int .i64 (K.E.size : Int), .int .i64 (s.next : Int), .slice A s.nodes.length c, .map (some K.bm), .int .i64 s.po, .int .i64 s.e]
/-- the parser in memory -/
structure PP (K : PK) (W : World) (s : SS) : Prop where
  be : Below K.w0.heap.size K.w0 W
  lp : K.w0.heap.size ≤ K.bp
  lm : K.w0.heap.size ≤ K.bm
  ne : K.bp ≠ K.bm
  bp : K.bp < K.base
  bm : K.bm < K.base
  bs : K.base ≤ W.heap.size
  out : ∃ A c, (∀ j v, (pcl K s A c)[j]? = some v → W.cell? ⟨K.bp, j, none⟩ = some v) ∧ W.ownsRow K.base 65 6 (.slice A s.nodes.length c) s.nodes.length (nds s.nodes)
  free : ∀ j, W.frozen? ⟨K.bp, j, none⟩ = false
  mp : ∃ D, W.ownsMap Tryz.prog 65 (plainElem (H := Unit) Tryz.prog 3) K.bm s.nodes.length D ∧ MapOf s.nodes D
  nl : s.next ≤ K.E.P.ws.length
theorem PP.below {K : PK} {W W' : World} {s : SS} (h : PP K W s) (hb : Below W.heap.size W W') : PP K W' s := by
  obtain ⟨A, c, h1, h2⟩ := h.out
  obtain ⟨D, h5, h6⟩ := h.mp
  have l1 := h.bp
  have l2 := h.bm
  have l3 := h.bs
  have l4 := h.lp
  have e : W'.heap[K.bp]? = W.heap[K.bp]? := hb.block _ (by omega)
  exact ⟨h.be.trans (hb.mono (by omega)), h.lp, h.lm, h.ne, h.bp, h.bm, Nat.le_trans h.bs hb.size, ⟨A, c, fun j v hj => (World.cell?_of_block (a := ⟨K.bp, j, none⟩) e).trans (h1 j v hj), own_keep1 h2 (fun g hg => hb.block g (h2.lt g hg).2)⟩,
    fun j => (World.frozen?_of_block (a := ⟨K.bp, j, none⟩) e).trans (h.free j), ⟨D, ownsMap_keep h5 (hb.block _ (by omega)), h6⟩, h.nl⟩
theorem PP.drewN {K : PK} {W : World} {s : SS} (h : PP K W s) (k : Nat) : PP K (W.drewN k) s := h.below (below_drewN (Below.refl _ W) k)
/-- one of the plain cells is set -/
theorem PP.set {K : PK} {W : World} {s s' : SS} (h : PP K W s) {j : Nat} (v : Value) (hn : s'.nodes = s.nodes) (hl : s'.next ≤ K.E.P.ws.length) (hv : ∀ A c, pcl K s' A c = (pcl K s A c).set j v) (hj : j < 11) : PP K (W.setCell ⟨K.bp, j, none⟩ v) s' := by
  obtain ⟨A, c, h1, h2⟩ := h.out
  obtain ⟨D, h5, h6⟩ := h.mp
  have l1 := h.bp
  have l2 := h.bm
  have l3 := h.bs
  have l4 := h.lp
  refine ⟨h.be.setCell h.lp _, h.lp, h.lm, h.ne, h.bp, h.bm, by simpa using h.bs, ⟨A, c, fun i u hi => ?_, ?_⟩, fun i => by rw [World.frozen?_setCell]; exact h.free i, ⟨D, ?_, ?_⟩, hl⟩
  · rw [hv, List.getElem?_set] at hi
    have hlen : (pcl K s A c).length = 11 := rfl
    by_cases e : j = i
    · subst e
      rw [if_pos rfl, if_pos (by rw [hlen]; exact hj)] at hi
      injection hi with hi
      subst hi
      have h0 := h1 j _ (List.getElem?_eq_getElem (by rw [hlen]; exact hj))
      exact World.cell?_setCell_same W _ _ h0
    · rw [if_neg e] at hi
      rw [World.cell?_setCell_other W ⟨K.bp, j, none⟩ ⟨K.bp, i, none⟩ _ (fun e2 => by have h9 := congrArg Addr.off e2; dsimp only at h9; omega)]
      exact h1 i u hi
  · rw [hn]; exact ownsRow_setCell_below h2 h.bp _
  · rw [hn]; exact ownsMap_keep h5 (Below.heap_setCell _ _ _ _ h.ne.symm)
  · rw [hn]; exact h6
theorem PP.adv {K : PK} {W : World} {s : SS} (h : PP K W s) (hl : s.next < K.E.P.ws.length) : PP K (W.setCell ⟨K.bp, 6, none⟩ (.int .i64 ((s.next : Int) + 1))) s.adv :=
  h.set _ rfl hl (fun A c => by unfold pcl SS.adv; simp) (by decide)
/-- the plain cells as the walk wants them -/
theorem PP.cells {K : PK} {W : World} {s : SS} (h : PP K W s) :
    W.cell? ⟨K.bp, 3, none⟩ = some (.slice K.aw K.E.P.ws.length K.cw) ∧ W.cell? ⟨K.bp, 4, none⟩ = some (.slice K.aa K.E.ats.length K.ca) ∧ W.cell? ⟨K.bp, 5, none⟩ = some (.int .i64 (K.E.size : Int)) ∧
      W.cell? ⟨K.bp, 6, none⟩ = some (.int .i64 (s.next : Int)) ∧ W.cell? ⟨K.bp, 9, none⟩ = some (.int .i64 s.po) ∧ W.cell? ⟨K.bp, 10, none⟩ = some (.int .i64 s.e) := by
  obtain ⟨A, c, h1, h2⟩ := h.out
  exact ⟨h1 3 _ rfl, h1 4 _ rfl, h1 5 _ rfl, h1 6 _ rfl, h1 9 _ rfl, h1 10 _ rfl⟩
theorem peek_bad {E : SEnv} {s : SS} (h : s.e ≠ 0) : peekS E s = ⟨#[]⟩ := by unfold peekS; rw [if_neg h]; rfl
theorem peek_ok {E : SEnv} {s : SS} (h : s.e = 0) : peekS E s = E.P.ws.getD s.next ByteArray.empty := by unfold peekS; rw [if_pos h]
theorem peek_end {E : SEnv} {s : SS} (h : s.next = E.P.ws.length) : peekS E s = ⟨#[]⟩ := by
  unfold peekS
  split
  · rw [h, List.getD_eq_getElem?_getD, List.getElem?_eq_none (Nat.le_refl _)]; rfl
  · rfl
theorem peek_lt {E : SEnv} {s : SS} {x : ByteArray} (h : peekS E s = x) (hx : x ≠ ⟨#[]⟩) (hl : s.next ≤ E.P.ws.length) : s.e = 0 ∧ s.next < E.P.ws.length := by
  refine ⟨Decidable.byContradiction (fun he => hx (by rw [← h, peek_bad he])), Nat.lt_of_le_of_ne hl (fun e => hx (by rw [← h, peek_end e]))⟩
set_option maxRecDepth 100000 in
set_option maxHeartbeats 1000000 in
theorem kPeek_any {K : PK} (hE : PE K) (s : SS) (w : World) (hS : PP K w s) :
    Calls Tryz.prog 117 #[.pointer (some ⟨K.bp, 0, none⟩)] w fun e w' => e = .returned (.string (peekS K.E s)) ∧ PP K w' s := by
  obtain ⟨k3, k4, k5, k6, k9, k10⟩ := hS.cells
  have HS := Lib.hid hS
  have hnl := hS.nl
  have hwl := hE.wl
  by_cases he : s.e = 0
  · have HR := Lib.hid (peek_ok (E := K.E) he)
    rw [he] at k10
    by_cases hn : s.next = K.E.P.ws.length
    · have hp := peek_end hn
      rw [hp]
      rw [hn] at k6
      generalize K.E.P.ws.length = L at *
      clear he hn HR hnl hp hS
      go_enter Tryz.func117, Tryz.ntmps117
      go_wp2
      go_quiet (fail)
      go_wp2
      go_ret
      exact ⟨rfl, HS.out.drewN _⟩
    · rw [HR.out]
      obtain ⟨ad, hA, hb, hc⟩ := hE.wd.str_at (k := s.next) (by omega)
      have hc2 := (hS.be.cell (p := ad.add s.next) (by rw [block_of_add]; exact hb)).trans hc
      rw [hA] at k3
      have hne : ((s.next : Int) == (K.E.P.ws.length : Int)) = false := by rw [beq_eq_false_iff_ne]; omega
      have hlt : s.next < K.E.P.ws.length := by omega
      generalize K.E.P.ws.length = L at *
      generalize K.E.P.ws.getD s.next ByteArray.empty = x at *
      generalize s.next = m at *
      clear he hn HR hnl hS hc hb hA
      go_enter Tryz.func117, Tryz.ntmps117
      go_wp2
      go_quiet (fail)
      go_wp2
      go_quiet (fail)
      go_wp2
      go_ret
      exact ⟨rfl, (HS.out.drewN _).drewN _⟩
  · rw [peek_bad he]
    have hb : (s.e != 0) = true := by rw [bne_iff_ne]; exact he
    generalize s.e = z at *
    clear he hS
    go_enter Tryz.func117, Tryz.ntmps117
    go_wp2
    go_quiet (fail)
    go_wp2
    go_ret
    exact ⟨rfl, HS.out.drewN _⟩
end Go.Proofs.YtenbhalnpiahaaaGreatDoor
/- Layer 6: accept, fail, expect of the program's parser. -/
namespace Go.Proofs.YtenbhalnpiahaaaGreatDoor
open Go.RowKit Go.Proofs.Ws Go.Maps
theorem acc_len {K : PK} {W : World} {s : SS} {x : ByteArray} (hS : PP K W s) (h : peekS K.E s = x) (hx : x ≠ ⟨#[]⟩) : s.next < K.E.P.ws.length := (peek_lt h hx hS.nl).2
set_option maxRecDepth 100000 in
theorem kAccept_any {K : PK} (hE : PE K) (x : ByteArray) (hx : x ≠ ⟨#[]⟩) (s : SS) (w : World) (hS : PP K w s) :
    Calls Tryz.prog 102 #[.pointer (some ⟨K.bp, 0, none⟩), .string x] w fun e w' => e = .returned (.bool (decide (peekS K.E s = x))) ∧ PP K w' (if peekS K.E s = x then s.adv else s) := by
  have HP := Lib.hid (kPeek_any hE s w hS)
  have hwl := hE.wl
  by_cases h : peekS K.E s = x
  · have hl := acc_len hS h hx
    have hq : ((peekS K.E s).toList == x.toList) = true := beq_str h
    rw [decide_eq_true h, if_pos h]
    have HA := Lib.hid (fun W (hW : PP K W s) => hW.adv hl)
    have HC := Lib.hid (fun W (hW : PP K W s) => hW.cells.2.2.2.1)
    have HF := Lib.hid (fun W (hW : PP K W s) => hW.free 6)
    obtain ⟨hw1, hw2⟩ : wrap64 ((s.next : Int) + 1) = (s.next : Int) + 1 ∧ IntKind.i64.wrap ((s.next : Int) + 1) = (s.next : Int) + 1 := ⟨by rw [wrap64_small (by omega) (by omega)], by rw [wrap_small (by omega) (by omega)]⟩
    generalize peekS K.E s = p at *
    clear h hl hwl hS hx
    go_enter Tryz.func102, Tryz.ntmps102
    go_wp2_with fail
    refine HP.out.mono ?_
    rintro e w1 ⟨rfl, hS1⟩
    have k6 := HC.out w1 hS1
    have f6 := HF.out w1 hS1
    have HS1 := Lib.hid (HA.out w1 hS1)
    generalize (s.next : Int) = m at *
    clear hS1
    go_wp2
    go_ret
    exact ⟨rfl, HS1.out⟩
  · have hq : ((peekS K.E s).toList == x.toList) = false := bne_str h
    rw [decide_eq_false h, if_neg h]
    generalize peekS K.E s = p at *
    clear h hwl hS hx
    go_enter Tryz.func102, Tryz.ntmps102
    go_wp2_with fail
    refine HP.out.mono ?_
    rintro e w1 ⟨rfl, hS1⟩
    have HS1 := Lib.hid hS1
    clear hS1
    go_wp2
    go_ret
    exact ⟨rfl, HS1.out⟩
theorem ni_at {w : World} {B n : Nat} {A : Option Addr} {l : List Nat} (h : Reads w B 1 A n (ni l)) {k : Nat} (hk : k < n) :
    ∃ ad, A = some ad ∧ ad.block < B ∧ w.cell? (ad.add k) = some (.int .i64 ((l.getD k 0 : Nat) : Int)) := by
  obtain ⟨ad, u, hA, hb, hu, hc⟩ := h.at_ hk
  unfold ni at hu
  rw [List.getElem?_map] at hu
  obtain ⟨z, hz, rfl⟩ := Option.map_eq_some_iff.1 hu
  exact ⟨ad, hA, hb, by rw [List.getD_eq_getElem?_getD, hz]; exact hc⟩
set_option maxRecDepth 100000 in
set_option maxHeartbeats 1000000 in
theorem kFail_any {K : PK} (hE : PE K) (t : Nat) (er : Int) (s : SS) (w : World) (hS : PP K w s) :
    Calls Tryz.prog 38 #[.pointer (some ⟨K.bp, 0, none⟩), .int .i64 (t : Int), .int .i64 er] w fun e w' => e = .returned (.tuple #[]) ∧ PP K w' (failS K.E t er s) := by
  obtain ⟨k3, k4, k5, k6, k9, k10⟩ := hS.cells
  have f9 := hS.free 9
  have f10 := hS.free 10
  have HS := Lib.hid hS
  by_cases he : s.e = 0
  · have HF : Hid (failS K.E t er s = { s with po := posS K.E t, e := er }) := Lib.hid (by unfold failS; rw [if_pos he])
    rw [HF.out]
    rw [he] at k10
    have H1 : Hid (PP K (w.setCell ⟨K.bp, 10, none⟩ (.int .i64 er)) { s with e := er }) := Lib.hid (hS.set (s' := { s with e := er }) _ rfl hS.nl (fun A c => by unfold pcl; simp) (by decide))
    have H2 : Hid (PP K ((w.setCell ⟨K.bp, 10, none⟩ (.int .i64 er)).setCell ⟨K.bp, 9, none⟩ (.int .i64 (K.E.size : Int))) { s with po := (K.E.size : Int), e := er }) := Lib.hid (H1.out.set (s' := { s with po := (K.E.size : Int), e := er }) _ rfl hS.nl (fun A c => by unfold pcl; simp) (by decide))
    by_cases ht : t < K.E.ats.length
    · have hd : decide ((t : Int) < (K.E.ats.length : Int)) = true := decide_eq_true (by omega)
      have hd2 : decide (t < K.E.ats.length) = true := decide_eq_true ht
      obtain ⟨ad, hA, hb, hc⟩ := ni_at hE.at_ ht
      have hlp := hS.lp
      have hc2 := (hS.be.cell (p := ad.add t) (by rw [block_of_add]; exact hb)).trans hc
      have hnp : (ad.add t).block ≠ K.bp := by rw [block_of_add]; omega
      have hc3 : ((w.setCell ⟨K.bp, 10, none⟩ (.int .i64 er)).setCell ⟨K.bp, 9, none⟩ (.int .i64 (K.E.size : Int))).cell? (ad.add t) = some (.int .i64 ((K.E.ats.getD t 0 : Nat) : Int)) := by
        rw [World.cell?_of_block (a := ad.add t) (Below.heap_setCell _ _ _ _ hnp), World.cell?_of_block (a := ad.add t) (Below.heap_setCell _ _ _ _ hnp)]
        exact hc2
      have hpo : posS K.E t = ((K.E.ats.getD t 0 : Nat) : Int) := by unfold posS; rw [if_pos ht]
      have H3 : Hid (PP K (((w.setCell ⟨K.bp, 10, none⟩ (.int .i64 er)).setCell ⟨K.bp, 9, none⟩ (.int .i64 (K.E.size : Int))).setCell ⟨K.bp, 9, none⟩ (.int .i64 ((K.E.ats.getD t 0 : Nat) : Int))) { s with po := posS K.E t, e := er }) := Lib.hid (H2.out.set (s' := { s with po := posS K.E t, e := er }) _ rfl hS.nl (fun A c => by unfold pcl; rw [hpo]; simp) (by decide))
      rw [hA] at k4
      generalize K.E.ats.getD t 0 = q at *
      generalize K.E.ats.length = L at *
      clear hb hc hc2 hnp hpo hS HF H1 H2 k3 k6 he hA hlp
      go_enter Tryz.func38, Tryz.ntmps38
      go_wp2
      go_end0
      exact ⟨rfl, H3.out⟩
    · have hd : decide ((t : Int) < (K.E.ats.length : Int)) = false := decide_eq_false (by omega)
      have hd2 : decide (t < K.E.ats.length) = false := decide_eq_false ht
      have hpo : posS K.E t = (K.E.size : Int) := by unfold posS; rw [if_neg ht]
      rw [hpo]
      generalize K.E.ats.length = L at *
      clear ht hpo hS HF H1 k3 k6 he
      go_enter Tryz.func38, Tryz.ntmps38
      go_wp2
      go_end0
      exact ⟨rfl, H2.out⟩
  · have HF : Hid (failS K.E t er s = s) := Lib.hid (by unfold failS; rw [if_neg he])
    rw [HF.out]
    have hb : (s.e != 0) = true := by rw [bne_iff_ne]; exact he
    generalize s.e = z at *
    clear he hS HF
    go_enter Tryz.func38, Tryz.ntmps38
    go_wp2
    first | go_end0 | (refine bodyPost_ret (results_none rfl _ _ _) rfl ?_)
    exact ⟨rfl, HS.out⟩
set_option maxRecDepth 100000 in
theorem kExpect_any {K : PK} (hE : PE K) (x : ByteArray) (hx : x ≠ ⟨#[]⟩) (s : SS) (w : World) (hS : PP K w s) :
    Calls Tryz.prog 145 #[.pointer (some ⟨K.bp, 0, none⟩), .string x] w fun e w' => e = .returned (.tuple #[]) ∧ PP K w' (expectS K.E x s) := by
  have HA := Lib.hid (kAccept_any hE x hx s w hS)
  have HF := Lib.hid (fun W (hW : PP K W s) => kFail_any hE s.next 4 s W hW)
  unfold expectS
  by_cases h : peekS K.E s = x
  · rw [if_pos h]
    rw [decide_eq_true h, if_pos h] at HA
    clear h hS hx HF
    go_enter Tryz.func145, Tryz.ntmps145
    go_wp2_with fail
    refine HA.out.mono ?_
    rintro e w1 ⟨rfl, hS1⟩
    have HS1 := Lib.hid hS1
    clear hS1
    go_wp2
    go_end0
    exact ⟨rfl, HS1.out⟩
  · rw [if_neg h]
    rw [decide_eq_false h, if_neg h] at HA
    have HC := Lib.hid (fun W (hW : PP K W s) => hW.cells.2.2.2.1)
    clear h hS hx
    go_enter Tryz.func145, Tryz.ntmps145
    go_wp2_with fail
    refine HA.out.mono ?_
    rintro e w1 ⟨rfl, hS1⟩
    have HF1 := Lib.hid (HF.out w1 hS1)
    have k6 := HC.out w1 hS1
    clear hS1
    go_wp2_with fail
    refine HF1.out.mono ?_
    rintro e w2 ⟨rfl, hS2⟩
    have HS2 := Lib.hid hS2
    clear hS2
    go_wp2
    go_end0
    exact ⟨rfl, HS2.out⟩
end Go.Proofs.YtenbhalnpiahaaaGreatDoor
/- Layer 6: add of the program's parser. -/
namespace Go.Proofs.YtenbhalnpiahaaaGreatDoor
open Go.RowKit Go.Proofs.Ws Go.Maps
theorem step_appM {ops : Array Oper} {o : Oper} {a : Act} {K : Act → World → Prop} {Q : Exit → Act → World → Prop} {E : Prop} {out : List Nd} (n : Nd) (W : World) (hgd : o.guard = none) (s x : Operand)
    (ho : o.op = .call { callee := .builtin .append, args := #[s, x], argTypes := #[25, 25] }) (base b : Nat) (v : Value)
    (hs : a.eval s = v) (hown : W.ownsRow base 65 6 v out.length (nds out)) (hx : a.eval x = .slice (some ⟨b, 0, none⟩) 1 1)
    (hc : ∀ j u, (ndC n)[j]? = some u → W.cell? ⟨b, j, none⟩ = some u) (hl : out.length ≤ 1000000) (hbase : base ≤ W.heap.size)
    (h : ∀ g cap w', w'.ownsRow base 65 6 (.slice (some ⟨g, 0, none⟩) (out.length + 1) cap) (out ++ [n]).length (nds (out ++ [n])) → W.grownBy w' v.ownBlock → (v.ownBlock = some g ∨ W.heap.size ≤ g) → K (a.put o.dst (.slice (some ⟨g, 0, none⟩) (out.length + 1) cap)) w') :
    if Region.wanted o (yielded ops a.tmps) = true then Oper.wp Tryz.prog o a W K Q else E := by
  obtain ⟨i0, hi, hz0, hz1, hz2⟩ := info_parts Tryz.infoNode
  refine step_append_lies W hgd s x 25 ho base 65 i0 _ 6 48 Tryz.underlying25 hi hz0 hz1 hz2 rfl (by decide) v out.length (nds out) hs hown ⟨b, 0, none⟩ 1 1 (ndC n) hx rfl ?_ ?_ (by decide) (by unfold maxLen; omega) (by omega) hbase _ rfl ?_
  · intro j u hj
    have := hc j u hj
    rw [addr_zero]
    exact this
  · intro u hu
    simp only [ndC, List.mem_cons, List.not_mem_nil, or_false] at hu
    rcases hu with rfl | rfl | rfl | rfl | rfl | rfl <;> rfl
  · intro g cap w' h1 h2 h3 _
    refine h g cap w' ?_ h2 (h3.imp id (fun e => by omega))
    rw [nds_append, List.length_append]
    have e : nds [n] = ndC n := by simp [nds]
    rw [e]
    exact h1
theorem PP.row {K : PK} {W : World} {s : SS} {A : Option Addr} {c : Nat} (_h : PP K W s) (h2 : W.ownsRow K.base 65 6 (.slice A s.nodes.length c) s.nodes.length (nds s.nodes)) : ∀ g, (Value.slice A s.nodes.length c).ownBlock = some g → K.base ≤ g ∧ g < W.heap.size := fun g hg => h2.lt g hg
set_option maxRecDepth 100000 in
set_option maxHeartbeats 4000000 in
theorem kAdd_old {K : PK} (x : Nd) (s : SS) (w : World) (hS : PP K w s) (hin : x ∈ s.nodes) :
    Calls Tryz.prog 103 #[.pointer (some ⟨K.bp, 0, none⟩), nv x] w fun e w' => e = .returned (.int .i64 (s.nodes.idxOf x : Int)) ∧ PP K w' s := by
  obtain ⟨D, hown, hM⟩ := hS.mp
  obtain ⟨A, c, hcl, _⟩ := hS.out
  have hm := hcl 8 _ rfl
  have lw : K.bp < w.heap.size := Nat.lt_of_lt_of_le hS.bp hS.bs
  have lm : K.bm < w.heap.size := Nat.lt_of_lt_of_le hS.bm hS.bs
  have HS := Lib.hid hS
  have HB : Hid (∀ o, Below w.heap.size w (w.alloc o)) := Lib.hid (fun o => (Below.refl _ w).alloc (Nat.le_refl _) o)
  have hL : ∀ W : World, W.heap[K.bm]? = w.heap[K.bm]? → (Instr.lookup 59 (.map (some K.bm)) (nv x) true).run Tryz.prog W = .ok (.tuple #[.int .i64 (s.nodes.idxOf x : Int), .bool true]) W := fun W h => look_old (ownsMap_keep hown h) hM hin
  have hL1 : ∀ (o : Obj) (k : Nat), (Instr.lookup 59 (.map (some K.bm)) (nv x) true).run Tryz.prog ((w.alloc o).drewN k) = .ok (.tuple #[.int .i64 (s.nodes.idxOf x : Int), .bool true]) ((w.alloc o).drewN k) := fun o k => hL _ (by show (w.alloc o).heap[K.bm]? = _; exact Below.heap_alloc w o K.bm lm)
  unfold nv at hL1 ⊢
  generalize s.nodes.idxOf x = z at *
  clear hS hin hL hM hown hcl
  go_enter Tryz.func103, Tryz.ntmps103
  go_wp2
  go_quiet (fail)
  go_wp2
  go_ret
  exact ⟨rfl, (HS.out.below (HB.out _)).drewN _⟩
theorem PP.put_end {K : PK} {w w3 w4 : World} {g3 c3 c : Nat} {A : Option Addr} {s : SS} {x : Nd} {D : DataW Unit} (h : PP K w s) (hcl : ∀ j v, (pcl K s A c)[j]? = some v → w.cell? ⟨K.bp, j, none⟩ = some v) (hb3 : Below 0 w w3) (hk : ∀ g, g < w.heap.size → g ≠ K.bm → w3.heap[g]? = w.heap[g]?)
    (hrow : ∀ g, (Value.slice A s.nodes.length c).ownBlock = some g → K.base ≤ g ∧ g < w.heap.size)
    (hM : MapOf s.nodes D) (hx : x ∉ s.nodes) (hw : NdW x) (ho3 : w3.ownsMap Tryz.prog 65 (plainElem (H := Unit) Tryz.prog 3) K.bm (s.nodes.length + 1) (D.put (keyN x) (.lit (.int .i64 (s.nodes.length : Int)))))
    (ho : w4.ownsRow K.base 65 6 (.slice (some ⟨g3, 0, none⟩) (s.nodes.length + 1) c3) (s.nodes ++ [x]).length (nds (s.nodes ++ [x]))) (hg : w3.grownBy w4 (Value.slice A s.nodes.length c).ownBlock) :
    PP K (w4.setCell ⟨K.bp, 7, none⟩ (.slice (some ⟨g3, 0, none⟩) (s.nodes.length + 1) c3)) { s with nodes := s.nodes ++ [x] } := by
  have l1 := h.bp
  have l2 := h.bm
  have l3 := h.bs
  have l4 := h.lp
  have l5 := h.lm
  have l6 := h.ne
  have hs3 := hb3.size
  have hb4 : ∀ g, g < K.base → g ≠ K.bm → w4.heap[g]? = w.heap[g]? := fun g h1 h2 => (hg.block g (by omega) (fun e => by have := (hrow g e.symm).1; omega)).trans (hk g (by omega) h2)
  have hbp := hb4 K.bp l1 l6
  have hbm : (w4.setCell ⟨K.bp, 7, none⟩ (.slice (some ⟨g3, 0, none⟩) (s.nodes.length + 1) c3)).heap[K.bm]? = w3.heap[K.bm]? := (Below.heap_setCell _ _ _ _ (by show K.bm ≠ K.bp; omega)).trans (hg.block K.bm (by omega) (fun e => by have := (hrow K.bm e.symm).1; omega))
  have hlen : (s.nodes ++ [x]).length = s.nodes.length + 1 := by simp
  have hc7 := (World.cell?_of_block (a := ⟨K.bp, 7, none⟩) hbp).trans (hcl 7 _ rfl)
  refine ⟨⟨?_, ?_, ?_, ?_, ?_⟩, h.lp, h.lm, h.ne, h.bp, h.bm, ?_, ⟨some ⟨g3, 0, none⟩, c3, fun j v hj => ?_, ?_⟩, fun j => ?_, ⟨_, ?_, hM.put hw hx⟩, h.nl⟩
  · exact (hg.os.trans hb3.os).trans h.be.os
  · exact (hg.tape.trans hb3.tape).trans h.be.tape
  · exact (hg.output.trans hb3.output).trans h.be.output
  · have := h.be.size; have := hg.size; simp; omega
  · intro g hg1
    exact (Below.heap_setCell _ _ _ _ (by show g ≠ K.bp; omega)).trans ((hb4 g (by omega) (by omega)).trans (h.be.block g hg1))
  · have := hg.size; simp; omega
  · by_cases e : j = 7
    · subst e
      have : v = .slice (some ⟨g3, 0, none⟩) (s.nodes.length + 1) c3 := by
        have e2 : (pcl K { s with nodes := s.nodes ++ [x] } (some ⟨g3, 0, none⟩) c3)[7]? = some (.slice (some ⟨g3, 0, none⟩) (s.nodes ++ [x]).length c3) := rfl
        rw [e2, hlen] at hj
        injection hj with hj
        exact hj.symm
      rw [this]
      exact World.cell?_setCell_same _ _ _ hc7
    · rw [World.cell?_setCell_other w4 ⟨K.bp, 7, none⟩ ⟨K.bp, j, none⟩ _ (fun e2 => by have h9 := congrArg Addr.off e2; dsimp only at h9; omega)]
      refine (World.cell?_of_block (a := ⟨K.bp, j, none⟩) hbp).trans (hcl j v ?_)
      rw [← hj]
      unfold pcl
      match j with
      | 0 => rfl
      | 1 => rfl
      | 2 => rfl
      | 3 => rfl
      | 4 => rfl
      | 5 => rfl
      | 6 => rfl
      | 7 => exact absurd rfl e
      | 8 => rfl
      | 9 => rfl
      | 10 => rfl
      | n + 11 => rfl
  · have := ownsRow_setCell_below ho (a := ⟨K.bp, 7, none⟩) h.bp (.slice (some ⟨g3, 0, none⟩) (s.nodes.length + 1) c3)
    rw [hlen] at this
    show World.ownsRow _ _ _ _ (.slice _ (s.nodes ++ [x]).length c3) (s.nodes ++ [x]).length _
    rw [hlen]
    exact this
  · rw [World.frozen?_setCell]
    exact (World.frozen?_of_block (a := ⟨K.bp, j, none⟩) hbp).trans (h.free j)
  · show World.ownsMap _ _ _ _ _ (s.nodes ++ [x]).length _
    rw [hlen]
    exact ownsMap_keep ho3 hbm
set_option maxRecDepth 100000 in
set_option maxHeartbeats 4000000 in
theorem kAdd_new {K : PK} (x : Nd) (s : SS) (w : World) (hS : PP K w s) (hin : x ∉ s.nodes) (hw : NdW x) (hm : s.nodes.length ≤ 1000000) :
    Calls Tryz.prog 103 #[.pointer (some ⟨K.bp, 0, none⟩), nv x] w fun e w' => e = .returned (.int .i64 (s.nodes.length : Int)) ∧ PP K w' { s with nodes := s.nodes ++ [x] } := by
  obtain ⟨D, hown, hM⟩ := hS.mp
  obtain ⟨A2, c2, hcl, hrow⟩ := hS.out
  have h2 := hcl 7 _ rfl
  have hm3 := hcl 8 _ rfl
  have lb := hS.bs
  have lbp := hS.bp
  have lbm := hS.bm
  have lne := hS.ne
  have lw : K.bp < w.heap.size := Nat.lt_of_lt_of_le hS.bp hS.bs
  have lm : K.bm < w.heap.size := Nat.lt_of_lt_of_le hS.bm hS.bs
  have hfo := hS.free 7
  have HS := Lib.hid hS
  have HCL := Lib.hid hcl
  have hL0 := fun (o : Obj) => look_new (ownsMap_keep hown (Below.heap_alloc w o K.bm lm)) hM hw hin
  obtain ⟨z, hL1⟩ := hL0 (.cells #[.int .i64 x.op, .int .i64 x.i, .int .i64 x.e, .int .i64 x.g, .int .i64 x.x, .int .i64 x.y] 65)
  have HB : Hid (Below w.heap.size w (w.alloc (.cells #[.int .i64 x.op, .int .i64 x.i, .int .i64 x.e, .int .i64 x.g, .int .i64 x.x, .int .i64 x.y] 65))) := Lib.hid ((Below.refl _ w).alloc (Nat.le_refl _) _)
  have HBX := Lib.hid (Box.made w x 65)
  have HOWN := Lib.hid hown
  have HM := Lib.hid hM
  have HW := Lib.hid hw
  have HR := Lib.hid hrow
  have HI := Lib.hid hin
  unfold nv at hL1 ⊢
  clear hS hin hL0 hM hown hw hrow hcl
  generalize hN : s.nodes.length = N at *
  have HN := Lib.hid hN
  clear hN
  go_enter Tryz.func103, Tryz.ntmps103
  go_wp2
  go_quiet (fail)
  have HB0 : Hid (Below w.heap.size w ((w.alloc (.cells #[.int .i64 x.op, .int .i64 x.i, .int .i64 x.e, .int .i64 x.g, .int .i64 x.x, .int .i64 x.y] 65)).drewN nq)) := Lib.hid (below_drewN HB.out _)
  have HBX0 : Hid (Box ((w.alloc (.cells #[.int .i64 x.op, .int .i64 x.i, .int .i64 x.e, .int .i64 x.g, .int .i64 x.x, .int .i64 x.y] 65)).drewN nq) w.heap.size x) := Lib.hid HBX.out
  have hsz0 : w.heap.size < ((w.alloc (.cells #[.int .i64 x.op, .int .i64 x.i, .int .i64 x.e, .int .i64 x.g, .int .i64 x.x, .int .i64 x.y] 65)).drewN nq).heap.size := by show w.heap.size < (w.alloc _).heap.size; simp
  clear hL1 HB HBX
  generalize (w.alloc (.cells #[.int .i64 x.op, .int .i64 x.i, .int .i64 x.e, .int .i64 x.g, .int .i64 x.x, .int .i64 x.y] 65)).drewN nq = w0 at *
  have hc7 := (HB0.out.cell (p := ⟨K.bp, 7, none⟩) lw).trans h2
  have hc3 := (HB0.out.cell (p := ⟨K.bp, 8, none⟩) lw).trans hm3
  go_wp2
  obtain ⟨w3, hrun, hown3, hturn⟩ := World.ownsMap.store (w := w0.drew) (ownsMap_keep HOWN.out (show w0.drew.heap[K.bm]? = w.heap[K.bm]? from HB0.out.block K.bm lm)) nodeLaw Tryz.underlying59 (by unfold maxLen; omega) (key_nd HW.out) (plainElem_int (H := Unit) Tryz.underlying3 (show (Lit.int .i64 (N : Int)).wf = true from WalkArith.wf_i64 (by omega)))
  obtain ⟨b0, b1, b2, b3, b4, b5, bf⟩ := HBX0.out
  clear bf
  unfold nv at hrun
  have HBK : Hid (∀ g, g < w.heap.size → g ≠ K.bm → w3.heap[g]? = w.heap[g]?) := Lib.hid (fun g h1 h2 => (turned_cell hturn (show g < w0.heap.size by omega) h2).trans (HB0.out.block g h1))
  have HG := Lib.hid hturn.grown
  have HO3 := Lib.hid hown3
  clear hown3 hturn hc7
  go_region
  clear hrun b0 b1 b2 b3 b4 b5 hc3
  have hsz3 : w.heap.size < w3.heap.size := Nat.lt_of_lt_of_le hsz0 HG.out.size
  obtain ⟨b0, b1, b2, b3, b4, b5, bf⟩ := HBX0.out.keep (W' := w3) (HG.out.block w.heap.size hsz0 (fun e => by injection e; omega))
  clear bf
  have hc2 : w3.cell? ⟨K.bp, 7, none⟩ = some (.slice A2 N c2) := (World.cell?_of_block (a := ⟨K.bp, 7, none⟩) (HBK.out K.bp lw lne)).trans h2
  have hf2 : w3.frozen? ⟨K.bp, 7, none⟩ = false := (World.frozen?_of_block (a := ⟨K.bp, 7, none⟩) (HBK.out K.bp lw lne)).trans hfo
  have hrowlt : Hid (∀ g, (Value.slice A2 N c2).ownBlock = some g → K.base ≤ g ∧ g < w.heap.size) := Lib.hid (fun g hg => HR.out.lt g hg)
  have hbmr : Hid (∀ g, (Value.slice A2 N c2).ownBlock = some g → g ≠ K.bm) := Lib.hid (fun g hg e => by have := (hrowlt.out g hg).1; omega)
  have hO0 : Hid (w3.ownsRow K.base 65 6 (.slice A2 N c2) s.nodes.length (nds s.nodes)) := Lib.hid (by
    have := own_keep1 HR.out (W' := w3) (fun g hg => HBK.out g (hrowlt.out g hg).2 (hbmr.out g hg))
    rw [HN.out]
    exact this)
  have hO1 : Hid (∀ o, (w3.drew.alloc o).ownsRow K.base 65 6 (.slice A2 N c2) s.nodes.length (nds s.nodes)) := Lib.hid (fun o => own_keep1 hO0.out (fun g hg => Below.heap_alloc w3.drew o g (by show g < w3.heap.size; have := (hrowlt.out g hg).2; omega)))
  have hO2 : Hid (∀ o, K.base ≤ (w3.drew.alloc o).heap.size) := Lib.hid (fun o => by have : (w3.drew.alloc o).heap.size = w3.heap.size + 1 := by simp
                                                                                     omega)
  have hO3 : Hid (∀ j u, (ndC x)[j]? = some u → (w3.drew.alloc (.cells #[.int .i64 x.op, .int .i64 x.i, .int .i64 x.e, .int .i64 x.g, .int .i64 x.x, .int .i64 x.y] 65)).cell? ⟨w3.heap.size, j, none⟩ = some u) := Lib.hid (fun j u hj => by
    have hh := heap_alloc_new w3.drew (.cells #[.int .i64 x.op, .int .i64 x.i, .int .i64 x.e, .int .i64 x.g, .int .i64 x.x, .int .i64 x.y] 65)
    have := Lib.cell_of_heap hh j
    rw [show (⟨w3.heap.size, j, none⟩ : Addr) = ⟨w3.drew.heap.size, j, none⟩ from rfl, this, ← hj]
    simp [ndC])
  have HNE : Hid (some K.bp ≠ (Value.slice A2 N c2).ownBlock) := Lib.hid (fun e => by have := (hrowlt.out K.bp e.symm).1; omega)
  have HWW : Hid (∀ o w4, (w3.drew.alloc o).grownBy w4 (Value.slice A2 N c2).ownBlock → w3.grownBy w4 (Value.slice A2 N c2).ownBlock ∧ w4.cell? ⟨K.bp, 7, none⟩ = some (.slice A2 N c2) ∧ w4.frozen? ⟨K.bp, 7, none⟩ = false) := Lib.hid (fun o w4 hg => by
    have hb : Below w3.heap.size w3 (w3.drew.alloc o) := ((Below.refl _ w3).drew).alloc (Nat.le_refl _) o
    have h4 : w3.grownBy w4 (Value.slice A2 N c2).ownBlock := ⟨hg.os.trans hb.os, hg.tape.trans hb.tape, hg.output.trans hb.output, Nat.le_trans hb.size hg.size, fun g hg1 hg2 => (hg.block g (Nat.lt_of_lt_of_le hg1 hb.size) hg2).trans (hb.block g hg1)⟩
    exact ⟨h4, (h4.cell_far ⟨K.bp, 7, none⟩ (by show K.bp < w3.heap.size; omega) HNE.out).trans hc2, (h4.frozen_far ⟨K.bp, 7, none⟩ (by show K.bp < w3.heap.size; omega) HNE.out).trans hf2⟩)
  have HML : Hid (s.nodes.length ≤ 1000000) := Lib.hid (by rw [HN.out]; exact hm)
  have e0 := World.new_ne w3 _ hc2
  have ebw : K.bp < w3.heap.size := by omega
  have ebn : K.bp ≠ w3.heap.size := by omega
  go_wp2
  go_region_law
    ((refine step_appM x _ (by rfl) _ _ (by rfl) K.base _ _ (by rfl) (hO1.out _) (by rfl) hO3.out HML.out (hO2.out _) ?_; rw [HN.out]; intro g3 c3 w4 ho3 hg3 hr3; obtain ⟨hg4, k0, k1⟩ := HWW.out _ _ hg3; have HH := Lib.hid (And.intro ho3 hg4); clear ho3 hg3 hg4 hr3))
  all_goals clear b0 b1 b2 b3 b4 b5 hc2 hf2 e0 ebw ebn
  all_goals go_wp2
  all_goals go_ret
  all_goals refine ⟨rfl, ?_⟩
  all_goals
    have HEND := Lib.hid (HS.out.put_end (A := A2) (c := c2) (x := x) HCL.out ⟨HG.out.os.trans HB0.out.os, HG.out.tape.trans HB0.out.tape, HG.out.output.trans HB0.out.output, Nat.le_of_lt hsz3, fun k hk => absurd hk (by omega)⟩ HBK.out (by rw [HN.out]; exact hrowlt.out) HM.out HI.out HW.out (by rw [HN.out]; exact HO3.out) (by rw [HN.out]; exact HH.out.1) (by rw [HN.out]; exact HH.out.2))
    rw [HN.out] at HEND
    exact HEND.out
theorem kAdd_any {K : PK} (x : Nd) (s s' : SS) (v : Nat) (w : World) (hS : PP K w s) (hw : NdW x) (h : addS x s = some (v, s')) :
    Calls Tryz.prog 103 #[.pointer (some ⟨K.bp, 0, none⟩), nv x] w fun e w' => e = .returned (.int .i64 (v : Int)) ∧ PP K w' s' := by
  obtain ⟨hl, rfl, rfl⟩ := addS_some h
  by_cases hin : x ∈ s.nodes
  · have e1 : putNd s.nodes x = (s.nodes.idxOf x, s.nodes) := by unfold putNd; rw [if_pos hin]
    rw [e1]
    exact kAdd_old x s w hS hin
  · have e1 : putNd s.nodes x = (s.nodes.length, s.nodes ++ [x]) := by unfold putNd; rw [if_neg hin]
    rw [e1]
    exact kAdd_new x s w hS hin hw hl
end Go.Proofs.YtenbhalnpiahaaaGreatDoor
/- Layer 6: names of the program's parser. -/
namespace Go.Proofs.YtenbhalnpiahaaaGreatDoor
open Go.RowKit Go.Proofs.Ws Go.Maps
theorem lit_no {x : ByteArray} {l : List UInt8} (h : x ≠ ⟨l.toArray⟩) : (x.toList == l) = false := by
  have := bne_str h
  rw [Lib.toList_data (⟨l.toArray⟩ : ByteArray)] at this
  simpa using this
theorem emp_no {x : ByteArray} (h : x.size ≠ 0) : x.toList.isEmpty = false := by
  rw [Lib.toList_data]
  cases h2 : x.data.toList with
  | nil => exact absurd (by rw [← ba_len, h2]; rfl) h
  | cons _ _ => rfl
theorem emp_yes {x : ByteArray} (h : x.size = 0) : x.toList.isEmpty = true := by
  rw [Lib.toList_data, List.isEmpty_iff, ← List.length_eq_zero_iff, ba_len]; exact h
theorem head_at {x : ByteArray} (h : 0 < x.size) : headN x = x[0].toNat := by
  unfold headN
  rw [List.getD_eq_getElem?_getD, chr_at x 0 h]; rfl
theorem size0 {x : ByteArray} (h : x.size = 0) : x = ⟨#[]⟩ := by
  apply ByteArray.ext
  exact Array.eq_empty_of_size_eq_zero h
theorem isName_true (w : World) : Calls Tryz.prog 155 #[.string ⟨#[116, 114, 117, 101]⟩] w fun e w' => e = .returned (.bool false) ∧ w = w' := by
  go_enter Tryz.func155, Tryz.ntmps155
  go_wp2
  go_ret
  exact ⟨rfl, rfl⟩
theorem isName_false (w : World) : Calls Tryz.prog 155 #[.string ⟨#[102, 97, 108, 115, 101]⟩] w fun e w' => e = .returned (.bool false) ∧ w = w' := by
  go_enter Tryz.func155, Tryz.ntmps155
  go_wp2
  go_ret
  exact ⟨rfl, rfl⟩
theorem isName_next (w : World) : Calls Tryz.prog 155 #[.string ⟨#[110, 101, 120, 116]⟩] w fun e w' => e = .returned (.bool false) ∧ w = w' := by
  go_enter Tryz.func155, Tryz.ntmps155
  go_wp2
  go_ret
  exact ⟨rfl, rfl⟩
theorem isName_prev (w : World) : Calls Tryz.prog 155 #[.string ⟨#[112, 114, 101, 118]⟩] w fun e w' => e = .returned (.bool false) ∧ w = w' := by
  go_enter Tryz.func155, Tryz.ntmps155
  go_wp2
  go_ret
  exact ⟨rfl, rfl⟩
theorem isName_until (w : World) : Calls Tryz.prog 155 #[.string ⟨#[117, 110, 116, 105, 108]⟩] w fun e w' => e = .returned (.bool false) ∧ w = w' := by
  go_enter Tryz.func155, Tryz.ntmps155
  go_wp2
  go_ret
  exact ⟨rfl, rfl⟩
theorem isName_since (w : World) : Calls Tryz.prog 155 #[.string ⟨#[115, 105, 110, 99, 101]⟩] w fun e w' => e = .returned (.bool false) ∧ w = w' := by
  go_enter Tryz.func155, Tryz.ntmps155
  go_wp2
  go_ret
  exact ⟨rfl, rfl⟩
theorem isName_K (w : World) : Calls Tryz.prog 155 #[.string ⟨#[75]⟩] w fun e w' => e = .returned (.bool false) ∧ w = w' := by
  go_enter Tryz.func155, Tryz.ntmps155
  go_wp2
  go_ret
  exact ⟨rfl, rfl⟩
theorem isName_M (w : World) : Calls Tryz.prog 155 #[.string ⟨#[77]⟩] w fun e w' => e = .returned (.bool false) ∧ w = w' := by
  go_enter Tryz.func155, Tryz.ntmps155
  go_wp2
  go_ret
  exact ⟨rfl, rfl⟩
theorem isName_S (w : World) : Calls Tryz.prog 155 #[.string ⟨#[83]⟩] w fun e w' => e = .returned (.bool false) ∧ w = w' := by
  go_enter Tryz.func155, Tryz.ntmps155
  go_wp2
  go_ret
  exact ⟨rfl, rfl⟩
theorem isName_B (w : World) : Calls Tryz.prog 155 #[.string ⟨#[66]⟩] w fun e w' => e = .returned (.bool false) ∧ w = w' := by
  go_enter Tryz.func155, Tryz.ntmps155
  go_wp2
  go_ret
  exact ⟨rfl, rfl⟩
theorem isName_E (w : World) : Calls Tryz.prog 155 #[.string ⟨#[69]⟩] w fun e w' => e = .returned (.bool false) ∧ w = w' := by
  go_enter Tryz.func155, Tryz.ntmps155
  go_wp2
  go_ret
  exact ⟨rfl, rfl⟩
theorem isName_D (w : World) : Calls Tryz.prog 155 #[.string ⟨#[68]⟩] w fun e w' => e = .returned (.bool false) ∧ w = w' := by
  go_enter Tryz.func155, Tryz.ntmps155
  go_wp2
  go_ret
  exact ⟨rfl, rfl⟩
theorem isName_C (w : World) : Calls Tryz.prog 155 #[.string ⟨#[67]⟩] w fun e w' => e = .returned (.bool false) ∧ w = w' := by
  go_enter Tryz.func155, Tryz.ntmps155
  go_wp2
  go_ret
  exact ⟨rfl, rfl⟩
theorem isName_none (w : World) : Calls Tryz.prog 155 #[.string ⟨#[]⟩] w fun e w' => e = .returned (.bool false) ∧ w = w' := by
  go_enter Tryz.func155, Tryz.ntmps155
  go_wp2
  go_ret
  exact ⟨rfl, rfl⟩
set_option maxRecDepth 100000 in
set_option maxHeartbeats 1000000 in
theorem isName_other (x : ByteArray) (w : World) (h0 : x.size ≠ 0) (hs : x ∉ specL) : Calls Tryz.prog 155 #[.string x] w fun e w' => e = .returned (.bool (letN (headN x))) ∧ w = w' := by
  have hi := emp_no h0
  have hpos : 0 < x.size := by omega
  clear h0
  have HL := Lib.hid (fun W => kLetter_any x[0].toNat W)
  have h1 : (x.toList == [116, 114, 117, 101]) = false := lit_no (fun e => hs (by rw [e]; unfold specL; simp))
  have h2 : (x.toList == [102, 97, 108, 115, 101]) = false := lit_no (fun e => hs (by rw [e]; unfold specL; simp))
  have h3 : (x.toList == [110, 101, 120, 116]) = false := lit_no (fun e => hs (by rw [e]; unfold specL; simp))
  have h4 : (x.toList == [112, 114, 101, 118]) = false := lit_no (fun e => hs (by rw [e]; unfold specL; simp))
  have h5 : (x.toList == [117, 110, 116, 105, 108]) = false := lit_no (fun e => hs (by rw [e]; unfold specL; simp))
  have h6 : (x.toList == [115, 105, 110, 99, 101]) = false := lit_no (fun e => hs (by rw [e]; unfold specL; simp))
  have h7 : (x.toList == [75]) = false := lit_no (fun e => hs (by rw [e]; unfold specL; simp))
  have h8 : (x.toList == [77]) = false := lit_no (fun e => hs (by rw [e]; unfold specL; simp))
  have h9 : (x.toList == [83]) = false := lit_no (fun e => hs (by rw [e]; unfold specL; simp))
  have h10 : (x.toList == [66]) = false := lit_no (fun e => hs (by rw [e]; unfold specL; simp))
  have h11 : (x.toList == [69]) = false := lit_no (fun e => hs (by rw [e]; unfold specL; simp))
  have h12 : (x.toList == [68]) = false := lit_no (fun e => hs (by rw [e]; unfold specL; simp))
  have h13 : (x.toList == [67]) = false := lit_no (fun e => hs (by rw [e]; unfold specL; simp))
  rw [head_at hpos]
  clear hs
  go_enter Tryz.func155, Tryz.ntmps155
  go_wp2_with fail
  refine (HL.out _).mono ?_
  rintro e w1 ⟨rfl, rfl⟩
  go_wp2
  go_ret
  exact ⟨rfl, rfl⟩
theorem kIsName_any (x : ByteArray) (w : World) : Calls Tryz.prog 155 #[.string x] w fun e w' => e = .returned (.bool (nameOk x)) ∧ w = w' := by
  by_cases h0 : x.size = 0
  · have e := size0 h0
    subst e
    exact isName_none w
  · by_cases hs : x ∈ specL
    · have : nameOk x = false := by unfold nameOk; rw [(Lib.containsS_iff specL x).2 hs, Bool.not_true, Bool.and_false]
      rw [this]
      unfold specL at hs
      simp only [List.mem_cons, List.not_mem_nil, or_false] at hs
      rcases hs with rfl | rfl | rfl | rfl | rfl | rfl | rfl | rfl | rfl | rfl | rfl | rfl | rfl
      · exact isName_true w
      · exact isName_false w
      · exact isName_next w
      · exact isName_prev w
      · exact isName_until w
      · exact isName_since w
      · exact isName_K w
      · exact isName_M w
      · exact isName_S w
      · exact isName_B w
      · exact isName_E w
      · exact isName_D w
      · exact isName_C w
    · have : nameOk x = letN (headN x) := by
        unfold nameOk
        have hc : Lib.containsS specL x = false := by
          cases hq : Lib.containsS specL x
          · rfl
          · exact absurd ((Lib.containsS_iff specL x).1 hq) hs
        rw [hc, decide_eq_true h0]; simp
      rw [this]
      exact isName_other x w h0 hs
end Go.Proofs.YtenbhalnpiahaaaGreatDoor
/- Layer 6: names, agents, events of the program's parser. -/
namespace Go.Proofs.YtenbhalnpiahaaaGreatDoor
open Go.RowKit Go.Proofs.Ws Go.Maps
theorem PE.sigAt {K : PK} (hE : PE K) {W : World} {s : SS} (h : PP K W s) : SigR W W.heap.size (sv K.a0 K.n0 K.c0 K.a1 K.n1 K.c1 K.a2 K.n2 K.c2) K.E.P.A K.E.P.F K.E.P.X := hE.sig.on h.be
theorem PE.envAt {K : PK} (hE : PE K) {W : World} {s : SS} (h : PP K W s) : EnvS W := hE.env.below h.be
theorem PP.names {K : PK} {W : World} {s : SS} (h : PP K W s) : W.cell? ⟨K.bp, 0, none⟩ = some (.slice K.a0 K.n0 K.c0) ∧ W.cell? ⟨K.bp, 1, none⟩ = some (.slice K.a1 K.n1 K.c1) ∧ W.cell? ⟨K.bp, 2, none⟩ = some (.slice K.a2 K.n2 K.c2) := by
  obtain ⟨A, c, h1, h2⟩ := h.out
  exact ⟨h1 0 _ rfl, h1 1 _ rfl, h1 2 _ rfl⟩
theorem nameOk_ne {x : ByteArray} (h : nameOk x = true) : x ≠ ⟨#[]⟩ := by
  rintro rfl
  exact absurd h (by decide)
theorem peek_size {K : PK} (hE : PE K) (s : SS) : (peekS K.E s).size ≤ 4000 := by
  unfold peekS
  split
  · rw [List.getD_eq_getElem?_getD]
    cases h : K.E.P.ws[s.next]? with
    | none => show ByteArray.empty.size ≤ 4000; decide
    | some x => exact hE.wz x (List.mem_of_getElem? h)
  · show ByteArray.empty.size ≤ 4000; decide
/-- next + 1 -/
theorem next_wrap {m : Nat} (h : m ≤ 4000) : wrap64 ((m : Int) + 1) = (m : Int) + 1 ∧ IntKind.i64.wrap ((m : Int) + 1) = (m : Int) + 1 := ⟨by rw [wrap64_small (by omega) (by omega)], by rw [wrap_small (by omega) (by omega)]⟩
set_option maxRecDepth 100000 in
theorem kName_fact {K : PK} (hE : PE K) (s : SS) (w : World) (hS : PP K w s) :
    Calls Tryz.prog 151 #[.pointer (some ⟨K.bp, 0, none⟩), .func (Fn.func 152) #[] #[]] w fun e w' => e = .returned (.int .i64 (((nameS K.E 0 s).1 : Nat) : Int)) ∧ PP K w' (nameS K.E 0 s).2 := by
  have HP := Lib.hid (kPeek_any hE s w hS)
  have HN := Lib.hid (fun W => kIsName_any (peekS K.E s) W)
  have hwl := hE.wl
  have HC := Lib.hid (fun W (hW : PP K W s) => hW.cells.2.2.2.1)
  have hlist : listS K.E 0 = K.E.P.F := rfl
  cases hn : nameOk (peekS K.E s) with
  | false =>
    have e : nameS K.E 0 s = (0, failS K.E s.next 4 s) := by unfold nameS; rw [if_pos hn]
    rw [e]
    have HF := Lib.hid (fun W (hW : PP K W s) => kFail_any hE s.next 4 s W hW)
    rw [hn] at HN
    generalize peekS K.E s = p at *
    clear hn e hS hlist
    go_enter Tryz.func151, Tryz.ntmps151
    go_wp2_with fail
    refine HP.out.mono ?_
    rintro e w1 ⟨rfl, hS1⟩
    have HF1 := Lib.hid (HF.out w1 hS1)
    have k6 := HC.out w1 hS1
    clear hS1
    go_wp2_with fail
    refine (HN.out _).mono ?_
    rintro e w2 ⟨rfl, rfl⟩
    go_wp2_with fail
    refine HF1.out.mono ?_
    rintro e w2 ⟨rfl, hS2⟩
    have HS2 := Lib.hid hS2
    clear hS2
    go_wp2
    go_ret
    exact ⟨rfl, HS2.out⟩
  | true =>
    have hne := nameOk_ne hn
    have hlt := (peek_lt rfl hne hS.nl).2
    have HFI : Hid (∀ W, PP K W s → Calls Tryz.prog 152 #[.agg #[.slice K.a0 K.n0 K.c0, .slice K.a1 K.n1 K.c1, .slice K.a2 K.n2 K.c2], .string (peekS K.E s)] W fun e w' => e = .returned (.int .i64 (Lib.idxOfS K.E.P.F (peekS K.E s))) ∧ PP K w' s) := Lib.hid (fun W hW => by
      have h := pFact_any (sv K.a0 K.n0 K.c0 K.a1 K.n1 K.c1 K.a2 K.n2 K.c2) K.E.P.A K.E.P.F K.E.P.X (peekS K.E s) W (hE.sigAt hW) (hE.envAt hW)
      rw [numV_ok hE.ok] at h
      refine h.mono ?_
      rintro e w' ⟨rfl, hb⟩
      exact ⟨rfl, hW.below hb⟩)
    have HCN := Lib.hid (fun W (hW : PP K W s) => hW.names)
    rw [hn] at HN
    by_cases hi : Lib.idxOfS K.E.P.F (peekS K.E s) < 0
    · have e : nameS K.E 0 s = (0, failS K.E s.next 5 s) := by unfold nameS; rw [if_neg (by rw [hn]; decide), hlist, if_pos hi]
      rw [e]
      have HF := Lib.hid (fun W (hW : PP K W s) => kFail_any hE s.next 5 s W hW)
      have hd : decide (Lib.idxOfS K.E.P.F (peekS K.E s) < 0) = true := decide_eq_true hi
      generalize Lib.idxOfS K.E.P.F (peekS K.E s) = z at *
      generalize peekS K.E s = p at *
      clear hn e hS hlist hne hlt
      go_enter Tryz.func151, Tryz.ntmps151
      go_wp2_with fail
      refine HP.out.mono ?_
      rintro e w1 ⟨rfl, hS1⟩
      have HI1 := Lib.hid (HFI.out w1 hS1)
      obtain ⟨k0, k1, k2⟩ := HCN.out w1 hS1
      clear hS1
      go_wp2_with fail
      refine (HN.out _).mono ?_
      rintro e w2 ⟨rfl, rfl⟩
      go_wp2_with fail
      refine HI1.out.mono ?_
      rintro e w2 ⟨rfl, hS2⟩
      have HF1 := Lib.hid (HF.out w2 hS2)
      have k6 := HC.out w2 hS2
      clear hS2
      go_wp2_with fail
      refine HF1.out.mono ?_
      rintro e w3 ⟨rfl, hS3⟩
      have HS3 := Lib.hid hS3
      clear hS3
      go_wp2
      go_ret
      exact ⟨rfl, HS3.out⟩
    · have e : nameS K.E 0 s = ((Lib.idxOfS K.E.P.F (peekS K.E s)).toNat, s.adv) := by unfold nameS; rw [if_neg (by rw [hn]; decide), hlist, if_neg hi]
      rw [e]
      have hd : decide (Lib.idxOfS K.E.P.F (peekS K.E s) < 0) = false := decide_eq_false hi
      have HV : Hid ((((Lib.idxOfS K.E.P.F (peekS K.E s)).toNat : Nat) : Int) = Lib.idxOfS K.E.P.F (peekS K.E s)) := Lib.hid (by omega)
      have HA := Lib.hid (fun W (hW : PP K W s) => hW.adv hlt)
      have HF6 := Lib.hid (fun W (hW : PP K W s) => hW.free 6)
      obtain ⟨hw1, hw2⟩ := next_wrap (m := s.next) (by omega)
      generalize (s.next : Int) = m at *
      rw [HV.out]
      generalize Lib.idxOfS K.E.P.F (peekS K.E s) = z at *
      generalize peekS K.E s = p at *
      clear hn e hS hlist hne hlt hwl
      go_enter Tryz.func151, Tryz.ntmps151
      go_wp2_with fail
      refine HP.out.mono ?_
      rintro e w1 ⟨rfl, hS1⟩
      have HI1 := Lib.hid (HFI.out w1 hS1)
      obtain ⟨k0, k1, k2⟩ := HCN.out w1 hS1
      clear hS1
      go_wp2_with fail
      refine (HN.out _).mono ?_
      rintro e w2 ⟨rfl, rfl⟩
      go_wp2_with fail
      refine HI1.out.mono ?_
      rintro e w2 ⟨rfl, hS2⟩
      have HA2 := Lib.hid (HA.out w2 hS2)
      have k6 := HC.out w2 hS2
      have f6 := HF6.out w2 hS2
      clear hS2
      go_wp2
      go_ret
      exact ⟨rfl, HA2.out⟩
set_option maxRecDepth 100000 in
theorem kName_agent {K : PK} (hE : PE K) (s : SS) (w : World) (hS : PP K w s) :
    Calls Tryz.prog 151 #[.pointer (some ⟨K.bp, 0, none⟩), .func (Fn.func 153) #[] #[]] w fun e w' => e = .returned (.int .i64 (((nameS K.E 1 s).1 : Nat) : Int)) ∧ PP K w' (nameS K.E 1 s).2 := by
  have HP := Lib.hid (kPeek_any hE s w hS)
  have HN := Lib.hid (fun W => kIsName_any (peekS K.E s) W)
  have hwl := hE.wl
  have HC := Lib.hid (fun W (hW : PP K W s) => hW.cells.2.2.2.1)
  have hlist : listS K.E 1 = K.E.P.A := rfl
  cases hn : nameOk (peekS K.E s) with
  | false =>
    have e : nameS K.E 1 s = (0, failS K.E s.next 4 s) := by unfold nameS; rw [if_pos hn]
    rw [e]
    have HF := Lib.hid (fun W (hW : PP K W s) => kFail_any hE s.next 4 s W hW)
    rw [hn] at HN
    generalize peekS K.E s = p at *
    clear hn e hS hlist
    go_enter Tryz.func151, Tryz.ntmps151
    go_wp2_with fail
    refine HP.out.mono ?_
    rintro e w1 ⟨rfl, hS1⟩
    have HF1 := Lib.hid (HF.out w1 hS1)
    have k6 := HC.out w1 hS1
    clear hS1
    go_wp2_with fail
    refine (HN.out _).mono ?_
    rintro e w2 ⟨rfl, rfl⟩
    go_wp2_with fail
    refine HF1.out.mono ?_
    rintro e w2 ⟨rfl, hS2⟩
    have HS2 := Lib.hid hS2
    clear hS2
    go_wp2
    go_ret
    exact ⟨rfl, HS2.out⟩
  | true =>
    have hne := nameOk_ne hn
    have hlt := (peek_lt rfl hne hS.nl).2
    have HFI : Hid (∀ W, PP K W s → Calls Tryz.prog 153 #[.agg #[.slice K.a0 K.n0 K.c0, .slice K.a1 K.n1 K.c1, .slice K.a2 K.n2 K.c2], .string (peekS K.E s)] W fun e w' => e = .returned (.int .i64 (Lib.idxOfS K.E.P.A (peekS K.E s))) ∧ PP K w' s) := Lib.hid (fun W hW => by
      have h := pAgent_any (sv K.a0 K.n0 K.c0 K.a1 K.n1 K.c1 K.a2 K.n2 K.c2) K.E.P.A K.E.P.F K.E.P.X (peekS K.E s) W (hE.sigAt hW) (hE.envAt hW)
      rw [numV_ok hE.ok] at h
      refine h.mono ?_
      rintro e w' ⟨rfl, hb⟩
      exact ⟨rfl, hW.below hb⟩)
    have HCN := Lib.hid (fun W (hW : PP K W s) => hW.names)
    rw [hn] at HN
    by_cases hi : Lib.idxOfS K.E.P.A (peekS K.E s) < 0
    · have e : nameS K.E 1 s = (0, failS K.E s.next 5 s) := by unfold nameS; rw [if_neg (by rw [hn]; decide), hlist, if_pos hi]
      rw [e]
      have HF := Lib.hid (fun W (hW : PP K W s) => kFail_any hE s.next 5 s W hW)
      have hd : decide (Lib.idxOfS K.E.P.A (peekS K.E s) < 0) = true := decide_eq_true hi
      generalize Lib.idxOfS K.E.P.A (peekS K.E s) = z at *
      generalize peekS K.E s = p at *
      clear hn e hS hlist hne hlt
      go_enter Tryz.func151, Tryz.ntmps151
      go_wp2_with fail
      refine HP.out.mono ?_
      rintro e w1 ⟨rfl, hS1⟩
      have HI1 := Lib.hid (HFI.out w1 hS1)
      obtain ⟨k0, k1, k2⟩ := HCN.out w1 hS1
      clear hS1
      go_wp2_with fail
      refine (HN.out _).mono ?_
      rintro e w2 ⟨rfl, rfl⟩
      go_wp2_with fail
      refine HI1.out.mono ?_
      rintro e w2 ⟨rfl, hS2⟩
      have HF1 := Lib.hid (HF.out w2 hS2)
      have k6 := HC.out w2 hS2
      clear hS2
      go_wp2_with fail
      refine HF1.out.mono ?_
      rintro e w3 ⟨rfl, hS3⟩
      have HS3 := Lib.hid hS3
      clear hS3
      go_wp2
      go_ret
      exact ⟨rfl, HS3.out⟩
    · have e : nameS K.E 1 s = ((Lib.idxOfS K.E.P.A (peekS K.E s)).toNat, s.adv) := by unfold nameS; rw [if_neg (by rw [hn]; decide), hlist, if_neg hi]
      rw [e]
      have hd : decide (Lib.idxOfS K.E.P.A (peekS K.E s) < 0) = false := decide_eq_false hi
      have HV : Hid ((((Lib.idxOfS K.E.P.A (peekS K.E s)).toNat : Nat) : Int) = Lib.idxOfS K.E.P.A (peekS K.E s)) := Lib.hid (by omega)
      have HA := Lib.hid (fun W (hW : PP K W s) => hW.adv hlt)
      have HF6 := Lib.hid (fun W (hW : PP K W s) => hW.free 6)
      obtain ⟨hw1, hw2⟩ := next_wrap (m := s.next) (by omega)
      generalize (s.next : Int) = m at *
      rw [HV.out]
      generalize Lib.idxOfS K.E.P.A (peekS K.E s) = z at *
      generalize peekS K.E s = p at *
      clear hn e hS hlist hne hlt hwl
      go_enter Tryz.func151, Tryz.ntmps151
      go_wp2_with fail
      refine HP.out.mono ?_
      rintro e w1 ⟨rfl, hS1⟩
      have HI1 := Lib.hid (HFI.out w1 hS1)
      obtain ⟨k0, k1, k2⟩ := HCN.out w1 hS1
      clear hS1
      go_wp2_with fail
      refine (HN.out _).mono ?_
      rintro e w2 ⟨rfl, rfl⟩
      go_wp2_with fail
      refine HI1.out.mono ?_
      rintro e w2 ⟨rfl, hS2⟩
      have HA2 := Lib.hid (HA.out w2 hS2)
      have k6 := HC.out w2 hS2
      have f6 := HF6.out w2 hS2
      clear hS2
      go_wp2
      go_ret
      exact ⟨rfl, HA2.out⟩
set_option maxRecDepth 100000 in
theorem kName_action {K : PK} (hE : PE K) (s : SS) (w : World) (hS : PP K w s) :
    Calls Tryz.prog 151 #[.pointer (some ⟨K.bp, 0, none⟩), .func (Fn.func 154) #[] #[]] w fun e w' => e = .returned (.int .i64 (((nameS K.E 2 s).1 : Nat) : Int)) ∧ PP K w' (nameS K.E 2 s).2 := by
  have HP := Lib.hid (kPeek_any hE s w hS)
  have HN := Lib.hid (fun W => kIsName_any (peekS K.E s) W)
  have hwl := hE.wl
  have HC := Lib.hid (fun W (hW : PP K W s) => hW.cells.2.2.2.1)
  have hlist : listS K.E 2 = K.E.P.X := rfl
  cases hn : nameOk (peekS K.E s) with
  | false =>
    have e : nameS K.E 2 s = (0, failS K.E s.next 4 s) := by unfold nameS; rw [if_pos hn]
    rw [e]
    have HF := Lib.hid (fun W (hW : PP K W s) => kFail_any hE s.next 4 s W hW)
    rw [hn] at HN
    generalize peekS K.E s = p at *
    clear hn e hS hlist
    go_enter Tryz.func151, Tryz.ntmps151
    go_wp2_with fail
    refine HP.out.mono ?_
    rintro e w1 ⟨rfl, hS1⟩
    have HF1 := Lib.hid (HF.out w1 hS1)
    have k6 := HC.out w1 hS1
    clear hS1
    go_wp2_with fail
    refine (HN.out _).mono ?_
    rintro e w2 ⟨rfl, rfl⟩
    go_wp2_with fail
    refine HF1.out.mono ?_
    rintro e w2 ⟨rfl, hS2⟩
    have HS2 := Lib.hid hS2
    clear hS2
    go_wp2
    go_ret
    exact ⟨rfl, HS2.out⟩
  | true =>
    have hne := nameOk_ne hn
    have hlt := (peek_lt rfl hne hS.nl).2
    have HFI : Hid (∀ W, PP K W s → Calls Tryz.prog 154 #[.agg #[.slice K.a0 K.n0 K.c0, .slice K.a1 K.n1 K.c1, .slice K.a2 K.n2 K.c2], .string (peekS K.E s)] W fun e w' => e = .returned (.int .i64 (Lib.idxOfS K.E.P.X (peekS K.E s))) ∧ PP K w' s) := Lib.hid (fun W hW => by
      have h := pAction_any (sv K.a0 K.n0 K.c0 K.a1 K.n1 K.c1 K.a2 K.n2 K.c2) K.E.P.A K.E.P.F K.E.P.X (peekS K.E s) W (hE.sigAt hW) (hE.envAt hW)
      rw [numV_ok hE.ok] at h
      refine h.mono ?_
      rintro e w' ⟨rfl, hb⟩
      exact ⟨rfl, hW.below hb⟩)
    have HCN := Lib.hid (fun W (hW : PP K W s) => hW.names)
    rw [hn] at HN
    by_cases hi : Lib.idxOfS K.E.P.X (peekS K.E s) < 0
    · have e : nameS K.E 2 s = (0, failS K.E s.next 5 s) := by unfold nameS; rw [if_neg (by rw [hn]; decide), hlist, if_pos hi]
      rw [e]
      have HF := Lib.hid (fun W (hW : PP K W s) => kFail_any hE s.next 5 s W hW)
      have hd : decide (Lib.idxOfS K.E.P.X (peekS K.E s) < 0) = true := decide_eq_true hi
      generalize Lib.idxOfS K.E.P.X (peekS K.E s) = z at *
      generalize peekS K.E s = p at *
      clear hn e hS hlist hne hlt
      go_enter Tryz.func151, Tryz.ntmps151
      go_wp2_with fail
      refine HP.out.mono ?_
      rintro e w1 ⟨rfl, hS1⟩
      have HI1 := Lib.hid (HFI.out w1 hS1)
      obtain ⟨k0, k1, k2⟩ := HCN.out w1 hS1
      clear hS1
      go_wp2_with fail
      refine (HN.out _).mono ?_
      rintro e w2 ⟨rfl, rfl⟩
      go_wp2_with fail
      refine HI1.out.mono ?_
      rintro e w2 ⟨rfl, hS2⟩
      have HF1 := Lib.hid (HF.out w2 hS2)
      have k6 := HC.out w2 hS2
      clear hS2
      go_wp2_with fail
      refine HF1.out.mono ?_
      rintro e w3 ⟨rfl, hS3⟩
      have HS3 := Lib.hid hS3
      clear hS3
      go_wp2
      go_ret
      exact ⟨rfl, HS3.out⟩
    · have e : nameS K.E 2 s = ((Lib.idxOfS K.E.P.X (peekS K.E s)).toNat, s.adv) := by unfold nameS; rw [if_neg (by rw [hn]; decide), hlist, if_neg hi]
      rw [e]
      have hd : decide (Lib.idxOfS K.E.P.X (peekS K.E s) < 0) = false := decide_eq_false hi
      have HV : Hid ((((Lib.idxOfS K.E.P.X (peekS K.E s)).toNat : Nat) : Int) = Lib.idxOfS K.E.P.X (peekS K.E s)) := Lib.hid (by omega)
      have HA := Lib.hid (fun W (hW : PP K W s) => hW.adv hlt)
      have HF6 := Lib.hid (fun W (hW : PP K W s) => hW.free 6)
      obtain ⟨hw1, hw2⟩ := next_wrap (m := s.next) (by omega)
      generalize (s.next : Int) = m at *
      rw [HV.out]
      generalize Lib.idxOfS K.E.P.X (peekS K.E s) = z at *
      generalize peekS K.E s = p at *
      clear hn e hS hlist hne hlt hwl
      go_enter Tryz.func151, Tryz.ntmps151
      go_wp2_with fail
      refine HP.out.mono ?_
      rintro e w1 ⟨rfl, hS1⟩
      have HI1 := Lib.hid (HFI.out w1 hS1)
      obtain ⟨k0, k1, k2⟩ := HCN.out w1 hS1
      clear hS1
      go_wp2_with fail
      refine (HN.out _).mono ?_
      rintro e w2 ⟨rfl, rfl⟩
      go_wp2_with fail
      refine HI1.out.mono ?_
      rintro e w2 ⟨rfl, hS2⟩
      have HA2 := Lib.hid (HA.out w2 hS2)
      have k6 := HC.out w2 hS2
      have f6 := HF6.out w2 hS2
      clear hS2
      go_wp2
      go_ret
      exact ⟨rfl, HA2.out⟩
theorem kAgent_any {K : PK} (hE : PE K) (s : SS) (w : World) (hS : PP K w s) :
    Calls Tryz.prog 146 #[.pointer (some ⟨K.bp, 0, none⟩)] w fun e w' => e = .returned (.int .i64 (((nameS K.E 1 s).1 : Nat) : Int)) ∧ PP K w' (nameS K.E 1 s).2 := by
  have HN := Lib.hid (kName_agent hE s w hS)
  generalize nameS K.E 1 s = r at *
  clear hS
  go_enter Tryz.func146, Tryz.ntmps146
  go_wp2_with fail
  refine HN.out.mono ?_
  rintro e w1 ⟨rfl, hS1⟩
  have HS1 := Lib.hid hS1
  clear hS1
  go_wp2
  go_ret
  exact ⟨rfl, HS1.out⟩
theorem kAction_any {K : PK} (hE : PE K) (s : SS) (w : World) (hS : PP K w s) :
    Calls Tryz.prog 149 #[.pointer (some ⟨K.bp, 0, none⟩)] w fun e w' => e = .returned (.int .i64 (((nameS K.E 2 s).1 : Nat) : Int)) ∧ PP K w' (nameS K.E 2 s).2 := by
  have HN := Lib.hid (kName_action hE s w hS)
  generalize nameS K.E 2 s = r at *
  clear hS
  go_enter Tryz.func149, Tryz.ntmps149
  go_wp2_with fail
  refine HN.out.mono ?_
  rintro e w1 ⟨rfl, hS1⟩
  have HS1 := Lib.hid hS1
  clear hS1
  go_wp2
  go_ret
  exact ⟨rfl, HS1.out⟩
end Go.Proofs.YtenbhalnpiahaaaGreatDoor
