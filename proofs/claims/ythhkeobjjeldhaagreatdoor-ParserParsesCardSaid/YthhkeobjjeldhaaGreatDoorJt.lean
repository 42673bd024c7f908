/- Layer 6: texts joined: Ya Yb Yc Yd Ye. -/
import Derived.Test.YthhkeobjjeldhaaGreatDoorJe
import Derived.Test.YthhkeobjjeldhaaGreatDoorJf
import Derived.Test.YthhkeobjjeldhaaGreatDoorJg
import Derived.Test.YthhkeobjjeldhaaGreatDoorJr
import Derived.Test.YthhkeobjjeldhaaGreatDoorJs
/- Layer 6: the state of the reference's parser; its next token, its errors, its signs. -/
namespace Go.Proofs.YthhkeobjjeldhaaGreatDoor
open Go.RowKit Go.Proofs.Ws Go.Maps
/-- what stays the same while a text is read -/
structure RK where
  E : PEnv
  w0 : World
  bp : Nat
  base : Nat
  a0 : Option Addr
  n0 : Nat
  c0 : Nat
  a1 : Option Addr
  n1 : Nat
  c1 : Nat
  a2 : Option Addr
  n2 : Nat
  c2 : Nat
  aw : Option Addr
  cw : Nat
structure RE (K : RK) : Prop where
  sig : SigR K.w0 K.w0.heap.size (sv K.a0 K.n0 K.c0 K.a1 K.n1 K.c1 K.a2 K.n2 K.c2) K.E.A K.E.F K.E.X
  ok : sigErr K.E.A K.E.F K.E.X = 0
  env : EnvS K.w0
  wd : Reads K.w0 K.w0.heap.size 1 K.aw K.E.ws.length (ss K.E.ws)
  wl : K.E.ws.length ≤ 4000
  wz : ∀ x ∈ K.E.ws, x.size ≤ 4000
def rcl (K : RK) (s : RS) (A : Option Addr) (c : Nat) : List Value :=
  [.slice K.a0 K.n0 K.c0, .slice K.a1 K.n1 K.c1, .slice K.a2 K.n2 K.c2, .slice K.aw K.E.ws.length K.cw, .int .i64 (s.next : Int), .slice A s.nodes.length c, .int .i64 (s.bad : Int), .int .i64 s.e]
/-- the reader in memory -/
structure RP (K : RK) (W : World) (s : RS) : Prop where
  be : Below K.w0.heap.size K.w0 W
  lp : K.w0.heap.size ≤ K.bp
  bp : K.bp < K.base
  bs : K.base ≤ W.heap.size
  out : ∃ A c, (∀ j v, (rcl K s A c)[j]? = some v → W.cell? ⟨K.bp, j, none⟩ = some v) ∧ W.ownsRow K.base 34 6 (.slice A s.nodes.length c) s.nodes.length (nds s.nodes)
  free : ∀ j, W.frozen? ⟨K.bp, j, none⟩ = false
theorem RP.below {K : RK} {W W' : World} {s : RS} (h : RP K W s) (hb : Below W.heap.size W W') : RP K W' s := by
  obtain ⟨A, c, h1, h2⟩ := h.out
  have l1 := h.bp
  have l3 := h.bs
  have l4 := h.lp
  have e : W'.heap[K.bp]? = W.heap[K.bp]? := hb.block _ (by omega)
  exact ⟨h.be.trans (hb.mono (by omega)), h.lp, h.bp, Nat.le_trans h.bs hb.size, ⟨A, c, fun j v hj => (World.cell?_of_block (a := ⟨K.bp, j, none⟩) e).trans (h1 j v hj), own_keep1 h2 (fun g hg => hb.block g (h2.lt g hg).2)⟩,
    fun j => (World.frozen?_of_block (a := ⟨K.bp, j, none⟩) e).trans (h.free j)⟩
theorem RP.drewN {K : RK} {W : World} {s : RS} (h : RP K W s) (k : Nat) : RP K (W.drewN k) s := h.below (below_drewN (Below.refl _ W) k)
/-- one of the plain cells is set -/
theorem RP.set {K : RK} {W : World} {s s' : RS} (h : RP K W s) {j : Nat} (v : Value) (hn : s'.nodes = s.nodes) (hv : ∀ A c, rcl K s' A c = (rcl K s A c).set j v) (hj : j < 8) : RP K (W.setCell ⟨K.bp, j, none⟩ v) s' := by
  obtain ⟨A, c, h1, h2⟩ := h.out
  have l1 := h.bp
  have l3 := h.bs
  have l4 := h.lp
  refine ⟨h.be.setCell h.lp _, h.lp, h.bp, by simpa using h.bs, ⟨A, c, fun i u hi => ?_, ?_⟩, fun i => by rw [World.frozen?_setCell]; exact h.free i⟩
  · rw [hv, List.getElem?_set] at hi
    have hlen : (rcl K s A c).length = 8 := rfl
    by_cases e : j = i
    · subst e
      rw [if_pos rfl, if_pos (by rw [hlen]; exact hj)] at hi
      injection hi with hi
      subst hi
      have h0 := h1 j _ (List.getElem?_eq_getElem (by rw [hlen]; exact hj))
      exact World.cell?_setCell_same W _ _ h0
    · rw [if_neg e] at hi
      rw [World.cell?_setCell_other W ⟨K.bp, j, none⟩ ⟨K.bp, i, none⟩ _ (fun e2 => by have h9 := congrArg Addr.off e2; dsimp only at h9; omega)]
      exact h1 i u hi
  · rw [hn]; exact ownsRow_setCell_below h2 h.bp _
theorem RP.adv {K : RK} {W : World} {s : RS} (h : RP K W s) : RP K (W.setCell ⟨K.bp, 4, none⟩ (.int .i64 ((s.next : Int) + 1))) s.adv :=
  h.set _ rfl (fun A c => by unfold rcl RS.adv; simp) (by decide)
/-- the plain cells as the walk wants them -/
theorem RP.cells {K : RK} {W : World} {s : RS} (h : RP K W s) :
    W.cell? ⟨K.bp, 3, none⟩ = some (.slice K.aw K.E.ws.length K.cw) ∧ W.cell? ⟨K.bp, 4, none⟩ = some (.int .i64 (s.next : Int)) ∧ W.cell? ⟨K.bp, 6, none⟩ = some (.int .i64 (s.bad : Int)) ∧ W.cell? ⟨K.bp, 7, none⟩ = some (.int .i64 s.e) := by
  obtain ⟨A, c, h1, h2⟩ := h.out
  exact ⟨h1 3 _ rfl, h1 4 _ rfl, h1 6 _ rfl, h1 7 _ rfl⟩
theorem RP.names {K : RK} {W : World} {s : RS} (h : RP K W s) : W.cell? ⟨K.bp, 0, none⟩ = some (.slice K.a0 K.n0 K.c0) ∧ W.cell? ⟨K.bp, 1, none⟩ = some (.slice K.a1 K.n1 K.c1) ∧ W.cell? ⟨K.bp, 2, none⟩ = some (.slice K.a2 K.n2 K.c2) := by
  obtain ⟨A, c, h1, h2⟩ := h.out
  exact ⟨h1 0 _ rfl, h1 1 _ rfl, h1 2 _ rfl⟩
theorem RE.sigAt {K : RK} (hE : RE K) {W : World} {s : RS} (h : RP K W s) : SigR W W.heap.size (sv K.a0 K.n0 K.c0 K.a1 K.n1 K.c1 K.a2 K.n2 K.c2) K.E.A K.E.F K.E.X := hE.sig.on h.be
theorem look_end {E : PEnv} {s : RS} (h : ¬ s.next < E.ws.length) : lookR E s = ⟨#[]⟩ := by
  unfold lookR
  rw [List.getD_eq_getElem?_getD, List.getElem?_eq_none (by omega)]; rfl
theorem look_lt {E : PEnv} {s : RS} {x : ByteArray} (h : lookR E s = x) (hx : x ≠ ⟨#[]⟩) : s.next < E.ws.length :=
  Decidable.byContradiction (fun he => hx (by rw [← h, look_end he]))
set_option maxRecDepth 100000 in
set_option maxHeartbeats 1000000 in
theorem yLook_any {K : RK} (hE : RE K) (s : RS) (w : World) (hS : RP K w s) :
    Calls Tryz.prog 56 #[.pointer (some ⟨K.bp, 0, none⟩)] w fun e w' => e = .returned (.string (lookR K.E s)) ∧ RP K w' s := by
  obtain ⟨k3, k4, k6, k7⟩ := hS.cells
  have HS := Lib.hid hS
  have hwl := hE.wl
  by_cases hn : s.next < K.E.ws.length
  · obtain ⟨ad, hA, hb, hc⟩ := hE.wd.str_at (k := s.next) (by omega)
    have hc2 := (hS.be.cell (p := ad.add s.next) (by rw [block_of_add]; exact hb)).trans hc
    rw [hA] at k3
    have d1 : decide ((K.E.ws.length : Int) ≤ (s.next : Int)) = false := decide_eq_false (by omega)
    have d2 : decide (K.E.ws.length ≤ s.next) = false := decide_eq_false (by omega)
    have e : lookR K.E s = K.E.ws.getD s.next ByteArray.empty := rfl
    rw [e]
    generalize K.E.ws.getD s.next ByteArray.empty = x at *
    generalize K.E.ws.length = L at *
    generalize s.next = m at *
    clear hS hc hb hA e
    go_enter Tryz.func56, Tryz.ntmps56
    go_wp2
    go_quiet (fail)
    go_wp2
    go_quiet (fail)
    go_wp2
    go_ret
    exact ⟨rfl, (HS.out.drewN _).drewN _⟩
  · have d1 : decide ((K.E.ws.length : Int) ≤ (s.next : Int)) = true := decide_eq_true (by omega)
    have d2 : decide (K.E.ws.length ≤ s.next) = true := decide_eq_true (by omega)
    rw [look_end hn]
    generalize K.E.ws.length = L at *
    generalize s.next = m at *
    clear hS hn
    go_enter Tryz.func56, Tryz.ntmps56
    go_wp2
    go_quiet (fail)
    go_wp2
    go_ret
    exact ⟨rfl, HS.out.drewN _⟩
set_option maxRecDepth 100000 in
set_option maxHeartbeats 1000000 in
theorem yFail_any {K : RK} (t : Nat) (er : Int) (s : RS) (w : World) (hS : RP K w s) :
    Calls Tryz.prog 19 #[.pointer (some ⟨K.bp, 0, none⟩), .int .i64 (t : Int), .int .i64 er] w fun e w' => e = .returned (.tuple #[]) ∧ RP K w' (failR t er s) := by
  obtain ⟨k3, k4, k6, k7⟩ := hS.cells
  have f6 := hS.free 6
  have f7 := hS.free 7
  have HS := Lib.hid hS
  by_cases he : s.e = 0
  · have HF : Hid (failR t er s = { s with bad := t, e := er }) := Lib.hid (by unfold failR; rw [if_pos he])
    rw [HF.out]
    rw [he] at k7
    have H1 : Hid (RP K (w.setCell ⟨K.bp, 6, none⟩ (.int .i64 (t : Int))) { s with bad := t }) := Lib.hid (hS.set (s' := { s with bad := t }) _ rfl (fun A c => by unfold rcl; simp) (by decide))
    have H2 : Hid (RP K ((w.setCell ⟨K.bp, 6, none⟩ (.int .i64 (t : Int))).setCell ⟨K.bp, 7, none⟩ (.int .i64 er)) { s with bad := t, e := er }) := Lib.hid (H1.out.set (s' := { s with bad := t, e := er }) _ rfl (fun A c => by unfold rcl; simp) (by decide))
    clear hS HF k3 k4 he
    go_enter Tryz.func19, Tryz.ntmps19
    go_wp2
    go_end0
    exact ⟨rfl, H2.out⟩
  · have HF : Hid (failR t er s = s) := Lib.hid (by unfold failR; rw [if_neg he])
    rw [HF.out]
    have hb : (s.e == 0) = false := by rw [beq_eq_false_iff_ne]; exact he
    generalize s.e = z at *
    clear he hS HF
    go_enter Tryz.func19, Tryz.ntmps19
    go_wp2
    go_end0
    exact ⟨rfl, HS.out⟩
end Go.Proofs.YthhkeobjjeldhaaGreatDoor
/- Layer 6: want and takes of the reference's parser. -/
namespace Go.Proofs.YthhkeobjjeldhaaGreatDoor
open Go.RowKit Go.Proofs.Ws Go.Maps
theorem adv_wrap {m : Nat} (h : m ≤ 1000000) : wrap64 ((m : Int) + 1) = (m : Int) + 1 ∧ IntKind.i64.wrap ((m : Int) + 1) = (m : Int) + 1 := ⟨by rw [wrap64_small (by omega) (by omega)], by rw [wrap_small (by omega) (by omega)]⟩
theorem failR_next (t : Nat) (e : Int) (s : RS) : (failR t e s).next = s.next := by unfold failR; split <;> rfl
set_option maxRecDepth 100000 in
set_option maxHeartbeats 1000000 in
theorem yWant_any {K : RK} (hE : RE K) (x : ByteArray) {s s' : RS} {v : Nat} {w : World} (h : wantR K.E x s = some (v, s')) (hS : RP K w s) :
    Calls Tryz.prog 86 #[.pointer (some ⟨K.bp, 0, none⟩), .string x] w fun e w' => e = .returned (.tuple #[]) ∧ RP K w' s' := by
  have HL := Lib.hid (yLook_any hE s w hS)
  unfold wantR at h
  split at h
  case isFalse => cases h
  rename_i hle
  injection h with h
  injection h with h1 h2
  subst h2
  clear h1
  by_cases h : lookR K.E s = x
  · rw [if_pos h]
    have hq : ((lookR K.E s).toList == x.toList) = true := beq_str h
    have HA := Lib.hid (fun W (hW : RP K W s) => hW.adv)
    have HC := Lib.hid (fun W (hW : RP K W s) => hW.cells.2.1)
    have HF := Lib.hid (fun W (hW : RP K W s) => hW.free 4)
    obtain ⟨hw1, hw2⟩ := adv_wrap hle
    generalize (s.next : Int) = m at *
    generalize lookR K.E s = p at *
    clear h hle hS
    have hq2 : (p.toList != x.toList) = false := by rw [bne, hq]; rfl
    go_enter Tryz.func86, Tryz.ntmps86
    go_wp2_with fail
    refine HL.out.mono ?_
    rintro e w1 ⟨rfl, hS1⟩
    have k4 := HC.out w1 hS1
    have f4 := HF.out w1 hS1
    have HS1 := Lib.hid (HA.out w1 hS1)
    clear hS1
    go_wp2
    go_end0
    exact ⟨rfl, HS1.out⟩
  · rw [if_neg h]
    have hq : ((lookR K.E s).toList == x.toList) = false := bne_str h
    have HFL := Lib.hid (fun W (hW : RP K W s) => yFail_any s.next 4 s W hW)
    have hn := failR_next s.next 4 s
    have HA := Lib.hid (fun W (hW : RP K W (failR s.next 4 s)) => hW.adv)
    have HC0 := Lib.hid (fun W (hW : RP K W s) => hW.cells.2.1)
    have HC := Lib.hid (fun W (hW : RP K W (failR s.next 4 s)) => hW.cells.2.1)
    have HF := Lib.hid (fun W (hW : RP K W (failR s.next 4 s)) => hW.free 4)
    obtain ⟨hw1, hw2⟩ := adv_wrap hle
    rw [hn] at HA HC
    generalize failR s.next 4 s = s2 at *
    generalize (s.next : Int) = m at *
    generalize lookR K.E s = p at *
    clear h hle hS hn
    have hq2 : (p.toList != x.toList) = true := by rw [bne, hq]; rfl
    go_enter Tryz.func86, Tryz.ntmps86
    go_wp2_with fail
    refine HL.out.mono ?_
    rintro e w1 ⟨rfl, hS1⟩
    have k4 := HC0.out w1 hS1
    have HF1 := Lib.hid (HFL.out w1 hS1)
    clear hS1
    go_wp2_with fail
    refine HF1.out.mono ?_
    rintro e w2 ⟨rfl, hS2⟩
    have k4' := HC.out w2 hS2
    have f4 := HF.out w2 hS2
    have HS2 := Lib.hid (HA.out w2 hS2)
    clear hS2
    go_wp2
    go_end0
    exact ⟨rfl, HS2.out⟩
set_option maxRecDepth 100000 in
set_option maxHeartbeats 1000000 in
theorem yTakes_any {K : RK} (hE : RE K) (x : ByteArray) (hx : x ≠ ⟨#[]⟩) (s : RS) (w : World) (hS : RP K w s) :
    Calls Tryz.prog 36 #[.pointer (some ⟨K.bp, 0, none⟩), .string x] w fun e w' => e = .returned (.bool (takesR K.E x s)) ∧ RP K w' (if takesR K.E x s = true then s.adv else s) := by
  have HL := Lib.hid (fun W (hW : RP K W s) => yLook_any hE s W hW)
  obtain ⟨k3, k4, k6, k7⟩ := hS.cells
  have HS := Lib.hid hS
  by_cases he : s.e = 0
  · rw [he] at k7
    by_cases h : lookR K.E s = x
    · have ht : takesR K.E x s = true := by unfold takesR; rw [decide_eq_true he, decide_eq_true h]; rfl
      rw [ht, if_pos rfl]
      have hq : ((lookR K.E s).toList == x.toList) = true := beq_str h
      have hlt := look_lt h hx
      have hwl := hE.wl
      have HA := Lib.hid (fun W (hW : RP K W s) => hW.adv)
      have HC := Lib.hid (fun W (hW : RP K W s) => hW.cells.2.1)
      have HF := Lib.hid (fun W (hW : RP K W s) => hW.free 4)
      have HL0 := Lib.hid (HL.out w hS)
      obtain ⟨hw1, hw2⟩ := adv_wrap (m := s.next) (by omega)
      generalize (s.next : Int) = m at *
      generalize lookR K.E s = p at *
      clear h hwl hS hlt ht hx he HL
      have hq2 : (p.toList != x.toList) = false := by rw [bne, hq]; rfl
      go_enter Tryz.func36, Tryz.ntmps36
      go_wp2_with fail
      refine HL0.out.mono ?_
      rintro e w1 ⟨rfl, hS1⟩
      have k4' := HC.out w1 hS1
      have f4 := HF.out w1 hS1
      have HS1 := Lib.hid (HA.out w1 hS1)
      clear hS1
      go_wp2
      go_ret
      exact ⟨rfl, HS1.out⟩
    · have ht : takesR K.E x s = false := by unfold takesR; rw [decide_eq_false h, Bool.and_false]
      rw [ht, if_neg (by decide)]
      have hq : ((lookR K.E s).toList == x.toList) = false := bne_str h
      have HL0 := Lib.hid (HL.out w hS)
      generalize lookR K.E s = p at *
      clear h hS ht hx he HL
      have hq2 : (p.toList != x.toList) = true := by rw [bne, hq]; rfl
      go_enter Tryz.func36, Tryz.ntmps36
      go_wp2_with fail
      refine HL0.out.mono ?_
      rintro e w1 ⟨rfl, hS1⟩
      have HS1 := Lib.hid hS1
      clear hS1
      go_wp2
      go_ret
      exact ⟨rfl, HS1.out⟩
  · have ht : takesR K.E x s = false := by unfold takesR; rw [decide_eq_false he, Bool.false_and]
    rw [ht, if_neg (by decide)]
    have hb : (s.e != 0) = true := by rw [bne_iff_ne]; exact he
    generalize s.e = z at *
    clear he hS ht hx HL
    go_enter Tryz.func36, Tryz.ntmps36
    go_wp2
    go_ret
    exact ⟨rfl, HS.out⟩
end Go.Proofs.YthhkeobjjeldhaaGreatDoor
/- Layer 6: a node is entered into the reference's parser. -/
namespace Go.Proofs.YthhkeobjjeldhaaGreatDoor
open Go.RowKit Go.Proofs.Ws Go.Maps
set_option maxRecDepth 100000 in
set_option maxHeartbeats 4000000 in
theorem yPut_old (n : Nd) (out : List Nd) (bw m c : Nat) (A : Option Addr) (w : World) (hbw : bw < w.heap.size) (h0 : w.cell? ⟨bw, 5, none⟩ = some (.slice A m c)) (hR : Reads w w.heap.size 6 A m (nds out)) (hm : m ≤ 1000000) (hin : n ∈ out) :
    Calls Tryz.prog 37 #[.pointer (some ⟨bw, 0, none⟩), nv n] w fun e w' => e = .returned (.int .i64 (out.idxOf n)) ∧ Below w.heap.size w w' := by
  have hl := hR.nd_len
  have HL := Lib.hid hl
  have HR := Lib.hid hR
  have HB : Hid (∀ o, Below w.heap.size w (w.alloc o)) := Lib.hid (fun o => (Below.refl _ w).alloc (Nat.le_refl _) o)
  have HN := Lib.hid (@nd_boxed w n 34 _ rfl)
  have HC : Hid (∀ wr, Below w.heap.size w wr → wr.cell? ⟨bw, 5, none⟩ = some (.slice A m c)) := Lib.hid (fun wr h => (h.cell (p := ⟨bw, 5, none⟩) hbw).trans h0)
  have HI := Lib.hid hin
  unfold nv
  clear hR hl hin h0
  go_enter Tryz.func37, Tryz.ntmps37
  go_wp2
  go_loopw [5] (fun i wr => ∃ k : Nat, k ≤ m ∧ i = .int .i64 k ∧ Hid (∀ j, j < k → out.getD j nd0 ≠ n) ∧ Hid (Below (w.heap.size + 1) (w.alloc (.cells #[.int .i64 n.op, .int .i64 n.i, .int .i64 n.e, .int .i64 n.g, .int .i64 n.x, .int .i64 n.y] 34)) wr)) (fun i _ => m - (intOf i).toNat)
  case atStart => exact ⟨0, Nat.zero_le _, rfl, Lib.hid (fun j hj => absurd hj (by omega)), Lib.hid (Below.refl _ _)⟩
  case round =>
    obtain ⟨k, hk, rfl, HF, HBR⟩ := hrel
    have HBW := Lib.hid ((HB.out (.cells #[.int .i64 n.op, .int .i64 n.i, .int .i64 n.e, .int .i64 n.g, .int .i64 n.x, .int .i64 n.y] 34)).trans (HBR.out.mono (by simp)))
    have hc0 := HC.out _ HBW.out
    by_cases hlt : k < m
    · obtain ⟨ad, rfl, hb, m0, m1, m2, m3, m4, m5⟩ := (HR.out.below HBW.out).nd_at hlt
      obtain ⟨n0, n1, n2, n3, n4, n5⟩ := HN.out _ HBR.out
      obtain ⟨x, hx⟩ : ∃ x, out.getD k nd0 = x := ⟨_, rfl⟩
      rw [hx] at m0 m1 m2 m3 m4 m5
      have HX := Lib.hid hx
      clear hx
      have l1 := add_cell m1
      have l2 := add_cell m2
      have l3 := add_cell m3
      have l4 := add_cell m4
      have l5 := add_cell m5
      by_cases he : x = n
      · subst he
        go_wp2
        go_quiet (fail)
        go_wp2
        go_ret
        exact ⟨ret_i64 (by rw [idx_at HX.out HF.out (by have := HL.out; omega)]), HBW.out.trans (below_drewN (Below.refl _ _) _)⟩
      · have hq : eqN x n = false := by unfold eqN; exact decide_eq_false he
        have hE := eqRun x n
        rw [hq] at hE
        go_wp2
        go_quiet (fail)
        go_wp2
        go_roundw
        case rel => exact ⟨k + 1, by omega, by go_num, Lib.hid (fun j hj => by
          by_cases e : j = k
          · subst e; rw [HX.out]; exact he
          · exact HF.out j (by omega)), Lib.hid (below_drewN HBR.out _)⟩
        case measure => simp [intOf]; omega
    · have : False := by
        obtain ⟨j, hj, hj2⟩ := List.getElem_of_mem HI.out
        refine HF.out j (by have := HL.out; omega) ?_
        rw [← hj2]; simp [hj]
      exact this.elim
set_option maxRecDepth 100000 in
set_option maxHeartbeats 4000000 in
theorem yPut_new (n : Nd) (out : List Nd) (bw m c base : Nat) (A : Option Addr) (w : World) (hbw : bw < base) (hbase : base ≤ w.heap.size) (h0 : w.cell? ⟨bw, 5, none⟩ = some (.slice A m c)) (hf0 : w.frozen? ⟨bw, 5, none⟩ = false)
    (hR : Reads w w.heap.size 6 A m (nds out)) (hown : w.ownsRow base 34 6 (.slice A m c) out.length (nds out)) (hm : m ≤ 1000000) (hin : n ∉ out) :
    Calls Tryz.prog 37 #[.pointer (some ⟨bw, 0, none⟩), nv n] w fun e w' => e = .returned (.int .i64 (out.length : Int)) ∧ ∃ v' : Value, ∃ w1 : World, w1.ownsRow base 34 6 v' (out ++ [n]).length (nds (out ++ [n])) ∧ w.grownBy w1 (Value.slice A m c).ownBlock ∧ (v'.ownBlock = (Value.slice A m c).ownBlock ∨ ∃ g, v'.ownBlock = some g ∧ w.heap.size ≤ g) ∧ w' = w1.setCell ⟨bw, 5, none⟩ v' := by
  have hl := hR.nd_len
  have HL := Lib.hid hl
  have HR := Lib.hid hR
  have HO := Lib.hid hown
  have HB : Hid (∀ o, Below w.heap.size w (w.alloc o)) := Lib.hid (fun o => (Below.refl _ w).alloc (Nat.le_refl _) o)
  have HN := Lib.hid (@nd_boxed w n 34 _ rfl)
  have HC : Hid (∀ wr, Below w.heap.size w wr → wr.cell? ⟨bw, 5, none⟩ = some (.slice A m c) ∧ wr.frozen? ⟨bw, 5, none⟩ = false) := Lib.hid (fun wr h => ⟨(h.cell (p := ⟨bw, 5, none⟩) (by show bw < _; omega)).trans h0, (h.frozen (p := ⟨bw, 5, none⟩) (by show bw < _; omega)).trans hf0⟩)
  have HI := Lib.hid hin
  unfold nv
  clear hR hl h0 hf0 hown
  go_enter Tryz.func37, Tryz.ntmps37
  go_wp2
  go_loopw [5] (fun i wr => ∃ k : Nat, k ≤ m ∧ i = .int .i64 k ∧ Hid (Below (w.heap.size + 1) (w.alloc (.cells #[.int .i64 n.op, .int .i64 n.i, .int .i64 n.e, .int .i64 n.g, .int .i64 n.x, .int .i64 n.y] 34)) wr)) (fun i _ => m - (intOf i).toNat)
  case atStart => exact ⟨0, Nat.zero_le _, rfl, Lib.hid (Below.refl _ _)⟩
  case round =>
    obtain ⟨k, hk, rfl, HBR⟩ := hrel
    have HBW := Lib.hid ((HB.out (.cells #[.int .i64 n.op, .int .i64 n.i, .int .i64 n.e, .int .i64 n.g, .int .i64 n.x, .int .i64 n.y] 34)).trans (HBR.out.mono (by simp)))
    obtain ⟨hc0, hf0⟩ := HC.out _ HBW.out
    obtain ⟨n0, n1, n2, n3, n4, n5⟩ := HN.out _ HBR.out
    by_cases hlt : k < m
    · obtain ⟨ad, rfl, hb, m0, m1, m2, m3, m4, m5⟩ := (HR.out.below HBW.out).nd_at hlt
      obtain ⟨x, hx⟩ : ∃ x, out.getD k nd0 = x := ⟨_, rfl⟩
      rw [hx] at m0 m1 m2 m3 m4 m5
      have he : x ≠ n := fun e => HI.out (by
        have hk2 : k < out.length := by have := HL.out; omega
        have : out[k] = n := by rw [← e, ← hx]; simp [hk2]
        rw [← this]; exact List.getElem_mem hk2)
      clear hx
      have l1 := add_cell m1
      have l2 := add_cell m2
      have l3 := add_cell m3
      have l4 := add_cell m4
      have l5 := add_cell m5
      have hq : eqN x n = false := by unfold eqN; exact decide_eq_false he
      have hE := eqRun x n
      rw [hq] at hE
      clear he hin
      go_wp2
      go_quiet (fail)
      go_wp2
      go_roundw
      case rel => exact ⟨k + 1, by omega, by go_num, Lib.hid (below_drewN HBR.out _)⟩
      case measure => simp [intOf]; omega
    · have hlt2 : decide ((k : Int) < (m : Int)) = false := by simp; omega
      have HO2 : Hid (base ≤ wr.heap.size) := Lib.hid (Nat.le_trans hbase HBW.out.size)
      have HBA : Hid (∀ o, Below w.heap.size w (wr.drew.alloc o)) := Lib.hid (fun o => HBW.out.drew.alloc HBW.out.size o)
      have HNE : Hid (some bw ≠ (Value.slice A m c).ownBlock) := Lib.hid (fun e => by have := (HO.out.lt bw e.symm).1; omega)
      have hO1 : Hid (∀ o, (wr.drew.alloc o).ownsRow base 34 6 (.slice A m c) out.length (nds out)) := Lib.hid (fun o => own_keep6 HO.out (fun g _ hg => (HBA.out o).block g hg))
      have hO2 : Hid (∀ o, base ≤ (wr.drew.alloc o).heap.size) := Lib.hid (fun o => Nat.le_trans hbase (HBA.out o).size)
      have hO3 : Hid (∀ j u, (ndC n)[j]? = some u → (wr.drew.alloc (.cells #[.int .i64 n.op, .int .i64 n.i, .int .i64 n.e, .int .i64 n.g, .int .i64 n.x, .int .i64 n.y] 34)).cell? ⟨wr.heap.size, j, none⟩ = some u) := Lib.hid (fun j u hj => by
        have hh := heap_alloc_new wr.drew (.cells #[.int .i64 n.op, .int .i64 n.i, .int .i64 n.e, .int .i64 n.g, .int .i64 n.x, .int .i64 n.y] 34)
        have := Lib.cell_of_heap hh j
        rw [show (⟨wr.heap.size, j, none⟩ : Addr) = ⟨wr.drew.heap.size, j, none⟩ from rfl, this, ← hj]
        simp [ndC])
      have HW : Hid (∀ o w3, (wr.drew.alloc o).grownBy w3 (Value.slice A m c).ownBlock → w.grownBy w3 (Value.slice A m c).ownBlock ∧ w3.cell? ⟨bw, 5, none⟩ = some (.slice A m c) ∧ w3.frozen? ⟨bw, 5, none⟩ = false) := Lib.hid (fun o w3 hg => by
        have hb := HBA.out o
        obtain ⟨c1, c2⟩ := HC.out _ hb
        have hlt3 : bw < (wr.drew.alloc o).heap.size := Nat.lt_of_lt_of_le (Nat.lt_of_lt_of_le hbw hbase) hb.size
        exact ⟨⟨hg.os.trans hb.os, hg.tape.trans hb.tape, hg.output.trans hb.output, Nat.le_trans hb.size hg.size, fun g hg1 hg2 => (hg.block g (Nat.lt_of_lt_of_le hg1 hb.size) hg2).trans (hb.block g hg1)⟩,
          (hg.cell_far ⟨bw, 5, none⟩ hlt3 HNE.out).trans c1, (hg.frozen_far ⟨bw, 5, none⟩ hlt3 HNE.out).trans c2⟩)
      have e0 := World.new_ne wr _ hc0
      have ebw : bw < wr.heap.size := by have := HO2.out; omega
      have ebn : bw ≠ wr.heap.size := by omega
      have hlen : out.length ≤ 1000000 := by have := HL.out; omega
      clear hin
      go_wp2
      go_region_law
        ((refine step_appM n _ (by rfl) _ _ (by rfl) base _ _ (by rfl) (hO1.out _) (by rfl) hO3.out hlen (hO2.out _) ?_; intro g3 c3 w3 ho3 hg3 hr3; obtain ⟨hg4, k0, k1⟩ := HW.out _ _ hg3; have HH := Lib.hid (And.intro ho3 (And.intro hg4 (row_new (n := out.length + 1) (c := c3) hr3 (HBA.out _).size))); clear ho3 hg3 hg4 hr3))
      all_goals clear n0 n1 n2 n3 n4 n5 hc0 hf0 e0 ebw ebn hlt2
      all_goals go_wp2
      all_goals go_ret
      all_goals exact ⟨ret_i64 (by first | rfl | (simp; done) | omega), _, _, HH.out.1, HH.out.2.1, HH.out.2.2, rfl⟩
end Go.Proofs.YthhkeobjjeldhaaGreatDoor
/- Layer 6: a node of the reference's parser in memory; the words that are no names. -/
namespace Go.Proofs.YthhkeobjjeldhaaGreatDoor
open Go.RowKit Go.Proofs.Ws Go.Maps
theorem RP.put_end {K : RK} {w w1 : World} {c : Nat} {A : Option Addr} {s : RS} {x : Nd} {v' : Value} (h : RP K w s) (hcl : ∀ j v, (rcl K s A c)[j]? = some v → w.cell? ⟨K.bp, j, none⟩ = some v)
    (h2 : w.ownsRow K.base 34 6 (.slice A s.nodes.length c) s.nodes.length (nds s.nodes)) (ho : w1.ownsRow K.base 34 6 v' (s.nodes ++ [x]).length (nds (s.nodes ++ [x]))) (hg : w.grownBy w1 (Value.slice A s.nodes.length c).ownBlock) :
    RP K (w1.setCell ⟨K.bp, 5, none⟩ v') { s with nodes := s.nodes ++ [x] } := by
  have l1 := h.bp
  have l3 := h.bs
  have l4 := h.lp
  have hrow : ∀ g, g < K.base → some g ≠ (Value.slice A s.nodes.length c).ownBlock := fun g hg2 e => by have := (h2.lt g e.symm).1; omega
  obtain ⟨A', c', rfl⟩ : ∃ A' c', v' = .slice A' (s.nodes ++ [x]).length c' := by
    rcases ho.2 with ⟨rfl, h0⟩ | ⟨g, cap, cur, rfl, _⟩
    · rw [h0]; exact ⟨_, _, rfl⟩
    · exact ⟨_, _, rfl⟩
  have hb4 : ∀ g, g < K.base → w1.heap[g]? = w.heap[g]? := fun g h1 => hg.block g (by omega) (hrow g h1)
  have hbp := hb4 K.bp l1
  have hc5 := (World.cell?_of_block (a := ⟨K.bp, 5, none⟩) hbp).trans (hcl 5 _ rfl)
  refine ⟨⟨?_, ?_, ?_, ?_, ?_⟩, h.lp, h.bp, ?_, ⟨A', c', fun j v hj => ?_, ownsRow_setCell_below ho h.bp _⟩, fun j => ?_⟩
  · exact hg.os.trans h.be.os
  · exact hg.tape.trans h.be.tape
  · exact hg.output.trans h.be.output
  · have := h.be.size; have := hg.size; simp; omega
  · intro g hg1
    exact (Below.heap_setCell _ _ _ _ (by show g ≠ K.bp; omega)).trans ((hb4 g (by omega)).trans (h.be.block g hg1))
  · have := hg.size; simp; omega
  · by_cases e : j = 5
    · subst e
      have : v = .slice A' (s.nodes ++ [x]).length c' := by
        have e2 : (rcl K { s with nodes := s.nodes ++ [x] } A' c')[5]? = some (.slice A' (s.nodes ++ [x]).length c') := rfl
        rw [e2] at hj
        injection hj with hj
        exact hj.symm
      rw [this]
      exact World.cell?_setCell_same _ _ _ hc5
    · rw [World.cell?_setCell_other w1 ⟨K.bp, 5, none⟩ ⟨K.bp, j, none⟩ _ (fun e2 => by have h9 := congrArg Addr.off e2; dsimp only at h9; omega)]
      refine (World.cell?_of_block (a := ⟨K.bp, j, none⟩) hbp).trans (hcl j v ?_)
      rw [← hj]
      unfold rcl
      match j with
      | 0 => rfl
      | 1 => rfl
      | 2 => rfl
      | 3 => rfl
      | 4 => rfl
      | 5 => exact absurd rfl e
      | 6 => rfl
      | 7 => rfl
      | n + 8 => rfl
  · rw [World.frozen?_setCell, World.frozen?_of_block (a := ⟨K.bp, j, none⟩) hbp]
    exact h.free j
theorem yNode_any {K : RK} (x : Nd) {s s' : RS} {v : Nat} {w : World} (hS : RP K w s) (h : nodeR x s = some (v, s')) :
    Calls Tryz.prog 37 #[.pointer (some ⟨K.bp, 0, none⟩), nv x] w fun e w' => e = .returned (.int .i64 (v : Int)) ∧ RP K w' s' := by
  obtain ⟨hl, rfl, rfl⟩ := nodeR_some h
  obtain ⟨A, c, hcl, h2⟩ := hS.out
  have hR := Reads.of_own h2
  by_cases hin : x ∈ s.nodes
  · have e1 : putNd s.nodes x = (s.nodes.idxOf x, s.nodes) := by unfold putNd; rw [if_pos hin]
    rw [e1]
    refine (yPut_old x s.nodes K.bp _ c A w (Nat.lt_of_lt_of_le hS.bp hS.bs) (hcl 5 _ rfl) hR hl hin).mono ?_
    rintro e w' ⟨rfl, hb⟩
    exact ⟨rfl, hS.below hb⟩
  · have e1 : putNd s.nodes x = (s.nodes.length, s.nodes ++ [x]) := by unfold putNd; rw [if_neg hin]
    rw [e1]
    refine (yPut_new x s.nodes K.bp _ c K.base A w hS.bp hS.bs (hcl 5 _ rfl) (hS.free 5) hR h2 hl hin).mono ?_
    rintro e w' ⟨rfl, v', w1, ho, hg, hr, rfl⟩
    exact ⟨rfl, hS.put_end hcl h2 ho hg⟩
def specO : Obj := .cells #[.string ⟨#[116, 114, 117, 101]⟩, .string ⟨#[102, 97, 108, 115, 101]⟩, .string ⟨#[110, 101, 120, 116]⟩, .string ⟨#[112, 114, 101, 118]⟩, .string ⟨#[117, 110, 116, 105, 108]⟩, .string ⟨#[115, 105, 110, 99, 101]⟩, .string ⟨#[75]⟩, .string ⟨#[77]⟩, .string ⟨#[83]⟩, .string ⟨#[66]⟩, .string ⟨#[69]⟩, .string ⟨#[68]⟩, .string ⟨#[67]⟩] 9
theorem spec_cells (w : World) (k : Nat) (hk : k < 13) : (w.alloc specO).cell? ⟨w.heap.size, k, none⟩ = some (.string (specL.getD k ByteArray.empty)) := by
  have hh := heap_alloc_new w specO
  have e := Lib.cell_of_heap hh k
  rw [e]
  match k, hk with
  | 0, _ => rfl
  | 1, _ => rfl
  | 2, _ => rfl
  | 3, _ => rfl
  | 4, _ => rfl
  | 5, _ => rfl
  | 6, _ => rfl
  | 7, _ => rfl
  | 8, _ => rfl
  | 9, _ => rfl
  | 10, _ => rfl
  | 11, _ => rfl
  | 12, _ => rfl
set_option maxRecDepth 100000 in
set_option maxHeartbeats 2000000 in
theorem ySpecial_any (x : ByteArray) (w : World) :
    Calls Tryz.prog 99 #[.string x] w fun e w' => e = .returned (.bool (Lib.containsS specL x)) ∧ Below w.heap.size w w' := by
  have HC := Lib.hid (spec_cells w)
  have HB : Hid (Below w.heap.size w (w.alloc specO)) := Lib.hid ((Below.refl _ w).alloc (Nat.le_refl _) specO)
  have HLen : Hid (specL.length = 13) := Lib.hid rfl
  unfold specO at HC HB
  generalize specL = L at *
  go_enter Tryz.func99, Tryz.ntmps99
  go_wp2
  go_loopw [4] (fun i wr => ∃ k : Nat, k ≤ 13 ∧ i = .int .i64 k ∧ Hid (∀ j, j < k → L.getD j ByteArray.empty ≠ x) ∧ wr = _) (fun i _ => 13 - (intOf i).toNat)
  case atStart => exact ⟨0, Nat.zero_le _, rfl, Lib.hid (fun j hj => absurd hj (by omega)), rfl⟩
  case round =>
    obtain ⟨k, hk, rfl, HF, rfl⟩ := hrel
    by_cases hlt : k < 13
    · have hc := HC.out k hlt
      have d1 : decide ((k : Int) < 13) = true := decide_eq_true (by omega)
      have d2 : decide (k < 13) = true := decide_eq_true hlt
      by_cases he : L.getD k ByteArray.empty = x
      · have hq : ((L.getD k ByteArray.empty).toList == x.toList) = true := beq_str he
        have HV : Hid (Lib.containsS L x = true) := Lib.hid ((Lib.containsS_iff _ _).2 (by
          have hk2 : k < L.length := by have := HLen.out; omega
          rw [← he, List.getD_eq_getElem?_getD, List.getElem?_eq_getElem hk2]; exact List.getElem_mem hk2))
        generalize L.getD k ByteArray.empty = y at *
        clear he
        go_wp2
        go_ret
        exact ⟨by rw [HV.out]; first | rfl | simp, HB.out⟩
      · have hq : ((L.getD k ByteArray.empty).toList == x.toList) = false := bne_str he
        have HF2 : Hid (∀ j, j < k + 1 → L.getD j ByteArray.empty ≠ x) := Lib.hid (fun j hj => by
          by_cases e : j = k
          · subst e; exact he
          · exact HF.out j (by omega))
        generalize L.getD k ByteArray.empty = y at *
        clear he HF
        go_wp2
        go_roundw
        case rel => exact ⟨k + 1, by omega, by go_num, HF2, trivial⟩
        case measure => simp [intOf]; omega
    · have hk13 : k = 13 := by omega
      have HV : Hid (Lib.containsS L x = false) := Lib.hid (by
        cases hb : Lib.containsS L x with
        | false => rfl
        | true =>
          obtain ⟨j, hj, e⟩ := List.getElem_of_mem ((Lib.containsS_iff _ _).1 hb)
          refine absurd ?_ (HF.out j (by have := HLen.out; omega))
          rw [List.getD_eq_getElem?_getD, List.getElem?_eq_getElem hj]; exact e)
      subst hk13
      clear HF hlt hk
      go_wp2
      go_ret
      exact ⟨by rw [HV.out]; first | rfl | simp, HB.out⟩
end Go.Proofs.YthhkeobjjeldhaaGreatDoor
/- Layer 6: names of the reference's parser. -/
namespace Go.Proofs.YthhkeobjjeldhaaGreatDoor
open Go.RowKit Go.Proofs.Ws Go.Maps
theorem nameOk_split (p : ByteArray) : nameOk p = (decide (p.size ≠ 0) && letN (headN p) && !Lib.containsS specL p) := rfl
set_option maxRecDepth 100000 in
set_option maxHeartbeats 1000000 in
theorem yName_bad {K : RK} (hE : RE K) (what : Nat) (_hwh : what ≤ 2) (s : RS) (w : World) (hS : RP K w s) (hn : nameOk (lookR K.E s) = false) :
    Calls Tryz.prog 87 #[.pointer (some ⟨K.bp, 0, none⟩), .int .i64 (what : Int)] w fun e w' => e = .returned (.int .i64 0) ∧ RP K w' (failR s.next 4 s) := by
  have HL := Lib.hid (yLook_any hE s w hS)
  have HF := Lib.hid (fun W (hW : RP K W s) => yFail_any s.next 4 s W hW)
  have HC := Lib.hid (fun W (hW : RP K W s) => hW.cells.2.1)
  rw [nameOk_split] at hn
  generalize lookR K.E s = p at *
  generalize failR s.next 4 s = s9 at *
  generalize (s.next : Int) = m at *
  by_cases h0 : p.size = 0
  · have hi := emp_yes h0
    clear hn h0 hS
    go_enter Tryz.func87, Tryz.ntmps87
    go_wp2_with fail
    refine HL.out.mono ?_
    rintro e w1 ⟨rfl, hS1⟩
    have HF1 := Lib.hid (HF.out w1 hS1)
    have k4 := HC.out w1 hS1
    clear hS1
    go_wp2_with fail
    refine HF1.out.mono ?_
    rintro e w2 ⟨rfl, hS2⟩
    have HS2 := Lib.hid hS2
    clear hS2
    go_wp2
    go_ret
    exact ⟨rfl, HS2.out⟩
  · have hi := emp_no h0
    have hpos : 0 < p.size := by omega
    have HD := Lib.hid (fun W => rLetter_any p[0].toNat W)
    rw [head_at hpos, decide_eq_true h0, Bool.true_and] at hn
    cases hl : letN p[0].toNat with
    | false =>
      rw [hl] at HD
      clear hn h0 hS hl
      go_enter Tryz.func87, Tryz.ntmps87
      go_wp2_with fail
      refine HL.out.mono ?_
      rintro e w1 ⟨rfl, hS1⟩
      have HF1 := Lib.hid (HF.out w1 hS1)
      have k4 := HC.out w1 hS1
      clear hS1
      go_wp2_with fail
      refine (HD.out _).mono ?_
      rintro e w2 ⟨rfl, rfl⟩
      go_wp2_with fail
      refine HF1.out.mono ?_
      rintro e w2 ⟨rfl, hS2⟩
      have HS2 := Lib.hid hS2
      clear hS2
      go_wp2
      go_ret
      exact ⟨rfl, HS2.out⟩
    | true =>
      rw [hl] at HD hn
      have hs : Lib.containsS specL p = true := by simpa using hn
      have HSP := Lib.hid (fun W => ySpecial_any p W)
      rw [hs] at HSP
      clear hn h0 hS hl hs
      go_enter Tryz.func87, Tryz.ntmps87
      go_wp2_with fail
      refine HL.out.mono ?_
      rintro e w1 ⟨rfl, hS1⟩
      have HS1 := Lib.hid hS1
      clear hS1
      go_wp2_with fail
      refine (HD.out _).mono ?_
      rintro e w2 ⟨rfl, rfl⟩
      go_wp2_with fail
      refine (HSP.out _).mono ?_
      rintro e w2 ⟨rfl, hb⟩
      have HF1 := Lib.hid (HF.out w2 (HS1.out.below hb))
      have k4 := HC.out w2 (HS1.out.below hb)
      clear hb
      go_wp2_with fail
      refine HF1.out.mono ?_
      rintro e w3 ⟨rfl, hS2⟩
      have HS2 := Lib.hid hS2
      clear hS2
      go_wp2
      go_ret
      exact ⟨rfl, HS2.out⟩
set_option maxRecDepth 100000 in
set_option maxHeartbeats 1000000 in
theorem yName_fact {K : RK} (hE : RE K) (s : RS) (w : World) (hS : RP K w s) :
    Calls Tryz.prog 87 #[.pointer (some ⟨K.bp, 0, none⟩), .int .i64 0] w fun e w' => e = .returned (.int .i64 (((nameR K.E 0 s).1 : Nat) : Int)) ∧ RP K w' (nameR K.E 0 s).2 := by
  cases hn : nameOk (lookR K.E s) with
  | false =>
    have e : nameR K.E 0 s = (0, failR s.next 4 s) := by unfold nameR; rw [if_pos hn]
    rw [e]
    exact yName_bad hE 0 (by decide) s w hS hn
  | true =>
    have HL := Lib.hid (yLook_any hE s w hS)
    have hwl := hE.wl
    have HC := Lib.hid (fun W (hW : RP K W s) => hW.cells.2.1)
    have HN := Lib.hid (fun W (hW : RP K W s) => hW.names)
    have hlist : listR K.E 0 = K.E.F := rfl
    have HFI : Hid (∀ W, RP K W s → Calls Tryz.prog 100 #[.agg #[.slice K.a0 K.n0 K.c0, .slice K.a1 K.n1 K.c1, .slice K.a2 K.n2 K.c2], .string (lookR K.E s)] W fun e w' => e = .returned (.int .i64 (Lib.idxOfS K.E.F (lookR K.E s))) ∧ RP K w' s) := Lib.hid (fun W hW => by
      have h := pRefFact_any (sv K.a0 K.n0 K.c0 K.a1 K.n1 K.c1 K.a2 K.n2 K.c2) K.E.A K.E.F K.E.X (lookR K.E s) W (hE.sigAt hW)
      rw [numV_ok hE.ok] at h
      refine h.mono ?_
      rintro e w' ⟨rfl, hb⟩
      exact ⟨rfl, hW.below hb⟩)
    have hne : lookR K.E s ≠ ⟨#[]⟩ := nameOk_ne hn
    have hlt := look_lt rfl hne
    have hn2 := hn
    rw [nameOk_split] at hn2
    have h0 : (lookR K.E s).size ≠ 0 := fun e => by rw [decide_eq_false (by simpa using e)] at hn2; cases hn2
    have hi := emp_no h0
    have hpos : 0 < (lookR K.E s).size := by omega
    rw [head_at hpos, decide_eq_true h0, Bool.true_and] at hn2
    have HD := Lib.hid (fun W => rLetter_any (lookR K.E s)[0].toNat W)
    have hl : letN (lookR K.E s)[0].toNat = true := (Bool.and_eq_true_iff.1 hn2).1
    have hs : Lib.containsS specL (lookR K.E s) = false := by have := (Bool.and_eq_true_iff.1 hn2).2; simpa using this
    have HSP := Lib.hid (fun W => ySpecial_any (lookR K.E s) W)
    rw [hs] at HSP
    rw [hl] at HD
    by_cases hx : Lib.idxOfS K.E.F (lookR K.E s) < 0
    · have e : nameR K.E 0 s = (0, failR s.next 5 s) := by unfold nameR; rw [if_neg (by rw [hn]; decide), hlist, if_pos hx]
      rw [e]
      have HF := Lib.hid (fun W (hW : RP K W s) => yFail_any s.next 5 s W hW)
      have hd : decide (Lib.idxOfS K.E.F (lookR K.E s) < 0) = true := decide_eq_true hx
      dsimp only
      generalize failR s.next 5 s = s9 at *
      generalize (s.next : Int) = m at *
      generalize Lib.idxOfS K.E.F (lookR K.E s) = z at *
      generalize lookR K.E s = p at *
      clear hn hn2 h0 hS hl hs hlist hne hlt hwl e hx
      go_enter Tryz.func87, Tryz.ntmps87
      go_wp2_with fail
      refine HL.out.mono ?_
      rintro e w1 ⟨rfl, hS1⟩
      have HS1 := Lib.hid hS1
      clear hS1
      go_wp2_with fail
      refine (HD.out _).mono ?_
      rintro e w2 ⟨rfl, rfl⟩
      go_wp2_with fail
      refine (HSP.out _).mono ?_
      rintro e w2 ⟨rfl, hb⟩
      have HS2 := Lib.hid (HS1.out.below hb)
      have HI := Lib.hid (HFI.out w2 HS2.out)
      obtain ⟨k0, k1, k2⟩ := HN.out w2 HS2.out
      clear hb
      go_wp2_with fail
      refine HI.out.mono ?_
      rintro e w3 ⟨rfl, hS3⟩
      have HF1 := Lib.hid (HF.out w3 hS3)
      have k4 := HC.out w3 hS3
      clear hS3
      go_wp2_with fail
      refine HF1.out.mono ?_
      rintro e w4 ⟨rfl, hS4⟩
      have HS4 := Lib.hid hS4
      clear hS4
      go_wp2
      go_ret
      exact ⟨rfl, HS4.out⟩
    · have e : nameR K.E 0 s = ((Lib.idxOfS K.E.F (lookR K.E s)).toNat, s.adv) := by unfold nameR; rw [if_neg (by rw [hn]; decide), hlist, if_neg hx]
      rw [e]
      have hd : decide (Lib.idxOfS K.E.F (lookR K.E s) < 0) = false := decide_eq_false hx
      have HV : Hid ((((Lib.idxOfS K.E.F (lookR K.E s)).toNat : Nat) : Int) = Lib.idxOfS K.E.F (lookR K.E s)) := Lib.hid (by omega)
      have HA := Lib.hid (fun W (hW : RP K W s) => hW.adv)
      have HF4 := Lib.hid (fun W (hW : RP K W s) => hW.free 4)
      obtain ⟨hw1, hw2⟩ := adv_wrap (m := s.next) (by omega)
      dsimp only
      rw [HV.out]
      generalize (s.next : Int) = m at *
      generalize Lib.idxOfS K.E.F (lookR K.E s) = z at *
      generalize lookR K.E s = p at *
      clear hn hn2 h0 hS hl hs hlist hne hlt hwl e hx HV
      go_enter Tryz.func87, Tryz.ntmps87
      go_wp2_with fail
      refine HL.out.mono ?_
      rintro e w1 ⟨rfl, hS1⟩
      have HS1 := Lib.hid hS1
      clear hS1
      go_wp2_with fail
      refine (HD.out _).mono ?_
      rintro e w2 ⟨rfl, rfl⟩
      go_wp2_with fail
      refine (HSP.out _).mono ?_
      rintro e w2 ⟨rfl, hb⟩
      have HS2 := Lib.hid (HS1.out.below hb)
      have HI := Lib.hid (HFI.out w2 HS2.out)
      obtain ⟨k0, k1, k2⟩ := HN.out w2 HS2.out
      clear hb
      go_wp2_with fail
      refine HI.out.mono ?_
      rintro e w3 ⟨rfl, hS3⟩
      have HA3 := Lib.hid (HA.out w3 hS3)
      have k4 := HC.out w3 hS3
      have f4 := HF4.out w3 hS3
      clear hS3
      go_wp2
      go_ret
      exact ⟨rfl, HA3.out⟩
set_option maxRecDepth 100000 in
set_option maxHeartbeats 1000000 in
theorem yName_agent {K : RK} (hE : RE K) (s : RS) (w : World) (hS : RP K w s) :
    Calls Tryz.prog 87 #[.pointer (some ⟨K.bp, 0, none⟩), .int .i64 1] w fun e w' => e = .returned (.int .i64 (((nameR K.E 1 s).1 : Nat) : Int)) ∧ RP K w' (nameR K.E 1 s).2 := by
  cases hn : nameOk (lookR K.E s) with
  | false =>
    have e : nameR K.E 1 s = (0, failR s.next 4 s) := by unfold nameR; rw [if_pos hn]
    rw [e]
    exact yName_bad hE 1 (by decide) s w hS hn
  | true =>
    have HL := Lib.hid (yLook_any hE s w hS)
    have hwl := hE.wl
    have HC := Lib.hid (fun W (hW : RP K W s) => hW.cells.2.1)
    have HN := Lib.hid (fun W (hW : RP K W s) => hW.names)
    have hlist : listR K.E 1 = K.E.A := rfl
    have HFI : Hid (∀ W, RP K W s → Calls Tryz.prog 101 #[.agg #[.slice K.a0 K.n0 K.c0, .slice K.a1 K.n1 K.c1, .slice K.a2 K.n2 K.c2], .string (lookR K.E s)] W fun e w' => e = .returned (.int .i64 (Lib.idxOfS K.E.A (lookR K.E s))) ∧ RP K w' s) := Lib.hid (fun W hW => by
      have h := pRefAgent_any (sv K.a0 K.n0 K.c0 K.a1 K.n1 K.c1 K.a2 K.n2 K.c2) K.E.A K.E.F K.E.X (lookR K.E s) W (hE.sigAt hW)
      rw [numV_ok hE.ok] at h
      refine h.mono ?_
      rintro e w' ⟨rfl, hb⟩
      exact ⟨rfl, hW.below hb⟩)
    have hne : lookR K.E s ≠ ⟨#[]⟩ := nameOk_ne hn
    have hlt := look_lt rfl hne
    have hn2 := hn
    rw [nameOk_split] at hn2
    have h0 : (lookR K.E s).size ≠ 0 := fun e => by rw [decide_eq_false (by simpa using e)] at hn2; cases hn2
    have hi := emp_no h0
    have hpos : 0 < (lookR K.E s).size := by omega
    rw [head_at hpos, decide_eq_true h0, Bool.true_and] at hn2
    have HD := Lib.hid (fun W => rLetter_any (lookR K.E s)[0].toNat W)
    have hl : letN (lookR K.E s)[0].toNat = true := (Bool.and_eq_true_iff.1 hn2).1
    have hs : Lib.containsS specL (lookR K.E s) = false := by have := (Bool.and_eq_true_iff.1 hn2).2; simpa using this
    have HSP := Lib.hid (fun W => ySpecial_any (lookR K.E s) W)
    rw [hs] at HSP
    rw [hl] at HD
    by_cases hx : Lib.idxOfS K.E.A (lookR K.E s) < 0
    · have e : nameR K.E 1 s = (0, failR s.next 5 s) := by unfold nameR; rw [if_neg (by rw [hn]; decide), hlist, if_pos hx]
      rw [e]
      have HF := Lib.hid (fun W (hW : RP K W s) => yFail_any s.next 5 s W hW)
      have hd : decide (Lib.idxOfS K.E.A (lookR K.E s) < 0) = true := decide_eq_true hx
      dsimp only
      generalize failR s.next 5 s = s9 at *
      generalize (s.next : Int) = m at *
      generalize Lib.idxOfS K.E.A (lookR K.E s) = z at *
      generalize lookR K.E s = p at *
      clear hn hn2 h0 hS hl hs hlist hne hlt hwl e hx
      go_enter Tryz.func87, Tryz.ntmps87
      go_wp2_with fail
      refine HL.out.mono ?_
      rintro e w1 ⟨rfl, hS1⟩
      have HS1 := Lib.hid hS1
      clear hS1
      go_wp2_with fail
      refine (HD.out _).mono ?_
      rintro e w2 ⟨rfl, rfl⟩
      go_wp2_with fail
      refine (HSP.out _).mono ?_
      rintro e w2 ⟨rfl, hb⟩
      have HS2 := Lib.hid (HS1.out.below hb)
      have HI := Lib.hid (HFI.out w2 HS2.out)
      obtain ⟨k0, k1, k2⟩ := HN.out w2 HS2.out
      clear hb
      go_wp2_with fail
      refine HI.out.mono ?_
      rintro e w3 ⟨rfl, hS3⟩
      have HF1 := Lib.hid (HF.out w3 hS3)
      have k4 := HC.out w3 hS3
      clear hS3
      go_wp2_with fail
      refine HF1.out.mono ?_
      rintro e w4 ⟨rfl, hS4⟩
      have HS4 := Lib.hid hS4
      clear hS4
      go_wp2
      go_ret
      exact ⟨rfl, HS4.out⟩
    · have e : nameR K.E 1 s = ((Lib.idxOfS K.E.A (lookR K.E s)).toNat, s.adv) := by unfold nameR; rw [if_neg (by rw [hn]; decide), hlist, if_neg hx]
      rw [e]
      have hd : decide (Lib.idxOfS K.E.A (lookR K.E s) < 0) = false := decide_eq_false hx
      have HV : Hid ((((Lib.idxOfS K.E.A (lookR K.E s)).toNat : Nat) : Int) = Lib.idxOfS K.E.A (lookR K.E s)) := Lib.hid (by omega)
      have HA := Lib.hid (fun W (hW : RP K W s) => hW.adv)
      have HF4 := Lib.hid (fun W (hW : RP K W s) => hW.free 4)
      obtain ⟨hw1, hw2⟩ := adv_wrap (m := s.next) (by omega)
      dsimp only
      rw [HV.out]
      generalize (s.next : Int) = m at *
      generalize Lib.idxOfS K.E.A (lookR K.E s) = z at *
      generalize lookR K.E s = p at *
      clear hn hn2 h0 hS hl hs hlist hne hlt hwl e hx HV
      go_enter Tryz.func87, Tryz.ntmps87
      go_wp2_with fail
      refine HL.out.mono ?_
      rintro e w1 ⟨rfl, hS1⟩
      have HS1 := Lib.hid hS1
      clear hS1
      go_wp2_with fail
      refine (HD.out _).mono ?_
      rintro e w2 ⟨rfl, rfl⟩
      go_wp2_with fail
      refine (HSP.out _).mono ?_
      rintro e w2 ⟨rfl, hb⟩
      have HS2 := Lib.hid (HS1.out.below hb)
      have HI := Lib.hid (HFI.out w2 HS2.out)
      obtain ⟨k0, k1, k2⟩ := HN.out w2 HS2.out
      clear hb
      go_wp2_with fail
      refine HI.out.mono ?_
      rintro e w3 ⟨rfl, hS3⟩
      have HA3 := Lib.hid (HA.out w3 hS3)
      have k4 := HC.out w3 hS3
      have f4 := HF4.out w3 hS3
      clear hS3
      go_wp2
      go_ret
      exact ⟨rfl, HA3.out⟩
set_option maxRecDepth 100000 in
set_option maxHeartbeats 1000000 in
theorem yName_action {K : RK} (hE : RE K) (s : RS) (w : World) (hS : RP K w s) :
    Calls Tryz.prog 87 #[.pointer (some ⟨K.bp, 0, none⟩), .int .i64 2] w fun e w' => e = .returned (.int .i64 (((nameR K.E 2 s).1 : Nat) : Int)) ∧ RP K w' (nameR K.E 2 s).2 := by
  cases hn : nameOk (lookR K.E s) with
  | false =>
    have e : nameR K.E 2 s = (0, failR s.next 4 s) := by unfold nameR; rw [if_pos hn]
    rw [e]
    exact yName_bad hE 2 (by decide) s w hS hn
  | true =>
    have HL := Lib.hid (yLook_any hE s w hS)
    have hwl := hE.wl
    have HC := Lib.hid (fun W (hW : RP K W s) => hW.cells.2.1)
    have HN := Lib.hid (fun W (hW : RP K W s) => hW.names)
    have hlist : listR K.E 2 = K.E.X := rfl
    have HFI : Hid (∀ W, RP K W s → Calls Tryz.prog 102 #[.agg #[.slice K.a0 K.n0 K.c0, .slice K.a1 K.n1 K.c1, .slice K.a2 K.n2 K.c2], .string (lookR K.E s)] W fun e w' => e = .returned (.int .i64 (Lib.idxOfS K.E.X (lookR K.E s))) ∧ RP K w' s) := Lib.hid (fun W hW => by
      have h := pRefAction_any (sv K.a0 K.n0 K.c0 K.a1 K.n1 K.c1 K.a2 K.n2 K.c2) K.E.A K.E.F K.E.X (lookR K.E s) W (hE.sigAt hW)
      rw [numV_ok hE.ok] at h
      refine h.mono ?_
      rintro e w' ⟨rfl, hb⟩
      exact ⟨rfl, hW.below hb⟩)
    have hne : lookR K.E s ≠ ⟨#[]⟩ := nameOk_ne hn
    have hlt := look_lt rfl hne
    have hn2 := hn
    rw [nameOk_split] at hn2
    have h0 : (lookR K.E s).size ≠ 0 := fun e => by rw [decide_eq_false (by simpa using e)] at hn2; cases hn2
    have hi := emp_no h0
    have hpos : 0 < (lookR K.E s).size := by omega
    rw [head_at hpos, decide_eq_true h0, Bool.true_and] at hn2
    have HD := Lib.hid (fun W => rLetter_any (lookR K.E s)[0].toNat W)
    have hl : letN (lookR K.E s)[0].toNat = true := (Bool.and_eq_true_iff.1 hn2).1
    have hs : Lib.containsS specL (lookR K.E s) = false := by have := (Bool.and_eq_true_iff.1 hn2).2; simpa using this
    have HSP := Lib.hid (fun W => ySpecial_any (lookR K.E s) W)
    rw [hs] at HSP
    rw [hl] at HD
    by_cases hx : Lib.idxOfS K.E.X (lookR K.E s) < 0
    · have e : nameR K.E 2 s = (0, failR s.next 5 s) := by unfold nameR; rw [if_neg (by rw [hn]; decide), hlist, if_pos hx]
      rw [e]
      have HF := Lib.hid (fun W (hW : RP K W s) => yFail_any s.next 5 s W hW)
      have hd : decide (Lib.idxOfS K.E.X (lookR K.E s) < 0) = true := decide_eq_true hx
      dsimp only
      generalize failR s.next 5 s = s9 at *
      generalize (s.next : Int) = m at *
      generalize Lib.idxOfS K.E.X (lookR K.E s) = z at *
      generalize lookR K.E s = p at *
      clear hn hn2 h0 hS hl hs hlist hne hlt hwl e hx
      go_enter Tryz.func87, Tryz.ntmps87
      go_wp2_with fail
      refine HL.out.mono ?_
      rintro e w1 ⟨rfl, hS1⟩
      have HS1 := Lib.hid hS1
      clear hS1
      go_wp2_with fail
      refine (HD.out _).mono ?_
      rintro e w2 ⟨rfl, rfl⟩
      go_wp2_with fail
      refine (HSP.out _).mono ?_
      rintro e w2 ⟨rfl, hb⟩
      have HS2 := Lib.hid (HS1.out.below hb)
      have HI := Lib.hid (HFI.out w2 HS2.out)
      obtain ⟨k0, k1, k2⟩ := HN.out w2 HS2.out
      clear hb
      go_wp2_with fail
      refine HI.out.mono ?_
      rintro e w3 ⟨rfl, hS3⟩
      have HF1 := Lib.hid (HF.out w3 hS3)
      have k4 := HC.out w3 hS3
      clear hS3
      go_wp2_with fail
      refine HF1.out.mono ?_
      rintro e w4 ⟨rfl, hS4⟩
      have HS4 := Lib.hid hS4
      clear hS4
      go_wp2
      go_ret
      exact ⟨rfl, HS4.out⟩
    · have e : nameR K.E 2 s = ((Lib.idxOfS K.E.X (lookR K.E s)).toNat, s.adv) := by unfold nameR; rw [if_neg (by rw [hn]; decide), hlist, if_neg hx]
      rw [e]
      have hd : decide (Lib.idxOfS K.E.X (lookR K.E s) < 0) = false := decide_eq_false hx
      have HV : Hid ((((Lib.idxOfS K.E.X (lookR K.E s)).toNat : Nat) : Int) = Lib.idxOfS K.E.X (lookR K.E s)) := Lib.hid (by omega)
      have HA := Lib.hid (fun W (hW : RP K W s) => hW.adv)
      have HF4 := Lib.hid (fun W (hW : RP K W s) => hW.free 4)
      obtain ⟨hw1, hw2⟩ := adv_wrap (m := s.next) (by omega)
      dsimp only
      rw [HV.out]
      generalize (s.next : Int) = m at *
      generalize Lib.idxOfS K.E.X (lookR K.E s) = z at *
      generalize lookR K.E s = p at *
      clear hn hn2 h0 hS hl hs hlist hne hlt hwl e hx HV
      go_enter Tryz.func87, Tryz.ntmps87
      go_wp2_with fail
      refine HL.out.mono ?_
      rintro e w1 ⟨rfl, hS1⟩
      have HS1 := Lib.hid hS1
      clear hS1
      go_wp2_with fail
      refine (HD.out _).mono ?_
      rintro e w2 ⟨rfl, rfl⟩
      go_wp2_with fail
      refine (HSP.out _).mono ?_
      rintro e w2 ⟨rfl, hb⟩
      have HS2 := Lib.hid (HS1.out.below hb)
      have HI := Lib.hid (HFI.out w2 HS2.out)
      obtain ⟨k0, k1, k2⟩ := HN.out w2 HS2.out
      clear hb
      go_wp2_with fail
      refine HI.out.mono ?_
      rintro e w3 ⟨rfl, hS3⟩
      have HA3 := Lib.hid (HA.out w3 hS3)
      have k4 := HC.out w3 hS3
      have f4 := HF4.out w3 hS3
      clear hS3
      go_wp2
      go_ret
      exact ⟨rfl, HA3.out⟩
end Go.Proofs.YthhkeobjjeldhaaGreatDoor
