/- Layer 8: rewriting node by node. -/
import Derived.Test.YtkkkomkljpolbaaDoorMJh
import Derived.Test.YtkkkomkljpolbaaDoorMQq
import Derived.Test.YtkkkomkljpolbaaDoorMRa
namespace Go.Proofs.YtkkkomkljpolbaaDoor
open Go.RowKit Go.Proofs.Ws Go.Maps
set_option maxRecDepth 100000
/-- a list of nodes in blocks aside of the builder -/
structure RdA (W : World) (bw bm : Nat) (A : Option Addr) (n : Nat) (q : List Nd) : Prop where
  rd : Reads W W.heap.size 6 A n (nds q)
  as_ : ∀ ad, A = some ad → 0 < n → AsideB W bw bm ad.block
theorem RdA.step {W W' : World} {bw bm n : Nat} {A : Option Addr} {q : List Nd} (h : RdA W bw bm A n q) (hF : Fb bw bm W W') : RdA W' bw bm A n q := by
  refine ⟨⟨h.rd.1, fun hn => ?_⟩, fun ad e hn => ((h.as_ ad e hn).step hF).2⟩
  obtain ⟨ad, e, hb, hc⟩ := h.rd.2 hn
  have hk := ((h.as_ ad e hn).step hF).1
  exact ⟨ad, e, Nat.lt_of_lt_of_le hb hF.size, fun j u hu => (World.cell?_of_block (by rw [block_of_add]; exact hk)).trans (hc j u hu)⟩
theorem RdA.of_new {w W : World} {B base bw bm n : Nat} {A : Option Addr} {q o : List Nd} (h : Bu B base bw bm w o) (hb : Below w.heap.size w W) (hr : Reads W W.heap.size 6 A n (nds q)) (hn : ∀ ad, A = some ad → 0 < n → w.heap.size ≤ ad.block) : RdA W bw bm A n q :=
  ⟨hr, fun ad e h0 => by
    obtain ⟨ad2, e2, hb2, _⟩ := hr.2 h0
    rw [e] at e2
    injection e2 with e2
    subst e2
    exact AsideB.new h.st hb (hn ad e h0) hb2⟩
theorem RdA.of_below {W : World} {B base bw bm n : Nat} {A : Option Addr} {q o : List Nd} (h : Bu B base bw bm W o) (hr : Reads W B 6 A n (nds q)) : RdA W bw bm A n q :=
  ⟨hr.more h.size, fun ad e h0 => by
    obtain ⟨ad2, e2, hb2, _⟩ := hr.2 h0
    rw [e] at e2
    injection e2 with e2
    subst e2
    have h1 := h.b1
    have h2 := h.b2
    refine ⟨Nat.lt_of_lt_of_le hb2 h.size, by omega, by omega, fun e3 => ?_⟩
    have := (h.st.row _ e3.symm).1
    have := h.st.lw
    omega⟩
/-- block g holds just these places -/
def RS (W : World) (g : Nat) (l : List Nat) : Prop := W.heap[g]? = some (.cells (iv l).toArray 3 (0, 0))
theorem RS.cell {W : World} {g : Nat} {l : List Nat} (h : RS W g l) {k : Nat} (hk : k < l.length) : W.cell? ⟨g, k, none⟩ = some (.int .i64 ((l.getD k 0 : Nat) : Int)) := by
  rw [Lib.cell_of_heap h]
  simp [iv, hk]
theorem RS.free {W : World} {g : Nat} {l : List Nat} (h : RS W g l) (k : Nat) : W.frozen? ⟨g, k, none⟩ = false := Lib.frozen_of_heap h k
theorem RS.put {W : World} {g : Nat} {l : List Nat} (h : RS W g l) (k x : Nat) : RS (W.setCell ⟨g, k, none⟩ (.int .i64 (x : Int))) g (l.set k x) := by
  unfold RS at h ⊢
  have e : (iv (l.set k x)).toArray = (iv l).toArray.setIfInBounds k (.int .i64 (x : Int)) := by
    unfold iv
    rw [List.map_set]
    simp
  rw [e]
  simp [World.setCell, Array.getElem?_modify, h]
theorem RS.keep {W W' : World} {g : Nat} {l : List Nat} (h : RS W g l) (hb : W'.heap[g]? = W.heap[g]?) : RS W' g l := hb.trans h
theorem zeros_iv (n : Nat) : zeros n = (iv (List.replicate n 0)).toArray := by
  unfold zeros iv
  rw [List.map_replicate]
  rfl
theorem addr0 (g j : Nat) : (Addr.mk g 0 none).add j = ⟨g, j, none⟩ := by
  unfold Addr.add
  split
  · rename_i h; rw [h]
  · simp
theorem RS.reads {W : World} {g : Nat} {l : List Nat} (h : RS W g l) : Reads W W.heap.size 1 (some ⟨g, 0, none⟩) l.length (iv l) := by
  have hlt : g < W.heap.size := (Array.getElem?_eq_some_iff.1 h).1
  refine ⟨by unfold iv; simp, fun _ => ⟨_, rfl, hlt, fun j u hu => ?_⟩⟩
  rw [addr0, Lib.cell_of_heap h]
  simpa using hu
/-- the results so far, with zeros behind -/
def padR (nu : List Nat) (n : Nat) : List Nat := nu ++ List.replicate (n - nu.length) 0
theorem padR_len {nu : List Nat} {n : Nat} (h : nu.length ≤ n) : (padR nu n).length = n := by unfold padR; simp; omega
theorem padR_getD (nu : List Nat) (n j : Nat) : (padR nu n).getD j 0 = nu.getD j 0 := by
  unfold padR
  by_cases h : j < nu.length
  · rw [List.getD_eq_getElem?_getD, List.getElem?_append_left h, ← List.getD_eq_getElem?_getD]
  · rw [List.getD_eq_getElem?_getD, List.getElem?_append_right (by omega), List.getElem?_replicate, List.getD_eq_getElem?_getD, List.getElem?_eq_none (by omega)]
    split <;> rfl
theorem padR_set {nu : List Nat} {n : Nat} (h : nu.length < n) (v : Nat) : (padR nu n).set nu.length v = padR (nu ++ [v]) n := by
  unfold padR
  rw [List.length_append, show n - nu.length = (n - (nu.length + 1)) + 1 from by omega, List.replicate_succ]
  simp
theorem wOps_pad (n : Nd) (nu : List Nat) (m : Nat) : wOps n (padR nu m) = wOps n nu := by unfold wOps; rw [padR_getD, padR_getD]
/-- the loop's state: the builder's list, the results in block G, the nodes that are read -/
structure RwS (St : World → List Nd → Prop) (w : World) (bw bm G : Nat) (A : Option Addr) (q : List Nd) (W : World) (s : List Nat × List Nd) : Prop where
  st : St W s.2
  fb : Fb bw bm w W
  rs : RS W G (padR s.1 q.length)
  ag : AsideB W bw bm G
  rd : RdA W bw bm A q.length q
/-- what a state must keep -/
structure StOk (St : World → List Nd → Prop) (w : World) (B base bw bm : Nat) : Prop where
  bu : ∀ W o, St W o → Bu B base bw bm W o
  below : ∀ W W' o, St W o → Below W.heap.size W W' → St W' o
  set : ∀ W o G k v, St W o → w.heap.size ≤ G → AsideB W bw bm G → St (W.setCell ⟨G, k, none⟩ v) o
theorem RwS.below {St : World → List Nd → Prop} {w W W' : World} {B base bw bm G : Nat} {A : Option Addr} {q : List Nd} {s : List Nat × List Nd} (ok : StOk St w B base bw bm) (h : RwS St w bw bm G A q W s) (hb : Below W.heap.size W W') : RwS St w bw bm G A q W' s := by
  have hu := ok.bu _ _ h.st
  have hF := Fb.of_below (bm := bm) hb hu.lwB
  exact ⟨ok.below _ _ _ h.st hb, h.fb.trans hF, h.rs.keep (h.ag.step hF).1, (h.ag.step hF).2, h.rd.step hF⟩
theorem RwS.call {St : World → List Nd → Prop} {w W W' : World} {bw bm G : Nat} {A : Option Addr} {q : List Nd} {s : List Nat × List Nd} {o' : List Nd} (h : RwS St w bw bm G A q W s) (h1 : St W' o') (hF : Fb bw bm W W') : RwS St w bw bm G A q W' (s.1, o') :=
  ⟨h1, h.fb.trans hF, h.rs.keep (h.ag.step hF).1, (h.ag.step hF).2, h.rd.step hF⟩
theorem RwS.put {St : World → List Nd → Prop} {w W : World} {B base bw bm G : Nat} {A : Option Addr} {q : List Nd} {nu : List Nat} {o : List Nd} (ok : StOk St w B base bw bm) (h : RwS St w bw bm G A q W (nu, o)) (hG : w.heap.size ≤ G) (hA : ∀ ad, A = some ad → 0 < q.length → ad.block < w.heap.size) (v : Nat) (hn : nu.length < q.length) :
    RwS St w bw bm G A q (W.setCell ⟨G, nu.length, none⟩ (.int .i64 (v : Int))) (nu ++ [v], o) := by
  have hr := h.rs.put nu.length v
  rw [padR_set hn] at hr
  refine ⟨ok.set _ _ _ _ _ h.st hG h.ag, h.fb.other _ hG h.ag.n1, hr, h.ag.set h.ag.n1 _, ⟨?_, fun ad e h0 => (h.rd.as_ ad e h0).set h.ag.n1 _⟩⟩
  refine ⟨h.rd.rd.1, fun h0 => ?_⟩
  obtain ⟨ad, e, hb, hc⟩ := h.rd.rd.2 h0
  have := hA ad e h0
  refine ⟨ad, e, by simpa using hb, fun j u hu => ?_⟩
  rw [World.cell?_setCell_other _ _ _ _ (fun e2 => by have h9 := congrArg Addr.block e2; rw [block_of_add] at h9; dsimp only at h9; omega)]
  exact hc j u hu
/-- the next node may be added -/
theorem rw_in {R : Nd → Tr → Tr → Tr} {m i : Nat} {q o : List Nd} {s : List Nat × List Nd} (h : Rw R m q o i s) (hq : opsL q) (hk : knownL q) (hr : ∀ i, i < q.length → NdR (q.getD i nd0)) (hi : i < q.length) (hm : s.2.length ≤ 1000000) : NodeIn s.2 (wOps (q.getD i nd0) s.1) := by
  have hop := hq i hi
  have hn := hr i hi
  have key : ∀ j, j < i → s.1.getD j 0 < s.2.length := fun j hj => rep_lt (h.at_ j hj).1
  have hx : usesX (q.getD i nd0).op = true → s.1.getD (q.getD i nd0).x.toNat 0 < s.2.length := fun k => key _ (opsOk_x hop k).2
  have hy : usesY (q.getD i nd0).op = true → s.1.getD (q.getD i nd0).y.toNat 0 < s.2.length := fun k => key _ (opsOk_y hop k).2
  have hx0 : ¬ usesX (q.getD i nd0).op = true → (q.getD i nd0).x = 0 := fun k => by have := hop.1; rwa [if_neg k] at this
  have hy0 : ¬ usesY (q.getD i nd0).op = true → (q.getD i nd0).y = 0 := fun k => by have := hop.2; rwa [if_neg k] at this
  have ex : 0 ≤ (wOps (q.getD i nd0) s.1).x ∧ (wOps (q.getD i nd0) s.1).x ≤ 1000000 ∧ (if usesX (q.getD i nd0).op = true then 0 ≤ (wOps (q.getD i nd0) s.1).x ∧ (wOps (q.getD i nd0) s.1).x < (s.2.length : Int) else (wOps (q.getD i nd0) s.1).x = 0) := by
    unfold wOps
    dsimp only
    by_cases k : usesX (q.getD i nd0).op = true
    · rw [if_pos k, if_pos k]; have := hx k; omega
    · rw [if_neg k, if_neg k]; have := hx0 k; omega
  have ey : 0 ≤ (wOps (q.getD i nd0) s.1).y ∧ (wOps (q.getD i nd0) s.1).y ≤ 1000000 ∧ (if usesY (q.getD i nd0).op = true then 0 ≤ (wOps (q.getD i nd0) s.1).y ∧ (wOps (q.getD i nd0) s.1).y < (s.2.length : Int) else (wOps (q.getD i nd0) s.1).y = 0) := by
    unfold wOps
    dsimp only
    by_cases k : usesY (q.getD i nd0).op = true
    · rw [if_pos k, if_pos k]; have := hy k; omega
    · rw [if_neg k, if_neg k]; have := hy0 k; omega
  refine ⟨hk i hi, ⟨ex.2.2, ey.2.2⟩, ⟨?_, ?_, ?_, ?_, ?_, ?_⟩⟩
  · exact WalkArith.wf_i64 (by have := hn.op; show _ ≤ (q.getD i nd0).op ∧ (q.getD i nd0).op ≤ _; omega)
  · exact WalkArith.wf_i64 (by have := hn.i; show _ ≤ (q.getD i nd0).i ∧ (q.getD i nd0).i ≤ _; omega)
  · exact WalkArith.wf_i64 (by have := hn.e; show _ ≤ (q.getD i nd0).e ∧ (q.getD i nd0).e ≤ _; omega)
  · exact WalkArith.wf_i64 (by have := hn.g; show _ ≤ (q.getD i nd0).g ∧ (q.getD i nd0).g ≤ _; omega)
  · exact WalkArith.wf_i64 (by have := ex.1; have := ex.2.1; omega)
  · exact WalkArith.wf_i64 (by have := ey.1; have := ey.2.1; omega)
set_option maxHeartbeats 4000000 in
theorem rewrite_add {St : World → List Nd → Prop} {P : List Nd → Nd → Nat × List Nd} {R : Nd → Tr → Tr → Tr} {m : Nat} {Q : Nd → Prop} (hP : RuleOk m Q P R) (B base bw bm : Nat) (w : World) (ok : StOk St w B base bw bm)
    (HR : ∀ W o n, St W o → w.heap.size ≤ W.heap.size → Bd o → NodeIn o n → Q (bare n) → o.length ≤ 999000 → Calls Tryd.prog 82 #[.pointer (some ⟨bw, 0, none⟩), nv n] W fun e w' => e = .returned (.int .i64 ((P o n).1 : Nat)) ∧ St w' (P o n).2 ∧ Fb bw bm W w')
    (q o : List Nd) (hq : opsL q) (hk : knownL q) (hr : ∀ i, i < q.length → NdR (q.getD i nd0)) (hne : q ≠ []) (ho : Bd o) (hQ : ∀ n ∈ q, Q (bare n)) (hm : o.length + m * q.length ≤ 999000) (hql : q.length ≤ 1000000) (A : Option Addr) (c : Nat) (hS : St w o) (hA : RdA w bw bm A q.length q) :
    Calls Tryd.prog 60 #[.pointer (some ⟨bw, 0, none⟩), .slice A q.length c, .func (Fn.func 82) #[.pointer (some ⟨bw, 0, none⟩)] #[]] w fun e w' => e = .returned (.int .i64 ((rwP P q o).1 : Nat)) ∧ St w' (rwP P q o).2 ∧ Fb bw bm w w' := by
  have hpos := List.length_pos_iff.2 hne
  have HK := Lib.hid hpos
  have hmk := fun W => makeI W q.length hql
  have HS0 : Hid (RwS St w bw bm w.heap.size A q (w.alloc (.cells (zeros q.length) 3)) (rwL P q o 0)) := Lib.hid (by
    have hb : Below w.heap.size w (w.alloc (.cells (zeros q.length) 3)) := (Below.refl _ w).alloc (Nat.le_refl _) _
    have hu := ok.bu _ _ hS
    have hF := Fb.of_below (bm := bm) hb hu.lwB
    refine ⟨ok.below _ _ _ hS hb, hF, ?_, AsideB.new hu.st hb (Nat.le_refl _) (by simp), hA.step hF⟩
    have := heap_alloc_new w (.cells (zeros q.length) 3)
    unfold RS
    rw [this, zeros_iv]; rfl)
  have HAD : Hid (∀ ad, A = some ad → 0 < q.length → ad.block < w.heap.size) := Lib.hid (fun ad e h0 => (hA.as_ ad e h0).lt)
  have HRW : Hid (∀ i, i ≤ q.length → Rw R m q o i (rwL P q o i) ∧ (rwL P q o i).2.length ≤ 999000) := Lib.hid (fun i hi => by
    have h := rw_ok hP hq ho hQ i hi
    refine ⟨h, ?_⟩
    have h1 := h.few
    have h2 := Nat.mul_le_mul_left m hi
    omega)
  have HIN : Hid (∀ i, i < q.length → NodeIn (rwL P q o i).2 (wOps (q.getD i nd0) (rwL P q o i).1) ∧ Q (bare (wOps (q.getD i nd0) (rwL P q o i).1))) := Lib.hid (fun i hi => by
    have h := HRW.out i (Nat.le_of_lt hi)
    have hmem : q.getD i nd0 ∈ q := by
      rw [List.getD_eq_getElem?_getD, List.getElem?_eq_getElem hi]
      exact List.getElem_mem _
    have h5 := hQ _ hmem
    exact ⟨rw_in h.1 hq hk hr hi (by have := h.2; omega), h5⟩)
  have HEND : Hid ((rwP P q o) = ((rwL P q o q.length).1.getD (q.length - 1) 0, (rwL P q o q.length).2)) := Lib.hid rfl
  have HKN := Lib.hid hk
  have HOPS := Lib.hid hq
  have HRR := Lib.hid HR
  have HOK := Lib.hid ok
  clear hP HR hq hk hr hne ho hQ hm hS hA ok
  generalize rwP P q o = pend at *
  go_enter Tryd.func60, Tryd.ntmps60
  go_wp2
  clear hmk
  generalize w.alloc (.cells (zeros q.length) 3) = w1 at *
  generalize hG : w.heap.size = G at *
  have HG := Lib.hid hG
  clear hG
  go_loopw [8, 9, 15] (fun _ _ i wr => ∃ k : Nat, k ≤ q.length ∧ i = .int .i64 k ∧ Hid (RwS St w bw bm G A q wr (rwL P q o k))) (fun _ _ i _ => q.length - (intOf i).toNat)
  case atStart => exact ⟨0, Nat.zero_le _, rfl, HS0⟩
  case round =>
    obtain ⟨k, hk, rfl, HD⟩ := hrel
    by_cases hlt : k < q.length
    · obtain ⟨ad, rfl, hb, m0, m1, m2, m3, m4, m5⟩ := HD.out.rd.rd.nd_at hlt
      have l1 := add_cell m1
      have l2 := add_cell m2
      have l3 := add_cell m3
      have l4 := add_cell m4
      have l5 := add_cell m5
      have HRk := HRW.out k hk
      have HIk := HIN.out k hlt
      have hsl : (rwL P q o k).1.length = k := HRk.1.len
      have HSUC : Hid (rwL P q o (k + 1) = ((rwL P q o k).1 ++ [(P (rwL P q o k).2 (wOps (q.getD k nd0) (rwL P q o k).1)).1], (P (rwL P q o k).2 (wOps (q.getD k nd0) (rwL P q o k).1)).2)) := Lib.hid rfl
      have hkn := HKN.out k hlt
      have hop := HOPS.out k hlt
      obtain ⟨x, hx⟩ : ∃ x, q.getD k nd0 = x := ⟨_, rfl⟩
      rw [hx] at m0 l1 l2 l3 l4 l5 HIk hkn hop HSUC
      have HBD := Lib.hid HRk.1.bd
      have HLN := Lib.hid HRk.2
      generalize rwL P q o k = s at *
      have HW : Hid (∀ W', Below wr.heap.size wr W' → Calls Tryd.prog 119 #[.agg #[.int .i64 x.op, .int .i64 x.i, .int .i64 x.e, .int .i64 x.g, .int .i64 x.x, .int .i64 x.y], .slice (some ⟨G, 0, none⟩) q.length q.length] W' fun r w' => r = .returned (nv (wOps x s.1)) ∧ Below W'.heap.size W' w') := Lib.hid (fun W' hb2 => by
        have h := HD.out.below HOK.out hb2
        have hu := HOK.out.bu _ _ h.st
        have hpl : (padR s.1 q.length).length = q.length := padR_len (by omega)
        have hrd := h.rs.reads
        rw [hpl] at hrd
        have := wops_any x (padR s.1 q.length) (some ⟨G, 0, none⟩) q.length q.length B W' hu.env hu.size hkn hrd (fun u => by have := opsOk_x hop u; have := hop.1; rw [if_pos u] at this; omega) (fun u => by have := opsOk_y hop u; have := hop.2; rw [if_pos u] at this; omega)
        rw [wOps_pad] at this
        exact this)
      have HIN2 := Lib.hid HIk
      obtain ⟨y, hy⟩ : ∃ y, wOps x s.1 = y := ⟨_, rfl⟩
      rw [hy] at HW HIN2 HSUC
      clear HRk HIk hop hkn hx hy m1 m2 m3 m4 m5
      have HA := Lib.hid (fun a => (Below.refl wr.heap.size wr).alloc (Nat.le_refl _) a)
      go_wp2_with fail
      refine (HW.out _ (HA.out _)).mono ?_
      rintro e w2 ⟨rfl, hb2⟩
      have HD2 := Lib.hid (HD.out.below HOK.out ((HA.out _).trans (hb2.mono (HA.out _).size)))
      clear hb2
      go_wp2_with fail
      refine (HRR.out _ _ _ HD2.out.st (by have := HD2.out.fb.size; rw [HG.out] at this; exact this) HBD.out HIN2.out.1 HIN2.out.2 HLN.out).mono ?_
      rintro e w3 ⟨rfl, h1, h2⟩
      have HD3 := Lib.hid (HD2.out.call h1 h2)
      clear h1 h2
      have f3 := HD3.out.rs.free k
      have hpl3 : (padR s.1 q.length).length = q.length := padR_len (by omega)
      have c3 := HD3.out.rs.cell (k := k) (by show k < (padR s.1 q.length).length; omega)
      have HD4 := Lib.hid (HD3.out.put HOK.out (by rw [HG.out]; exact Nat.le_refl _) (fun ad e h => by rw [HG.out]; exact HAD.out ad e h) ((P s.2 y).1) (by rw [hsl]; exact hlt))
      rw [hsl, ← HSUC.out] at HD4
      clear m0 l1 l2 l3 l4 l5
      go_wp2
      go_roundw
      case rel => exact ⟨k + 1, by omega, by go_num, HD4⟩
      case measure => simp [intOf]; omega
    · have hkq : k = q.length := by omega
      subst hkq
      have hsl := (HRW.out q.length (Nat.le_refl _)).1.len
      have hpos := HK.out
      have hcell := HD.out.rs.cell (k := q.length - 1) (by rw [padR_len (by omega)]; omega)
      rw [padR_getD] at hcell
      have hs3 : (q.length : Int) - 1 = ((q.length - 1 : Nat) : Int) := by omega
      have hs1 : wrap64 ((q.length : Int) - 1) = ((q.length - 1 : Nat) : Int) := by unfold wrap64; omega
      have hs2 : IntKind.i64.wrap ((q.length : Int) - 1) = ((q.length - 1 : Nat) : Int) := by rw [IntKind.wrap_i64]; omega
      go_wp2
      go_ret
      exact ⟨by rw [HEND.out]; rfl, by rw [HEND.out]; exact HD.out.st, HD.out.fb⟩
set_option maxHeartbeats 4000000 in
theorem rewrite_core {St : World → List Nd → Prop} {P : List Nd → Nd → Nat × List Nd} {R : Nd → Tr → Tr → Tr} {m : Nat} {Q : Nd → Prop} (hP : RuleOk m Q P R) (B base bw bm : Nat) (w : World) (ok : StOk St w B base bw bm)
    (HR : ∀ W o n, St W o → w.heap.size ≤ W.heap.size → Bd o → NodeIn o n → Q (bare n) → o.length ≤ 999000 → Calls Tryd.prog 80 #[.pointer (some ⟨bw, 0, none⟩), nv n] W fun e w' => e = .returned (.int .i64 ((P o n).1 : Nat)) ∧ St w' (P o n).2 ∧ Fb bw bm W w')
    (q o : List Nd) (hq : opsL q) (hk : knownL q) (hr : ∀ i, i < q.length → NdR (q.getD i nd0)) (hne : q ≠ []) (ho : Bd o) (hQ : ∀ n ∈ q, Q (bare n)) (hm : o.length + m * q.length ≤ 999000) (hql : q.length ≤ 1000000) (A : Option Addr) (c : Nat) (hS : St w o) (hA : RdA w bw bm A q.length q) :
    Calls Tryd.prog 60 #[.pointer (some ⟨bw, 0, none⟩), .slice A q.length c, .func (Fn.func 80) #[.pointer (some ⟨bw, 0, none⟩)] #[]] w fun e w' => e = .returned (.int .i64 ((rwP P q o).1 : Nat)) ∧ St w' (rwP P q o).2 ∧ Fb bw bm w w' := by
  have hpos := List.length_pos_iff.2 hne
  have HK := Lib.hid hpos
  have hmk := fun W => makeI W q.length hql
  have HS0 : Hid (RwS St w bw bm w.heap.size A q (w.alloc (.cells (zeros q.length) 3)) (rwL P q o 0)) := Lib.hid (by
    have hb : Below w.heap.size w (w.alloc (.cells (zeros q.length) 3)) := (Below.refl _ w).alloc (Nat.le_refl _) _
    have hu := ok.bu _ _ hS
    have hF := Fb.of_below (bm := bm) hb hu.lwB
    refine ⟨ok.below _ _ _ hS hb, hF, ?_, AsideB.new hu.st hb (Nat.le_refl _) (by simp), hA.step hF⟩
    have := heap_alloc_new w (.cells (zeros q.length) 3)
    unfold RS
    rw [this, zeros_iv]; rfl)
  have HAD : Hid (∀ ad, A = some ad → 0 < q.length → ad.block < w.heap.size) := Lib.hid (fun ad e h0 => (hA.as_ ad e h0).lt)
  have HRW : Hid (∀ i, i ≤ q.length → Rw R m q o i (rwL P q o i) ∧ (rwL P q o i).2.length ≤ 999000) := Lib.hid (fun i hi => by
    have h := rw_ok hP hq ho hQ i hi
    refine ⟨h, ?_⟩
    have h1 := h.few
    have h2 := Nat.mul_le_mul_left m hi
    omega)
  have HIN : Hid (∀ i, i < q.length → NodeIn (rwL P q o i).2 (wOps (q.getD i nd0) (rwL P q o i).1) ∧ Q (bare (wOps (q.getD i nd0) (rwL P q o i).1))) := Lib.hid (fun i hi => by
    have h := HRW.out i (Nat.le_of_lt hi)
    have hmem : q.getD i nd0 ∈ q := by
      rw [List.getD_eq_getElem?_getD, List.getElem?_eq_getElem hi]
      exact List.getElem_mem _
    have h5 := hQ _ hmem
    exact ⟨rw_in h.1 hq hk hr hi (by have := h.2; omega), h5⟩)
  have HEND : Hid ((rwP P q o) = ((rwL P q o q.length).1.getD (q.length - 1) 0, (rwL P q o q.length).2)) := Lib.hid rfl
  have HKN := Lib.hid hk
  have HOPS := Lib.hid hq
  have HRR := Lib.hid HR
  have HOK := Lib.hid ok
  clear hP HR hq hk hr hne ho hQ hm hS hA ok
  generalize rwP P q o = pend at *
  go_enter Tryd.func60, Tryd.ntmps60
  go_wp2
  clear hmk
  generalize w.alloc (.cells (zeros q.length) 3) = w1 at *
  generalize hG : w.heap.size = G at *
  have HG := Lib.hid hG
  clear hG
  go_loopw [8, 9, 15] (fun _ _ i wr => ∃ k : Nat, k ≤ q.length ∧ i = .int .i64 k ∧ Hid (RwS St w bw bm G A q wr (rwL P q o k))) (fun _ _ i _ => q.length - (intOf i).toNat)
  case atStart => exact ⟨0, Nat.zero_le _, rfl, HS0⟩
  case round =>
    obtain ⟨k, hk, rfl, HD⟩ := hrel
    by_cases hlt : k < q.length
    · obtain ⟨ad, rfl, hb, m0, m1, m2, m3, m4, m5⟩ := HD.out.rd.rd.nd_at hlt
      have l1 := add_cell m1
      have l2 := add_cell m2
      have l3 := add_cell m3
      have l4 := add_cell m4
      have l5 := add_cell m5
      have HRk := HRW.out k hk
      have HIk := HIN.out k hlt
      have hsl : (rwL P q o k).1.length = k := HRk.1.len
      have HSUC : Hid (rwL P q o (k + 1) = ((rwL P q o k).1 ++ [(P (rwL P q o k).2 (wOps (q.getD k nd0) (rwL P q o k).1)).1], (P (rwL P q o k).2 (wOps (q.getD k nd0) (rwL P q o k).1)).2)) := Lib.hid rfl
      have hkn := HKN.out k hlt
      have hop := HOPS.out k hlt
      obtain ⟨x, hx⟩ : ∃ x, q.getD k nd0 = x := ⟨_, rfl⟩
      rw [hx] at m0 l1 l2 l3 l4 l5 HIk hkn hop HSUC
      have HBD := Lib.hid HRk.1.bd
      have HLN := Lib.hid HRk.2
      generalize rwL P q o k = s at *
      have HW : Hid (∀ W', Below wr.heap.size wr W' → Calls Tryd.prog 119 #[.agg #[.int .i64 x.op, .int .i64 x.i, .int .i64 x.e, .int .i64 x.g, .int .i64 x.x, .int .i64 x.y], .slice (some ⟨G, 0, none⟩) q.length q.length] W' fun r w' => r = .returned (nv (wOps x s.1)) ∧ Below W'.heap.size W' w') := Lib.hid (fun W' hb2 => by
        have h := HD.out.below HOK.out hb2
        have hu := HOK.out.bu _ _ h.st
        have hpl : (padR s.1 q.length).length = q.length := padR_len (by omega)
        have hrd := h.rs.reads
        rw [hpl] at hrd
        have := wops_any x (padR s.1 q.length) (some ⟨G, 0, none⟩) q.length q.length B W' hu.env hu.size hkn hrd (fun u => by have := opsOk_x hop u; have := hop.1; rw [if_pos u] at this; omega) (fun u => by have := opsOk_y hop u; have := hop.2; rw [if_pos u] at this; omega)
        rw [wOps_pad] at this
        exact this)
      have HIN2 := Lib.hid HIk
      obtain ⟨y, hy⟩ : ∃ y, wOps x s.1 = y := ⟨_, rfl⟩
      rw [hy] at HW HIN2 HSUC
      clear HRk HIk hop hkn hx hy m1 m2 m3 m4 m5
      have HA := Lib.hid (fun a => (Below.refl wr.heap.size wr).alloc (Nat.le_refl _) a)
      go_wp2_with fail
      refine (HW.out _ (HA.out _)).mono ?_
      rintro e w2 ⟨rfl, hb2⟩
      have HD2 := Lib.hid (HD.out.below HOK.out ((HA.out _).trans (hb2.mono (HA.out _).size)))
      clear hb2
      go_wp2_with fail
      refine (HRR.out _ _ _ HD2.out.st (by have := HD2.out.fb.size; rw [HG.out] at this; exact this) HBD.out HIN2.out.1 HIN2.out.2 HLN.out).mono ?_
      rintro e w3 ⟨rfl, h1, h2⟩
      have HD3 := Lib.hid (HD2.out.call h1 h2)
      clear h1 h2
      have f3 := HD3.out.rs.free k
      have hpl3 : (padR s.1 q.length).length = q.length := padR_len (by omega)
      have c3 := HD3.out.rs.cell (k := k) (by show k < (padR s.1 q.length).length; omega)
      have HD4 := Lib.hid (HD3.out.put HOK.out (by rw [HG.out]; exact Nat.le_refl _) (fun ad e h => by rw [HG.out]; exact HAD.out ad e h) ((P s.2 y).1) (by rw [hsl]; exact hlt))
      rw [hsl, ← HSUC.out] at HD4
      clear m0 l1 l2 l3 l4 l5
      go_wp2
      go_roundw
      case rel => exact ⟨k + 1, by omega, by go_num, HD4⟩
      case measure => simp [intOf]; omega
    · have hkq : k = q.length := by omega
      subst hkq
      have hsl := (HRW.out q.length (Nat.le_refl _)).1.len
      have hpos := HK.out
      have hcell := HD.out.rs.cell (k := q.length - 1) (by rw [padR_len (by omega)]; omega)
      rw [padR_getD] at hcell
      have hs3 : (q.length : Int) - 1 = ((q.length - 1 : Nat) : Int) := by omega
      have hs1 : wrap64 ((q.length : Int) - 1) = ((q.length - 1 : Nat) : Int) := by unfold wrap64; omega
      have hs2 : IntKind.i64.wrap ((q.length : Int) - 1) = ((q.length - 1 : Nat) : Int) := by rw [IntKind.wrap_i64]; omega
      go_wp2
      go_ret
      exact ⟨by rw [HEND.out]; rfl, by rw [HEND.out]; exact HD.out.st, HD.out.fb⟩
set_option maxHeartbeats 4000000 in
theorem rewrite_sim {St : World → List Nd → Prop} {P : List Nd → Nd → Nat × List Nd} {R : Nd → Tr → Tr → Tr} {m : Nat} {Q : Nd → Prop} (hP : RuleOk m Q P R) (B base bw bm : Nat) (br : Nat) (w : World) (ok : StOk St w B base bw bm)
    (HR : ∀ W o n, St W o → w.heap.size ≤ W.heap.size → Bd o → NodeIn o n → Q (bare n) → o.length ≤ 999000 → Calls Tryd.prog 61 #[.pointer (some ⟨br, 0, none⟩), nv n] W fun e w' => e = .returned (.int .i64 ((P o n).1 : Nat)) ∧ St w' (P o n).2 ∧ Fb bw bm W w')
    (q o : List Nd) (hq : opsL q) (hk : knownL q) (hr : ∀ i, i < q.length → NdR (q.getD i nd0)) (hne : q ≠ []) (ho : Bd o) (hQ : ∀ n ∈ q, Q (bare n)) (hm : o.length + m * q.length ≤ 999000) (hql : q.length ≤ 1000000) (A : Option Addr) (c : Nat) (hS : St w o) (hA : RdA w bw bm A q.length q) :
    Calls Tryd.prog 60 #[.pointer (some ⟨bw, 0, none⟩), .slice A q.length c, .func (Fn.func 61) #[.pointer (some ⟨br, 0, none⟩)] #[]] w fun e w' => e = .returned (.int .i64 ((rwP P q o).1 : Nat)) ∧ St w' (rwP P q o).2 ∧ Fb bw bm w w' := by
  have hpos := List.length_pos_iff.2 hne
  have HK := Lib.hid hpos
  have hmk := fun W => makeI W q.length hql
  have HS0 : Hid (RwS St w bw bm w.heap.size A q (w.alloc (.cells (zeros q.length) 3)) (rwL P q o 0)) := Lib.hid (by
    have hb : Below w.heap.size w (w.alloc (.cells (zeros q.length) 3)) := (Below.refl _ w).alloc (Nat.le_refl _) _
    have hu := ok.bu _ _ hS
    have hF := Fb.of_below (bm := bm) hb hu.lwB
    refine ⟨ok.below _ _ _ hS hb, hF, ?_, AsideB.new hu.st hb (Nat.le_refl _) (by simp), hA.step hF⟩
    have := heap_alloc_new w (.cells (zeros q.length) 3)
    unfold RS
    rw [this, zeros_iv]; rfl)
  have HAD : Hid (∀ ad, A = some ad → 0 < q.length → ad.block < w.heap.size) := Lib.hid (fun ad e h0 => (hA.as_ ad e h0).lt)
  have HRW : Hid (∀ i, i ≤ q.length → Rw R m q o i (rwL P q o i) ∧ (rwL P q o i).2.length ≤ 999000) := Lib.hid (fun i hi => by
    have h := rw_ok hP hq ho hQ i hi
    refine ⟨h, ?_⟩
    have h1 := h.few
    have h2 := Nat.mul_le_mul_left m hi
    omega)
  have HIN : Hid (∀ i, i < q.length → NodeIn (rwL P q o i).2 (wOps (q.getD i nd0) (rwL P q o i).1) ∧ Q (bare (wOps (q.getD i nd0) (rwL P q o i).1))) := Lib.hid (fun i hi => by
    have h := HRW.out i (Nat.le_of_lt hi)
    have hmem : q.getD i nd0 ∈ q := by
      rw [List.getD_eq_getElem?_getD, List.getElem?_eq_getElem hi]
      exact List.getElem_mem _
    have h5 := hQ _ hmem
    exact ⟨rw_in h.1 hq hk hr hi (by have := h.2; omega), h5⟩)
  have HEND : Hid ((rwP P q o) = ((rwL P q o q.length).1.getD (q.length - 1) 0, (rwL P q o q.length).2)) := Lib.hid rfl
  have HKN := Lib.hid hk
  have HOPS := Lib.hid hq
  have HRR := Lib.hid HR
  have HOK := Lib.hid ok
  clear hP HR hq hk hr hne ho hQ hm hS hA ok
  generalize rwP P q o = pend at *
  go_enter Tryd.func60, Tryd.ntmps60
  go_wp2
  clear hmk
  generalize w.alloc (.cells (zeros q.length) 3) = w1 at *
  generalize hG : w.heap.size = G at *
  have HG := Lib.hid hG
  clear hG
  go_loopw [8, 9, 15] (fun _ _ i wr => ∃ k : Nat, k ≤ q.length ∧ i = .int .i64 k ∧ Hid (RwS St w bw bm G A q wr (rwL P q o k))) (fun _ _ i _ => q.length - (intOf i).toNat)
  case atStart => exact ⟨0, Nat.zero_le _, rfl, HS0⟩
  case round =>
    obtain ⟨k, hk, rfl, HD⟩ := hrel
    by_cases hlt : k < q.length
    · obtain ⟨ad, rfl, hb, m0, m1, m2, m3, m4, m5⟩ := HD.out.rd.rd.nd_at hlt
      have l1 := add_cell m1
      have l2 := add_cell m2
      have l3 := add_cell m3
      have l4 := add_cell m4
      have l5 := add_cell m5
      have HRk := HRW.out k hk
      have HIk := HIN.out k hlt
      have hsl : (rwL P q o k).1.length = k := HRk.1.len
      have HSUC : Hid (rwL P q o (k + 1) = ((rwL P q o k).1 ++ [(P (rwL P q o k).2 (wOps (q.getD k nd0) (rwL P q o k).1)).1], (P (rwL P q o k).2 (wOps (q.getD k nd0) (rwL P q o k).1)).2)) := Lib.hid rfl
      have hkn := HKN.out k hlt
      have hop := HOPS.out k hlt
      obtain ⟨x, hx⟩ : ∃ x, q.getD k nd0 = x := ⟨_, rfl⟩
      rw [hx] at m0 l1 l2 l3 l4 l5 HIk hkn hop HSUC
      have HBD := Lib.hid HRk.1.bd
      have HLN := Lib.hid HRk.2
      generalize rwL P q o k = s at *
      have HW : Hid (∀ W', Below wr.heap.size wr W' → Calls Tryd.prog 119 #[.agg #[.int .i64 x.op, .int .i64 x.i, .int .i64 x.e, .int .i64 x.g, .int .i64 x.x, .int .i64 x.y], .slice (some ⟨G, 0, none⟩) q.length q.length] W' fun r w' => r = .returned (nv (wOps x s.1)) ∧ Below W'.heap.size W' w') := Lib.hid (fun W' hb2 => by
        have h := HD.out.below HOK.out hb2
        have hu := HOK.out.bu _ _ h.st
        have hpl : (padR s.1 q.length).length = q.length := padR_len (by omega)
        have hrd := h.rs.reads
        rw [hpl] at hrd
        have := wops_any x (padR s.1 q.length) (some ⟨G, 0, none⟩) q.length q.length B W' hu.env hu.size hkn hrd (fun u => by have := opsOk_x hop u; have := hop.1; rw [if_pos u] at this; omega) (fun u => by have := opsOk_y hop u; have := hop.2; rw [if_pos u] at this; omega)
        rw [wOps_pad] at this
        exact this)
      have HIN2 := Lib.hid HIk
      obtain ⟨y, hy⟩ : ∃ y, wOps x s.1 = y := ⟨_, rfl⟩
      rw [hy] at HW HIN2 HSUC
      clear HRk HIk hop hkn hx hy m1 m2 m3 m4 m5
      have HA := Lib.hid (fun a => (Below.refl wr.heap.size wr).alloc (Nat.le_refl _) a)
      go_wp2_with fail
      refine (HW.out _ (HA.out _)).mono ?_
      rintro e w2 ⟨rfl, hb2⟩
      have HD2 := Lib.hid (HD.out.below HOK.out ((HA.out _).trans (hb2.mono (HA.out _).size)))
      clear hb2
      go_wp2_with fail
      refine (HRR.out _ _ _ HD2.out.st (by have := HD2.out.fb.size; rw [HG.out] at this; exact this) HBD.out HIN2.out.1 HIN2.out.2 HLN.out).mono ?_
      rintro e w3 ⟨rfl, h1, h2⟩
      have HD3 := Lib.hid (HD2.out.call h1 h2)
      clear h1 h2
      have f3 := HD3.out.rs.free k
      have hpl3 : (padR s.1 q.length).length = q.length := padR_len (by omega)
      have c3 := HD3.out.rs.cell (k := k) (by show k < (padR s.1 q.length).length; omega)
      have HD4 := Lib.hid (HD3.out.put HOK.out (by rw [HG.out]; exact Nat.le_refl _) (fun ad e h => by rw [HG.out]; exact HAD.out ad e h) ((P s.2 y).1) (by rw [hsl]; exact hlt))
      rw [hsl, ← HSUC.out] at HD4
      clear m0 l1 l2 l3 l4 l5
      go_wp2
      go_roundw
      case rel => exact ⟨k + 1, by omega, by go_num, HD4⟩
      case measure => simp [intOf]; omega
    · have hkq : k = q.length := by omega
      subst hkq
      have hsl := (HRW.out q.length (Nat.le_refl _)).1.len
      have hpos := HK.out
      have hcell := HD.out.rs.cell (k := q.length - 1) (by rw [padR_len (by omega)]; omega)
      rw [padR_getD] at hcell
      have hs3 : (q.length : Int) - 1 = ((q.length - 1 : Nat) : Int) := by omega
      have hs1 : wrap64 ((q.length : Int) - 1) = ((q.length - 1 : Nat) : Int) := by unfold wrap64; omega
      have hs2 : IntKind.i64.wrap ((q.length : Int) - 1) = ((q.length - 1 : Nat) : Int) := by rw [IntKind.wrap_i64]; omega
      go_wp2
      go_ret
      exact ⟨by rw [HEND.out]; rfl, by rw [HEND.out]; exact HD.out.st, HD.out.fb⟩
set_option maxHeartbeats 4000000 in
theorem rewrite_sub {St : World → List Nd → Prop} {P : List Nd → Nd → Nat × List Nd} {R : Nd → Tr → Tr → Tr} {m : Nat} {Q : Nd → Prop} (hP : RuleOk m Q P R) (B base bw bm : Nat) (bt bb : Nat) (w : World) (ok : StOk St w B base bw bm)
    (HR : ∀ W o n, St W o → w.heap.size ≤ W.heap.size → Bd o → NodeIn o n → Q (bare n) → o.length ≤ 900000 → Calls Tryd.prog 115 #[nv n, .pointer (some ⟨bt, 0, none⟩), .pointer (some ⟨bb, 0, none⟩)] W fun e w' => e = .returned (.int .i64 ((P o n).1 : Nat)) ∧ St w' (P o n).2 ∧ Fb bw bm W w')
    (q o : List Nd) (hq : opsL q) (hk : knownL q) (hr : ∀ i, i < q.length → NdR (q.getD i nd0)) (hne : q ≠ []) (ho : Bd o) (hQ : ∀ n ∈ q, Q (bare n)) (hm : o.length + m * q.length ≤ 900000) (hql : q.length ≤ 1000000) (A : Option Addr) (c : Nat) (hS : St w o) (hA : RdA w bw bm A q.length q) :
    Calls Tryd.prog 60 #[.pointer (some ⟨bw, 0, none⟩), .slice A q.length c, .func (Fn.func 115) #[] #[.pointer (some ⟨bt, 0, none⟩), .pointer (some ⟨bb, 0, none⟩)]] w fun e w' => e = .returned (.int .i64 ((rwP P q o).1 : Nat)) ∧ St w' (rwP P q o).2 ∧ Fb bw bm w w' := by
  have hpos := List.length_pos_iff.2 hne
  have HK := Lib.hid hpos
  have hmk := fun W => makeI W q.length hql
  have HS0 : Hid (RwS St w bw bm w.heap.size A q (w.alloc (.cells (zeros q.length) 3)) (rwL P q o 0)) := Lib.hid (by
    have hb : Below w.heap.size w (w.alloc (.cells (zeros q.length) 3)) := (Below.refl _ w).alloc (Nat.le_refl _) _
    have hu := ok.bu _ _ hS
    have hF := Fb.of_below (bm := bm) hb hu.lwB
    refine ⟨ok.below _ _ _ hS hb, hF, ?_, AsideB.new hu.st hb (Nat.le_refl _) (by simp), hA.step hF⟩
    have := heap_alloc_new w (.cells (zeros q.length) 3)
    unfold RS
    rw [this, zeros_iv]; rfl)
  have HAD : Hid (∀ ad, A = some ad → 0 < q.length → ad.block < w.heap.size) := Lib.hid (fun ad e h0 => (hA.as_ ad e h0).lt)
  have HRW : Hid (∀ i, i ≤ q.length → Rw R m q o i (rwL P q o i) ∧ (rwL P q o i).2.length ≤ 900000) := Lib.hid (fun i hi => by
    have h := rw_ok hP hq ho hQ i hi
    refine ⟨h, ?_⟩
    have h1 := h.few
    have h2 := Nat.mul_le_mul_left m hi
    omega)
  have HIN : Hid (∀ i, i < q.length → NodeIn (rwL P q o i).2 (wOps (q.getD i nd0) (rwL P q o i).1) ∧ Q (bare (wOps (q.getD i nd0) (rwL P q o i).1))) := Lib.hid (fun i hi => by
    have h := HRW.out i (Nat.le_of_lt hi)
    have hmem : q.getD i nd0 ∈ q := by
      rw [List.getD_eq_getElem?_getD, List.getElem?_eq_getElem hi]
      exact List.getElem_mem _
    have h5 := hQ _ hmem
    exact ⟨rw_in h.1 hq hk hr hi (by have := h.2; omega), h5⟩)
  have HEND : Hid ((rwP P q o) = ((rwL P q o q.length).1.getD (q.length - 1) 0, (rwL P q o q.length).2)) := Lib.hid rfl
  have HKN := Lib.hid hk
  have HOPS := Lib.hid hq
  have HRR := Lib.hid HR
  have HOK := Lib.hid ok
  clear hP HR hq hk hr hne ho hQ hm hS hA ok
  generalize rwP P q o = pend at *
  go_enter Tryd.func60, Tryd.ntmps60
  go_wp2
  clear hmk
  generalize w.alloc (.cells (zeros q.length) 3) = w1 at *
  generalize hG : w.heap.size = G at *
  have HG := Lib.hid hG
  clear hG
  go_loopw [8, 9, 15] (fun _ _ i wr => ∃ k : Nat, k ≤ q.length ∧ i = .int .i64 k ∧ Hid (RwS St w bw bm G A q wr (rwL P q o k))) (fun _ _ i _ => q.length - (intOf i).toNat)
  case atStart => exact ⟨0, Nat.zero_le _, rfl, HS0⟩
  case round =>
    obtain ⟨k, hk, rfl, HD⟩ := hrel
    by_cases hlt : k < q.length
    · obtain ⟨ad, rfl, hb, m0, m1, m2, m3, m4, m5⟩ := HD.out.rd.rd.nd_at hlt
      have l1 := add_cell m1
      have l2 := add_cell m2
      have l3 := add_cell m3
      have l4 := add_cell m4
      have l5 := add_cell m5
      have HRk := HRW.out k hk
      have HIk := HIN.out k hlt
      have hsl : (rwL P q o k).1.length = k := HRk.1.len
      have HSUC : Hid (rwL P q o (k + 1) = ((rwL P q o k).1 ++ [(P (rwL P q o k).2 (wOps (q.getD k nd0) (rwL P q o k).1)).1], (P (rwL P q o k).2 (wOps (q.getD k nd0) (rwL P q o k).1)).2)) := Lib.hid rfl
      have hkn := HKN.out k hlt
      have hop := HOPS.out k hlt
      obtain ⟨x, hx⟩ : ∃ x, q.getD k nd0 = x := ⟨_, rfl⟩
      rw [hx] at m0 l1 l2 l3 l4 l5 HIk hkn hop HSUC
      have HBD := Lib.hid HRk.1.bd
      have HLN := Lib.hid HRk.2
      generalize rwL P q o k = s at *
      have HW : Hid (∀ W', Below wr.heap.size wr W' → Calls Tryd.prog 119 #[.agg #[.int .i64 x.op, .int .i64 x.i, .int .i64 x.e, .int .i64 x.g, .int .i64 x.x, .int .i64 x.y], .slice (some ⟨G, 0, none⟩) q.length q.length] W' fun r w' => r = .returned (nv (wOps x s.1)) ∧ Below W'.heap.size W' w') := Lib.hid (fun W' hb2 => by
        have h := HD.out.below HOK.out hb2
        have hu := HOK.out.bu _ _ h.st
        have hpl : (padR s.1 q.length).length = q.length := padR_len (by omega)
        have hrd := h.rs.reads
        rw [hpl] at hrd
        have := wops_any x (padR s.1 q.length) (some ⟨G, 0, none⟩) q.length q.length B W' hu.env hu.size hkn hrd (fun u => by have := opsOk_x hop u; have := hop.1; rw [if_pos u] at this; omega) (fun u => by have := opsOk_y hop u; have := hop.2; rw [if_pos u] at this; omega)
        rw [wOps_pad] at this
        exact this)
      have HIN2 := Lib.hid HIk
      obtain ⟨y, hy⟩ : ∃ y, wOps x s.1 = y := ⟨_, rfl⟩
      rw [hy] at HW HIN2 HSUC
      clear HRk HIk hop hkn hx hy m1 m2 m3 m4 m5
      have HA := Lib.hid (fun a => (Below.refl wr.heap.size wr).alloc (Nat.le_refl _) a)
      go_wp2_with fail
      refine (HW.out _ (HA.out _)).mono ?_
      rintro e w2 ⟨rfl, hb2⟩
      have HD2 := Lib.hid (HD.out.below HOK.out ((HA.out _).trans (hb2.mono (HA.out _).size)))
      clear hb2
      go_wp2_with fail
      refine (HRR.out _ _ _ HD2.out.st (by have := HD2.out.fb.size; rw [HG.out] at this; exact this) HBD.out HIN2.out.1 HIN2.out.2 HLN.out).mono ?_
      rintro e w3 ⟨rfl, h1, h2⟩
      have HD3 := Lib.hid (HD2.out.call h1 h2)
      clear h1 h2
      have f3 := HD3.out.rs.free k
      have hpl3 : (padR s.1 q.length).length = q.length := padR_len (by omega)
      have c3 := HD3.out.rs.cell (k := k) (by show k < (padR s.1 q.length).length; omega)
      have HD4 := Lib.hid (HD3.out.put HOK.out (by rw [HG.out]; exact Nat.le_refl _) (fun ad e h => by rw [HG.out]; exact HAD.out ad e h) ((P s.2 y).1) (by rw [hsl]; exact hlt))
      rw [hsl, ← HSUC.out] at HD4
      clear m0 l1 l2 l3 l4 l5
      go_wp2
      go_roundw
      case rel => exact ⟨k + 1, by omega, by go_num, HD4⟩
      case measure => simp [intOf]; omega
    · have hkq : k = q.length := by omega
      subst hkq
      have hsl := (HRW.out q.length (Nat.le_refl _)).1.len
      have hpos := HK.out
      have hcell := HD.out.rs.cell (k := q.length - 1) (by rw [padR_len (by omega)]; omega)
      rw [padR_getD] at hcell
      have hs3 : (q.length : Int) - 1 = ((q.length - 1 : Nat) : Int) := by omega
      have hs1 : wrap64 ((q.length : Int) - 1) = ((q.length - 1 : Nat) : Int) := by unfold wrap64; omega
      have hs2 : IntKind.i64.wrap ((q.length : Int) - 1) = ((q.length - 1 : Nat) : Int) := by rw [IntKind.wrap_i64]; omega
      go_wp2
      go_ret
      exact ⟨by rw [HEND.out]; rfl, by rw [HEND.out]; exact HD.out.st, HD.out.fb⟩
end Go.Proofs.YtkkkomkljpolbaaDoor
