/- Layer 6: texts joined: Gf Gh. -/
import Derived.Test.YtcdmchaehafijaaDoorNJh
import Derived.Test.YtcdmchaehafijaaDoorNJi
import Derived.Test.YtcdmchaehafijaaDoorNQq
import Derived.Test.YtcdmchaehafijaaDoorNRa
/- Layer 8: rewriting node by node. -/
namespace Go.Proofs.YtcdmchaehafijaaDoor
open Go.RowKit Go.Proofs.Ws Go.Maps
set_option maxRecDepth 100000
/-- a list of nodes in blocks aside of the builder -/
structure RdA (W : World) (bw bm : Nat) (A : Option Addr) (n : Nat) (q : List Nd) : Prop where
  rd : Reads W W.heap.size 6 A n (nds q)
  as_ : ∀ ad, A = some ad → 0 < n → AsideB W bw bm ad.block
theorem RdA.step {W W' : World} {bw bm n : Nat} {A : Option Addr} {q : List Nd} (h : RdA W bw bm A n q) (hF : Fb bw bm W W') : RdA W' bw bm A n q := by
  refine ⟨⟨h.rd.1, fun hn => ?_⟩, fun ad e hn => ((h.as_ ad e hn).step hF).2⟩
  obtain ⟨ad, e, hb, hc⟩ := h.rd.2 hn
  have hk := ((h.as_ ad e hn).step hF).1
  exact ⟨ad, e, Nat.lt_of_lt_of_le hb hF.size, fun j u hu => (World.cell?_of_block (by rw [block_of_add]; exact hk)).trans (hc j u hu)⟩
theorem RdA.of_new {w W : World} {B base bw bm n : Nat} {A : Option Addr} {q o : List Nd} (h : Bu B base bw bm w o) (hb : Below w.heap.size w W) (hr : Reads W W.heap.size 6 A n (nds q)) (hn : ∀ ad, A = some ad → 0 < n → w.heap.size ≤ ad.block) : RdA W bw bm A n q :=
  ⟨hr, fun ad e h0 => by
    obtain ⟨ad2, e2, hb2, _⟩ := hr.2 h0
    rw [e] at e2
    injection e2 with e2
    subst e2
    exact AsideB.new h.st hb (hn ad e h0) hb2⟩
theorem RdA.of_below {W : World} {B base bw bm n : Nat} {A : Option Addr} {q o : List Nd} (h : Bu B base bw bm W o) (hr : Reads W B 6 A n (nds q)) : RdA W bw bm A n q :=
  ⟨hr.more h.size, fun ad e h0 => by
    obtain ⟨ad2, e2, hb2, _⟩ := hr.2 h0
    rw [e] at e2
    injection e2 with e2
    subst e2
    have h1 := h.b1
    have h2 := h.b2
    refine ⟨Nat.lt_of_lt_of_le hb2 h.size, by omega, by omega, fun e3 => ?_⟩
    have := (h.st.row _ e3.symm).1
    have := h.st.lw
    omega⟩
/-- block g holds just these places -/
def RS (W : World) (g : Nat) (l : List Nat) : Prop := W.heap[g]? = some (.cells (iv l).toArray 3 (0, 0))
theorem RS.cell {W : World} {g : Nat} {l : List Nat} (h : RS W g l) {k : Nat} (hk : k < l.length) : W.cell? ⟨g, k, none⟩ = some (.int .i64 ((l.getD k 0 : Nat) : Int)) := by
  rw [Lib.cell_of_heap h]
  simp [iv, hk]
theorem RS.free {W : World} {g : Nat} {l : List Nat} (h : RS W g l) (k : Nat) : W.frozen? ⟨g, k, none⟩ = false := Lib.frozen_of_heap h k
theorem RS.put {W : World} {g : Nat} {l : List Nat} (h : RS W g l) (k x : Nat) : RS (W.setCell ⟨g, k, none⟩ (.int .i64 (x : Int))) g (l.set k x) := by
  unfold RS at h ⊢
  have e : (iv (l.set k x)).toArray = (iv l).toArray.setIfInBounds k (.int .i64 (x : Int)) := by
    unfold iv
    rw [List.map_set]
    simp
  rw [e]
  simp [World.setCell, Array.getElem?_modify, h]
theorem RS.keep {W W' : World} {g : Nat} {l : List Nat} (h : RS W g l) (hb : W'.heap[g]? = W.heap[g]?) : RS W' g l := hb.trans h
theorem zeros_iv (n : Nat) : zeros n = (iv (List.replicate n 0)).toArray := by
  unfold zeros iv
  rw [List.map_replicate]
  rfl
theorem RS.reads {W : World} {g : Nat} {l : List Nat} (h : RS W g l) : Reads W W.heap.size 1 (some ⟨g, 0, none⟩) l.length (iv l) := by
  have hlt : g < W.heap.size := (Array.getElem?_eq_some_iff.1 h).1
  refine ⟨by unfold iv; simp, fun _ => ⟨_, rfl, hlt, fun j u hu => ?_⟩⟩
  rw [addr0, Lib.cell_of_heap h]
  simpa using hu
/-- the results so far, with zeros behind -/
def padR (nu : List Nat) (n : Nat) : List Nat := nu ++ List.replicate (n - nu.length) 0
theorem padR_len {nu : List Nat} {n : Nat} (h : nu.length ≤ n) : (padR nu n).length = n := by unfold padR; simp; omega
theorem padR_getD (nu : List Nat) (n j : Nat) : (padR nu n).getD j 0 = nu.getD j 0 := by
  unfold padR
  by_cases h : j < nu.length
  · rw [List.getD_eq_getElem?_getD, List.getElem?_append_left h, ← List.getD_eq_getElem?_getD]
  · rw [List.getD_eq_getElem?_getD, List.getElem?_append_right (by omega), List.getElem?_replicate, List.getD_eq_getElem?_getD, List.getElem?_eq_none (by omega)]
    split <;> rfl
theorem padR_set {nu : List Nat} {n : Nat} (h : nu.length < n) (v : Nat) : (padR nu n).set nu.length v = padR (nu ++ [v]) n := by
  unfold padR
  rw [List.length_append, show n - nu.length = (n - (nu.length + 1)) + 1 from by omega, List.replicate_succ]
  simp
theorem wOps_pad (n : Nd) (nu : List Nat) (m : Nat) : wOps n (padR nu m) = wOps n nu := by unfold wOps; rw [padR_getD, padR_getD]
/-- the loop's state: the builder's list, the results in block G, the nodes that are read -/
structure RwS (St : World → List Nd → Prop) (w : World) (bw bm G : Nat) (A : Option Addr) (q : List Nd) (W : World) (s : List Nat × List Nd) : Prop where
  st : St W s.2
  fb : Fb bw bm w W
  rs : RS W G (padR s.1 q.length)
  ag : AsideB W bw bm G
  rd : RdA W bw bm A q.length q
/-- what a state must keep -/
structure StOk (St : World → List Nd → Prop) (w : World) (B base bw bm : Nat) : Prop where
  bu : ∀ W o, St W o → Bu B base bw bm W o
  below : ∀ W W' o, St W o → Below W.heap.size W W' → St W' o
  set : ∀ W o G k v, St W o → w.heap.size ≤ G → AsideB W bw bm G → St (W.setCell ⟨G, k, none⟩ v) o
theorem RwS.below {St : World → List Nd → Prop} {w W W' : World} {B base bw bm G : Nat} {A : Option Addr} {q : List Nd} {s : List Nat × List Nd} (ok : StOk St w B base bw bm) (h : RwS St w bw bm G A q W s) (hb : Below W.heap.size W W') : RwS St w bw bm G A q W' s := by
  have hu := ok.bu _ _ h.st
  have hF := Fb.of_below (bm := bm) hb hu.lwB
  exact ⟨ok.below _ _ _ h.st hb, h.fb.trans hF, h.rs.keep (h.ag.step hF).1, (h.ag.step hF).2, h.rd.step hF⟩
theorem RwS.call {St : World → List Nd → Prop} {w W W' : World} {bw bm G : Nat} {A : Option Addr} {q : List Nd} {s : List Nat × List Nd} {o' : List Nd} (h : RwS St w bw bm G A q W s) (h1 : St W' o') (hF : Fb bw bm W W') : RwS St w bw bm G A q W' (s.1, o') :=
  ⟨h1, h.fb.trans hF, h.rs.keep (h.ag.step hF).1, (h.ag.step hF).2, h.rd.step hF⟩
theorem RwS.put {St : World → List Nd → Prop} {w W : World} {B base bw bm G : Nat} {A : Option Addr} {q : List Nd} {nu : List Nat} {o : List Nd} (ok : StOk St w B base bw bm) (h : RwS St w bw bm G A q W (nu, o)) (hG : w.heap.size ≤ G) (hA : ∀ ad, A = some ad → 0 < q.length → ad.block < w.heap.size) (v : Nat) (hn : nu.length < q.length) :
    RwS St w bw bm G A q (W.setCell ⟨G, nu.length, none⟩ (.int .i64 (v : Int))) (nu ++ [v], o) := by
  have hr := h.rs.put nu.length v
  rw [padR_set hn] at hr
  refine ⟨ok.set _ _ _ _ _ h.st hG h.ag, h.fb.other _ hG h.ag.n1, hr, h.ag.set h.ag.n1 _, ⟨?_, fun ad e h0 => (h.rd.as_ ad e h0).set h.ag.n1 _⟩⟩
  refine ⟨h.rd.rd.1, fun h0 => ?_⟩
  obtain ⟨ad, e, hb, hc⟩ := h.rd.rd.2 h0
  have := hA ad e h0
  refine ⟨ad, e, by simpa using hb, fun j u hu => ?_⟩
  rw [World.cell?_setCell_other _ _ _ _ (fun e2 => by have h9 := congrArg Addr.block e2; rw [block_of_add] at h9; dsimp only at h9; omega)]
  exact hc j u hu
/-- the next node may be added -/
theorem rw_in {R : Nd → Tr → Tr → Tr} {m i : Nat} {q o : List Nd} {s : List Nat × List Nd} (h : Rw R m q o i s) (hq : opsL q) (hk : knownL q) (hr : ∀ i, i < q.length → NdR (q.getD i nd0)) (hi : i < q.length) (hm : s.2.length ≤ 1000000) : NodeIn s.2 (wOps (q.getD i nd0) s.1) := by
  have hop := hq i hi
  have hn := hr i hi
  have key : ∀ j, j < i → s.1.getD j 0 < s.2.length := fun j hj => rep_lt (h.at_ j hj).1
  have hx : usesX (q.getD i nd0).op = true → s.1.getD (q.getD i nd0).x.toNat 0 < s.2.length := fun k => key _ (opsOk_x hop k).2
  have hy : usesY (q.getD i nd0).op = true → s.1.getD (q.getD i nd0).y.toNat 0 < s.2.length := fun k => key _ (opsOk_y hop k).2
  have hx0 : ¬ usesX (q.getD i nd0).op = true → (q.getD i nd0).x = 0 := fun k => by have := hop.1; rwa [if_neg k] at this
  have hy0 : ¬ usesY (q.getD i nd0).op = true → (q.getD i nd0).y = 0 := fun k => by have := hop.2; rwa [if_neg k] at this
  have ex : 0 ≤ (wOps (q.getD i nd0) s.1).x ∧ (wOps (q.getD i nd0) s.1).x ≤ 1000000 ∧ (if usesX (q.getD i nd0).op = true then 0 ≤ (wOps (q.getD i nd0) s.1).x ∧ (wOps (q.getD i nd0) s.1).x < (s.2.length : Int) else (wOps (q.getD i nd0) s.1).x = 0) := by
    unfold wOps
    dsimp only
    by_cases k : usesX (q.getD i nd0).op = true
    · rw [if_pos k, if_pos k]; have := hx k; omega
    · rw [if_neg k, if_neg k]; have := hx0 k; omega
  have ey : 0 ≤ (wOps (q.getD i nd0) s.1).y ∧ (wOps (q.getD i nd0) s.1).y ≤ 1000000 ∧ (if usesY (q.getD i nd0).op = true then 0 ≤ (wOps (q.getD i nd0) s.1).y ∧ (wOps (q.getD i nd0) s.1).y < (s.2.length : Int) else (wOps (q.getD i nd0) s.1).y = 0) := by
    unfold wOps
    dsimp only
    by_cases k : usesY (q.getD i nd0).op = true
    · rw [if_pos k, if_pos k]; have := hy k; omega
    · rw [if_neg k, if_neg k]; have := hy0 k; omega
  refine ⟨hk i hi, ⟨ex.2.2, ey.2.2⟩, ⟨?_, ?_, ?_, ?_, ?_, ?_⟩⟩
  · exact WalkArith.wf_i64 (by have := hn.op; show _ ≤ (q.getD i nd0).op ∧ (q.getD i nd0).op ≤ _; omega)
  · exact WalkArith.wf_i64 (by have := hn.i; show _ ≤ (q.getD i nd0).i ∧ (q.getD i nd0).i ≤ _; omega)
  · exact WalkArith.wf_i64 (by have := hn.e; show _ ≤ (q.getD i nd0).e ∧ (q.getD i nd0).e ≤ _; omega)
  · exact WalkArith.wf_i64 (by have := hn.g; show _ ≤ (q.getD i nd0).g ∧ (q.getD i nd0).g ≤ _; omega)
  · exact WalkArith.wf_i64 (by have := ex.1; have := ex.2.1; omega)
  · exact WalkArith.wf_i64 (by have := ey.1; have := ey.2.1; omega)
set_option maxHeartbeats 4000000 in
theorem rewrite_sim {St : World → List Nd → Prop} {P : List Nd → Nd → Nat × List Nd} {R : Nd → Tr → Tr → Tr} {m : Nat} {Q : Nd → Prop} (hP : RuleOk m Q P R) (B base bw bm : Nat) (br : Nat) (w : World) (ok : StOk St w B base bw bm)
    (HR : ∀ W o n, St W o → w.heap.size ≤ W.heap.size → Bd o → NodeIn o n → Q (bare n) → o.length ≤ 999000 → Calls Tryd.prog 38 #[.pointer (some ⟨br, 0, none⟩), nv n] W fun e w' => e = .returned (.int .i64 ((P o n).1 : Nat)) ∧ St w' (P o n).2 ∧ Fb bw bm W w')
    (q o : List Nd) (hq : opsL q) (hk : knownL q) (hr : ∀ i, i < q.length → NdR (q.getD i nd0)) (hne : q ≠ []) (ho : Bd o) (hQ : ∀ n ∈ q, Q (bare n)) (hm : o.length + m * q.length ≤ 999000) (hql : q.length ≤ 1000000) (A : Option Addr) (c : Nat) (hS : St w o) (hA : RdA w bw bm A q.length q) :
    Calls Tryd.prog 37 #[.pointer (some ⟨bw, 0, none⟩), .slice A q.length c, .func (Fn.func 38) #[.pointer (some ⟨br, 0, none⟩)] #[]] w fun e w' => e = .returned (.int .i64 ((rwP P q o).1 : Nat)) ∧ St w' (rwP P q o).2 ∧ Fb bw bm w w' := by
  have hpos := List.length_pos_iff.2 hne
  have HK := Lib.hid hpos
  have hmk := fun W => makeI W q.length hql
  have HS0 : Hid (RwS St w bw bm w.heap.size A q (w.alloc (.cells (zeros q.length) 3)) (rwL P q o 0)) := Lib.hid (by
    have hb : Below w.heap.size w (w.alloc (.cells (zeros q.length) 3)) := (Below.refl _ w).alloc (Nat.le_refl _) _
    have hu := ok.bu _ _ hS
    have hF := Fb.of_below (bm := bm) hb hu.lwB
    refine ⟨ok.below _ _ _ hS hb, hF, ?_, AsideB.new hu.st hb (Nat.le_refl _) (by simp), hA.step hF⟩
    have := heap_alloc_new w (.cells (zeros q.length) 3)
    unfold RS
    rw [this, zeros_iv]; rfl)
  have HAD : Hid (∀ ad, A = some ad → 0 < q.length → ad.block < w.heap.size) := Lib.hid (fun ad e h0 => (hA.as_ ad e h0).lt)
  have HRW : Hid (∀ i, i ≤ q.length → Rw R m q o i (rwL P q o i) ∧ (rwL P q o i).2.length ≤ 999000) := Lib.hid (fun i hi => by
    have h := rw_ok hP hq ho hQ i hi
    refine ⟨h, ?_⟩
    have h1 := h.few
    have h2 := Nat.mul_le_mul_left m hi
    omega)
  have HIN : Hid (∀ i, i < q.length → NodeIn (rwL P q o i).2 (wOps (q.getD i nd0) (rwL P q o i).1) ∧ Q (bare (wOps (q.getD i nd0) (rwL P q o i).1))) := Lib.hid (fun i hi => by
    have h := HRW.out i (Nat.le_of_lt hi)
    have hmem : q.getD i nd0 ∈ q := by
      rw [List.getD_eq_getElem?_getD, List.getElem?_eq_getElem hi]
      exact List.getElem_mem _
    have h5 := hQ _ hmem
    exact ⟨rw_in h.1 hq hk hr hi (by have := h.2; omega), h5⟩)
  have HEND : Hid ((rwP P q o) = ((rwL P q o q.length).1.getD (q.length - 1) 0, (rwL P q o q.length).2)) := Lib.hid rfl
  have HKN := Lib.hid hk
  have HOPS := Lib.hid hq
  have HRR := Lib.hid HR
  have HOK := Lib.hid ok
  clear hP HR hq hk hr hne ho hQ hm hS hA ok
  generalize rwP P q o = pend at *
  go_enter Tryd.func37, Tryd.ntmps37
  go_wp2
  clear hmk
  generalize w.alloc (.cells (zeros q.length) 3) = w1 at *
  generalize hG : w.heap.size = G at *
  have HG := Lib.hid hG
  clear hG
  go_loopw [8, 9, 15] (fun _ _ i wr => ∃ k : Nat, k ≤ q.length ∧ i = .int .i64 k ∧ Hid (RwS St w bw bm G A q wr (rwL P q o k))) (fun _ _ i _ => q.length - (intOf i).toNat)
  case atStart => exact ⟨0, Nat.zero_le _, rfl, HS0⟩
  case round =>
    obtain ⟨k, hk, rfl, HD⟩ := hrel
    by_cases hlt : k < q.length
    · obtain ⟨ad, rfl, hb, m0, m1, m2, m3, m4, m5⟩ := HD.out.rd.rd.nd_at hlt
      have l1 := add_cell m1
      have l2 := add_cell m2
      have l3 := add_cell m3
      have l4 := add_cell m4
      have l5 := add_cell m5
      have HRk := HRW.out k hk
      have HIk := HIN.out k hlt
      have hsl : (rwL P q o k).1.length = k := HRk.1.len
      have HSUC : Hid (rwL P q o (k + 1) = ((rwL P q o k).1 ++ [(P (rwL P q o k).2 (wOps (q.getD k nd0) (rwL P q o k).1)).1], (P (rwL P q o k).2 (wOps (q.getD k nd0) (rwL P q o k).1)).2)) := Lib.hid rfl
      have hkn := HKN.out k hlt
      have hop := HOPS.out k hlt
      obtain ⟨x, hx⟩ : ∃ x, q.getD k nd0 = x := ⟨_, rfl⟩
      rw [hx] at m0 l1 l2 l3 l4 l5 HIk hkn hop HSUC
      have HBD := Lib.hid HRk.1.bd
      have HLN := Lib.hid HRk.2
      generalize rwL P q o k = s at *
      have HW : Hid (∀ W', Below wr.heap.size wr W' → Calls Tryd.prog 57 #[.agg #[.int .i64 x.op, .int .i64 x.i, .int .i64 x.e, .int .i64 x.g, .int .i64 x.x, .int .i64 x.y], .slice (some ⟨G, 0, none⟩) q.length q.length] W' fun r w' => r = .returned (nv (wOps x s.1)) ∧ Below W'.heap.size W' w') := Lib.hid (fun W' hb2 => by
        have h := HD.out.below HOK.out hb2
        have hu := HOK.out.bu _ _ h.st
        have hpl : (padR s.1 q.length).length = q.length := padR_len (by omega)
        have hrd := h.rs.reads
        rw [hpl] at hrd
        have := wops_any x (padR s.1 q.length) (some ⟨G, 0, none⟩) q.length q.length B W' hu.env hu.size hkn hrd (fun u => by have := opsOk_x hop u; have := hop.1; rw [if_pos u] at this; omega) (fun u => by have := opsOk_y hop u; have := hop.2; rw [if_pos u] at this; omega)
        rw [wOps_pad] at this
        exact this)
      have HIN2 := Lib.hid HIk
      obtain ⟨y, hy⟩ : ∃ y, wOps x s.1 = y := ⟨_, rfl⟩
      rw [hy] at HW HIN2 HSUC
      clear HRk HIk hop hkn hx hy m1 m2 m3 m4 m5
      have HA := Lib.hid (fun a => (Below.refl wr.heap.size wr).alloc (Nat.le_refl _) a)
      go_wp2_with fail
      refine (HW.out _ (HA.out _)).mono ?_
      rintro e w2 ⟨rfl, hb2⟩
      have HD2 := Lib.hid (HD.out.below HOK.out ((HA.out _).trans (hb2.mono (HA.out _).size)))
      clear hb2
      go_wp2_with fail
      refine (HRR.out _ _ _ HD2.out.st (by have := HD2.out.fb.size; rw [HG.out] at this; exact this) HBD.out HIN2.out.1 HIN2.out.2 HLN.out).mono ?_
      rintro e w3 ⟨rfl, h1, h2⟩
      have HD3 := Lib.hid (HD2.out.call h1 h2)
      clear h1 h2
      have f3 := HD3.out.rs.free k
      have hpl3 : (padR s.1 q.length).length = q.length := padR_len (by omega)
      have c3 := HD3.out.rs.cell (k := k) (by show k < (padR s.1 q.length).length; omega)
      have HD4 := Lib.hid (HD3.out.put HOK.out (by rw [HG.out]; exact Nat.le_refl _) (fun ad e h => by rw [HG.out]; exact HAD.out ad e h) ((P s.2 y).1) (by rw [hsl]; exact hlt))
      rw [hsl, ← HSUC.out] at HD4
      clear m0 l1 l2 l3 l4 l5
      go_wp2
      go_roundw
      case rel => exact ⟨k + 1, by omega, by go_num, HD4⟩
      case measure => simp [intOf]; omega
    · have hkq : k = q.length := by omega
      subst hkq
      have hsl := (HRW.out q.length (Nat.le_refl _)).1.len
      have hpos := HK.out
      have hcell := HD.out.rs.cell (k := q.length - 1) (by rw [padR_len (by omega)]; omega)
      rw [padR_getD] at hcell
      have hs3 : (q.length : Int) - 1 = ((q.length - 1 : Nat) : Int) := by omega
      have hs1 : wrap64 ((q.length : Int) - 1) = ((q.length - 1 : Nat) : Int) := by unfold wrap64; omega
      have hs2 : IntKind.i64.wrap ((q.length : Int) - 1) = ((q.length - 1 : Nat) : Int) := by rw [IntKind.wrap_i64]; omega
      go_wp2
      go_ret
      exact ⟨by rw [HEND.out]; rfl, by rw [HEND.out]; exact HD.out.st, HD.out.fb⟩
end Go.Proofs.YtcdmchaehafijaaDoor
/- Layer 8: the formula at a place. -/
namespace Go.Proofs.YtcdmchaehafijaaDoor
open Go.RowKit Go.Proofs.Ws Go.Maps
set_option maxRecDepth 100000
/-- a block holds just these truth values -/
def ubs (l : List Bool) : List Value := l.map Value.bool
def UB (W : World) (g : Nat) (l : List Bool) : Prop := W.heap[g]? = some (.cells (ubs l).toArray 4 (0, 0))
theorem UB.cell {W : World} {g : Nat} {l : List Bool} (h : UB W g l) {k : Nat} (hk : k < l.length) : W.cell? ⟨g, k, none⟩ = some (.bool (l.getD k false)) := by
  rw [Lib.cell_of_heap h]
  simp [ubs, hk]
theorem UB.free {W : World} {g : Nat} {l : List Bool} (h : UB W g l) (k : Nat) : W.frozen? ⟨g, k, none⟩ = false := Lib.frozen_of_heap h k
theorem UB.put {W : World} {g : Nat} {l : List Bool} (h : UB W g l) (k : Nat) (x : Bool) : UB (W.setCell ⟨g, k, none⟩ (.bool x)) g (l.set k x) := by
  unfold UB at h ⊢
  have e : (ubs (l.set k x)).toArray = (ubs l).toArray.setIfInBounds k (.bool x) := by
    unfold ubs
    rw [List.map_set]
    simp
  rw [e]
  simp [World.setCell, Array.getElem?_modify, h]
theorem UB.keep {W W' : World} {g : Nat} {l : List Bool} (h : UB W g l) (hb : W'.heap[g]? = W.heap[g]?) : UB W' g l := hb.trans h
theorem Tryd.infoUB : (Tryd.prog.info? 4).map (fun i => (i.zero, i.size, i.bytes)) = some (some (.bool false), 1, 1) := by kernel_rfl
def ufalses (n : Nat) : Array Value := (List.replicate n (Value.bool false)).toArray
theorem made_ufalses (n : Nat) : madeCells (Value.bool false).cells n = ufalses n := by
  apply Array.ext
  · simp [madeCells, ufalses]
  · intro i h1 h2
    simp [madeCells, ufalses, Value.cells, Nat.mod_one]
theorem makeUB (w : World) (n : Nat) (hn : n ≤ 1000000) : (Instr.makeSlice 95 (.int .i64 (n : Int)) (.int .i64 (n : Int))).run Tryd.prog w = .ok (.slice (some ⟨w.heap.size, 0, none⟩) n n) (w.alloc (.cells (ufalses n) 4)) := by
  obtain ⟨i0, hi, hz0, hz1, hz2⟩ := info_parts Tryd.infoUB
  have h := run_make (P := Tryd.prog) w 95 4 i0 (.bool false) Tryd.underlying95 hi hz0 .i64 .i64 n n (by omega) (Int.le_refl _) (by rw [hz2]; omega) (by omega)
  rw [h, hz1]
  simp only [Int.toNat_natCast, Nat.mul_one]
  rw [made_ufalses]
theorem UB.made (w : World) (n : Nat) : UB (w.alloc (.cells (ufalses n) 4)) w.heap.size (List.replicate n false) := by
  have := heap_alloc_new w (.cells (ufalses n) 4)
  unfold UB
  rw [this]
  have e : (ubs (List.replicate n false)).toArray = ufalses n := by simp [ubs, ufalses]
  rw [e]
theorem own_capB {w : World} {base size n c : Nat} {e : TypeId} {A : Option Addr} {xs : List Value} (h : w.ownsRow base e size (.slice A n c) n xs) : n ≤ c := by
  rcases h.2 with ⟨hv, hn⟩ | ⟨g, cap, cur, hv, _, _, h5, _⟩
  · omega
  · injection hv with _ _ h3
    omega
theorem mkX_no {o : List Nd} {i : Nat} {u : List Bool} (h : ¬ (u.getD i false = true ∧ usesX (o.getD i nd0).op = true)) : mkX o i u = u := if_neg h
theorem mkY_no {o : List Nd} {i : Nat} {u : List Bool} (h : ¬ (u.getD i false = true ∧ usesY (o.getD i nd0).op = true)) : mkY o i u = u := if_neg h
theorem mkX_yes {o : List Nd} {i : Nat} {u : List Bool} (h : u.getD i false = true) (h2 : usesX (o.getD i nd0).op = true) : mkX o i u = u.set (o.getD i nd0).x.toNat true := if_pos ⟨h, h2⟩
theorem mkY_yes {o : List Nd} {i : Nat} {u : List Bool} (h : u.getD i false = true) (h2 : usesY (o.getD i nd0).op = true) : mkY o i u = u.set (o.getD i nd0).y.toNat true := if_pos ⟨h, h2⟩
/-- the state of the first loop: the marks -/
structure Mr (B base bw bm : Nat) (o : List Nd) (last : Nat) (w : World) (G m : Nat) (u : List Bool) (W : World) : Prop where
  g0 : w.heap.size = G
  bel : Below w.heap.size w W
  ub : UB W G u
  len : u.length = last + 1
  res : markL o m u = marksOf o last
  lt : G < W.heap.size
theorem Mr.alloc {B base bw bm m last G : Nat} {o : List Nd} {w W : World} {u : List Bool} (h : Mr B base bw bm o last w G m u W) (b : Obj) : Mr B base bw bm o last w G m u (W.alloc b) :=
  ⟨h.g0, h.bel.alloc h.bel.size b, h.ub.keep (Below.heap_alloc W b _ h.lt), h.len, h.res, by have := h.lt; simp; omega⟩
theorem Mr.set {B base bw bm m m' last G : Nat} {o : List Nd} {w W : World} {u : List Bool} (h : Mr B base bw bm o last w G m u W) (k : Nat) (hr : markL o m' (u.set k true) = marksOf o last) :
    Mr B base bw bm o last w G m' (u.set k true) (W.setCell ⟨G, k, none⟩ (.bool true)) :=
  ⟨h.g0, h.bel.setCell (by have := h.g0; show w.heap.size ≤ G; omega) _, h.ub.put k true, by rw [List.length_set, h.len], hr, by simpa using h.lt⟩
theorem Mr.two {B base bw bm m m' last G : Nat} {o : List Nd} {w W : World} {u : List Bool} (h : Mr B base bw bm o last w G m u W) (k l : Nat) (hr : markL o m' ((u.set k true).set l true) = marksOf o last) :
    Mr B base bw bm o last w G m' ((u.set k true).set l true) ((W.setCell ⟨G, k, none⟩ (.bool true)).setCell ⟨G, l, none⟩ (.bool true)) :=
  ⟨h.g0, (h.bel.setCell (by have := h.g0; show w.heap.size ≤ G; omega) _).setCell (by have := h.g0; show w.heap.size ≤ G; omega) _, (h.ub.put k true).put l true, by rw [List.length_set, List.length_set, h.len], hr, by have := h.lt; simpa using this⟩
theorem Mr.next {B base bw bm m m' last G : Nat} {o : List Nd} {w W : World} {u : List Bool} (h : Mr B base bw bm o last w G m u W) (hr : markL o m' u = marksOf o last) : Mr B base bw bm o last w G m' u W := ⟨h.g0, h.bel, h.ub, h.len, hr, h.lt⟩
theorem Mr.set0 {B base bw bm m last G : Nat} {o : List Nd} {w W : World} {u : List Bool} (h : Mr B base bw bm o last w G m u W) (k : Nat) :
    UB (W.setCell ⟨G, k, none⟩ (.bool true)) G (u.set k true) ∧ Below w.heap.size w (W.setCell ⟨G, k, none⟩ (.bool true)) ∧ G < (W.setCell ⟨G, k, none⟩ (.bool true)).heap.size :=
  ⟨h.ub.put k true, h.bel.setCell (by have := h.g0; show w.heap.size ≤ G; omega) _, by simpa using h.lt⟩
theorem wp_appB {ops : Array Oper} {rest : List Oper} {o : Oper} {a : Act} {Q : Exit → Act → World → Prop} {out : List Nd} (n : Nd) (W : World) (hgd : o.guard = none) (s x : Operand)
    (ho : o.op = .call { callee := .builtin .append, args := #[s, x], argTypes := #[23, 23] }) (base b : Nat) (v : Value)
    (hs : a.eval s = v) (hown : W.ownsRow base 53 6 v out.length (nds out)) (hx : a.eval x = .slice (some ⟨b, 0, none⟩) 1 1)
    (hc : ∀ j u, (ndC n)[j]? = some u → W.cell? ⟨b, j, none⟩ = some u) (hl : out.length ≤ 1000000) (hbase : base ≤ W.heap.size)
    (h : ∀ v' w', w'.ownsRow base 53 6 v' (out ++ [n]).length (nds (out ++ [n])) → W.grownBy w' v.ownBlock → wpList Tryd.prog ops Q rest (a.put o.dst v') w') : wpList Tryd.prog ops Q (o :: rest) a W := by
  obtain ⟨i0, hi, hz0, hz1, hz2⟩ := info_parts Tryd.infoNode
  refine wpList_append_own W hgd s x 23 ho base 53 i0 _ 6 48 Tryd.underlying23 hi hz0 hz1 hz2 rfl (by decide) v out.length (nds out) hs hown ⟨b, 0, none⟩ 1 1 (ndC n) hx rfl ?_ ?_ (by unfold maxLen; omega) (by omega) hbase ?_
  · intro j u hj
    have := hc j u hj
    rw [addr_zero]
    exact this
  · intro u hu
    simp only [ndC, List.mem_cons, List.not_mem_nil, or_false] at hu
    rcases hu with rfl | rfl | rfl | rfl | rfl | rfl <;> rfl
  · intro v' w' h1 h2 _
    refine h v' w' ?_ h2
    rw [nds_append, List.length_append]
    have e : nds [n] = ndC n := by simp [nds]
    rw [e]
    exact h1
/-- the state of the second loop: the list so far, the numbers -/
structure Tw (o : List Nd) (last : Nat) (w : World) (G G2 k : Nat) (W : World) (A : Option Addr) (c : Nat) : Prop where
  g0 : w.heap.size = G
  bel : Below w.heap.size w W
  ub : UB W G (marksOf o last)
  rs : RS W G2 (tkL o (marksOf o last) (last + 1) k).2
  row : W.ownsRow (G2 + 1) 53 6 (.slice A (tkL o (marksOf o last) (last + 1) k).1.length c) (tkL o (marksOf o last) (last + 1) k).1.length (nds (tkL o (marksOf o last) (last + 1) k).1)
  gg : G < G2
  lt : G2 < W.heap.size
theorem tkL_few (o : List Nd) (u : List Bool) (m : Nat) : ∀ i, (tkL o u m i).1.length ≤ i
  | 0 => Nat.zero_le _
  | i + 1 => by
    have := tkL_few o u m i
    unfold tkL
    split
    · rw [List.length_append]; simp; exact this
    · omega
theorem tkL_yes {o : List Nd} {u : List Bool} {m i : Nat} (h : u.getD i false = true) : tkL o u m (i + 1) = ((tkL o u m i).1 ++ [wOps (o.getD i nd0) ((tkL o u m i).2.set i (tkL o u m i).1.length)], (tkL o u m i).2.set i (tkL o u m i).1.length) := if_pos h
theorem tkL_no {o : List Nd} {u : List Bool} {m i : Nat} (h : ¬ u.getD i false = true) : tkL o u m (i + 1) = tkL o u m i := if_neg h
theorem Tw.alloc {o : List Nd} {last G G2 k c : Nat} {w W : World} {A : Option Addr} (h : Tw o last w G G2 k W A c) (b : Obj) : Tw o last w G G2 k (W.alloc b) A c :=
  ⟨h.g0, h.bel.alloc h.bel.size b, h.ub.keep (Below.heap_alloc W b _ (by have := h.gg; have := h.lt; omega)), h.rs.keep (Below.heap_alloc W b _ h.lt), h.row.alloc _, h.gg, by have := h.lt; simp; omega⟩
theorem marks_len (o : List Nd) (last : Nat) : (marksOf o last).length = last + 1 := by unfold marksOf; rw [markL_len]; simp
theorem Tw.put {o : List Nd} {last G G2 k c : Nat} {w W : World} {A : Option Addr} (h : Tw o last w G G2 k W A c) (v : Nat) :
    RS (W.setCell ⟨G2, k, none⟩ (.int .i64 (v : Int))) G2 ((tkL o (marksOf o last) (last + 1) k).2.set k v) ∧ Below w.heap.size w (W.setCell ⟨G2, k, none⟩ (.int .i64 (v : Int))) ∧ UB (W.setCell ⟨G2, k, none⟩ (.int .i64 (v : Int))) G (marksOf o last) ∧ G2 < (W.setCell ⟨G2, k, none⟩ (.int .i64 (v : Int))).heap.size ∧
    (W.setCell ⟨G2, k, none⟩ (.int .i64 (v : Int))).ownsRow (G2 + 1) 53 6 (.slice A (tkL o (marksOf o last) (last + 1) k).1.length c) (tkL o (marksOf o last) (last + 1) k).1.length (nds (tkL o (marksOf o last) (last + 1) k).1) :=
  ⟨h.rs.put k v, h.bel.setCell (by have := h.g0; have := h.gg; show w.heap.size ≤ G2; omega) _, h.ub.keep (Below.heap_setCell _ _ _ _ (by have := h.gg; show G ≠ G2; omega)), by simpa using h.lt, ownsRow_setCell_below h.row (by show G2 < G2 + 1; omega) _⟩
set_option maxHeartbeats 4000000 in
theorem take_own {B base bw bm : Nat} {w : World} {o : List Nd} (h : Bu B base bw bm w o) (last : Nat) (hl : last < o.length) (hm : o.length ≤ 999000) :
    Calls Tryd.prog 36 #[.pointer (some ⟨bw, 0, none⟩), .int .i64 (last : Int)] w fun e w' => ∃ A' c', e = .returned (.tuple #[.slice A' (compF (takeL o last)).length c', .int .i64 (fErr (takeL o last))]) ∧ w'.ownsRow w.heap.size 53 6 (.slice A' (compF (takeL o last)).length c') (compF (takeL o last)).length (nds (compF (takeL o last))) ∧ Below w.heap.size w w' := by
  have HU := Lib.hid h
  have HL := Lib.hid hl
  have HM := Lib.hid hm
  have hmb : ∀ W, (Instr.makeSlice 95 (.int .i64 ((last : Int) + 1)) (.int .i64 ((last : Int) + 1))).run Tryd.prog W = .ok (.slice (some ⟨W.heap.size, 0, none⟩) (last + 1) (last + 1)) (W.alloc (.cells (ufalses (last + 1)) 4)) := fun W => makeUB W (last + 1) (by omega)
  have hmi : ∀ W, (Instr.makeSlice 73 (.int .i64 ((last : Int) + 1)) (.int .i64 ((last : Int) + 1))).run Tryd.prog W = .ok (.slice (some ⟨W.heap.size, 0, none⟩) (last + 1) (last + 1)) (W.alloc (.cells (zeros (last + 1)) 3)) := fun W => makeI W (last + 1) (by omega)
  have hs1 : wrap64 ((last : Int) + 1) = ((last + 1 : Nat) : Int) := by unfold wrap64; omega
  have hs2 : IntKind.i64.wrap ((last : Int) + 1) = ((last + 1 : Nat) : Int) := by rw [IntKind.wrap_i64]; omega
  have HM0 : Hid (Mr B base bw bm o last w w.heap.size (last + 1) ((List.replicate (last + 1) false).set last true) ((w.alloc (.cells (ufalses (last + 1)) 4)).setCell ⟨w.heap.size, last, none⟩ (.bool true))) := Lib.hid (by
    have hb := UB.made w (last + 1)
    have e1 : Below w.heap.size w (w.alloc (.cells (ufalses (last + 1)) 4)) := (Below.refl _ w).alloc (Nat.le_refl _) _
    exact ⟨rfl, e1.setCell (Nat.le_refl _) _, hb.put last true, by simp, rfl, by simp⟩)
  have HC0 : Hid ((w.alloc (.cells (ufalses (last + 1)) 4)).cell? ⟨w.heap.size, last, none⟩ = some (.bool false) ∧ (w.alloc (.cells (ufalses (last + 1)) 4)).frozen? ⟨w.heap.size, last, none⟩ = false) := Lib.hid (by
    have hb := UB.made w (last + 1)
    have hc := hb.cell (k := last) (by simp)
    rw [rep_f] at hc
    exact ⟨hc, hb.free _⟩)
  clear h
  have hmb0 := hmb w
  clear hmb
  generalize w.alloc (.cells (ufalses (last + 1)) 4) = w1 at *
  have hc0 := HC0.out.1
  have hf0 := HC0.out.2
  go_enter Tryd.func36, Tryd.ntmps36
  go_wp2
  clear hmb0 hc0 hf0 HC0
  generalize w1.setCell ⟨w.heap.size, last, none⟩ (.bool true) = w2 at *
  generalize hG : w.heap.size = G at *
  have HG := Lib.hid hG
  clear hG
  go_loopw [7, 8] (fun v _ wr => ∃ (m : Nat) (u : List Bool), m ≤ last + 1 ∧ v = .int .i64 ((m : Int) - 1) ∧ Hid (Mr B base bw bm o last w G m u wr)) (fun v _ _ => (intOf v + 1).toNat)
  case atStart => exact ⟨last + 1, _, Nat.le_refl _, by go_num, HM0⟩
  case round =>
    obtain ⟨m, u, hm, rfl, HD⟩ := hrel
    cases m with
    | succ i =>
      have e1 : (((i + 1 : Nat) : Int) - 1) = (i : Int) := by omega
      rw [e1] at *
      have hio : i < o.length := by omega
      have hBu := HU.out.below HD.out.bel
      have hres := HD.out.res
      have hul := HD.out.len
      have hops := HU.out.bd i hio
      have hkn := HU.out.kn i hio
      have henv := hBu.env
      obtain ⟨n, hn⟩ : ∃ n, o.getD i nd0 = n := ⟨_, rfl⟩
      obtain ⟨ad, c2, k0, kb, k1, k2, k3, k4, k5, k6⟩ := hBu.at_ hio hn
      have hres1 : markL o i (mkY o i (mkX o i u)) = marksOf o last := hres
      obtain ⟨mo, hmo, _, h22⟩ := known_nat hkn
      rw [hn] at hops hkn hmo
      have HAR : Hid (∀ b, (wr.alloc b).cell? ⟨1, mo, none⟩ = some (.int .i64 (shO (mo : Int)))) := Lib.hid (fun b => by rw [World.cell?_alloc_lt _ _ _ (by have := henv.lo; have := hBu.size; show 1 < wr.heap.size; omega)]; exact henv.ops mo h22)
      have hx0 : usesX n.op = true → 0 ≤ n.x ∧ n.x.toNat < i := fun k => opsOk_x hops k
      have hy0 : usesY n.op = true → 0 ≤ n.y ∧ n.y.toNat < i := fun k => opsOk_y hops k
      have HX := Lib.hid hx0
      have HY := Lib.hid hy0
      have HRES := Lib.hid hres1
      have HHN := Lib.hid hn
      have HOP := Lib.hid hmo
      have lo := henv.lo
      have hsz := hBu.size
      have hlw := hBu.lwB
      clear hres hops hkn henv hn hmo hx0 hy0 hres1 hBu
      obtain ⟨op, ni, ne, ng, nx, ny⟩ := n
      dsimp only at *
      have hop2 := HOP.out
      subst hop2
      clear HOP
      have HDA := Lib.hid (HD.out.alloc (.cells #[.int .i64 (mo : Int), .int .i64 ni, .int .i64 ne, .int .i64 ng, .int .i64 nx, .int .i64 ny] 53))
      have har := HAR.out (.cells #[.int .i64 (mo : Int), .int .i64 ni, .int .i64 ne, .int .i64 ng, .int .i64 nx, .int .i64 ny] 53)
      have hGn : G ≠ wr.heap.size := by have := HD.out.lt; omega
      have hcu := HDA.out.ub.cell (k := i) (by omega)
      by_cases hu : u.getD i false = true
      · rw [hu] at hcu
        by_cases hy : usesY (mo : Int) = true
        · have hx := usesY_X hy
          rw [arO_2 hy] at har
          have qx := HX.out hx
          have qy := HY.out hy
          obtain ⟨kx, rfl⟩ : ∃ kx : Nat, nx = (kx : Int) := ⟨nx.toNat, by omega⟩
          obtain ⟨ky, rfl⟩ : ∃ ky : Nat, ny = (ky : Int) := ⟨ny.toNat, by omega⟩
          have lx : kx < i := by omega
          have ly : ky < i := by omega
          have hfx := HDA.out.ub.free kx
          have hcx := HDA.out.ub.cell (k := kx) (by omega)
          have HE : Hid (markL o i ((u.set kx true).set ky true) = marksOf o last) := Lib.hid (by
            have e := HRES.out
            rw [mkX_yes hu (by rw [HHN.out]; exact hx), HHN.out] at e
            rw [mkY_yes (setB hu) (by rw [HHN.out]; exact hy), HHN.out] at e
            simpa using e)
          obtain ⟨s1, s2, s3⟩ := HDA.out.set0 kx
          have S1 := Lib.hid s1
          have hb1 := (World.cell?_setCell_other (wr.alloc (.cells #[.int .i64 (mo : Int), .int .i64 ni, .int .i64 ne, .int .i64 ng, .int .i64 (kx : Int), .int .i64 (ky : Int)] 53)) ⟨G, kx, none⟩ ⟨1, mo, none⟩ (.bool true) (fun e2 => by have h9 := congrArg Addr.block e2; have := HU.out.size; have := HG.out; dsimp only at h9; omega)).trans har
          have hb2 := S1.out.cell (k := i) (by rw [List.length_set]; omega)
          rw [setB hu] at hb2
          have hb3 := S1.out.cell (k := ky) (by rw [List.length_set]; omega)
          have hb4 := S1.out.free ky
          clear qx qy s1 s2 s3 hu hx hy
          generalize u.getD kx false = bx at *
          generalize (u.set kx true).getD ky false = by0 at *
          go_wp2
          go_roundw
          case rel => exact ⟨i, _, by omega, by go_num, Lib.hid (HDA.out.two kx ky HE.out)⟩
          case measure => first | (simp [intOf]; done) | (simp [intOf]; omega)
        · have HEY : Hid (∀ v, mkY o i v = v) := Lib.hid (fun v => mkY_no (fun k => hy (by rw [← show (o.getD i nd0).op = (mo : Int) from by rw [HHN.out]]; exact k.2)))
          by_cases hx : usesX (mo : Int) = true
          · rw [arO_1 hx hy] at har
            have qx := HX.out hx
            obtain ⟨kx, rfl⟩ : ∃ kx : Nat, nx = (kx : Int) := ⟨nx.toNat, by omega⟩
            have lx : kx < i := by omega
            have hfx := HDA.out.ub.free kx
            have hcx := HDA.out.ub.cell (k := kx) (by omega)
            have HE : Hid (markL o i (u.set kx true) = marksOf o last) := Lib.hid (by
              have e := HRES.out
              rw [mkX_yes hu (by rw [HHN.out]; exact hx), HHN.out, HEY.out] at e
              simpa using e)
            obtain ⟨s1, s2, s3⟩ := HDA.out.set0 kx
            have S1 := Lib.hid s1
            have hb1 := (World.cell?_setCell_other (wr.alloc (.cells #[.int .i64 (mo : Int), .int .i64 ni, .int .i64 ne, .int .i64 ng, .int .i64 (kx : Int), .int .i64 ny] 53)) ⟨G, kx, none⟩ ⟨1, mo, none⟩ (.bool true) (fun e2 => by have h9 := congrArg Addr.block e2; have := HU.out.size; have := HG.out; dsimp only at h9; omega)).trans har
            have hb2 := S1.out.cell (k := i) (by rw [List.length_set]; omega)
            rw [setB hu] at hb2
            clear qx s1 s2 s3 hu hx hy
            generalize u.getD kx false = bx at *
            go_wp2
            go_roundw
            case rel => exact ⟨i, _, by omega, by go_num, Lib.hid (HDA.out.set kx HE.out)⟩
            case measure => first | (simp [intOf]; done) | (simp [intOf]; omega)
          · rw [arO_0 hx] at har
            have HE : Hid (markL o i u = marksOf o last) := Lib.hid (by
              have e := HRES.out
              rw [mkX_no (fun k => hx (by rw [← show (o.getD i nd0).op = (mo : Int) from by rw [HHN.out]]; exact k.2)), HEY.out] at e
              exact e)
            clear hu hx hy
            go_wp2
            go_roundw
            case rel => exact ⟨i, _, by omega, by go_num, Lib.hid (HDA.out.next HE.out)⟩
            case measure => first | (simp [intOf]; done) | (simp [intOf]; omega)
      · have HE : Hid (markL o i u = marksOf o last) := Lib.hid (by
          have e := HRES.out
          rw [mkX_no (fun k => hu k.1), mkY_no (fun k => hu k.1)] at e
          exact e)
        have hu2 : u.getD i false = false := by simpa using hu
        rw [hu2] at hcu
        clear hu hu2
        go_wp2
        go_roundw
        case rel => exact ⟨i, _, by omega, by go_num, Lib.hid (HDA.out.next HE.out)⟩
        case measure => first | (simp [intOf]; done) | (simp [intOf]; omega)
    | zero =>
      have e0 : (((0 : Nat) : Int) - 1) = -1 := by omega
      rw [e0] at *
      have hu : u = marksOf o last := HD.out.res
      subst hu
      have HT0 : Hid (Tw o last w G wr.heap.size 0 (wr.alloc (.cells (zeros (last + 1)) 3)) none 0) := Lib.hid (by
        refine ⟨HD.out.g0, HD.out.bel.alloc HD.out.bel.size _, HD.out.ub.keep (Below.heap_alloc wr _ _ HD.out.lt), ?_, World.ownsRow_nil _ _ _ _, HD.out.lt, by simp⟩
        have := heap_alloc_new wr (.cells (zeros (last + 1)) 3)
        unfold RS
        rw [this, zeros_iv]; rfl)
      have hmi0 := hmi wr
      clear hmi
      generalize wr.alloc (.cells (zeros (last + 1)) 3) = w5 at *
      generalize wr.heap.size = G2 at *
      have hBu := HU.out.below HT0.out.bel
      obtain ⟨Ax, cx, hx1, hx2⟩ := hBu.st.out
      have hcap := own_capB hx2
      have HRD : Hid (Reads w w.heap.size 6 Ax o.length (nds o)) := Lib.hid (by
        obtain ⟨Ay, cy, hy1, hy2⟩ := HU.out.st.out
        have e := (HT0.out.bel.cell (p := ⟨bw, 0, none⟩) HU.out.lwB).trans hy1
        rw [hx1] at e
        injection e with e
        injection e with e1 e2 e3
        subst e1
        exact Reads.of_own hy2)
      have hl2 := hl
      obtain ⟨ad, hAx, hadb, hadc⟩ := HRD.out.2 (by omega)
      subst hAx
      clear hadc hx2 hBu HD HM0
      go_wp2
      clear hx1 hmi0
      go_loopw [9, 11, 12, 72] (fun v _ _ i wq => ∃ (k : Nat) (A : Option Addr) (c : Nat), k ≤ last + 1 ∧ i = .int .i64 k ∧ v = .slice A (tkL o (marksOf o last) (last + 1) k).1.length c ∧ Hid (Tw o last w G G2 k wq A c)) (fun _ _ _ i _ => last + 1 - (intOf i).toNat)
      case atStart => exact ⟨0, none, 0, Nat.zero_le _, rfl, rfl, HT0⟩
      case round =>
        obtain ⟨k, A, c, hk, rfl, rfl, HT⟩ := hrel
        rename_i wq
        by_cases hlt : k < last + 1
        · obtain ⟨ad2, had2, hb, m0, m1, m2, m3, m4, m5⟩ := (HRD.out.below HT.out.bel).nd_at (k := k) (by omega)
          injection had2 with had2
          subst had2
          have l1 := add_cell m1
          have l2 := add_cell m2
          have l3 := add_cell m3
          have l4 := add_cell m4
          have l5 := add_cell m5
          have hkn := HU.out.kn k (by omega)
          have hops := HU.out.bd k (by omega)
          obtain ⟨x, hx⟩ : ∃ x, o.getD k nd0 = x := ⟨_, rfl⟩
          rw [hx] at m0 m1 m2 m3 m4 m5 l1 l2 l3 l4 l5 hkn hops
          have HTA := Lib.hid (HT.out.alloc (.cells #[.int .i64 x.op, .int .i64 x.i, .int .i64 x.e, .int .i64 x.g, .int .i64 x.x, .int .i64 x.y] 53))
          have hcu := HTA.out.ub.cell (k := k) (by rw [marks_len]; omega)
          have hGw := HT.out.gg
          have hlw := HT.out.lt
          have hnl := tkL_len o (marksOf o last) (last + 1) k
          have hfl := tkL_few o (marksOf o last) (last + 1) k
          by_cases hu : (marksOf o last).getD k false = true
          · rw [hu] at hcu
            have hE := tkL_yes (o := o) (m := last + 1) hu
            rw [hx] at hE
            have hc2 := HTA.out.rs.cell (k := k) (by omega)
            have hf2 := HTA.out.rs.free k
            have HTS := Lib.hid (HT.out.put (tkL o (marksOf o last) (last + 1) k).1.length)
            have HW : Hid (∀ W', RS W' G2 ((tkL o (marksOf o last) (last + 1) k).2.set k (tkL o (marksOf o last) (last + 1) k).1.length) → Below w.heap.size w W' → Calls Tryd.prog 57 #[.agg #[.int .i64 x.op, .int .i64 x.i, .int .i64 x.e, .int .i64 x.g, .int .i64 x.x, .int .i64 x.y], .slice (some ⟨G2, 0, none⟩) (last + 1) (last + 1)] W' fun r w' => r = .returned (nv (wOps x ((tkL o (marksOf o last) (last + 1) k).2.set k (tkL o (marksOf o last) (last + 1) k).1.length))) ∧ Below W'.heap.size W' w') := Lib.hid (fun W' hrs hb2 => by
              have hu2 := HU.out.below hb2
              have hrd := hrs.reads
              rw [List.length_set, hnl] at hrd
              exact wops_any x _ (some ⟨G2, 0, none⟩) (last + 1) (last + 1) B W' hu2.env hu2.size hkn hrd (fun u => by have := opsOk_x hops u; have := hops.1; rw [if_pos u] at this; omega) (fun u => by have := opsOk_y hops u; have := hops.2; rw [if_pos u] at this; omega))
            have HEQ := Lib.hid hE
            clear hE hx hkn hops m1 m2 m3 m4 m5
            generalize (marksOf o last).getD k false = mk0 at *
            obtain ⟨z, hz⟩ : ∃ z, wOps x ((tkL o (marksOf o last) (last + 1) k).2.set k (tkL o (marksOf o last) (last + 1) k).1.length) = z := ⟨_, rfl⟩
            rw [hz] at HW HEQ
            clear hz
            generalize (tkL o (marksOf o last) (last + 1) k).2.getD k 0 = d0 at *
            go_wp2_with fail
            have HAL : Hid (∀ b, Below w.heap.size w ((wr.setCell ⟨G2, k, none⟩ (.int .i64 (((tkL o (marksOf o last) (last + 1) k).1.length : Nat) : Int))).alloc b) ∧ RS ((wr.setCell ⟨G2, k, none⟩ (.int .i64 (((tkL o (marksOf o last) (last + 1) k).1.length : Nat) : Int))).alloc b) G2 ((tkL o (marksOf o last) (last + 1) k).2.set k (tkL o (marksOf o last) (last + 1) k).1.length) ∧
                UB ((wr.setCell ⟨G2, k, none⟩ (.int .i64 (((tkL o (marksOf o last) (last + 1) k).1.length : Nat) : Int))).alloc b) G (marksOf o last) ∧ G2 < ((wr.setCell ⟨G2, k, none⟩ (.int .i64 (((tkL o (marksOf o last) (last + 1) k).1.length : Nat) : Int))).alloc b).heap.size ∧
                ((wr.setCell ⟨G2, k, none⟩ (.int .i64 (((tkL o (marksOf o last) (last + 1) k).1.length : Nat) : Int))).alloc b).ownsRow (G2 + 1) 53 6 (.slice A (tkL o (marksOf o last) (last + 1) k).1.length c) (tkL o (marksOf o last) (last + 1) k).1.length (nds (tkL o (marksOf o last) (last + 1) k).1)) := Lib.hid (fun b => by
              obtain ⟨q1, q2, q3, q4, q5⟩ := HTS.out
              exact ⟨q2.alloc q2.size _, q1.keep (Below.heap_alloc _ b _ q4), q3.keep (Below.heap_alloc _ b _ (by omega)), by have := q4; simp at this ⊢; omega, q5.alloc _⟩)
            refine (HW.out _ (HAL.out _).2.1 (HAL.out _).1).mono ?_
            rintro e w6 ⟨rfl, hb6⟩
            unfold nv
            obtain ⟨q1, q2, q3, q4, q5⟩ := HAL.out (.cells #[.int .i64 x.op, .int .i64 x.i, .int .i64 x.e, .int .i64 x.g, .int .i64 x.x, .int .i64 x.y] 53)
            generalize (wr.setCell ⟨G2, k, none⟩ (.int .i64 (((tkL o (marksOf o last) (last + 1) k).1.length : Nat) : Int))).alloc (.cells #[.int .i64 x.op, .int .i64 x.i, .int .i64 x.e, .int .i64 x.g, .int .i64 x.x, .int .i64 x.y] 53) = wb at *
            have r1 := q1.trans (hb6.mono q1.size)
            have r2 := q2.keep (hb6.block _ q4)
            have r3 := q3.keep (hb6.block _ (by omega))
            have r4 : G2 < w6.heap.size := Nat.lt_of_lt_of_le q4 hb6.size
            have HOW := Lib.hid (own_keep1 q5 (fun g hg => hb6.block g (q5.lt g hg).2))
            have HR6 := Lib.hid (And.intro r1 (And.intro r2 r3))
            have hg0 := HT.out.g0
            clear q1 q2 q3 q4 q5 hb6 r1 r2 r3 HAL HTS HTA HW m0 l1 l2 l3 l4 l5 hcu hc2 hf2
            generalize (tkL o (marksOf o last) (last + 1) k).2.set k (tkL o (marksOf o last) (last + 1) k).1.length = nu at *
            generalize (tkL o (marksOf o last) (last + 1) k).1 = L at *
            go_wp2_with (at_builtin; refine wp_appB z _ rfl _ _ rfl (G2 + 1) _ _ rfl (HOW.out.alloc _) rfl ?k1 ?k2 ?k3 ?_)
            case k1 =>
              intro j u hj
              have hh := heap_alloc_new w6 (.cells #[.int .i64 z.op, .int .i64 z.i, .int .i64 z.e, .int .i64 z.g, .int .i64 z.x, .int .i64 z.y] 53)
              have := Lib.cell_of_heap hh j
              rw [this, ← hj]
              simp [ndC]
            case k2 => omega
            case k3 => simp; omega
            · intro v' w7 hown7 hgrow
              obtain ⟨g7, c7, hv7, _, _⟩ := hown7.form (by simp)
              subst hv7
              have HT7 : Hid (Tw o last w G G2 (k + 1) w7 (some ⟨g7, 0, none⟩) c7) := Lib.hid (by
                have e1 : (tkL o (marksOf o last) (last + 1) (k + 1)) = (L ++ [z], nu) := HEQ.out
                obtain ⟨p1, p2, p3⟩ := HR6.out
                have hlt1 : ∀ g, (Value.slice A L.length c).ownBlock = some g → G2 + 1 ≤ g := fun g hg => (HOW.out.lt g hg).1
                refine ⟨hg0, ?_, ?_, ?_, ?_, hGw, ?_⟩
                · exact (p1.alloc p1.size _).grown hgrow (by have := p1.size; simp; omega) (fun g hg => by have := hlt1 g hg; omega)
                · exact p3.keep ((hgrow.block G (by simp; omega) (fun e => by have := hlt1 G e.symm; omega)).trans (Below.heap_alloc w6 _ _ (by omega)))
                · rw [e1]
                  exact p2.keep ((hgrow.block G2 (by simp; omega) (fun e => by have := hlt1 G2 e.symm; omega)).trans (Below.heap_alloc w6 _ _ (by omega)))
                · rw [e1]
                  have e2 : (L ++ [z]).length = L.length + 1 := by simp
                  show w7.ownsRow (G2 + 1) 53 6 (.slice (some ⟨g7, 0, none⟩) (L ++ [z]).length c7) (L ++ [z]).length (nds (L ++ [z]))
                  rw [e2]
                  first | exact hown7 | (rw [e2] at hown7; exact hown7)
                · have := hgrow.size
                  simp at this
                  omega)
              clear hown7 hgrow
              go_wp2
              go_roundw
              case rel => exact ⟨k + 1, _, _, by omega, by go_num, by rw [show tkL o (marksOf o last) (last + 1) (k + 1) = (L ++ [z], nu) from HEQ.out]; simp, HT7⟩
              case measure => first | (simp [intOf]; done) | (simp [intOf]; omega)
          · have hu2 : (marksOf o last).getD k false = false := by simpa using hu
            rw [hu2] at hcu
            have hE := tkL_no (o := o) (m := last + 1) hu
            have HEQ := Lib.hid hE
            clear hE hu hu2
            go_wp2
            go_roundw
            case rel =>
              refine ⟨k + 1, A, c, by omega, by go_num, by rw [HEQ.out], Lib.hid ?_⟩
              have h9 := HTA.out
              exact ⟨h9.g0, h9.bel, h9.ub, by rw [HEQ.out]; exact h9.rs, by rw [HEQ.out]; exact h9.row, h9.gg, h9.lt⟩
            case measure => first | (simp [intOf]; done) | (simp [intOf]; omega)
        · have hkl : k = last + 1 := by omega
          subst hkl
          have HQ : Hid ((tkL o (marksOf o last) (last + 1) (last + 1)).1 = takeL o last) := Lib.hid rfl
          have hrow := HT.out.row
          have hfl := tkL_few o (marksOf o last) (last + 1) (last + 1)
          rw [HQ.out] at hrow hfl ⊢
          obtain ⟨q, hq⟩ : ∃ q, takeL o last = q := ⟨_, rfl⟩
          rw [hq] at hrow hfl ⊢
          have HQ2 := Lib.hid hq
          clear hq
          have HRW := Lib.hid (Reads.of_own hrow)
          have HBE := Lib.hid HT.out.bel
          clear hrow HT HQ
          go_wp2_with fail
          refine (pCompact_own q A q.length c _ HRW.out (by unfold maxLen; omega)).mono ?_
          rintro e w6 ⟨A', c', rfl, hr6, hb6⟩
          have HR6 := Lib.hid (And.intro hr6 hb6)
          clear hr6 hb6
          go_wp2_with fail
          refine (pCheck_any q A q.length c _ ((HRW.out.below HR6.out.2).more HR6.out.2.size) (by unfold maxLen; omega)).mono ?_
          rintro e w7 ⟨rfl, hb7⟩
          have HB7 := Lib.hid hb7
          clear hb7
          go_wp2
          go_ret2
          rw [HQ2.out]
          exact ⟨A', c', rfl, own_keep1 (own_base HR6.out.1 HBE.out.size) (fun g hg => HB7.out.block g (HR6.out.1.lt g hg).2), (HBE.out.trans (HR6.out.2.mono HBE.out.size)).trans (HB7.out.mono (by have := HBE.out.size; have := HR6.out.2.size; omega))⟩
theorem take_any {B base bw bm : Nat} {w : World} {o : List Nd} (h : Bu B base bw bm w o) (last : Nat) (hl : last < o.length) (hm : o.length ≤ 999000) :
    Calls Tryd.prog 36 #[.pointer (some ⟨bw, 0, none⟩), .int .i64 (last : Int)] w fun e w' => ∃ A' c', e = .returned (.tuple #[.slice A' (compF (takeL o last)).length c', .int .i64 (fErr (takeL o last))]) ∧ Reads w' w'.heap.size 6 A' (compF (takeL o last)).length (nds (compF (takeL o last))) ∧ Below w.heap.size w w' :=
  (take_own h last hl hm).mono (by
    rintro e w' ⟨A', c', h1, h2, h3⟩
    exact ⟨A', c', h1, Reads.of_own h2, h3⟩)
end Go.Proofs.YtcdmchaehafijaaDoor
