/- Layer 8: the program's negation normal form. -/
import Derived.Test.YtkkkomkljpolbaaDoorMRh
namespace Go.Proofs.YtkkkomkljpolbaaDoor
open Go.RowKit Go.Proofs.Ws Go.Maps
set_option maxRecDepth 100000
theorem step_appI {ops : Array Oper} {o : Oper} {a : Act} {K : Act → World → Prop} {Q : Exit → Act → World → Prop} {E : Prop} {l : List Nat} (v : Nat) (W : World) (hgd : o.guard = none) (s x : Operand)
    (ho : o.op = .call { callee := .builtin .append, args := #[s, x], argTypes := #[60, 60] }) (base b : Nat) (V : Value)
    (hs : a.eval s = V) (hown : W.ownsRow base 3 1 V l.length (iv l)) (hx : a.eval x = .slice (some ⟨b, 0, none⟩) 1 1)
    (hc : W.cell? ⟨b, 0, none⟩ = some (.int .i64 (v : Int))) (hl : l.length ≤ 1000000) (hbase : base ≤ W.heap.size)
    (h : ∀ g cap w', w'.ownsRow base 3 1 (.slice (some ⟨g, 0, none⟩) (l.length + 1) cap) (l ++ [v]).length (iv (l ++ [v])) → W.grownBy w' V.ownBlock → (V.ownBlock = some g ∨ W.heap.size ≤ g) → g < w'.heap.size → K (a.put o.dst (.slice (some ⟨g, 0, none⟩) (l.length + 1) cap)) w') :
    if Region.wanted o (yielded ops a.tmps) = true then Oper.wp Tryd.prog o a W K Q else E := by
  obtain ⟨i0, hi, hz0, hz1, hz2⟩ := info_parts Tryd.infoI
  refine step_append_lies W hgd s x 60 ho base 3 i0 _ 1 8 Tryd.underlying60 hi hz0 hz1 hz2 rfl (by decide) V l.length (iv l) hs hown ⟨b, 0, none⟩ 1 1 [.int .i64 (v : Int)] hx rfl ?_ ?_ (by decide) (by unfold maxLen; omega) (by omega) hbase _ rfl ?_
  · intro j u hj
    cases j with
    | zero => simp at hj; subst hj; rw [addr_zero]; exact hc
    | succ j => simp at hj
  · intro u hu
    rw [List.mem_singleton.1 hu]; rfl
  · intro g cap w' h1 h2 h3 h4
    refine h g cap w' ?_ h2 (h3.imp id (fun e => by omega)) h4
    have e : iv (l ++ [v]) = iv l ++ [.int .i64 (v : Int)] := by unfold iv; simp
    rw [e, List.length_append]
    exact h1
theorem Ap.pend {B base bw bm br N cq : Nat} {w W Wa W7 : World} {S1 S2 V1 V2 : Value} {l1 l2 : List Nat} {Aq : Option Addr} {q o : List Nd} (h : Ap B base bw bm br N w S1 S2 V1 l1 V2 l2 Aq cq q o W) (hg : Wa.grownBy W7 V1.ownBlock) :
    Hid (∀ (b : Nat) (u : Value), W.heap.size ≤ b → b < Wa.heap.size → Wa.cell? ⟨b, 0, none⟩ = some u → W7.cell? ⟨b, 0, none⟩ = some u) :=
  Lib.hid (fun b u h1 h2 h3 => (World.cell?_of_block (a := ⟨b, 0, none⟩) (hg.block b h2 (fun e => by have := (h.a1 b e.symm).1.lt; omega))).trans h3)
theorem nf_rel {B base bw bm br N cq g7 c7 g8 c8 v1 v2 : Nat} {w W : World} {S1 S2 : Value} {l1 l2 : List Nat} {Aq : Option Addr} {q o : List Nd} {s' : NS} (hs : s' = ⟨l1 ++ [v1], l2 ++ [v2], o⟩) (hB : B ≤ br)
    (h : Ap B base bw bm br N w S1 S2 (.slice (some ⟨g7, 0, none⟩) (l1.length + 1) c7) (l1 ++ [v1]) (.slice (some ⟨g8, 0, none⟩) (l2.length + 1) c8) (l2 ++ [v2]) Aq cq q o W) :
    Hid (Ap B base bw bm br N w (.slice (some ⟨g7, 0, none⟩) s'.fo.length c7) (.slice (some ⟨g8, 0, none⟩) s'.ne.length c8) (.slice (some ⟨g7, 0, none⟩) s'.fo.length c7) s'.fo (.slice (some ⟨g8, 0, none⟩) s'.ne.length c8) s'.ne Aq cq q s'.o ((W.setCell ⟨br, 1, none⟩ (.slice (some ⟨g7, 0, none⟩) (l1.length + 1) c7)).setCell ⟨br, 2, none⟩ (.slice (some ⟨g8, 0, none⟩) (l2.length + 1) c8))) := by
  subst hs
  have h1 := h.store hB
  have e1 : (l1 ++ [v1]).length = l1.length + 1 := by simp
  have e2 : (l2 ++ [v2]).length = l2.length + 1 := by simp
  dsimp only
  rw [e1, e2]
  exact Lib.hid h1
theorem top1 (w : World) (v : Value) (t : TypeId) (b : Nat) (hb : b = w.heap.size) : (w.alloc (.cells #[v] t)).cell? ⟨b, 0, none⟩ = some v := by
  subst hb
  exact Lib.cell_of_heap (heap_alloc_new w (.cells #[v] t)) 0
theorem nf_gr {f : List Nd} (h : fErr f = 0) : Gr (7 * (compF f).length) [] ((nfL (compF f) (compF f).length).fo.getD ((compF f).length - 1) 0, (nfL (compF f) (compF f).length).o) (nfT (tOf f)).1 := by
  have ok := OkL_of (compF_ok h)
  have g := nf_ok ok.ops (compF f).length (Nat.le_refl _)
  have hpos := List.length_pos_iff.2 ok.ne
  have := g.at_ ((compF f).length - 1) (by omega)
  rw [← tOf_comp h]
  exact ⟨g.bd, List.nil_prefix, this.1, this.2.2.1, by have := g.few; simpa using this⟩
theorem nfs_fin {q : List Nd} (hq : opsL q) (hk : knownL q) (hr : ∀ i, i < q.length → NdR (q.getD i nd0)) {i : Nat} (hi : i < q.length) (hl : q.length ≤ 1000) {s : NS} (h : NfS q i s) : FIn s (q.getD i nd0) := by
  have hop := hq i hi
  have hn := hr i hi
  have hw : 0 ≤ (q.getD i nd0).x ∧ (q.getD i nd0).x ≤ 1000 ∧ 0 ≤ (q.getD i nd0).y ∧ (q.getD i nd0).y ≤ 1000 := by
    have h1 := hop.1
    have h2 := hop.2
    split at h1 <;> split at h2 <;> omega
  refine ⟨hk i hi, by rw [h.lf, h.ln], fun k => ?_, fun k => ?_, fun k => ?_, fun k => ?_, fun j hj => rep_lt (h.at_ j (by rw [h.lf] at hj; exact hj)).1, fun j hj => rep_lt (h.at_ j (by rw [h.ln] at hj; exact hj)).2.1, hn.wide ⟨hw.1, hw.2.1⟩ ⟨hw.2.2.1, hw.2.2.2⟩, by have := h.few; omega⟩
  · have h1 := hop.1; rw [if_pos k] at h1; exact ⟨h1.1, by rw [h.lf]; omega⟩
  · have h1 := hop.2; rw [if_pos k] at h1; exact ⟨h1.1, by rw [h.lf]; omega⟩
  · have h1 := hop.1; rw [if_neg k] at h1; exact h1
  · have h1 := hop.2; rw [if_neg k] at h1; exact h1
theorem nfL_succ (q : List Nd) (i : Nat) : nfL q (i + 1) = ⟨(nfL q i).fo ++ [(posAt (nfL q i) (q.getD i nd0)).1], (nfL q i).ne ++ [(negAt ⟨(nfL q i).fo, (nfL q i).ne, (posAt (nfL q i) (q.getD i nd0)).2⟩ (q.getD i nd0)).1], (negAt ⟨(nfL q i).fo, (nfL q i).ne, (posAt (nfL q i) (q.getD i nd0)).2⟩ (q.getD i nd0)).2⟩ := rfl
set_option maxHeartbeats 4000000 in
theorem pNnf_any (f : List Nd) (A : Option Addr) (n c : Nat) (w : World) (hE : EnvR w w.heap.size) (hR : Reads w w.heap.size 6 A n (nds f)) (hm : n ≤ maxLen) :
    Calls Tryd.prog 27 #[.slice A n c] w fun e w' => ∃ A' c', e = .returned (.tuple #[.slice A' (mapF (fun t => (nfT t).1) f).length c', .int .i64 (mapE (fun t => (nfT t).1) f)]) ∧ Reads w' w'.heap.size 6 A' (mapF (fun t => (nfT t).1) f).length (nds (mapF (fun t => (nfT t).1) f)) ∧ Below w.heap.size w w' := by
  have HV := Lib.hid (pCheck_any f A n c w hR hm)
  have HR := Lib.hid hR
  have HE := Lib.hid hE
  by_cases hz : fErr f = 0
  · have g := nf_gr hz
    have ok := OkL_of (compF_ok hz)
    have hkn := fErr_known (compF_ok hz)
    have h200 := (fErr_ok (compF_ok hz)).2.1
    have hall := (nfT_all _ (tOf_all hz)).1
    obtain ⟨t1, t2, t3⟩ := take_gr g hall
    have e1 : mapF (fun t => (nfT t).1) f = resL (nfT (tOf f)).1 := if_pos hz
    have e2 : mapE (fun t => (nfT t).1) f = resE (nfT (tOf f)).1 := if_pos hz
    have HC := Lib.hid (fun W (h : Reads W W.heap.size 6 A n (nds f)) => pCompact_own f A n c W h hm)
    have glen := g.len
    rw [e1, e2, ← t1, ← t2]
    have HOK := Lib.hid ok
    have HKN := Lib.hid hkn
    have HLN : Hid ((compF f).length ≤ 200) := Lib.hid h200
    have hq0 : (compF f).length ≤ 200 := h200
    have HPO : Hid (0 < (compF f).length) := Lib.hid (List.length_pos_iff.2 ok.ne)
    have HT : Hid ((nfL (compF f) (compF f).length).fo.getD ((compF f).length - 1) 0 < (nfL (compF f) (compF f).length).o.length ∧ (nfL (compF f) (compF f).length).o.length ≤ 999000) := Lib.hid ⟨t3, by have h9 : (nfL (compF f) (compF f).length).o.length ≤ _ := glen; simp at h9; omega⟩
    have HNF := Lib.hid (nf_ok ok.ops)
    rw [hz] at HV
    dsimp only
    clear hR hE hm g ok hkn h200 hall t1 t2 t3 e1 e2 glen
    generalize compF f = q at *
    go_enter Tryd.func27, Tryd.ntmps27
    go_wp2_with fail
    refine (HV.out).mono ?_
    rintro e w1 ⟨rfl, hb⟩
    have HB1 := Lib.hid hb
    clear hb
    go_wp2_with fail
    refine (newB_ex w1 ((HE.out.below HB1.out).up HB1.out.size)).mono ?_
    rintro e w2 ⟨B, base, bw, bm, rfl, hu, hb2, hlo⟩
    have HU2 := Lib.hid hu
    have HB2 := Lib.hid (HB1.out.trans (hb2.mono HB1.out.size))
    have HLO : Hid (w.heap.size ≤ B) := Lib.hid (Nat.le_trans HB1.out.size hlo)
    clear hu hb2 hlo
    go_wp2_with fail
    have HPB := heap_alloc_new w2 (.cells #[.pointer (some ⟨bw, 0, none⟩), .slice none 0 0, .slice none 0 0] 88)
    have HBA : Hid (Below w2.heap.size w2 (w2.alloc (.cells #[.pointer (some ⟨bw, 0, none⟩), .slice none 0 0, .slice none 0 0] 88))) := Lib.hid ((Below.refl _ w2).alloc (Nat.le_refl _) _)
    have HSA : Hid ((w2.alloc (.cells #[.pointer (some ⟨bw, 0, none⟩), .slice none 0 0, .slice none 0 0] 88)).heap.size = w2.heap.size + 1) := Lib.hid (by simp)
    generalize w2.alloc (.cells #[.pointer (some ⟨bw, 0, none⟩), .slice none 0 0, .slice none 0 0] 88) = w3 at *
    have HB3 := Lib.hid (HB2.out.trans (HBA.out.mono HB2.out.size))
    have HAS : Hid (AsideB w3 bw bm w2.heap.size) := Lib.hid (AsideB.new HU2.out.st HBA.out (Nat.le_refl _) (by rw [HSA.out]; omega))
    have HPBH := Lib.hid HPB
    clear HPB
    refine (HC.out w3 ((HR.out.below HB3.out).more HB3.out.size)).mono ?_
    rintro e w4 ⟨A3, c3, rfl, hown, hb3⟩
    have HAP0 : Hid (Ap B base bw bm w2.heap.size w4.heap.size w2 (.slice none 0 0) (.slice none 0 0) (.slice none 0 0) [] (.slice none 0 0) [] A3 c3 q [] w4) := Lib.hid (by
      have hu3 := HU2.out.below HBA.out
      have hu4 := hu3.below hb3
      have hF3 := Fb.of_below (bm := bm) HBA.out HU2.out.lwB
      have hF4 := Fb.of_below (bm := bm) hb3 hu3.lwB
      have hs3 := HSA.out
      have hs4 := hb3.size
      have hbr : w4.heap[w2.heap.size]? = w3.heap[w2.heap.size]? := hb3.block _ (by omega)
      have hh := hbr.trans HPBH.out
      have hc := Lib.cell_of_heap hh
      rw [hs3] at hown
      exact ⟨hu4, hF3.trans hF4, (HAS.out.step hF4).2, hc 0, hc 1, hc 2, Lib.frozen_of_heap hh 1, Lib.frozen_of_heap hh 2, World.ownsRow_nil _ _ _ _, World.ownsRow_nil _ _ _ _, fun g hg => (by cases hg), fun g hg => (by cases hg), fun g hg => (by cases hg), by omega, Nat.le_refl _, Nat.le_refl _,
        hown, fun g hg => ⟨AsideB.new hu3.st hb3 (by have := (hown.lt g hg).1; omega) (hown.lt g hg).2, (hown.lt g hg).2⟩⟩)
    have HB4 := Lib.hid (HB3.out.trans (hb3.mono HB3.out.size))
    have HBW : Hid (B ≤ w2.heap.size ∧ B ≤ w4.heap.size) := Lib.hid (by
      have := HU2.out.size
      have := HBA.out.size
      have := hb3.size
      omega)
    clear hown hb3
    have hrd := (Reads.of_own HAP0.out.rq)
    generalize w2.heap.size = br at *
    generalize w4.heap.size = N at *
    go_wp2
    clear hrd
    go_loopw [7, 8, 9, 21] (fun _ _ _ i wr => ∃ (k : Nat) (A1 A2 : Option Addr) (c1 c2 : Nat), k ≤ q.length ∧ i = .int .i64 k ∧ Hid (Ap B base bw bm br N w2 (.slice A1 (nfL q k).fo.length c1) (.slice A2 (nfL q k).ne.length c2) (.slice A1 (nfL q k).fo.length c1) (nfL q k).fo (.slice A2 (nfL q k).ne.length c2) (nfL q k).ne A3 c3 q (nfL q k).o wr)) (fun _ _ _ i _ => q.length - (intOf i).toNat)
    case atStart => exact ⟨0, none, none, 0, 0, Nat.zero_le _, rfl, HAP0⟩
    case round =>
      obtain ⟨k, A1, A2, c1, c2, hk, rfl, HD⟩ := hrel
      by_cases hlt : k < q.length
      · obtain ⟨ad, rfl, hb, m0, m1, m2, m3, m4, m5⟩ := (Reads.of_own HD.out.rq).nd_at hlt
        have l1 := add_cell m1
        have l2 := add_cell m2
        have l3 := add_cell m3
        have l4 := add_cell m4
        have l5 := add_cell m5
        have hnf := HNF.out k hk
        have hfin := nfs_fin HOK.out.ops HKN.out HOK.out.rng hlt (by omega) hnf
        have hsuc := nfL_succ q k
        have hfl := hnf.lf
        have hnl := hnf.ln
        have HFL := Lib.hid hfl
        have HNL := Lib.hid hnl
        have hfl2 : (nfL q k).fo.length ≤ 1000 := by omega
        have hnl2 : (nfL q k).ne.length ≤ 1000 := by omega
        clear hfl hnl
        have hfew := hnf.few
        obtain ⟨x, hx⟩ : ∃ x, q.getD k nd0 = x := ⟨_, rfl⟩
        rw [hx] at m0 l1 l2 l3 l4 l5 hfin hsuc
        have hpf := pos_facts hfin.kn hfin
        have hpa : posAt (nfL q k) x = nfPosP (nfL q k).o x (wOps x (nfL q k).fo) ((nfL q k).fo.getD x.x.toNat 0) ((nfL q k).ne.getD x.x.toNat 0) ((nfL q k).fo.getD x.y.toNat 0) ((nfL q k).ne.getD x.y.toNat 0) := rfl
        rw [← hpa] at hpf
        have HFI := Lib.hid hfin
        have HPF := Lib.hid hpf
        have HSUC := Lib.hid hsuc
        have HFW := Lib.hid hfew
        clear hnf hfin hsuc hx hpf hpa hfew m1 m2 m3 m4 m5
        have HDA := Lib.hid (HD.out.alloc (.cells #[.int .i64 x.op, .int .i64 x.i, .int .i64 x.e, .int .i64 x.g, .int .i64 x.x, .int .i64 x.y] 62))
        have HBX0 : Hid (Box (wr.alloc (.cells #[.int .i64 x.op, .int .i64 x.i, .int .i64 x.e, .int .i64 x.g, .int .i64 x.x, .int .i64 x.y] 62)) wr.heap.size x) := Lib.hid (Box.made wr x 62)
        have HA0 := Lib.hid (AsideB.new (g := wr.heap.size) HD.out.bu.st ((Below.refl _ wr).alloc (Nat.le_refl _) (.cells #[.int .i64 x.op, .int .i64 x.i, .int .i64 x.e, .int .i64 x.g, .int .i64 x.x, .int .i64 x.y] 62)) (Nat.le_refl _) (by simp))
        generalize nfL q k = s at *
        go_wp2_with fail
        clear m0 l1 l2 l3 l4 l5
        generalize wr.alloc (.cells #[.int .i64 x.op, .int .i64 x.i, .int .i64 x.e, .int .i64 x.g, .int .i64 x.x, .int .i64 x.y] 62) = w0 at *
        generalize wr.heap.size = gx at *
        obtain ⟨b0, b1, b2, b3, b4, b5, bf⟩ := HBX0.out
        clear bf
        have HK : Hid (∀ (w1 w2 : World), Hid (AsideB w1 bw bm gx) → Hid (Box w1 gx x) → Hid (Fb bw bm w1 w2) → Hid (AsideB w2 bw bm gx) ∧ Hid (Box w2 gx x) ∧ w2.cell? ⟨gx, 0, none⟩ = some (.int .i64 x.op) ∧ w2.cell? ⟨gx, 1, none⟩ = some (.int .i64 x.i) ∧ w2.cell? ⟨gx, 2, none⟩ = some (.int .i64 x.e) ∧ w2.cell? ⟨gx, 3, none⟩ = some (.int .i64 x.g) ∧ w2.cell? ⟨gx, 4, none⟩ = some (.int .i64 x.x) ∧ w2.cell? ⟨gx, 5, none⟩ = some (.int .i64 x.y)) := Lib.hid (fun w1 w2 c2 c3 c5 => by
          have hs := c2.out.step c5.out
          have hb := c3.out.keep hs.1
          obtain ⟨q0, q1, q2, q3, q4, q5, _⟩ := hb
          exact ⟨Lib.hid hs.2, Lib.hid (c3.out.keep hs.1), q0, q1, q2, q3, q4, q5⟩)
        have CF := Lib.hid ((form_any (HDA.out.drew).no x HFI.out).mono (fun r w1 hk => And.intro hk (HK.out w0.drew w1 (Lib.hid HA0.out.drew) (Lib.hid HBX0.out.drew) hk.2.2)))
        have CN : Hid (∀ w1, Hid (No B base bw bm br (br + 1) A1 c1 A2 c2 w1 ⟨s.fo, s.ne, (posAt s x).2⟩) → Hid (AsideB w1 bw bm gx) → Hid (Box w1 gx x) → Calls Tryd.prog 79 #[.pointer (some ⟨br, 0, none⟩), nv x] w1 fun r w2 => NoOk B base bw bm br (br + 1) A1 c1 A2 c2 w1 ⟨s.fo, s.ne, (posAt s x).2⟩ (negAt ⟨s.fo, s.ne, (posAt s x).2⟩ x) r w2 ∧ (Hid (AsideB w2 bw bm gx) ∧ Hid (Box w2 gx x) ∧ w2.cell? ⟨gx, 0, none⟩ = some (.int .i64 x.op) ∧ w2.cell? ⟨gx, 1, none⟩ = some (.int .i64 x.i) ∧ w2.cell? ⟨gx, 2, none⟩ = some (.int .i64 x.e) ∧ w2.cell? ⟨gx, 3, none⟩ = some (.int .i64 x.g) ∧ w2.cell? ⟨gx, 4, none⟩ = some (.int .i64 x.x) ∧ w2.cell? ⟨gx, 5, none⟩ = some (.int .i64 x.y))) := Lib.hid (fun w1 h1 c2 c3 =>
          (negated_any h1.out x (HFI.out.more (by have := HPF.out; omega) (by have := HPF.out; have := HFW.out; omega))).mono (fun r w2 hk => And.intro hk (HK.out w1 w2 c2 c3 hk.2.2)))
        unfold nv at CF CN
        clear HK
        go_region_held3 (fun W' => (W'.cell? ⟨gx, 0, none⟩ = some (.int .i64 x.op) ∧ W'.cell? ⟨gx, 1, none⟩ = some (.int .i64 x.i) ∧ W'.cell? ⟨gx, 2, none⟩ = some (.int .i64 x.e) ∧ W'.cell? ⟨gx, 3, none⟩ = some (.int .i64 x.g) ∧ W'.cell? ⟨gx, 4, none⟩ = some (.int .i64 x.x) ∧ W'.cell? ⟨gx, 5, none⟩ = some (.int .i64 x.y))) (first | assumption | (refine ⟨?_, ?_, ?_, ?_, ?_, ?_⟩ <;> assumption))
          (first
            | (go_at_call 78; refine (CF.out).mono ?_; rintro r' w5 ⟨⟨rfl, h5, f5⟩, a5, x5, v0, v1, v2, v3, v4, v5⟩)
            | (go_at_call 79; refine (CN.out w5 h5 a5 x5).mono ?_; rintro r' w6 ⟨⟨rfl, h6, f6⟩, a6, x6, u0, u1, u2, u3, u4, u5⟩))
        have HD6 := Lib.hid (((HDA.out.drew).next h5.out.bu f5.out).next h6.out.bu f6.out)
        clear h5 f5 a5 x5 v0 v1 v2 v3 v4 v5 h6 f6 a6 x6 u0 u1 u2 u3 u4 u5 b0 b1 b2 b3 b4 b5 CF CN HDA HBX0 HA0
        dsimp only at HD6 HSUC
        generalize hp1 : posAt s x = p1 at *
        generalize hp2 : negAt ⟨s.fo, s.ne, p1.2⟩ x = p2 at *
        have HPP := Lib.hid (And.intro hp1 hp2)
        clear hp1 hp2
        go_wp2_with fail
        have k0 := HD6.out.ptr
        have k1 := HD6.out.c1
        have k2 := HD6.out.c2
        have z1 := HD6.out.z1
        have z2 := HD6.out.z2
        have hbr6 : br < w6.heap.size := HD6.out.as_.lt
        have hbn6 : br ≠ w6.heap.size := by omega
        have hd6 := HD6.out
        have hfo := HFW.out
        have HBN : Hid (B ≤ N) := Lib.hid HBW.out.2
        have hnn := HD6.out.nn
        have hbN := HD6.out.lb
        go_region_law
          (first
            | (refine step_appI p1.1 _ (by rfl) _ _ (by rfl) (br + 1) _ (.slice A1 s.fo.length c1) (by rfl) (by first | exact (Ap.drew (Ap.alloc hd6 _)).r1 | exact (Ap.drew (Ap.alloc (Ap.alloc hd6 _) _)).r1 | exact (Ap.alloc (Ap.drew hd6) _).r1 | exact (Ap.alloc (Ap.alloc (Ap.drew hd6) _) _).r1) (by rfl) (by first | exact top1 _ _ _ _ (by simp) | exact (World.cell?_alloc_lt _ _ _ (by simp)).trans (top1 _ _ _ _ (by simp))) (by omega) (by simp; omega) ?_
               intro g7 c7 w7 ho7 hg7 hr7 hlt7
               have hd7 := Ap.app1 (by first | exact Ap.drew (Ap.alloc hd6 _) | exact Ap.drew (Ap.alloc (Ap.alloc hd6 _) _) | exact Ap.alloc (Ap.drew hd6) _ | exact Ap.alloc (Ap.alloc (Ap.drew hd6) _) _) HBN.out ho7 hg7 hr7 hlt7
               have HPE := Ap.pend hd6 hg7
               have k0' := hd7.ptr
               have k1' := hd7.c1
               have k2' := hd7.c2
               have z1' := hd7.z1
               have z2' := hd7.z2
               have hbr7 : br < w7.heap.size := hd7.as_.lt
               have hbn7 : br ≠ w7.heap.size := by omega
               clear ho7 hg7 hr7)
            | (refine step_appI p2.1 _ (by rfl) _ _ (by rfl) (br + 1) _ (.slice A2 s.ne.length c2) (by rfl) (by first | exact hd7.r2 | exact (Ap.alloc hd7 _).r2) (by rfl) (by first | exact top1 _ _ _ _ (by simp) | exact HPE.out _ _ (by omega) (by simp) (top1 _ _ _ _ (by simp)) | exact HPE.out _ _ (by omega) (by simp; omega) ((World.cell?_alloc_lt _ _ _ (by simp)).trans (top1 _ _ _ _ (by simp)))) (by omega) (by first | omega | (simp; omega)) ?_
               intro g8 c8 w8 ho8 hg8 hr8 hlt8
               have hd8 := Ap.app2 (by first | exact hd7 | exact Ap.alloc hd7 _) HBN.out ho8 hg8 hr8 hlt8
               have k0'' := hd8.ptr
               have k1'' := hd8.c1
               have k2'' := hd8.c2
               have z1'' := hd8.z1
               have z2'' := hd8.z2
               have hbr8 : br < w8.heap.size := hd8.as_.lt
               have hbn8 : br ≠ w8.heap.size := by omega
               clear ho8 hg8 hr8))
        all_goals go_wp2
        all_goals go_roundw
        all_goals first
          | exact ⟨k + 1, _, _, _, _, by omega, by go_num, nf_rel HSUC.out HBW.out.1 hd8⟩
          | (simp [intOf]; omega)
      · have hkq : k = q.length := by omega
        subst hkq
        have hnf := HNF.out q.length (Nat.le_refl _)
        have hfl := hnf.lf
        have hpo := HPO.out
        obtain ⟨ad, hA1, hel⟩ := HD.out.no.elF (k := q.length - 1) (by dsimp only; omega)
        subst hA1
        dsimp only at hel
        have hp := HD.out.ptr
        have hc1 := HD.out.c1
        rw [hfl] at hc1
        have HFL := Lib.hid hfl
        clear hnf hfl
        have HDd := Lib.hid HD.out.drew
        have HBE : Hid (Below w.heap.size w wr.drew) := Lib.hid (HB2.out.trans (((HU2.out.low (HDd.out.fb))).mono HLO.out))
        generalize hel0 : (nfL q q.length).fo.getD (q.length - 1) 0 = last at *
        have HEL := Lib.hid hel0
        clear hel0
        obtain ⟨j, hj⟩ : ∃ j, q.length - 1 = j := ⟨_, rfl⟩
        rw [hj] at hel
        have CT : Hid (Calls Tryd.prog 59 #[.pointer (some ⟨bw, 0, none⟩), .int .i64 (last : Int)] wr.drew fun e w' => (∃ A' c', e = .returned (.tuple #[.slice A' (compF (takeL (nfL q q.length).o last)).length c', .int .i64 (fErr (takeL (nfL q q.length).o last))]) ∧ Hid (Reads w' w'.heap.size 6 A' (compF (takeL (nfL q q.length).o last)).length (nds (compF (takeL (nfL q q.length).o last)))) ∧ Hid (Below wr.drew.heap.size wr.drew w')) ∧
            w'.cell? ⟨br, 0, none⟩ = some (.pointer (some ⟨bw, 0, none⟩)) ∧ w'.cell? ⟨br, 1, none⟩ = some (.slice (some ad) q.length c1) ∧ w'.cell? (ad.add j) = some (.int .i64 (last : Int))) := Lib.hid ((take_any HDd.out.bu last HT.out.1 HT.out.2).mono (fun e w' hk0 => by
          obtain ⟨A', c', h1, h2, h3⟩ := hk0
          have hk := HDd.out.below h3
          have hcell : w'.cell? (ad.add j) = some (.int .i64 (last : Int)) := (h3.cell (p := ad.add j) (by rw [block_of_add]; have := (HDd.out.a1 ad.block rfl).1.lt; exact this)).trans hel
          have hc2 := hk.c1
          rw [HFL.out] at hc2
          exact ⟨⟨A', c', h1, Lib.hid h2, Lib.hid h3⟩, hk.ptr, hc2, hcell⟩))
        have hjl : j < q.length := by omega
        have hs3 : (q.length : Int) - 1 = (j : Int) := by omega
        have hs1 : wrap64 ((q.length : Int) - 1) = (j : Int) := by unfold wrap64; omega
        have hs2 : IntKind.i64.wrap ((q.length : Int) - 1) = (j : Int) := by rw [IntKind.wrap_i64]; omega
        have hs4 : wrap64 (j : Int) = (j : Int) := by unfold wrap64; omega
        have hs5 : IntKind.i64.wrap (j : Int) = (j : Int) := by rw [IntKind.wrap_i64]; omega
        have hi2 : (0 : Int) ≤ (j : Int) := by omega
        have hi3 : (j : Int) < (q.length : Int) := by omega
        clear hj
        go_wp2_with fail
        go_region_held3 (fun W' => (W'.cell? ⟨br, 0, none⟩ = some (.pointer (some ⟨bw, 0, none⟩)) ∧ W'.cell? ⟨br, 1, none⟩ = some (.slice (some ad) q.length c1) ∧ W'.cell? (ad.add j) = some (.int .i64 (last : Int)))) (first | assumption | (refine ⟨?_, ?_, ?_⟩ <;> assumption))
          (first | (go_at_call 59; refine (CT.out).mono ?_; rintro r' w9 ⟨⟨A9, c9, rfl, hr9, hb9⟩, v0, v1, v2⟩))
        all_goals go_wp2
        all_goals go_ret2
        all_goals rw [HEL.out]
        all_goals exact ⟨A9, c9, rfl, hr9.out, HBE.out.trans (hb9.out.mono (by have := HBE.out.size; exact this))⟩
  · have e1 : mapF (fun t => (nfT t).1) f = [] := if_neg hz
    have e2 : mapE (fun t => (nfT t).1) f = fErr f := if_neg hz
    rw [e1, e2]
    clear hR hE hm e1 e2
    generalize fErr f = ef at *
    go_enter Tryd.func27, Tryd.ntmps27
    go_wp2_with fail
    refine (HV.out).mono ?_
    rintro e w1 ⟨rfl, hb⟩
    have HB1 := Lib.hid hb
    clear hb
    go_wp2
    go_ret2
    exact ⟨none, 0, rfl, Reads.none_, HB1.out⟩
end Go.Proofs.YtkkkomkljpolbaaDoor
