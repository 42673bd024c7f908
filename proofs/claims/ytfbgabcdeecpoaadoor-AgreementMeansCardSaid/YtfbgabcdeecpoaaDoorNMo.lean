/- Layer 24: cells divided by the keys of an agent, by the reference. -/
import Derived.Test.YtfbgabcdeecpoaaDoorNMn
namespace Go.Proofs.YtfbgabcdeecpoaaDoor
open Go.RowKit Go.Proofs.Ws
set_option maxRecDepth 100000
theorem OneZ.form {W : World} {base n : Nat} {v : Value} {l : List Int} (h : OneZ W base v l) (hl : l.length = n) : ∃ g c, v = .slice (some ⟨g, 0, none⟩) n c ∧ base ≤ g ∧ HoldsJ W g l := by
  obtain ⟨g, c, e, h1, h2⟩ := h
  exact ⟨g, c, by rw [e, hl], h1, h2⟩
theorem div1_at {p : Pri} (k : List Int) {j : Nat} (h : j < p.cells.length) : (divP p [k]).cells.getD j [] = canonL (p.cells.getD j []) k := by
  show (p.cells.map (fun c => divC c [k])).getD j [] = _
  rw [map_getD_lt _ [] [] h]
  rfl
theorem three_boxes (w : World) (x0 x1 y0 y1 z0 z1 : Value) :
    PBox (((w.alloc (.cells #[x0, x1] 25)).alloc (.cells #[y0, y1] 25)).alloc (.cells #[z0, z1] 25)) w.heap.size x0 x1 ∧
    PBox (((w.alloc (.cells #[x0, x1] 25)).alloc (.cells #[y0, y1] 25)).alloc (.cells #[z0, z1] 25)) (w.heap.size + 1) y0 y1 ∧
    PBox (((w.alloc (.cells #[x0, x1] 25)).alloc (.cells #[y0, y1] 25)).alloc (.cells #[z0, z1] 25)) (w.heap.size + 1 + 1) z0 z1 ∧
    Below w.heap.size w (((w.alloc (.cells #[x0, x1] 25)).alloc (.cells #[y0, y1] 25)).alloc (.cells #[z0, z1] 25)) := by
  have h0 := PBox.made w x0 x1
  have h1 := PBox.made (w.alloc (.cells #[x0, x1] 25)) y0 y1
  have h2 := PBox.made ((w.alloc (.cells #[x0, x1] 25)).alloc (.cells #[y0, y1] 25)) z0 z1
  have b1 : Below (w.alloc (.cells #[x0, x1] 25)).heap.size _ ((w.alloc (.cells #[x0, x1] 25)).alloc (.cells #[y0, y1] 25)) := (Below.refl _ _).alloc (Nat.le_refl _) _
  have b2 : Below ((w.alloc (.cells #[x0, x1] 25)).alloc (.cells #[y0, y1] 25)).heap.size _ (((w.alloc (.cells #[x0, x1] 25)).alloc (.cells #[y0, y1] 25)).alloc (.cells #[z0, z1] 25)) := (Below.refl _ _).alloc (Nat.le_refl _) _
  have e1 : (w.alloc (.cells #[x0, x1] 25)).heap.size = w.heap.size + 1 := by simp
  have e2 : ((w.alloc (.cells #[x0, x1] 25)).alloc (.cells #[y0, y1] 25)).heap.size = w.heap.size + 1 + 1 := by simp
  have h1' := h1.below b2 h1.lt
  have h0' := (h0.below b1 h0.lt).below b2 (h0.below b1 h0.lt).lt
  rw [e1] at h1'
  rw [e2] at h2
  exact ⟨h0', h1', h2, (((Below.refl _ w).alloc (Nat.le_refl _) _).alloc (by simp) _).alloc (by simp; omega) _⟩
set_option maxHeartbeats 8000000 in
theorem rDivide_any (q p : Pri) (a s : Nat) (vq vp : Value) (w : World) (hQ : PrR w w.heap.size vq q) (hM : PrR w w.heap.size vp p) (hokq : OkP q) (h0 : evE p s = 0) (hn : q.wt.length = p.wt.length) (ha : a < p.cells.length) (hs : s < 18446744073709551616) :
    Calls Tryd.prog 59 #[vq, vp, .int .i64 (a : Int), .int .u64 (s : Int)] w fun e w' => ∃ v', e = .returned v' ∧ PrO w' w.heap.size v' (divP q [tellK p a s]) ∧ Below w.heap.size w w' := by
  have hle := hokq.le
  have hpos := hokq.pos
  have hag := hokq.ag
  have HKE := Lib.hid (fun (W : World) (hb : Below w.heap.size w W) => rKeys_any p vp a s W (hM.below hb hb.size) h0 ha hs)
  have HKL : Hid ((tellK p a s).length = q.wt.length) := Lib.hid (by rw [tellK_len, hn])
  obtain ⟨A1, c1, A2, c2, rfl, hv, hr⟩ := hQ.ex
  obtain ⟨B1, e1, B2, e2, rfl, hv2, hr2⟩ := hM.ex
  have HSP := Lib.hid (fun (k : Nat) (hk : k < q.cells.length) (Ak : Option Addr) (ck : Nat) (A9 : Option Addr) (c9 : Nat) (W : World) (hR : Reads W W.heap.size 1 Ak q.wt.length (ints (q.cells.getD k []))) (hR2 : Reads W W.heap.size 1 A9 q.wt.length (ints (tellK p a s))) => rSplit_any (q.cells.getD k []) (tellK p a s) Ak A9 q.wt.length ck c9 W hR hR2 hle hpos (hokq.can hk).ok)
  have HCC : Hid (∀ k, k < q.cells.length → ∃ ad Ak ck, A2 = some ad ∧ ad.block < w.heap.size ∧ (∀ W, Below w.heap.size w W → W.cell? (ad.add k) = some (.slice Ak q.wt.length ck) ∧ Reads W W.heap.size 1 Ak q.wt.length (ints (q.cells.getD k [])))) := Lib.hid (fun k hk => by
    obtain ⟨ad, Ak, ck, hA, had, hcell, hrc, hlc⟩ := hr.at_ hk
    rw [(hokq.can hk).len] at hcell hrc hlc
    exact ⟨ad, Ak, ck, hA, had, fun W hb => ⟨(hb.cell (p := ad.add k) (by rw [block_of_add]; exact had)).trans hcell, (hrc.below hb).more hb.size⟩⟩)
  have HLC : Hid (∀ k, k < q.cells.length → (canonL (q.cells.getD k []) (tellK p a s)).length = q.wt.length) := Lib.hid (fun k hk => canonL_len (hokq.can hk).len)
  have HEX : Hid (∀ W base v, (∃ V1 V2, v = .agg #[V1, V2] ∧ OneZ W base V1 q.wt ∧ RowsZ W base V2 q.cells.length (fun j => canonL (q.cells.getD j []) (tellK p a s))) → PrO W base v (divP q [tellK p a s])) := Lib.hid (fun W base v h => by
    obtain ⟨V1, V2, e, h1, h2⟩ := h
    refine ⟨V1, V2, e, h1, ?_⟩
    have el : (divP q [tellK p a s]).cells.length = q.cells.length := by show (q.cells.map _).length = _; rw [List.length_map]
    rw [el]
    exact h2.congr (fun j hj => (div1_at _ hj).symm))
  obtain ⟨ad1, rfl, had1, _⟩ := hv.int_at (show 0 < q.wt.length by omega)
  have HV1 := Lib.hid hv
  obtain ⟨i0, hi, hz0, hz1, hz2⟩ := info_parts Tryd.infoI
  have hmM := hM.lim
  clear hv hr hokq h0 ha hs hn hv2 hr2 hM hQ
  generalize tellK p a s = K at *
  obtain ⟨C, hC⟩ : ∃ C : Nat → List Int, C = fun j => q.cells.getD j [] := ⟨_, rfl⟩
  have hCa : ∀ j, q.cells.getD j [] = C j := fun j => by rw [hC]
  simp only [hCa] at HSP HCC HLC HEX
  clear hC hCa
  generalize hWT : q.wt = WT at *
  generalize hnn : WT.length = n at *
  have HN := Lib.hid hnn
  clear hnn hWT
  generalize q.cells.length = m at *
  generalize p.wt.length = pn at *
  generalize p.cells.length = pm at *
  have HTB := Lib.hid (three_boxes w (.slice (some ad1) n c1) (.slice A2 m c2) (.slice B1 pn e1) (.slice B2 pm e2) (.slice none 0 0) (.slice none 0 0))
  have hsz3 : (((w.alloc (.cells #[.slice (some ad1) n c1, .slice A2 m c2] 25)).alloc (.cells #[.slice B1 pn e1, .slice B2 pm e2] 25)).alloc (.cells #[.slice none 0 0, .slice none 0 0] 25)).heap.size = w.heap.size + 1 + 1 + 1 := by simp
  have HSZ3 := Lib.hid hsz3
  clear hsz3
  have hmade : ((((w.alloc (.cells #[.slice (some ad1) n c1, .slice A2 m c2] 25)).alloc (.cells #[.slice B1 pn e1, .slice B2 pm e2] 25)).alloc (.cells #[.slice none 0 0, .slice none 0 0] 25)).alloc (.cells #[] 3)).ownsRow (w.heap.size + 1 + 1 + 1) 3 1 (.slice (some ⟨w.heap.size + 1 + 1 + 1, 0, none⟩) 0 0) 0 [] := by
    have h := World.ownsRow_made (base := w.heap.size + 1 + 1 + 1) (e := 3) (size := 1) (((w.alloc (.cells #[.slice (some ad1) n c1, .slice A2 m c2] 25)).alloc (.cells #[.slice B1 pn e1, .slice B2 pm e2] 25)).alloc (.cells #[.slice none 0 0, .slice none 0 0] 25)) #[] 0 (by rw [HSZ3.out]; exact Nat.le_refl _) (Nat.zero_le _) (by simp)
    rw [HSZ3.out] at h
    exact h
  go_enter Tryd.func59, Tryd.ntmps59
  go_wp2_with (at_builtin; refine wpList_append_own _ rfl _ _ 22 rfl (w.heap.size + 1 + 1 + 1) 3 i0 (.int .i64 0) 1 8 Tryd.underlying22 hi hz0 hz1 hz2 rfl (by decide) _ _ _ rfl hmade ad1 n c1 (ints WT) rfl ?qc1 ?qc2 ?qc3 ?qc4 ?qc5 ?qc6 ?_)
  case qc1 => rw [ints_length, HN.out]; omega
  case qc2 =>
    intro j u hj
    obtain ⟨_, h⟩ := HV1.out
    obtain ⟨ad', hA, hb', hc'⟩ := h (by omega)
    injection hA with hA
    subst hA
    have hcc := hc' j u hj
    refine (HTB.out.2.2.2.cell (p := ad1.add j) (by rw [block_of_add]; exact had1)).trans hcc |> fun h3 => ?_
    exact Lib.cell?_alloc_some _ h3
  case qc3 =>
    intro u hu
    unfold ints at hu
    obtain ⟨k, _, rfl⟩ := List.mem_map.1 hu
    rfl
  case qc4 => unfold maxLen; omega
  case qc5 => omega
  case qc6 => simp
  intro v1 w4 hown hgrow _
  have hb4 : Below (w.heap.size + 1 + 1 + 1) (((w.alloc (.cells #[.slice (some ad1) n c1, .slice A2 m c2] 25)).alloc (.cells #[.slice B1 pn e1, .slice B2 pm e2] 25)).alloc (.cells #[.slice none 0 0, .slice none 0 0] 25)) w4 := ((Below.refl _ (((w.alloc (.cells #[.slice (some ad1) n c1, .slice A2 m c2] 25)).alloc (.cells #[.slice B1 pn e1, .slice B2 pm e2] 25)).alloc (.cells #[.slice none 0 0, .slice none 0 0] 25))).alloc (by rw [HSZ3.out]; exact Nat.le_refl _) (.cells #[] 3)).grown hgrow (by simp) (by intro j hj; simp [Value.ownBlock] at hj; omega)
  have hp0 := HTB.out.1.below hb4 (by omega)
  have hp1 := HTB.out.2.1.below hb4 (by omega)
  have hp2 := HTB.out.2.2.1.below hb4 (by omega)
  have hB4 := HTB.out.2.2.2.trans (hb4.mono (by omega))
  obtain ⟨g1, d1, rfl, hg1, hJ1⟩ := (OneZ.of_own hown HN.out hpos).form HN.out
  have hO1 : OneZ w4 (w.heap.size + 3) (.slice (some ⟨g1, 0, none⟩) n d1) WT := ⟨g1, d1, by rw [HN.out], hg1, hJ1⟩
  have hba : Below w4.heap.size w4 (w4.alloc (.cells #[.slice (some ⟨g1, 0, none⟩) n d1, .slice none 0 0] 25)) := (Below.refl _ w4).alloc (Nat.le_refl _) _
  have HI3 := Lib.hid (⟨belowNext hB4 hba, hp0.below hba hp0.lt, hp1.below hba hp1.lt, hp2.below hba hp2.lt, PBox.made w4 (.slice (some ⟨g1, 0, none⟩) n d1) (.slice none 0 0), hO1.below hba, RowsZ.nil (w4.alloc (.cells #[.slice (some ⟨g1, 0, none⟩) n d1, .slice none 0 0] 25)) (w.heap.size + 3) (fun j => canonL (C j) K)⟩ : _ ∧ _ ∧ _ ∧ _ ∧ _ ∧ _ ∧ _)
  have hGs : w.heap.size + 3 ≤ w4.heap.size := by have := hb4.size; rw [HSZ3.out] at this; omega
  clear hb4 hp0 hp1 hp2 hB4 hO1 hba hown hgrow hJ1 hmade hi hz0 hz1 hz2
  go_wp2
  generalize w4.alloc (.cells #[.slice (some ⟨g1, 0, none⟩) n d1, .slice none 0 0] 25) = w3 at *
  generalize w4.heap.size = G at *
  go_loopw [10, 11, 12] (fun i _ _ wr => ∃ (k : Nat) (RV : Value), k ≤ m ∧ i = .int .i64 (k : Int) ∧ Hid (Below w.heap.size w wr ∧ PBox wr w.heap.size (.slice (some ad1) n c1) (.slice A2 m c2) ∧ PBox wr (w.heap.size + 1) (.slice B1 pn e1) (.slice B2 pm e2) ∧ PBox wr (w.heap.size + 1 + 1) (.slice none 0 0) (.slice none 0 0) ∧ PBox wr G (.slice (some ⟨g1, 0, none⟩) n d1) RV ∧ OneZ wr (w.heap.size + 3) (.slice (some ⟨g1, 0, none⟩) n d1) WT ∧ RowsZ wr (w.heap.size + 3) RV k (fun j => canonL (C j) K))) (fun i _ _ _ => m - (intOf i).toNat)
  case atStart => exact ⟨0, .slice none 0 0, Nat.zero_le _, rfl, HI3⟩
  case round =>
    obtain ⟨k, RV, hk, rfl, HI⟩ := hrel
    obtain ⟨hI1, hI2, hI3, hI4, hI5, hI6, hI7⟩ := HI.out
    have b0 := hI2.c0
    have b1 := hI2.c1
    by_cases hlt : k < m
    · obtain ⟨ad, Ak, ck, rfl, had, hW⟩ := HCC.out k hlt
      have hlen := HLC.out k hlt
      obtain ⟨vs, hvs, hvr⟩ := hI7
      obtain ⟨AR, cR, rfl⟩ := own_sl hvs
      have HS := Lib.hid (⟨hI1, hI2, hI3, hI4, hI5, hI6⟩ : _ ∧ _ ∧ _ ∧ _ ∧ _ ∧ _)
      have HVS := Lib.hid hvs
      have HVR := Lib.hid hvr
      have HPX : Hid (∀ W, Below wr.heap.size wr W → W.cell? ⟨w.heap.size, 0, none⟩ = some (.slice (some ad1) n c1) ∧ W.cell? ⟨w.heap.size, 1, none⟩ = some (.slice (some ad) m c2) ∧ W.cell? ⟨w.heap.size + 1, 0, none⟩ = some (.slice B1 pn e1) ∧ W.cell? ⟨w.heap.size + 1, 1, none⟩ = some (.slice B2 pm e2) ∧ W.cell? (ad.add k) = some (.slice Ak n ck)) := Lib.hid (fun W hb => by
        have h := hI2.below hb hI2.lt
        have h2 := hI3.below hb hI3.lt
        exact ⟨h.c0, h.c1, h2.c0, h2.c1, (hW W (belowNext hI1 hb)).1⟩)
      have HKW := Lib.hid (fun W (hb : Below wr.heap.size wr W) => HKE.out W (belowNext hI1 hb))
      have HSW := Lib.hid (fun W (hb : Below wr.heap.size wr W) A9 c9 h9 => HSP.out k hlt Ak ck A9 c9 W (hW W (belowNext hI1 hb)).2 h9)
      have hd0 : Below wr.heap.size wr wr.drew := (Below.refl _ wr).drew
      have e0 := (HPX.out _ (Below.refl _ wr)).2.2.1
      have e1' := (HPX.out _ (Below.refl _ wr)).2.2.2.1
      have e2' := (HPX.out _ (Below.refl _ wr)).2.2.2.2
      have hszr : w.heap.size + 3 ≤ wr.heap.size := by have := hI5.lt; omega
      clear HI hI1 hI2 hI3 hI4 hI5 hI6 hvs hvr hW
      go_wp2
      go_region_with (first
        | (go_at_call 82; refine (HKW.out _ ?_).mono ?_; assumption; rintro e w5 ⟨v5, rfl, hO5, hb5⟩; have hc5 : Below wr.heap.size wr w5 := (by refine belowNext ?_ hb5; assumption); obtain ⟨g5, c5, rfl, _, hJ5⟩ := hO5.form HKL.out; have hr5 : Reads w5 w5.heap.size 1 (some ⟨g5, 0, none⟩) n (ints K) := (by have h := hJ5.reads; rwa [HKL.out] at h); have k0 := (HPX.out w5 hc5).1; have k1 := (HPX.out w5 hc5).2.1; have k2 := (HPX.out w5 hc5).2.2.1; have k3 := (HPX.out w5 hc5).2.2.2.1; have k4 := (HPX.out w5 hc5).2.2.2.2; clear hb5 hO5 hJ5)
        | (go_at_call 81; refine (HSW.out _ ?_ _ _ ?_).mono ?_; assumption; assumption; rintro e w6 ⟨v6, rfl, hO6, hb6⟩; have hc6 : Below wr.heap.size wr w6 := (by refine belowNext ?_ hb6; assumption); obtain ⟨g6, c6, rfl, hg6, hJ6⟩ := hO6.form hlen; have HJ6 := Lib.hid hJ6; clear hb6 hO6 hJ6))
      all_goals
        have hq6 := HS.out.2.2.2.2.1.below hc6 HS.out.2.2.2.2.1.lt
        have q1 := hq6.c1
        have hown6 := own_keep1 HVS.out (fun g hg => hc6.block g (HVS.out.lt g hg).2)
        have HVR6 : Hid (∀ j, j < k → ∃ u, vs[j]? = some u ∧ OneZ w6 (w.heap.size + 3) u (canonL (C j) K)) := Lib.hid (fun j hj => by
          obtain ⟨u, e, h⟩ := HVR.out j hj
          exact ⟨u, e, h.below hc6⟩)
        have HU6 : Hid (OneZ w6 (w.heap.size + 3) (.slice (some ⟨g6, 0, none⟩) n c6) (canonL (C k) K)) := Lib.hid ⟨g6, c6, by rw [hlen], Nat.le_trans (Nat.le_trans hszr hc5.size) hg6, HJ6.out⟩
        have hsz6 : w.heap.size + 3 ≤ w6.heap.size := Nat.le_trans hszr hc6.size
        have HC6 := Lib.hid hc6
        have HQ6 := Lib.hid hq6
        clear hc6 hq6
        obtain ⟨i0, hi, hz0, hz1, hz2⟩ := info_parts Tryd.infoZ
        go_wp2_with (at_builtin; refine wpList_append_own _ rfl _ _ 23 rfl (w.heap.size + 3) 22 i0 (.slice none 0 0) 1 24 Tryd.underlying23 hi hz0 hz1 hz2 rfl (by decide) _ _ _ rfl (hown6.alloc _) ⟨w6.heap.size, 0, none⟩ 1 1 [.slice (some ⟨g6, 0, none⟩) n c6] rfl rfl ?c1 ?c2 ?c3 ?c4 ?c5 ?_)
        case c1 =>
          intro j u hj
          match j, hj with
          | 0, hj => simp at hj; subst hj; simp [Addr.add]
        case c2 => intro u hu; simp at hu; subst hu; rfl
        case c3 => unfold maxLen; omega
        case c4 => omega
        case c5 => simp; omega
        · intro v' w7 hown' hgrow _
          obtain ⟨A7, c7, rfl⟩ := own_sl hown'
          have hR7 := RowsZ.snoc (F := fun j => canonL (C j) K) hown6 HVR6.out HU6.out hgrow hown'
          have hp7 := (HS.out.2.1.below HC6.out HS.out.2.1.lt).appended hown6 (by decide) hgrow
          have hm7 := (HS.out.2.2.1.below HC6.out HS.out.2.2.1.lt).appended hown6 (by decide) hgrow
          have hr7 := (HS.out.2.2.2.1.below HC6.out HS.out.2.2.2.1.lt).appended hown6 (by decide) hgrow
          have hq7 := HQ6.out.appended hown6 (by decide) hgrow
          have ho7 := (HS.out.2.2.2.2.2.below HC6.out).appended hown6 (by decide) hgrow
          have hb7 : Below w.heap.size w w7 := ((belowNext HS.out.1 HC6.out).alloc (belowNext HS.out.1 HC6.out).size _).grown hgrow (by have := (belowNext HS.out.1 HC6.out).size; simp; omega) (fun j hj => by have := (hown6.lt j hj).1; omega)
          have q7 := hq7.c1
          have f7 := hq7.free 1
          have ho := OnlyB.set G 1 w7 (.slice A7 (k + 1) c7)
          have hGne : w.heap.size ≠ G ∧ w.heap.size + 1 ≠ G ∧ w.heap.size + 1 + 1 ≠ G ∧ w.heap.size ≤ G := by omega
          have hZ := Lib.hid (⟨hb7.trans (ho.below hGne.2.2.2 hb7.size), hp7.other ho hGne.1, hm7.other ho hGne.2.1, hr7.other ho hGne.2.2.1, hq7.set1 (.slice A7 (k + 1) c7), ho7.only ho (fun cs fr => (hq7.noInt cs fr).2), hR7.only ho hq7.noInt⟩ : _ ∧ _ ∧ _ ∧ _ ∧ _ ∧ _ ∧ _)
          clear hR7 hp7 hm7 hr7 hq7 ho7 hb7 ho hown6 hown' hgrow hi hz0 hz1 hz2 q1
          go_wp2
          generalize w7.setCell ⟨G, 1, none⟩ (.slice A7 (k + 1) c7) = w8 at *
          go_roundw
          case rel => exact ⟨k + 1, _, by omega, by go_num, hZ⟩
          case measure => first | (simp [intOf]; done) | (simp [intOf]; omega)
    · obtain rfl : k = m := by omega
      have HS := Lib.hid (⟨hI1, hI4, hI5, hI6, hI7⟩ : _ ∧ _ ∧ _ ∧ _ ∧ _)
      obtain ⟨vs, hvs, _⟩ := hI7
      obtain ⟨AR, cR, rfl⟩ := own_sl hvs
      have q0 := hI5.c0
      have q1 := hI5.c1
      have r0 := hI4.c0
      have r1 := hI4.c1
      have f0 := hI4.free 0
      have f1 := hI4.free 1
      clear HI hI1 hI2 hI3 hI4 hI5 hI6 hvs
      go_wp2
      have HZ := Lib.hid (HS.out.2.1.set2 (.slice (some ⟨g1, 0, none⟩) n d1) (.slice AR k cR))
      clear q0 q1 r0 r1 f0 f1
      generalize ((wr.setCell ⟨w.heap.size + 1 + 1, 0, none⟩ (.slice (some ⟨g1, 0, none⟩) n d1)).setCell ⟨w.heap.size + 1 + 1, 1, none⟩ (.slice AR k cR)) = w7 at *
      (try simp only [Exit.inBlock, Exit.then])
      refine bodyPost_ret (ret_cell1 rfl _ _ (w.heap.size + 1 + 1) _ _ _ _ rfl HZ.out.1 Tryd.underlying25 rfl (by kernel_rfl)) rfl ?_
      refine ⟨_, rfl, HEX.out _ _ _ ⟨_, _, rfl, (HS.out.2.2.2.1.only HZ.out.2 (fun cs fr => (HS.out.2.1.noInt cs fr).2)).mono (Nat.le_add_right _ _), (HS.out.2.2.2.2.only HZ.out.2 HS.out.2.1.noInt).mono (Nat.le_add_right _ _)⟩, HS.out.1.trans (HZ.out.2.below (by omega) HS.out.1.size)⟩
end Go.Proofs.YtfbgabcdeecpoaaDoor
