/- Layer 6: texts joined: Fr34 Fr35. -/
import Derived.Test.YtkhalapppkhopaaDoorNIi
import Derived.Test.YtkhalapppkhopaaDoorNIr
import Derived.Deep.AppendLies
import Derived.Laws.OwnMore
/- Layer 15: the copy of a model by the reference (what Close asks of it: a part of its own, with the facts and as many relations). -/
namespace Go.Proofs.YtkhalapppkhopaaDoor
open Go.RowKit Go.Proofs.Ws
set_option maxRecDepth 100000
theorem us_app (l : List Nat) (x : Nat) : us (l ++ [x]) = us l ++ [.int .u64 (x : Int)] := by unfold us; simp
theorem addr_zero' (b : Nat) : (⟨b, 0, none⟩ : Addr).add 0 = ⟨b, 0, none⟩ := rfl
theorem step_appW {ops : Array Oper} {o : Oper} {a : Act} {K : Act → World → Prop} {Q : Exit → Act → World → Prop} {E : Prop} {l : List Nat} (n v : Nat) (W : World) (hgd : o.guard = none) (s x : Operand)
    (ho : o.op = .call { callee := .builtin .append, args := #[s, x], argTypes := #[22, 22] }) (base b : Nat) (V : Value)
    (hs : a.eval s = V) (hown : W.ownsRow base 40 1 V n (us l)) (hx : a.eval x = .slice (some ⟨b, 0, none⟩) 1 1)
    (hc : W.cell? ⟨b, 0, none⟩ = some (.int .u64 (v : Int))) (hl : n ≤ 1000000) (hbase : base ≤ W.heap.size)
    (h : ∀ g cap w', w'.ownsRow base 40 1 (.slice (some ⟨g, 0, none⟩) (n + 1) cap) (n + 1) (us (l ++ [v])) → W.grownBy w' V.ownBlock → (V.ownBlock = some g ∨ W.heap.size ≤ g) → g < w'.heap.size → K (a.put o.dst (.slice (some ⟨g, 0, none⟩) (n + 1) cap)) w') :
    if Region.wanted o (yielded ops a.tmps) = true then Oper.wp Tryd.prog o a W K Q else E := by
  obtain ⟨i0, hi, hz0, hz1, hz2⟩ := info_parts Tryd.infoU
  refine step_append_lies W hgd s x 22 ho base 40 i0 _ 1 8 Tryd.underlying22 hi hz0 hz1 hz2 rfl (by decide) V n (us l) hs hown ⟨b, 0, none⟩ 1 1 [.int .u64 (v : Int)] hx rfl ?_ ?_ (by decide) (by unfold maxLen; omega) (by omega) hbase _ rfl ?_
  · intro j u hj
    cases j with
    | zero => simp at hj; subst hj; rw [addr_zero']; exact hc
    | succ j => simp at hj
  · intro u hu
    rw [List.mem_singleton.1 hu]; rfl
  · intro g cap w' h1 h2 h3 h4
    exact h g cap w' (by rw [us_app]; exact h1) h2 (h3.imp id (fun e => by omega)) h4
theorem own_keep1 {W W' : World} {lo size : Nat} {e : TypeId} {v : Value} {n : Nat} {xs : List Value} (h : W.ownsRow lo e size v n xs) (hk : ∀ g, v.ownBlock = some g → W'.heap[g]? = W.heap[g]?) : W'.ownsRow lo e size v n xs := by
  refine ⟨h.1, ?_⟩
  rcases h.2 with hn | ⟨g, cap, cur, hv, hb, hg, rest⟩
  · exact .inl hn
  · exact .inr ⟨g, cap, cur, hv, hb, by rw [hk g (by rw [hv]; rfl)]; exact hg, rest⟩
theorem own_type {W : World} {b size n : Nat} {e : TypeId} {v : Value} {xs : List Value} (h : W.ownsRow b e size v n xs) {g : Nat} (hg : v.ownBlock = some g) : ∃ cur, W.heap[g]? = some (.cells cur e (0, 0)) := by
  rcases h.2 with ⟨rfl, _⟩ | ⟨g2, cap, cur, rfl, _, h2, _⟩
  · cases hg
  · have e2 : g2 = g := by injection hg
    subst e2
    exact ⟨cur, h2⟩
theorem own_apart {W : World} {b b2 size size2 n n2 : Nat} {e e2 : TypeId} {v v2 : Value} {xs xs2 : List Value} (h : W.ownsRow b e size v n xs) (h2 : W.ownsRow b2 e2 size2 v2 n2 xs2) (hne : e ≠ e2) {g : Nat} (hg : v.ownBlock = some g) : v2.ownBlock ≠ some g := by
  intro hg2
  obtain ⟨c1, k1⟩ := own_type h hg
  obtain ⟨c2, k2⟩ := own_type h2 hg2
  rw [k1] at k2
  injection k2 with k2
  injection k2 with _ k3
  exact hne k3
theorem own_base {W : World} {b b' size n : Nat} {e : TypeId} {v : Value} {xs : List Value} (h : W.ownsRow b e size v n xs) (hb : b' ≤ b) : W.ownsRow b' e size v n xs := by
  refine ⟨h.1, ?_⟩
  rcases h.2 with hn | ⟨g, cap, cur, hv, hbb, rest⟩
  · exact .inl hn
  · exact .inr ⟨g, cap, cur, hv, Nat.le_trans hb hbb, rest⟩
theorem own_sl {w : World} {base : Nat} {e : TypeId} {v : Value} {n size : Nat} {xs : List Value} (h : w.ownsRow base e size v n xs) : ∃ A c, v = .slice A n c := by
  rcases h.2 with ⟨rfl, rfl⟩ | ⟨g, cap, cur, rfl, _⟩
  · exact ⟨_, _, rfl⟩
  · exact ⟨_, _, rfl⟩
section
variable {wx wy : World}
theorem own_lo {B b : Nat} {e : TypeId} {V : Value} {q : Nat} {xs : List Value} (h : wx.ownsRow b e 1 V q xs) (hB : B ≤ b) : ∀ j, V.ownBlock = some j → B ≤ j := fun j hj => Nat.le_trans hB (h.lt j hj).1
end
theorem ret_cell1 {P : Program} {fn : Func} {p : Tmp} {ty : TypeId} (h : fn.results = #[.cell p ty]) (tmps : Array Value) (w : World) (g : Nat) (t : TypeId) (cs : Array Value) (fr : Nat × Nat) (d : TypeDesc)
    (hp : tmps.getD p undef = .pointer (some ⟨g, 0, none⟩)) (hg : w.heap[g]? = some (.cells cs t fr))
    (hu : P.underlying ty = some d) (hd : (match d with | .struct _ | .array _ _ => true | _ => false) = true) (hi : (P.info? ty).map (·.size) = some cs.size) :
    (results fn tmps).run P w = .ok (.agg cs) w := by
  rw [results_cell h, hp]
  simp [asAddr, Result.andThen, run_loadVar_row w g t ty cs fr d hg hu hd hi]
/-- a model under way: the parameter, the result's cell, the part -/
structure Cp (w wx : World) (n : Int) (v1 v2 : Value) (P : Nat) (VV RV : Value) : Prop where
  rs : Rs w wx n v1 v2
  part : MBox wx P n VV RV
  lo : w.heap.size + 2 ≤ P
section
variable {w wx wy : World} {n : Int} {v1 v2 VV RV : Value} {P : Nat}
theorem Cp.keep (h : Cp w wx n v1 v2 P VV RV) (hb : Below (P + 1) wx wy) : Cp w wy n v1 v2 P VV RV := by
  have hl := h.lo
  exact ⟨⟨(hb.block _ (by omega)).trans h.rs.box, (hb.block _ (by omega)).trans h.rs.res, h.rs.below.trans (hb.mono (by omega))⟩, (hb.block _ (by omega)).trans h.part, hl⟩
theorem Cp.put1 (h : Cp w wx n v1 v2 P VV RV) (v : Value) : Cp w (wx.setCell ⟨P, 1, none⟩ v) n v1 v2 P v RV := by
  have hb := OnlyB.set P 1 wx v
  have hl := h.lo
  have hp := h.part
  refine ⟨⟨(hb.block _ h.rs.box.lt (by omega)).trans h.rs.box, (hb.block _ h.rs.res.lt (by omega)).trans h.rs.res, h.rs.below.trans (hb.below (by omega) h.rs.below.size)⟩, ?_, hl⟩
  unfold MBox at hp ⊢
  simp [World.setCell, Array.getElem?_modify, hp]
theorem Cp.put2 (h : Cp w wx n v1 v2 P VV RV) (v : Value) : Cp w (wx.setCell ⟨P, 2, none⟩ v) n v1 v2 P VV v := by
  have hb := OnlyB.set P 2 wx v
  have hl := h.lo
  have hp := h.part
  refine ⟨⟨(hb.block _ h.rs.box.lt (by omega)).trans h.rs.box, (hb.block _ h.rs.res.lt (by omega)).trans h.rs.res, h.rs.below.trans (hb.below (by omega) h.rs.below.size)⟩, ?_, hl⟩
  unfold MBox at hp ⊢
  simp [World.setCell, Array.getElem?_modify, hp]
end
set_option maxHeartbeats 16000000 in
theorem rCopy_any (m : Mo) (v : Value) (w : World) (hM : MoR w w.heap.size v m) (h8 : m.val.length ≤ 8) (h4 : m.rel.length ≤ 4) (h64 : ∀ a, a < m.rel.length → (m.rel.getD a []).length ≤ 64) :
    Calls Tryd.prog 41 #[v] w fun e w' => ∃ VV RV vs, e = .returned (.agg #[.int .i64 m.n, VV, RV]) ∧ w'.ownsRow w.heap.size 40 1 VV m.val.length (us m.val) ∧ w'.ownsRow w.heap.size 22 1 RV m.rel.length vs ∧ Below w.heap.size w w' := by
  obtain ⟨A1, c1, A2, c2, rfl, hv, hr⟩ := hM.ex
  have HV := Lib.hid hv
  have HRR := Lib.hid hr
  have H64 := Lib.hid h64
  clear hM hv hr h64
  generalize hnve : m.val.length = nv at *
  generalize hnre : m.rel.length = nr at *
  have HNV := Lib.hid hnve
  have HNR := Lib.hid hnre
  clear hnve hnre
  have HR := Lib.hid (Rs.made w m.n (.slice A1 nv c1) (.slice A2 nr c2))
  go_enter Tryd.func41, Tryd.ntmps41
  go_wp2
  have HT0 : Hid (Cp w (((w.alloc (.cells #[.int .i64 m.n, .slice A1 nv c1, .slice A2 nr c2] 25)).alloc (.cells #[.int .i64 0, .slice none 0 0, .slice none 0 0] 25)).alloc (.cells #[.int .i64 m.n, .slice none 0 0, .slice none 0 0] 25)) m.n (.slice A1 nv c1) (.slice A2 nr c2) (w.heap.size + 1 + 1) (.slice none 0 0) (.slice none 0 0)) := Lib.hid (by
    have h2 := MBox.made ((w.alloc (.cells #[.int .i64 m.n, .slice A1 nv c1, .slice A2 nr c2] 25)).alloc (.cells #[.int .i64 0, .slice none 0 0, .slice none 0 0] 25)) m.n (.slice none 0 0) (.slice none 0 0)
    have e : ((w.alloc (.cells #[.int .i64 m.n, .slice A1 nv c1, .slice A2 nr c2] 25)).alloc (.cells #[.int .i64 0, .slice none 0 0, .slice none 0 0] 25)).heap.size = w.heap.size + 1 + 1 := by simp
    rw [e] at h2
    exact ⟨HR.out.keep ((Below.refl _ _).alloc (Nat.le_refl _) _), h2, by omega⟩)
  generalize (((w.alloc (.cells #[.int .i64 m.n, .slice A1 nv c1, .slice A2 nr c2] 25)).alloc (.cells #[.int .i64 0, .slice none 0 0, .slice none 0 0] 25)).alloc (.cells #[.int .i64 m.n, .slice none 0 0, .slice none 0 0] 25)) = w1 at *
  obtain ⟨P, hP⟩ : ∃ P, w.heap.size + 1 + 1 = P := ⟨_, rfl⟩
  have HPE := Lib.hid hP
  rw [hP] at HT0
  (try rw [hP])
  clear hP
  obtain ⟨i0, hi0, hz0, hz1, hz2⟩ := info_parts Tryd.infoU
  go_loopw [4] (fun i wr => ∃ (j : Nat) (VV : Value), j ≤ nv ∧ i = .int .i64 (j : Int) ∧ Hid (Cp w wr m.n (.slice A1 nv c1) (.slice A2 nr c2) P VV (.slice none 0 0)) ∧ Hid (wr.ownsRow (P + 1) 40 1 VV j (us (m.val.take j)))) (fun i _ => nv - (intOf i).toNat)
  case atStart => exact ⟨0, .slice none 0 0, Nat.zero_le _, rfl, HT0, Lib.hid (World.ownsRow_nil _ _ _ _)⟩
  case round =>
    obtain ⟨j, VV, hj, rfl, HT, HO⟩ := hrel
    have b1 := HT.out.rs.box.c1
    by_cases hlt : j < nv
    · obtain ⟨ad, rfl, hb, hc⟩ := (HV.out.below HT.out.rs.below).word_k hlt
      have HJ : Hid (us (m.val.take j ++ [m.val.getD j 0]) = us (m.val.take (j + 1))) := Lib.hid (by
        have hjl : j < m.val.length := by have := HNV.out; omega
        rw [List.take_add_one, List.getD_eq_getElem?_getD, List.getElem?_eq_getElem hjl]; rfl)
      have HCA : Hid (∀ W, Below (P + 1) wr W → W.cell? ⟨w.heap.size, 1, none⟩ = some (.slice (some ad) nv c1) ∧ W.cell? (ad.add j) = some (.int .u64 ((m.val.getD j 0 : Nat) : Int)) ∧ W.cell? ⟨P, 1, none⟩ = some VV ∧ W.frozen? ⟨P, 1, none⟩ = false) := Lib.hid (fun W h => by
        have hk := HT.out.keep h
        obtain ⟨ad2, e2, _, h2⟩ := (HV.out.below hk.rs.below).word_k hlt
        injection e2 with e2
        subst e2
        exact ⟨hk.rs.box.c1, h2, hk.part.c1, hk.part.free 1⟩)
      clear hb hc
      generalize m.val.getD j 0 = x at *
      have hsz0 : P < wr.heap.size := HT.out.part.lt
      go_wp2
      clear b1
      refine wp_region_bas [.pointer (some ⟨P, 1, none⟩), VV, .pointer (some ⟨w.heap.size, 1, none⟩), .slice (some ad) nv c1, .int .i64 (j : Int), .pointer (some (ad.add j)), .int .u64 (x : Int), undef, undef, .pointer (some ⟨P, 1, none⟩)] 18 7 8 10 63 (fun W => Below (P + 1) wr W) (fun W => Below (P + 1) wr W ∧ W.ownsRow (P + 1) 40 1 (VV) (j) (us (m.val.take j))) (fun W => ∃ (W0 : World) (A3 : Option Addr) (c3 : Nat), W = W0.setCell ⟨P, 1, none⟩ (.slice A3 (j + 1) c3) ∧ Below (P + 1) wr W0 ∧ W0.ownsRow (P + 1) 40 1 (.slice A3 (j + 1) c3) (j + 1) (us (m.val.take j ++ [x]))) (fun W v => Below (P + 1) wr W ∧ W.ownsRow (P + 1) 40 1 (VV) (j) (us (m.val.take j)) ∧ ∃ g : Nat, v = .slice (some ⟨g, 0, none⟩) 1 1 ∧ W.cell? ⟨g, 0, none⟩ = some (.int .u64 (x : Int))) (fun W v => Below (P + 1) wr W ∧ ∃ (A3 : Option Addr) (c3 : Nat), v = .slice A3 (j + 1) c3 ∧ W.ownsRow (P + 1) 40 1 (.slice A3 (j + 1) c3) (j + 1) (us (m.val.take j ++ [x]))) rfl rfl (by omega) (by omega) (by omega) (by omega) (by kernel_rfl) (by kernel_rfl) (by kernel_rfl) (by kernel_rfl) (by kernel_rfl) ⟨(Below.refl _ wr).drew, HO.out⟩ (fun W h => h.1) (fun W v h => h.1) (fun W v h => h.1) ?hpure ?hB ?hA ?hL ?fin
      case hpure =>
        refine (lt_more (lt_more (lt_more (lt_more (lt_more (lt_more (lt_more (lt_more (lt_more (lt_more (lt_none _) (fun _ _ => ?s0)) (fun _ _ => ?s1)) (fun _ _ => ?s2)) (fun _ _ => ?s3)) (fun _ _ => ?s4)) (fun _ _ => ?s5)) (fun _ _ => ?s6)) (fun h _ => absurd rfl h)) (fun _ h => absurd rfl h)) (fun _ _ => ?s9))
        case s0 =>
          intro o ho a W hS ⟨hsz, hdf, hfr, hdep⟩ K hK
          obtain ⟨tm, df⟩ := a
          have hdf : df = [] := hdf
          subst hdf
          have ho := Option.some.inj ho
          subst ho
          have hsz : tm.size = 63 := hsz
          have t3 : tm.getD 3 undef = .pointer (some ⟨P, 0, none⟩) := hfr 3 (by intro j hj; omega)
          clear hdep hfr
          go_simp
          exact hK
        case s1 =>
          intro o ho a W hS ⟨hsz, hdf, hfr, hdep⟩ K hK
          obtain ⟨tm, df⟩ := a
          have hdf : df = [] := hdf
          subst hdf
          have ho := Option.some.inj ho
          subst ho
          have hsz : tm.size = 63 := hsz
          have t18 : tm.getD 18 undef = .pointer (some ⟨P, 1, none⟩) := hdep ⟨0, .data⟩ (by simp) (by rfl) (by decide) (by decide) (by decide)
          obtain ⟨cz0, cz1, cz2, cz3⟩ := HCA.out W hS
          clear hdep hfr
          go_simp
          exact hK
        case s2 =>
          intro o ho a W hS ⟨hsz, hdf, hfr, hdep⟩ K hK
          obtain ⟨tm, df⟩ := a
          have hdf : df = [] := hdf
          subst hdf
          have ho := Option.some.inj ho
          subst ho
          have hsz : tm.size = 63 := hsz
          have t1 : tm.getD 1 undef = .pointer (some ⟨w.heap.size, 0, none⟩) := hfr 1 (by intro j hj; omega)
          clear hdep hfr
          go_simp
          exact hK
        case s3 =>
          intro o ho a W hS ⟨hsz, hdf, hfr, hdep⟩ K hK
          obtain ⟨tm, df⟩ := a
          have hdf : df = [] := hdf
          subst hdf
          have ho := Option.some.inj ho
          subst ho
          have hsz : tm.size = 63 := hsz
          have t20 : tm.getD 20 undef = .pointer (some ⟨w.heap.size, 1, none⟩) := hdep ⟨2, .data⟩ (by simp) (by rfl) (by decide) (by decide) (by decide)
          obtain ⟨cz0, cz1, cz2, cz3⟩ := HCA.out W hS
          clear hdep hfr
          go_simp
          exact hK
        case s4 =>
          intro o ho a W hS ⟨hsz, hdf, hfr, hdep⟩ K hK
          obtain ⟨tm, df⟩ := a
          have hdf : df = [] := hdf
          subst hdf
          have ho := Option.some.inj ho
          subst ho
          have hsz : tm.size = 63 := hsz
          have t4 : tm.getD 4 undef = .int .i64 (j : Int) := hfr 4 (by intro j hj; omega)
          clear hdep hfr
          go_simp
          exact hK
        case s5 =>
          intro o ho a W hS ⟨hsz, hdf, hfr, hdep⟩ K hK
          obtain ⟨tm, df⟩ := a
          have hdf : df = [] := hdf
          subst hdf
          have ho := Option.some.inj ho
          subst ho
          have hsz : tm.size = 63 := hsz
          have t21 : tm.getD 21 undef = .slice (some ad) nv c1 := hdep ⟨3, .data⟩ (by simp) (by rfl) (by decide) (by decide) (by decide)
          have t22 : tm.getD 22 undef = .int .i64 (j : Int) := hdep ⟨4, .data⟩ (by simp) (by rfl) (by decide) (by decide) (by decide)
          clear hdep hfr
          go_simp
          exact hK
        case s6 =>
          intro o ho a W hS ⟨hsz, hdf, hfr, hdep⟩ K hK
          obtain ⟨tm, df⟩ := a
          have hdf : df = [] := hdf
          subst hdf
          have ho := Option.some.inj ho
          subst ho
          have hsz : tm.size = 63 := hsz
          have t23 : tm.getD 23 undef = .pointer (some (ad.add j)) := hdep ⟨5, .data⟩ (by simp) (by rfl) (by decide) (by decide) (by decide)
          obtain ⟨cz0, cz1, cz2, cz3⟩ := HCA.out W hS
          clear hdep hfr
          go_simp
          exact hK
        case s9 =>
          intro o ho a W hS ⟨hsz, hdf, hfr, hdep⟩ K hK
          obtain ⟨tm, df⟩ := a
          have hdf : df = [] := hdf
          subst hdf
          have ho := Option.some.inj ho
          subst ho
          have hsz : tm.size = 63 := hsz
          have t3 : tm.getD 3 undef = .pointer (some ⟨P, 0, none⟩) := hfr 3 (by intro j hj; omega)
          clear hdep hfr
          go_simp
          exact hK
      case hB =>
        intro o ho a W hS ⟨hsz, hdf, hfr, hdep⟩ K hK
        obtain ⟨tm, df⟩ := a
        have hdf : df = [] := hdf
        subst hdf
        have ho := Option.some.inj ho
        subst ho
        have hsz : tm.size = 63 := hsz
        have t24 : tm.getD 24 undef = .int .u64 (x : Int) := hdep ⟨6, .data⟩ (by simp) (by rfl) (by decide) (by decide) (by decide)
        have w24 : tm[24]'(by omega) = .int .u64 (x : Int) := getq t24 (by omega)
        have hle : P + 1 ≤ W.heap.size := Nat.le_trans hsz0 hS.1.size
        clear hdep hfr
        go_simp
        exact hK _ (W.alloc (.cells #[.int .u64 (x : Int)] 40)) ⟨hS.1.alloc hle _, own_keep1 hS.2 (fun g hg => Below.heap_alloc W _ g (hS.2.lt g hg).2), W.heap.size, rfl, by rw [Lib.cell_of_heap (heap_alloc_new W _)]; rfl⟩
      case hA =>
        intro o ho a W hS ⟨hsz, hdf, hfr, hdep⟩ K hK
        obtain ⟨tm, df⟩ := a
        have hdf : df = [] := hdf
        subst hdf
        have ho := Option.some.inj ho
        subst ho
        have hsz : tm.size = 63 := hsz
        have t19 : tm.getD 19 undef = VV := hdep ⟨1, .data⟩ (by simp) (by rfl) (by decide) (by decide) (by decide)
        obtain ⟨hb1, hown, g, hv, hcg⟩ := hS
        have hle : P + 1 ≤ W.heap.size := Nat.le_trans hsz0 hb1.size
        have t25 : tm.getD 25 undef = .slice (some ⟨g, 0, none⟩) 1 1 := hv
        clear hdep hfr
        refine step_appW j x W (by rfl) (.tmp 19) (.tmp 25) (by rfl) (P + 1) g VV t19 hown t25 hcg (by omega) hle ?_
        intro g3 c3 w4 ho3 hg3 _ _
        exact hK _ _ ⟨hb1.grown hg3 hle (own_lo hown (Nat.le_refl _)), some ⟨g3, 0, none⟩, c3, rfl, ho3⟩
      case hL =>
        intro o ho a W hS ⟨hsz, hdf, hfr, hdep⟩ K hK
        obtain ⟨tm, df⟩ := a
        have hdf : df = [] := hdf
        subst hdf
        have ho := Option.some.inj ho
        subst ho
        have hsz : tm.size = 63 := hsz
        have t27 : tm.getD 27 undef = .pointer (some ⟨P, 1, none⟩) := hdep ⟨9, .data⟩ (by simp) (by rfl) (by decide) (by decide) (by decide)
        obtain ⟨hb1, A3, c3, hv, hown⟩ := hS
        have t26 : tm.getD 26 undef = .slice A3 (j + 1) c3 := hv
        obtain ⟨_, _, cz2, cz3⟩ := HCA.out W hb1
        clear hdep hfr
        go_simp
        exact hK undef _ ⟨W, A3, c3, rfl, hb1, hown⟩
      case fin =>
        intro vs W _ hS
        obtain ⟨W0, A3, c3, rfl, hb0, hown⟩ := hS
        have HT6 := Lib.hid (HT.out.keep hb0)
        simp only [show List.range 10 = [0, 1, 2, 3, 4, 5, 6, 7, 8, 9] from rfl, List.map, fillT]
        generalize vs.getD 0 undef = y0
        generalize vs.getD 1 undef = y1
        generalize vs.getD 2 undef = y2
        generalize vs.getD 3 undef = y3
        generalize vs.getD 4 undef = y4
        generalize vs.getD 5 undef = y5
        generalize vs.getD 6 undef = y6
        generalize vs.getD 7 undef = y7
        generalize vs.getD 8 undef = y8
        generalize vs.getD 9 undef = y9
        go_simp
        go_wp2
        go_roundw
        case rel => exact ⟨j + 1, _, by omega, by go_num, Lib.hid (Cp.put1 HT6.out _), Lib.hid (by rw [← HJ.out]; exact own_keep1 hown (fun g hg => Below.heap_setCell W0 _ _ g (by have := (hown.lt g hg).1; show g ≠ P; omega)))⟩
        case measure => first | (simp [intOf]; done) | (simp [intOf]; omega)
    · obtain rfl : nv = j := by omega
      have HOV : Hid (wr.ownsRow (P + 1) 40 1 VV nv (us m.val)) := Lib.hid (by
        have h := HO.out
        have e : m.val.take nv = m.val := List.take_of_length_le (by have := HNV.out; omega)
        rwa [e] at h)
      clear hlt HO
      go_wp2
      clear b1
      go_loopw [5, 6, 7] (fun i _ _ wx => ∃ (q : Nat) (RV : Value) (vs : List Value), q ≤ nr ∧ i = .int .i64 (q : Int) ∧ Hid (Cp w wx m.n (.slice A1 nv c1) (.slice A2 nr c2) P VV RV) ∧ Hid (wx.ownsRow (P + 1) 40 1 VV nv (us m.val)) ∧ Hid (wx.ownsRow (P + 1) 22 1 RV q vs)) (fun i _ _ _ => nr - (intOf i).toNat)
      case atStart => exact ⟨0, .slice none 0 0, [], Nat.zero_le _, rfl, HT, HOV, Lib.hid (World.ownsRow_nil _ _ _ _)⟩
      case round =>
        obtain ⟨q, RV, vs, hq, rfl, HTa, HOa, HVS1⟩ := hrel
        have b2 := HTa.out.rs.box.c2
        by_cases hlt : q < nr
        · obtain ⟨ad, Aj, cj, rfl, hb, hc0, hrj, _⟩ := HRR.out.at_ hlt
          have hk64 := H64.out q hlt
          generalize m.rel.getD q [] = lj at *
          generalize hkl : lj.length = k at *
          clear hkl
          have HRJ := Lib.hid hrj
          have HC0 : Hid (∀ w4, Below w.heap.size w w4 → w4.cell? (ad.add q) = some (.slice Aj k cj)) := Lib.hid (fun w4 hb4 => (hb4.cell (p := ad.add q) (by rw [block_of_add]; exact hb)).trans hc0)
          clear hb hc0 hrj
          go_wp2
          clear b2
          generalize wr = w5 at *
          have hs5 : P + 1 ≤ w5.heap.size := HTa.out.part.lt
          go_loopw [6, 7] (fun v i wy => ∃ (x : Nat) (vv : Value) (xs : List Value), x ≤ k ∧ i = .int .i64 (x : Int) ∧ vv = v ∧ Hid (wy.ownsRow w5.heap.size 40 1 vv x xs) ∧ Hid (Below w5.heap.size w5 wy)) (fun _ i _ => k - (intOf i).toNat)
          case atStart => exact ⟨0, .slice none 0 0, [], Nat.zero_le _, rfl, rfl, Lib.hid (World.ownsRow_nil _ _ _ _), Lib.hid (Below.refl _ _)⟩
          case round =>
            obtain ⟨x, vv, xs, hx, rfl, rfl, HOj, HBj⟩ := hrel
            have HTx := Lib.hid (HTa.out.keep (HBj.out.mono hs5))
            have z4 := HTx.out.rs.box.c2
            have z5 := HC0.out _ HTx.out.rs.below
            by_cases hlx : x < k
            · obtain ⟨aj, rfl, _, _⟩ := (HRJ.out.below HTx.out.rs.below).word_k hlx
              have HCS2 : Hid (∀ w4, Below w5.heap.size w5 w4 → w4.cell? ⟨w.heap.size, 2, none⟩ = some (.slice (some ad) nr c2) ∧ w4.cell? (ad.add q) = some (.slice (some aj) k cj) ∧ w4.cell? (aj.add x) = some (.int .u64 ((lj.getD x 0 : Nat) : Int))) := Lib.hid (fun w4 hb4 => by
                have hbk := HTa.out.keep (hb4.mono hs5)
                obtain ⟨aj2, e3, _, h3⟩ := (HRJ.out.below hbk.rs.below).word_k hlx
                injection e3 with e3
                subst e3
                exact ⟨hbk.rs.box.c2, HC0.out w4 hbk.rs.below, h3⟩)
              generalize lj.getD x 0 = z at *
              have hszr := HBj.out.size
              obtain ⟨q1, q2, q3⟩ := HCS2.out wr HBj.out
              have hown := HOj.out
              clear HCS2
              go_wp2_with (at_builtin; refine wpList_append_own _ rfl _ _ 22 rfl w5.heap.size 40 i0 (.int .u64 0) 1 8 Tryd.underlying22 hi0 hz0 hz1 hz2 rfl (by decide) _ _ _ rfl (hown.alloc _) ⟨wr.heap.size, 0, none⟩ 1 1 [.int .u64 (z : Int)] rfl rfl ?c1 ?c2 ?c3 ?c4 ?c5 ?_)
              case c1 =>
                intro j u hj
                match j, hj with
                | 0, hj => simp at hj; subst hj; simp [Addr.add]
              case c2 => intro u hu; simp at hu; subst hu; rfl
              case c3 => unfold maxLen; omega
              case c4 => omega
              case c5 => simp; omega
              · intro v' w6 hown' hgrow _
                have hb1 : Below w5.heap.size w5 w6 := (HBj.out.alloc hszr _).grown hgrow (by simp; omega) (fun j hj => by have := (hown.lt j hj).1; omega)
                have HO6 := Lib.hid hown'
                have HB6 := Lib.hid hb1
                clear hgrow hown hown' hb1 z4 z5 q1 q2 q3
                go_wp2
                go_roundw
                case rel => exact ⟨x + 1, v', _, by omega, by go_num, rfl, HO6, HB6⟩
                case measure => first | (simp [intOf]; done) | (simp [intOf]; omega)
            · obtain rfl : k = x := by omega
              obtain ⟨Av, cv, rfl⟩ := own_sl HOj.out
              have HT6 := HTx
              have HV6 := Lib.hid (own_keep1 HOa.out (fun g hg => HBj.out.block g (HOa.out.lt g hg).2))
              have HVS6 := Lib.hid (own_keep1 HVS1.out (fun g hg => HBj.out.block g (HVS1.out.lt g hg).2))
              have hs6 : P + 1 ≤ wr.heap.size := Nat.le_trans hs5 HBj.out.size
              have p2 := HT6.out.part.c2
              have f2 := HT6.out.part.free 2
              clear hlx HOj HBj HTx HTa HOa HVS1
              obtain ⟨iv0, hiv, hzv0, hzv1, hzv2⟩ := info_parts Tryd.infoV
              go_wp2_with (at_builtin; refine wpList_append_own _ rfl _ _ 23 rfl (P + 1) 22 iv0 (.slice none 0 0) 1 24 Tryd.underlying23 hiv hzv0 hzv1 hzv2 rfl (by decide) _ _ _ rfl (HVS6.out.alloc _) ⟨wr.heap.size, 0, none⟩ 1 1 [.slice Av k cv] rfl rfl ?c1 ?c2 ?c3 ?c4 ?c5 ?_)
              case c1 =>
                intro j u hj
                match j, hj with
                | 0, hj => simp at hj; subst hj; simp [Addr.add]
              case c2 => intro u hu; simp at hu; subst hu; rfl
              case c3 => unfold maxLen; omega
              case c4 => omega
              case c5 => simp; omega
              · intro v' w6 hown' hgrow _
                obtain ⟨Ag, cg, rfl⟩ := own_sl hown'
                have HG6 := Lib.hid hown'
                have hb6 : Below (P + 1) wr w6 := ((Below.refl _ wr).alloc hs6 _).grown hgrow (by simp; omega) (own_lo HVS6.out (Nat.le_refl _))
                have HT7 := Lib.hid (HT6.out.keep hb6)
                have HV7 : Hid (w6.ownsRow (P + 1) 40 1 VV nv (us m.val)) := Lib.hid (own_keep1 HV6.out (fun g hg => (hgrow.block g (Nat.lt_of_lt_of_le (HV6.out.lt g hg).2 (by simp)) (fun e => own_apart HV6.out HVS6.out (by decide) hg e.symm)).trans (Below.heap_alloc wr _ g (HV6.out.lt g hg).2)))
                have p3 := HT7.out.part.c2
                have f3 := HT7.out.part.free 2
                clear hgrow hown' hb6 p2 f2 z4 z5
                go_wp2
                go_roundw
                case rel => exact ⟨q + 1, _, _, by omega, by go_num, Lib.hid (Cp.put2 HT7.out _), Lib.hid (own_keep1 HV7.out (fun g hg => Below.heap_setCell w6 _ _ g (by have := (HV7.out.lt g hg).1; show g ≠ P; omega))), Lib.hid (own_keep1 HG6.out (fun g hg => Below.heap_setCell w6 _ _ g (by have := (HG6.out.lt g hg).1; show g ≠ P; omega)))⟩
                case measure => first | (simp [intOf]; done) | (simp [intOf]; omega)
        · obtain rfl : nr = q := by omega
          have q0 := HTa.out.part.c0
          have q1 := HTa.out.part.c1
          have q2 := HTa.out.part.c2
          have y0 := HTa.out.rs.res.c0
          have y1 := HTa.out.rs.res.c1
          have y2 := HTa.out.rs.res.c2
          have f0 := HTa.out.rs.res.free 0
          have f1 := HTa.out.rs.res.free 1
          have f2 := HTa.out.rs.res.free 2
          clear hlt
          obtain ⟨Av, cv, rfl⟩ := own_sl HOa.out
          obtain ⟨Ar, cr, rfl⟩ := own_sl HVS1.out
          go_wp2
          have HZ3 := Lib.hid (HTa.out.rs.fin m.n (.slice Av nv cv) (.slice Ar nr cr))
          clear q0 q1 q2 y0 y1 y2 f0 f1 f2 b2
          have hlo := HTa.out.lo
          generalize (((wr.setCell ⟨w.heap.size + 1, 0, none⟩ (.int .i64 m.n)).setCell ⟨w.heap.size + 1, 1, none⟩ (.slice Av nv cv)).setCell ⟨w.heap.size + 1, 2, none⟩ (.slice Ar nr cr)) = w7 at *
          (try simp only [Exit.inBlock, Exit.then])
          refine bodyPost_ret (ret_cell1 rfl _ _ (w.heap.size + 1) _ _ _ _ rfl HZ3.out.1 Tryd.underlying25 rfl (by kernel_rfl)) rfl ?_
          exact ⟨_, _, vs, rfl, own_base (own_keep1 HOa.out (fun g hg => HZ3.out.2.2.block g (HOa.out.lt g hg).2 (by have := (HOa.out.lt g hg).1; omega))) (by omega), own_base (own_keep1 HVS1.out (fun g hg => HZ3.out.2.2.block g (HVS1.out.lt g hg).2 (by have := (HVS1.out.lt g hg).1; omega))) (by omega), HZ3.out.2.1⟩
end Go.Proofs.YtkhalapppkhopaaDoor
/- Layer 15: Close by the reference. -/
namespace Go.Proofs.YtkhalapppkhopaaDoor
open Go.RowKit Go.Proofs.Ws
set_option maxRecDepth 100000
/-- what is known of the values of the region that closes one relation -/
def vCq (lo P GR a s n : Nat) (nr cr c2 : Nat) (g : Int) (ad : Addr) (Aj : Option Addr) (cj : Nat) (l : List Nat) : Nat → Value → World → Prop
  | 0, v, _ => v = .pointer (some ⟨P, 2, none⟩)
  | 1, v, _ => v = .slice (some ⟨GR, 0, none⟩) nr cr
  | 2, v, _ => v = .int .i64 (a : Int)
  | 3, v, _ => v = .pointer (some ⟨lo, 2, none⟩)
  | 4, v, _ => v = .slice (some ad) nr c2
  | 5, v, _ => v = .int .i64 (a : Int)
  | 6, v, _ => v = .pointer (some (ad.add a))
  | 7, v, _ => v = .slice Aj n cj
  | 8, v, _ => v = .int .i64 g
  | 9, v, W => ∃ A c C, ClosR n g l C ∧ v = .slice A n c ∧ OwnL s W A C
  | 10, v, _ => v = .pointer (some ⟨GR, a, none⟩)
  | _, _, _ => True
theorem vCq_up {lo P GR a s n : Nat} {nr cr c2 : Nat} {g : Int} {ad : Addr} {Aj : Option Addr} {cj : Nat} {l : List Nat} : ∀ i v W W', vCq lo P GR a s n nr cr c2 g ad Aj cj l i v W → Below W.heap.size W W' → vCq lo P GR a s n nr cr c2 g ad Aj cj l i v W'
  | 0, _, _, _, h, _ => h
  | 1, _, _, _, h, _ => h
  | 2, _, _, _, h, _ => h
  | 3, _, _, _, h, _ => h
  | 4, _, _, _, h, _ => h
  | 5, _, _, _, h, _ => h
  | 6, _, _, _, h, _ => h
  | 7, _, _, _, h, _ => h
  | 8, _, _, _, h, _ => h
  | 9, _, _, _, ⟨A, c, C, h1, e, h2⟩, hb => ⟨A, c, C, h1, e, h2.below hb⟩
  | 10, _, _, _, h, _ => h
  | _ + 11, _, _, _, _, _ => trivial
theorem ne_PO {W : World} {g b q : Nat} {l : List Nat} {v : Value} {xs : List Value} {GR : Nat} (h : HoldsP W g l) (h2 : W.ownsRow b 22 1 v q xs) (hg : v.ownBlock = some GR) : g ≠ GR := fun e => by
  subst e
  obtain ⟨pad, h⟩ := h
  obtain ⟨cur, k⟩ := own_type h2 hg
  rw [h] at k
  injection k with k
  injection k with _ k3
  exact absurd k3 (by decide)
theorem ne_MO {W : World} {P b q : Nat} {n : Int} {v1 v2 : Value} {v : Value} {xs : List Value} {GR : Nat} (h : MBox W P n v1 v2) (h2 : W.ownsRow b 22 1 v q xs) (hg : v.ownBlock = some GR) : P ≠ GR := fun e => by
  subst e
  obtain ⟨cur, k⟩ := own_type h2 hg
  unfold MBox at h
  rw [h] at k
  injection k with k
  injection k with _ k3
  exact absurd k3 (by decide)
/-- the part that is being closed -/
structure Cq (w wx : World) (n : Int) (v1 v2 : Value) (P nv nr : Nat) (VV RV : Value) (val : List Nat) (LR : List Value) : Prop where
  rs : Rs w wx n v1 v2
  part : MBox wx P n VV RV
  val : wx.ownsRow (w.heap.size + 2) 40 1 VV nv (us val)
  own : wx.ownsRow (w.heap.size + 2) 22 1 RV nr LR
  lo : w.heap.size + 2 ≤ P
section
variable {w wx wy : World} {n : Int} {v1 v2 VV RV : Value} {P nv nr k a : Nat} {val : List Nat} {LR : List Value} {Q : Nat → List Nat → Prop}
theorem Cq.below (h : Cq w wx n v1 v2 P nv nr VV RV val LR) (hb : Below wx.heap.size wx wy) : Cq w wy n v1 v2 P nv nr VV RV val LR :=
  ⟨h.rs.keep hb, h.part.below hb h.part.lt, own_keep1 h.val (fun g hg => hb.block g (h.val.lt g hg).2), own_keep1 h.own (fun g hg => hb.block g (h.own.lt g hg).2), h.lo⟩
theorem Cq.step {GR : Nat} {LR' : List Value} (h : Cq w wx n v1 v2 P nv nr VV RV val LR) (hg : RV.ownBlock = some GR) (ho : OnlyB GR wx wy) (hv : wy.ownsRow (w.heap.size + 2) 22 1 RV nr LR') : Cq w wy n v1 v2 P nv nr VV RV val LR' := by
  have h1 := (h.own.lt GR hg).1
  exact ⟨⟨(ho.block _ h.rs.box.lt (by omega)).trans h.rs.box, (ho.block _ h.rs.res.lt (by omega)).trans h.rs.res, h.rs.below.trans (ho.below (by omega) h.rs.below.size)⟩, (ho.block _ h.part.lt (ne_MO h.part h.own hg)).trans h.part, own_keep1 h.val (fun g hg2 => ho.block g (h.val.lt g hg2).2 (fun e => own_apart h.val h.own (by decide) hg2 (by rw [e]; exact hg))), hv, h.lo⟩
theorem RowsC.stepO {lo g c GR q b : Nat} {C : List Nat} {RV : Value} {xs : List Value} (h : RowsC wx lo k Q LR a) (hr : wx.ownsRow b 22 1 RV q xs) (hgr : RV.ownBlock = some GR) (ho : OnlyB GR wx wy) (ha : a < LR.length) (hg : HoldsP wy g C) (hlo : lo ≤ g) (hQ : Q a C) : RowsC wy lo k Q (LR.set a (.slice (some ⟨g, 0, none⟩) k c)) (a + 1) := fun j hj => by
  by_cases e : j = a
  · subst e
    exact ⟨g, c, C, List.getElem?_set_self ha, hg, hlo, hQ⟩
  · obtain ⟨g2, c2, C2, h1, h2, h3, h4⟩ := h j (by omega)
    exact ⟨g2, c2, C2, by rw [List.getElem?_set_ne (Ne.symm e)]; exact h1, h2.only ho (ne_PO h2 hr hgr), h3, h4⟩
/-- the model that is returned -/
theorem Cq.fin (h : Cq w wx n v1 v2 P nv nr VV RV val LR) (hr : RowsC wx (w.heap.size + 2) k Q LR nr) (hn : 0 ≤ n ∧ n ≤ 64) (hl : val.length = nv) (hnv : nv ≤ 8) (hnr : nr ≤ 4) (hk : k ≤ 64) (hw : Words val) (hQ : ∀ j C, Q j C → Sh k C) :
    ∃ rel : List (List Nat), rel.length = nr ∧ (∀ j, j < nr → Q j (rel.getD j [])) ∧ MoF wx (w.heap.size + 2) (.agg #[.int .i64 n, VV, RV]) ⟨n, val, rel⟩ := by
  have hex : ∀ j, ∃ C : List Nat, j < nr → ∃ g c, LR[j]? = some (.slice (some ⟨g, 0, none⟩) k c) ∧ HoldsP wx g C ∧ w.heap.size + 2 ≤ g ∧ Q j C := fun j => by
    by_cases hj : j < nr
    · obtain ⟨g, c, C, h1⟩ := hr j hj
      exact ⟨C, fun _ => ⟨g, c, h1⟩⟩
    · exact ⟨[], fun h => absurd h hj⟩
  obtain ⟨F, hF⟩ : ∃ F : Nat → List Nat, ∀ j, j < nr → ∃ g c, LR[j]? = some (.slice (some ⟨g, 0, none⟩) k c) ∧ HoldsP wx g (F j) ∧ w.heap.size + 2 ≤ g ∧ Q j (F j) := ⟨fun j => Classical.choose (hex j), fun j => Classical.choose_spec (hex j)⟩
  have hget : ∀ j, j < nr → ((List.range nr).map F).getD j [] = F j := fun j hj => by simp [hj]
  refine ⟨(List.range nr).map F, by simp, fun j hj => by rw [hget j hj]; obtain ⟨_, _, _, _, _, h4⟩ := hF j hj; exact h4, fun W' hs hag => ?_⟩
  have keepP : ∀ g l, HoldsP wx g l → w.heap.size + 2 ≤ g → HoldsP W' g l := fun g l hp hg => by
    have hlt := hp.lt
    obtain ⟨pad, hp⟩ := hp
    exact ⟨pad, (hag g hg hlt).trans hp⟩
  have hval := own_keep1 h.val (W' := W') (fun g hg => hag g (h.val.lt g hg).1 (h.val.lt g hg).2)
  have hown := own_keep1 h.own (W' := W') (fun g hg => hag g (h.own.lt g hg).1 (h.own.lt g hg).2)
  obtain ⟨A, c, rfl⟩ := own_sl hval
  obtain ⟨A2, c2, rfl, hR⟩ := own_reads hown
  refine ⟨⟨A, c, A2, c2, ?_, ?_, ?_⟩, ⟨by show val.length ≤ maxLen; unfold maxLen; omega, by show ((List.range nr).map F).length ≤ maxLen; unfold maxLen; simp; omega⟩, ⟨by show _ ≤ n; omega, by show n < _; omega⟩, hw, fun r hr => ?_⟩
  · show _ = Value.agg #[.int .i64 n, .slice A val.length c, .slice A2 ((List.range nr).map F).length c2]
    rw [hl]; simp
  · show Reads W' W'.heap.size 1 A val.length (us val)
    rw [hl]
    exact Reads.of_own hval
  · show UsR W' W'.heap.size A2 ((List.range nr).map F).length ((List.range nr).map F)
    have e9 : ((List.range nr).map F).length = nr := by simp
    rw [e9]
    refine ⟨e9, LR, hR, fun j hj => ?_⟩
    obtain ⟨g, c, h1, h2, h3, h4⟩ := hF j hj
    have hs := hQ j _ h4
    rw [hget j hj, hs.1]
    have hrd := (keepP g _ h2 h3).reads
    rw [hs.1] at hrd
    exact ⟨_, c, h1, hrd, by unfold maxLen; omega⟩
  · obtain ⟨j, hj, rfl⟩ := List.mem_map.1 hr
    obtain ⟨_, _, _, _, _, h4⟩ := hF j (List.mem_range.1 hj)
    exact sh_words hk (hQ j _ h4)
end
set_option maxHeartbeats 8000000 in
theorem rClose_bad (m : Mo) (v : Value) (g : Int) (w : World) (hM : MoR w w.heap.size v m) (hz : ckE m g ≠ 0) :
    Calls Tryd.prog 13 #[v, .int .i64 g] w fun e w' => ∃ v' c, e = .returned (.tuple #[v', .int .i64 (ckE m g)]) ∧ MoF w' w.heap.size v' c ∧ ClosM m g c ∧ Below w.heap.size w w' := by
  obtain ⟨A1, c1, A2, c2, rfl, hv, hr⟩ := hM.ex
  have HR := Lib.hid (Rs.made w m.n (.slice A1 m.val.length c1) (.slice A2 m.rel.length c2))
  have HC := Lib.hid (fun W (hb : Below w.heap.size w W) => rReq_any m (.agg #[.int .i64 m.n, .slice A1 m.val.length c1, .slice A2 m.rel.length c2]) g W (hM.below hb hb.size))
  have HZ : Hid (ClosM m g mo0) := Lib.hid (by unfold ClosM; rw [if_neg hz])
  have hz1 : (ckE m g != 0) = true := by rw [bne_iff_ne]; exact hz
  clear hM hv hr hz
  generalize ckE m g = er at *
  go_enter Tryd.func13, Tryd.ntmps13
  go_wp2_with fail
  refine (HC.out _ HR.out.below).mono ?_
  rintro e w2 ⟨rfl, hb2⟩
  have HR2 := Lib.hid (HR.out.keep hb2)
  clear hb2
  have y0 := HR2.out.res.c0
  have y1 := HR2.out.res.c1
  have y2 := HR2.out.res.c2
  have f0 := HR2.out.res.free 0
  have f1 := HR2.out.res.free 1
  have f2 := HR2.out.res.free 2
  go_wp2
  have HZ3 := Lib.hid (HR2.out.fin 0 (.slice none 0 0) (.slice none 0 0))
  clear y0 y1 y2 f0 f1 f2
  generalize (((w2.setCell ⟨w.heap.size + 1, 0, none⟩ (.int .i64 0)).setCell ⟨w.heap.size + 1, 1, none⟩ (.slice none 0 0)).setCell ⟨w.heap.size + 1, 2, none⟩ (.slice none 0 0)) = w7 at *
  (try simp only [Exit.inBlock, Exit.then])
  refine bodyPost_ret (ret_cellT rfl _ _ (w.heap.size + 1) _ _ _ _ rfl HZ3.out.1 Tryd.underlying25 rfl (by kernel_rfl)) rfl ?_
  exact ⟨_, mo0, rfl, MoF.zero _ _, HZ.out, HZ3.out.2.1⟩
set_option maxHeartbeats 16000000 in
theorem rClose_ok (m : Mo) (v : Value) (g : Int) (w : World) (hM : MoR w w.heap.size v m) (hz : ckE m g = 0) :
    Calls Tryd.prog 13 #[v, .int .i64 g] w fun e w' => ∃ v' c, e = .returned (.tuple #[v', .int .i64 (ckE m g)]) ∧ MoF w' w.heap.size v' c ∧ ClosM m g c ∧ Below w.heap.size w w' := by
  have hok : OkM m.n.toNat m := by
    unfold ckE at hz
    by_cases h : chkM m = 0
    · exact chkM_ok h
    · rw [if_neg h] at hz; exact absurd hz h
  have hN : ∃ q : Nat, m.n.toNat = q ∧ m.n = (q : Int) ∧ 1 ≤ q ∧ q ≤ 64 := ⟨_, rfl, by have := hok.num; omega, hok.pos, hok.le⟩
  obtain ⟨A1, c1, A2, c2, rfl, hv, hr⟩ := hM.ex
  have HR := Lib.hid (Rs.made w m.n (.slice A1 m.val.length c1) (.slice A2 m.rel.length c2))
  have HC := Lib.hid (fun W (hb : Below w.heap.size w W) => rReq_any m (.agg #[.int .i64 m.n, .slice A1 m.val.length c1, .slice A2 m.rel.length c2]) g W (hM.below hb hb.size))
  have hnv : m.val.length ≤ 8 := hok.facts
  have hnr : m.rel.length ≤ 4 := hok.agents
  have HCP := Lib.hid (fun W (hb : Below w.heap.size w W) => rCopy_any m (.agg #[.int .i64 m.n, .slice A1 m.val.length c1, .slice A2 m.rel.length c2]) W (hM.below hb hb.size) hnv hnr (fun a ha => by rw [hok.len _ (getD_mem' ha)]; exact hok.le))
  have HQ : Hid (∀ rel : List (List Nat), rel.length = m.rel.length → (∀ j, j < m.rel.length → ClosR m.n.toNat g (m.rel.getD j []) (rel.getD j [])) → ClosM m g ⟨m.n, m.val, rel⟩) := Lib.hid (fun rel h1 h2 => by unfold ClosM; rw [if_pos hz]; exact ⟨rfl, rfl, h1, h2⟩)
  have HRR := Lib.hid hr
  have HW := Lib.hid hM.wval
  have HOK := Lib.hid hok
  rw [hz] at HC
  rw [hz]
  clear hM hv hr hz hok
  generalize hnve : m.val.length = nv at *
  generalize hnre : m.rel.length = nr at *
  have HNV := Lib.hid hnve
  have HNR := Lib.hid hnre
  clear hnve hnre
  go_enter Tryd.func13, Tryd.ntmps13
  go_wp2_with fail
  refine (HC.out _ HR.out.below).mono ?_
  rintro e w1 ⟨rfl, hb1⟩
  have HR1 := Lib.hid (HR.out.keep hb1)
  have HSZ1 : Hid (w.heap.size + 2 ≤ w1.heap.size) := Lib.hid (by have := HR1.out.res.lt; omega)
  clear hb1
  have b0 := HR1.out.box.c0
  have b1 := HR1.out.box.c1
  have b2 := HR1.out.box.c2
  go_wp2_with fail
  refine (HCP.out _ HR1.out.below).mono ?_
  rintro e w2 ⟨VV, RV, LR0, rfl, hov, hor, hb2⟩
  have HR2 := Lib.hid (HR1.out.keep hb2)
  have HOV := Lib.hid (own_base hov HSZ1.out)
  have HOR := Lib.hid (own_base hor HSZ1.out)
  have HSZ2 : Hid (w.heap.size + 2 ≤ w2.heap.size) := Lib.hid (by have := HR2.out.res.lt; omega)
  clear hov hor hb2 b0 b1 b2
  obtain ⟨Av, cv, rfl⟩ := own_sl HOV.out
  obtain ⟨Ar, cr, rfl⟩ := own_sl HOR.out
  go_wp2
  have HK0 : Hid (Cq w (w2.alloc (.cells #[.int .i64 m.n, .slice Av nv cv, .slice Ar nr cr] 25)) m.n (.slice A1 nv c1) (.slice A2 nr c2) w2.heap.size nv nr (.slice Av nv cv) (.slice Ar nr cr) m.val LR0) := Lib.hid ⟨HR2.out.keep ((Below.refl _ _).alloc (Nat.le_refl _) _), MBox.made w2 m.n _ _, own_keep1 HOV.out (fun g hg => Below.heap_alloc w2 _ g (HOV.out.lt g hg).2), own_keep1 HOR.out (fun g hg => Below.heap_alloc w2 _ g (HOR.out.lt g hg).2), HSZ2.out⟩
  generalize (w2.alloc (.cells #[.int .i64 m.n, .slice Av nv cv, .slice Ar nr cr] 25)) = w3 at *
  generalize w2.heap.size = P at *
  obtain ⟨q, hq, hqn, hq1, hq64⟩ := hN
  have HSH : Hid (∀ j, j < nr → Sh q (m.rel.getD j [])) := Lib.hid (fun j hj => by
    have hm : m.rel.getD j [] ∈ m.rel := getD_mem' (by have := HNR.out; omega)
    exact ⟨by rw [HOK.out.len _ hm, hq], fun x hx => by have := HOK.out.rel _ hm x hx; rwa [hq] at this⟩)
  have HQN := Lib.hid hq
  have HMN := Lib.hid hqn
  clear hq hqn
  go_loopw [8] (fun i wr => ∃ (a : Nat) (LR : List Value), a ≤ nr ∧ i = .int .i64 (a : Int) ∧ Hid (Cq w wr m.n (.slice A1 nv c1) (.slice A2 nr c2) P nv nr (.slice Av nv cv) (.slice Ar nr cr) m.val LR) ∧ Hid (RowsC wr (w.heap.size + 2) q (fun j C => ClosR q g (m.rel.getD j []) C) LR a)) (fun i _ => nr - (intOf i).toNat)
  case atStart => exact ⟨0, _, Nat.zero_le _, rfl, HK0, Lib.hid (fun j hj => absurd hj (by omega))⟩
  case round =>
    obtain ⟨a, LR, ha, rfl, HKa, HRa⟩ := hrel
    have b2 := HKa.out.rs.box.c2
    by_cases hlt : a < nr
    · obtain ⟨ad, Aj, cj, rfl, hb, hc0, hrj, hlj⟩ := HRR.out.at_ hlt
      have hsh := HSH.out a hlt
      rw [hsh.1] at hc0 hrj
      obtain ⟨l, hl⟩ : ∃ l, m.rel.getD a [] = l := ⟨_, rfl⟩
      rw [hl] at hsh hrj
      have HLE := Lib.hid hl
      have HCO := Lib.hid (fun W (hb : Below wr.heap.size wr W) => rClosure_any l Aj q cj g W (((hrj.below (HKa.out.rs.below.trans (hb.mono HKa.out.rs.below.size))).more ((HKa.out.rs.below.trans (hb.mono HKa.out.rs.below.size)).size))) hsh hq1 hq64)
      have HC0 : Hid (∀ W, Below wr.heap.size wr W → W.cell? (ad.add a) = some (.slice Aj q cj)) := Lib.hid (fun W hw => ((HKa.out.below hw).rs.below.cell (p := ad.add a) (by rw [block_of_add]; exact hb)).trans hc0)
      obtain ⟨GR, cr2, hge, hgl, _⟩ := HKa.out.own.form (by omega)
      injection hge with hge1 _ hge2
      subst hge1
      clear hge2 hc0 hb hrj hlj hsh hl cr2
      go_wp2
      clear b2
      refine wp_region_last (vCq w.heap.size P GR a wr.heap.size q nr cr c2 g ad Aj cj l) [25, 26, 27, 28, 29, 30, 31, 32, 33, 34, 35] 11 37 (fun W => Below wr.heap.size wr W) (fun vs W => ∃ g9 c9 C, ClosR q g l C ∧ wr.heap.size ≤ g9 ∧ HoldsP W g9 C ∧ W.ownsRow (w.heap.size + 2) 22 1 (.slice (some ⟨GR, 0, none⟩) nr cr) nr (LR.set a (.slice (some ⟨g9, 0, none⟩) q c9)) ∧ OnlyB GR wr W) (fun W W' => Below W.heap.size W W') rfl rfl rfl (by decide) (by decide) (by kernel_rfl) (by kernel_rfl) (by kernel_rfl) (by kernel_rfl) (Below.refl _ wr).drew vCq_up (fun W W' h h2 => h.trans (h2.mono h.size)) ?hop ?hL ?fin
      case hop =>
        refine (lt_more (lt_more (lt_more (lt_more (lt_more (lt_more (lt_more (lt_more (lt_more (lt_more (lt_more (lt_none _) ?s0) ?s1) ?s2) ?s3) ?s4) ?s5) ?s6) ?s7) ?s8) ?s9) ?s10)
        case s0 =>
          intro o ho a W hS ⟨hsz, hdf, hfr, hdep⟩ K hK
          obtain ⟨tm, df⟩ := a
          have hdf : df = [] := hdf
          subst hdf
          have ho := Option.some.inj ho
          subst ho
          have hsz : tm.size = 37 := hsz
          have t7 : tm.getD 7 undef = .pointer (some ⟨P, 0, none⟩) := hfr 7 (by decide)
          clear hdep hfr
          go_simp
          exact hK _ W ⟨Below.refl _ W, rfl⟩
        case s1 =>
          intro o ho a W hS ⟨hsz, hdf, hfr, hdep⟩ K hK
          obtain ⟨tm, df⟩ := a
          have hdf : df = [] := hdf
          subst hdf
          have ho := Option.some.inj ho
          subst ho
          have hsz : tm.size = 37 := hsz
          have t25 : tm.getD 25 undef = .pointer (some ⟨P, 2, none⟩) := hdep ⟨0, .data⟩ (by simp) (by rfl) (by decide)
          have hkq := HKa.out.below hS
          have p2 := hkq.part.c2
          have z2 := hkq.rs.box.c2
          have z0 := HC0.out W hS
          clear hdep hfr
          go_simp
          exact hK _ W ⟨Below.refl _ W, rfl⟩
        case s2 =>
          intro o ho a W hS ⟨hsz, hdf, hfr, hdep⟩ K hK
          obtain ⟨tm, df⟩ := a
          have hdf : df = [] := hdf
          subst hdf
          have ho := Option.some.inj ho
          subst ho
          have hsz : tm.size = 37 := hsz
          have t8 : tm.getD 8 undef = .int .i64 (a : Int) := hfr 8 (by decide)
          clear hdep hfr
          go_simp
          exact hK _ W ⟨Below.refl _ W, rfl⟩
        case s3 =>
          intro o ho a W hS ⟨hsz, hdf, hfr, hdep⟩ K hK
          obtain ⟨tm, df⟩ := a
          have hdf : df = [] := hdf
          subst hdf
          have ho := Option.some.inj ho
          subst ho
          have hsz : tm.size = 37 := hsz
          have t2 : tm.getD 2 undef = .pointer (some ⟨w.heap.size, 0, none⟩) := hfr 2 (by decide)
          clear hdep hfr
          go_simp
          exact hK _ W ⟨Below.refl _ W, rfl⟩
        case s4 =>
          intro o ho a W hS ⟨hsz, hdf, hfr, hdep⟩ K hK
          obtain ⟨tm, df⟩ := a
          have hdf : df = [] := hdf
          subst hdf
          have ho := Option.some.inj ho
          subst ho
          have hsz : tm.size = 37 := hsz
          have t28 : tm.getD 28 undef = .pointer (some ⟨w.heap.size, 2, none⟩) := hdep ⟨3, .data⟩ (by simp) (by rfl) (by decide)
          have hkq := HKa.out.below hS
          have p2 := hkq.part.c2
          have z2 := hkq.rs.box.c2
          have z0 := HC0.out W hS
          clear hdep hfr
          go_simp
          exact hK _ W ⟨Below.refl _ W, rfl⟩
        case s5 =>
          intro o ho a W hS ⟨hsz, hdf, hfr, hdep⟩ K hK
          obtain ⟨tm, df⟩ := a
          have hdf : df = [] := hdf
          subst hdf
          have ho := Option.some.inj ho
          subst ho
          have hsz : tm.size = 37 := hsz
          have t8 : tm.getD 8 undef = .int .i64 (a : Int) := hfr 8 (by decide)
          clear hdep hfr
          go_simp
          exact hK _ W ⟨Below.refl _ W, rfl⟩
        case s6 =>
          intro o ho a W hS ⟨hsz, hdf, hfr, hdep⟩ K hK
          obtain ⟨tm, df⟩ := a
          have hdf : df = [] := hdf
          subst hdf
          have ho := Option.some.inj ho
          subst ho
          have hsz : tm.size = 37 := hsz
          have t29 : tm.getD 29 undef = .slice (some ad) nr c2 := hdep ⟨4, .data⟩ (by simp) (by rfl) (by decide)
          have t30 : tm.getD 30 undef = .int .i64 (a : Int) := hdep ⟨5, .data⟩ (by simp) (by rfl) (by decide)
          clear hdep hfr
          have u29 := getq t29 (by omega)
          have u30 := getq t30 (by omega)
          go_simp
          exact hK _ W ⟨Below.refl _ W, rfl⟩
        case s7 =>
          intro o ho a W hS ⟨hsz, hdf, hfr, hdep⟩ K hK
          obtain ⟨tm, df⟩ := a
          have hdf : df = [] := hdf
          subst hdf
          have ho := Option.some.inj ho
          subst ho
          have hsz : tm.size = 37 := hsz
          have t31 : tm.getD 31 undef = .pointer (some (ad.add a)) := hdep ⟨6, .data⟩ (by simp) (by rfl) (by decide)
          have hkq := HKa.out.below hS
          have p2 := hkq.part.c2
          have z2 := hkq.rs.box.c2
          have z0 := HC0.out W hS
          clear hdep hfr
          go_simp
          exact hK _ W ⟨Below.refl _ W, rfl⟩
        case s8 =>
          intro o ho a W hS ⟨hsz, hdf, hfr, hdep⟩ K hK
          obtain ⟨tm, df⟩ := a
          have hdf : df = [] := hdf
          subst hdf
          have ho := Option.some.inj ho
          subst ho
          have hsz : tm.size = 37 := hsz
          have t1 : tm.getD 1 undef = .int .i64 g := hfr 1 (by decide)
          clear hdep hfr
          go_simp
          exact hK _ W ⟨Below.refl _ W, rfl⟩
        case s9 =>
          intro o ho a W hS ⟨hsz, hdf, hfr, hdep⟩ K hK
          obtain ⟨tm, df⟩ := a
          have hdf : df = [] := hdf
          subst hdf
          have ho := Option.some.inj ho
          subst ho
          have hsz : tm.size = 37 := hsz
          have t32 : tm.getD 32 undef = .slice Aj q cj := hdep ⟨7, .data⟩ (by simp) (by rfl) (by decide)
          have t33 : tm.getD 33 undef = .int .i64 g := hdep ⟨8, .data⟩ (by simp) (by rfl) (by decide)
          clear hdep hfr
          go_simp
          refine (HCO.out W hS).mono ?_
          rintro e W9 ⟨A9, c9, C, hC, rfl, hO, hb⟩
          exact hK _ W9 ⟨hb, A9, c9, C, hC, rfl, hO.mono hS.size⟩
        case s10 =>
          intro o ho a W hS ⟨hsz, hdf, hfr, hdep⟩ K hK
          obtain ⟨tm, df⟩ := a
          have hdf : df = [] := hdf
          subst hdf
          have ho := Option.some.inj ho
          subst ho
          have hsz : tm.size = 37 := hsz
          have t26 : tm.getD 26 undef = .slice (some ⟨GR, 0, none⟩) nr cr := hdep ⟨1, .data⟩ (by simp) (by rfl) (by decide)
          have t27 : tm.getD 27 undef = .int .i64 (a : Int) := hdep ⟨2, .data⟩ (by simp) (by rfl) (by decide)
          clear hdep hfr
          have u26 := getq t26 (by omega)
          have u27 := getq t27 (by omega)
          go_simp
          exact hK _ W ⟨Below.refl _ W, rfl⟩
      case hL =>
        intro o ho a W hS ⟨hsz, hdf, hfr, hdep⟩ hall K hK
        obtain ⟨tm, df⟩ := a
        have hdf : df = [] := hdf
        subst hdf
        have ho := Option.some.inj ho
        subst ho
        have hsz : tm.size = 37 := hsz
        have t35 : tm.getD 35 undef = .pointer (some ⟨GR, a, none⟩) := hall 10 (by decide)
        obtain ⟨A9, c9, C, hC, t34, hO⟩ := (hall 9 (by decide) : ∃ A c C, ClosR q g l C ∧ tm.getD 34 undef = .slice A q c ∧ OwnL wr.heap.size W A C)
        have t34 : tm.getD 34 undef = .slice A9 q c9 := t34
        obtain ⟨g9, rfl, hg9, hP9⟩ := hO
        have hKW := HKa.out.below hS
        have hll : a < nr * 1 := by omega
        have hfr := hKW.own.frozenAt a
        have hcr := hKW.own.cellAt a hll
        have hcl : LR[a]? = some (LR.getD a undef) := by have h9 := hKW.own.1; simp [show a < LR.length by omega]
        rw [hcl] at hcr
        have u35 := getq t35 (by omega)
        have u34 := getq t34 (by omega)
        clear hdep hcl hll
        go_simp
        have hob := OnlyB.set GR a W (.slice (some ⟨g9, 0, none⟩) q c9)
        exact hK undef _ ⟨g9, c9, C, hC, hg9, hP9.only hob (ne_PO hP9 hKW.own rfl), (hKW.own.stored a _).1, (OnlyB.of GR hS).trans hob⟩
      case fin =>
        intro vs W hvl ⟨g9, c9, C, hC, hg9, hP9, hV9, hO9⟩
        have HR6 := Lib.hid (HRa.out.stepO (k := q) (c := c9) HKa.out.own rfl hO9 (by have := HKa.out.own.1; omega) hP9 (by have := HKa.out.rs.res.lt; omega) (by rw [HLE.out]; exact hC))
        have HKW := Lib.hid (HKa.out.step rfl hO9 hV9)
        clear hC hP9 hV9 hO9 hg9
        simp only [show List.range 11 = [0, 1, 2, 3, 4, 5, 6, 7, 8, 9, 10] from rfl, List.map, fillD]
        generalize vs.getD 0 undef = z0
        generalize vs.getD 1 undef = z1
        generalize vs.getD 2 undef = z2
        generalize vs.getD 3 undef = z3
        generalize vs.getD 4 undef = z4
        generalize vs.getD 5 undef = z5
        generalize vs.getD 6 undef = z6
        generalize vs.getD 7 undef = z7
        generalize vs.getD 8 undef = z8
        generalize vs.getD 9 undef = z9
        generalize vs.getD 10 undef = z10
        go_simp
        go_wp2
        go_roundw
        case rel => exact ⟨a + 1, _, by omega, by go_num, HKW, HR6⟩
        case measure => first | (simp [intOf]; done) | (simp [intOf]; omega)
    · obtain rfl : nr = a := by omega
      obtain ⟨rel, hrl, hrq, hmo⟩ := HKa.out.fin HRa.out (by have := HMN.out; omega) HNV.out hnv hnr hq64 HW.out (fun j C h => h.sh)
      have HQ2 : Hid (ClosM m g ⟨m.n, m.val, rel⟩) := Lib.hid (HQ.out rel hrl (by rw [HQN.out]; exact hrq))
      have HMO := Lib.hid hmo
      clear hrl hrq hmo
      have p0 := HKa.out.part.c0
      have p1 := HKa.out.part.c1
      have p2 := HKa.out.part.c2
      have y0 := HKa.out.rs.res.c0
      have y1 := HKa.out.rs.res.c1
      have y2 := HKa.out.rs.res.c2
      have f0 := HKa.out.rs.res.free 0
      have f1 := HKa.out.rs.res.free 1
      have f2 := HKa.out.rs.res.free 2
      go_wp2
      have HZ3 := Lib.hid (HKa.out.rs.fin m.n (.slice Av nv cv) (.slice Ar nr cr))
      clear y0 y1 y2 f0 f1 f2 p0 p1 p2 b2
      generalize (((wr.setCell ⟨w.heap.size + 1, 0, none⟩ (.int .i64 m.n)).setCell ⟨w.heap.size + 1, 1, none⟩ (.slice Av nv cv)).setCell ⟨w.heap.size + 1, 2, none⟩ (.slice Ar nr cr)) = w7 at *
      (try simp only [Exit.inBlock, Exit.then])
      refine bodyPost_ret (ret_cellT rfl _ _ (w.heap.size + 1) _ _ _ _ rfl HZ3.out.1 Tryd.underlying25 rfl (by kernel_rfl)) rfl ?_
      exact ⟨_, _, rfl, (HMO.out.only HZ3.out.2.2 (by omega)).mono (by omega), HQ2.out, HZ3.out.2.1⟩
theorem rClose_any (m : Mo) (v : Value) (g : Int) (w : World) (hM : MoR w w.heap.size v m) :
    Calls Tryd.prog 13 #[v, .int .i64 g] w fun e w' => ∃ v' c, e = .returned (.tuple #[v', .int .i64 (ckE m g)]) ∧ MoF w' w.heap.size v' c ∧ ClosM m g c ∧ Below w.heap.size w w' := by
  by_cases hz : ckE m g = 0
  · exact rClose_ok m v g w hM hz
  · exact rClose_bad m v g w hM hz
/-- what Close returns is unique -/
theorem ClosM.unique {m c d : Mo} {g : Int} (h : ClosM m g c) (k : ClosM m g d) : c = d := by
  by_cases hz : ckE m g = 0
  · obtain ⟨h1, h2, h3, h4⟩ := h.rel hz
    obtain ⟨k1, k2, k3, k4⟩ := k.rel hz
    have e : c.rel = d.rel := by
      apply List.ext_getElem (h3.trans k3.symm)
      intro j j1 j2
      have := (h4 j (by omega)).unique (k4 j (by omega))
      rwa [List.getD_eq_getElem?_getD, List.getD_eq_getElem?_getD, List.getElem?_eq_getElem j1, List.getElem?_eq_getElem j2] at this
    obtain ⟨n, v, r⟩ := c
    obtain ⟨n', v', r'⟩ := d
    dsimp only at h1 h2 k1 k2 e
    rw [h1, h2, k1, k2, e]
  · unfold ClosM at h k
    rw [if_neg hz] at h k
    rw [h, k]
end Go.Proofs.YtkhalapppkhopaaDoor
