/- Layer 24: what an announcement does to the cells. -/
import Derived.Test.YtfbgabcdeecpoaaDoorNMu
namespace Go.Proofs.YtfbgabcdeecpoaaDoor
open Go.RowKit Go.Proofs.Ws
set_option maxRecDepth 100000
def RefP (a b : List Int) (n : Nat) : Prop := ∀ i, i < n → b.getD i 0 = b.getD (fo a i) 0
set_option maxRecDepth 100000 in
theorem refines_any (a b : List Int) (A A2 : Option Addr) (n c c2 : Nat) (w : World) (hR : Reads w w.heap.size 1 A n (ints a)) (hR2 : Reads w w.heap.size 1 A2 n (ints b)) (hm : n ≤ 64) (ha : partErr a = 0) (hb : partErr b = 0) :
    Calls Tryd.prog 38 #[.slice A n c, .slice A2 n c2] w fun e w' => (∃ bb : Bool, e = .returned (.bool bb) ∧ (bb = true ↔ RefP a b n)) ∧ Below w.heap.size w w' := by
  have H1 := Lib.hid (checkBoth_ok a b A A2 n c c2 w hR hR2 hm ha hb)
  have HFA := Lib.hid (part_forest ha)
  have HLA := Lib.hid hR.int_len
  have HR := Lib.hid hR
  have HR2 := Lib.hid hR2
  clear hR hR2 ha hb
  go_enter Tryd.func38, Tryd.ntmps38
  go_wp2_with fail
  refine (H1.out).mono ?_
  rintro e w' ⟨rfl, rfl⟩
  go_wp2
  go_loopw [13] (fun i wr => ∃ k q : Nat, k ≤ n ∧ i = .int .i64 k ∧ Hid (∀ i, i < k → b.getD i 0 = b.getD (fo a i) 0) ∧ wr = w.drewN q) (fun i _ => n - (intOf i).toNat)
  case atStart => exact ⟨0, 0, Nat.zero_le _, rfl, Lib.hid (fun i hi => absurd hi (by omega)), rfl⟩
  case round =>
    obtain ⟨k, q, hk, rfl, HI, rfl⟩ := hrel
    by_cases hlt : k < n
    · obtain ⟨ad, rfl, _, hc⟩ := HR.out.int_at hlt
      rw [HFA.out.at_ (show k < a.length by have := HLA.out; omega)] at hc
      have hy : fo a k < n := fo_lt HFA.out hlt
      obtain ⟨ad2, rfl, _, hc2⟩ := HR2.out.int_at hlt
      obtain ⟨_, hA, _, hc3⟩ := HR2.out.int_at hy
      cases hA
      by_cases heq : b.getD k 0 = b.getD (fo a k) 0
      · have HN : Hid (∀ i, i < k + 1 → b.getD i 0 = b.getD (fo a i) 0) := Lib.hid (fun i hi => by
          by_cases e : i = k
          · subst e; exact heq
          · exact HI.out i (by omega))
        have hb1 : (b.getD k 0 != b.getD (fo a k) 0) = false := by rw [heq]; simp
        clear heq HI
        generalize b.getD k 0 = x at *
        generalize b.getD (fo a k) 0 = z at *
        generalize fo a k = y at *
        go_wp2
        go_quiet (fail)
        go_wp2
        go_roundw
        case rel => exact ⟨k + 1, q + nq, by omega, by go_num, HN, by first | rfl | rw [World.drewN_drewN]⟩
        case measure => simp [intOf]; omega
      · have HN : Hid (¬ RefP a b n) := Lib.hid (fun h => heq (h k hlt))
        have hb1 : (b.getD k 0 != b.getD (fo a k) 0) = true := by rw [bne_iff_ne]; exact heq
        clear heq HI
        generalize b.getD k 0 = x at *
        generalize b.getD (fo a k) 0 = z at *
        generalize fo a k = y at *
        go_wp2
        go_quiet (fail)
        go_wp2
        go_ret
        exact ⟨⟨false, rfl, by first | exact ⟨fun h => by cases h, fun h => absurd h HN.out⟩ | exact HN.out | simpa using HN.out⟩, below_drewN (below_drewN (Below.refl _ _) _) _⟩
    · have hkn : n = k := by omega
      subst hkn
      have HY : Hid (RefP a b n) := Lib.hid HI.out
      clear HI
      go_wp2
      go_ret
      exact ⟨⟨true, rfl, by first | exact ⟨fun _ => HY.out, fun _ => rfl⟩ | exact HY.out | simpa using HY.out⟩, below_drewN (Below.refl _ _) _⟩
theorem refP_iff {n : Nat} {a b : List Int} (ha : Can n a) (hb : Can n b) : RefP a b n ↔ Rf a b := by
  have hfa := part_forest ha.ok
  have hfb := part_forest hb.ok
  constructor
  · intro h i
    by_cases hi : i < n
    · have := h i hi
      rw [hfb.at_ (by rw [hb.len]; exact hi), hfb.at_ (by rw [hb.len]; exact fo_lt hfa hi)] at this
      omega
    · have e : fo a i = i := by unfold fo; rw [if_neg (by rw [ha.len]; exact hi)]
      rw [e]
  · intro h i hi
    rw [hfb.at_ (by rw [hb.len]; exact hi), hfb.at_ (by rw [hb.len]; exact fo_lt hfa hi), h i]
theorem BoxP.row {W : World} {g n m c1 c2 : Nat} {A1 A2 : Option Addr} {q : Pri} (h : BoxP W g (.slice A1 n c1) (.slice A2 m c2) q) (hok : OkP q) (hn : q.wt.length = n) {k : Nat} (hk : k < q.cells.length) :
    ∃ ad Ak ck, A2 = some ad ∧ ∀ W', Below W.heap.size W W' → W'.cell? (ad.add k) = some (.slice (some Ak) n ck) ∧ Reads W' W'.heap.size 1 (some Ak) n (ints (q.cells.getD k [])) := by
  obtain ⟨B1, d1, B2, d2, e, _, hr⟩ := h.2.ex
  injection e with e
  have e2 := congrArg (fun a => a[1]?) e
  simp at e2
  obtain ⟨rfl, _, _⟩ := e2
  obtain ⟨ad, Ak, ck, hA, had, hcell, hrc, hlc⟩ := hr.at_ hk
  rw [(hok.can hk).len, hn] at hcell hrc
  have hpos := hok.pos
  obtain ⟨ak, rfl, _, _⟩ := hrc.int_at (show 0 < n by omega)
  exact ⟨ad, ak, ck, hA, fun W' hb => ⟨(hb.cell (p := ad.add k) (by rw [block_of_add]; exact had)).trans hcell, hrc.step hb⟩⟩
theorem ann_ok {p : Pri} {a s : Nat} (h : OkP p) : OkP (annP p a s) := h.div _
theorem ann_cells (p : Pri) (a s : Nat) : (annP p a s).cells.length = p.cells.length := by
  show (p.cells.map _).length = _
  rw [List.length_map]
theorem ann_at (p : Pri) (a s : Nat) {k : Nat} (hk : k < p.cells.length) : (annP p a s).cells.getD k [] = divC (p.cells.getD k []) [tellK p a s] := divP_at p [tellK p a s] hk
theorem ann_ref {p : Pri} {a s k : Nat} (h : OkP p) (hk : k < p.cells.length) : RefP ((annP p a s).cells.getD k []) (p.cells.getD k []) p.wt.length := by
  have hc : Can p.wt.length ((annP p a s).cells.getD k []) := by
    have := (ann_ok (a := a) (s := s) h).can (a := k) (by rw [ann_cells]; exact hk)
    exact this
  rw [refP_iff hc (h.can hk), ann_at p a s hk]
  exact divC_rf h.le _ (h.can hk)
theorem ann_same {p : Pri} {a s k u : Nat} (h : OkP p) (hk : k < p.cells.length) (hu : u < p.wt.length) :
    ∃ f : Nat, ((annP p a s).cells.getD k []).getD u 0 = (f : Int) ∧ f < p.wt.length ∧ postN p a f s = postN p a u s := by
  have hc : Can p.wt.length ((annP p a s).cells.getD k []) := (ann_ok (a := a) (s := s) h).can (a := k) (by rw [ann_cells]; exact hk)
  have hf := part_forest hc.ok
  refine ⟨fo ((annP p a s).cells.getD k []) u, hf.at_ (by rw [hc.len]; exact hu), Nat.lt_of_le_of_lt (hf.le u) hu, ?_⟩
  have hfu : fo ((annP p a s).cells.getD k []) u < p.wt.length := Nat.lt_of_le_of_lt (hf.le u) hu
  have hid := hc.idem u
  have e := ann_at p a s hk
  rw [e] at hid hfu ⊢
  exact (tell_same hfu hu).1 (divC_keys h.le [tellK p a s] (h.can hk) (List.mem_singleton.2 rfl) hfu hu hid)
end Go.Proofs.YtfbgabcdeecpoaaDoor
