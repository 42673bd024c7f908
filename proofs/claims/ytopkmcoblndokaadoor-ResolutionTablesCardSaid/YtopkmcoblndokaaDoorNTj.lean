/- Layer 10: lines of a refutation in memory; Verify, by the program. -/
import Derived.Test.YtopkmcoblndokaaDoorNTi
namespace Go.Proofs.Ws.rsl
open Go
def formB (x : Ln) (i c : Int) : Bool := if x.left = -1 then decide (0 ≤ x.right ∧ x.right < c ∧ x.on = 0) else decide (0 ≤ x.left ∧ x.left < i ∧ 0 ≤ x.right ∧ x.right < i)
def folB (l : List (List Int)) (s : List Ln) (x : Ln) : Bool := if x.left = -1 then decide (x.cl = l.getD x.right.toNat []) else
  decide (resE (s.getD x.left.toNat ln0).cl (s.getD x.right.toNat ln0).cl x.on = 0 ∧ x.cl = resL (s.getD x.left.toNat ln0).cl (s.getD x.right.toNat ln0).cl x.on)
def verE (n : Int) (l : List (List Int)) (s : List Ln) : Int := if chkR n l ≠ 0 then chkR n l else if (List.range s.length).all (fun i => formB (s.getD i ln0) (i : Int) (l.length : Int)) = false then 3 else
  if (List.range s.length).all (fun i => folB l s (s.getD i ln0)) = false then 13 else if s = [] ∨ (s.getD (s.length - 1) ln0).cl ≠ [] then 13 else 0
end Go.Proofs.Ws.rsl
namespace Go.Proofs.YtopkmcoblndokaaDoor.rsl
open Go.RowKit Go.Proofs.Ws.rsl
set_option maxRecDepth 100000
theorem quiet_drew1 {P : Program} {f : FuncId} {args : Array Value} {w : World} {n : Nat} {v : Value} (h : Calls P f args (w.drewN n) fun e w' => e = .returned v ∧ ∃ k, w' = (w.drewN n).drewN k) :
    Calls P f args (w.drewN n) fun e w'' => e = .returned v ∧ ∃ m, w'' = w.drewN m := h.mono fun _ _ ⟨he, k, hm⟩ => ⟨he, n + k, by rw [hm]; simp⟩
/-- a line as a value -/
structure LnR (W : World) (B : Nat) (x : Ln) (Aj : Option Addr) (cj : Nat) : Prop where
  rd : Reads W B 1 Aj x.cl.length (ints x.cl)
  le : x.cl.length ≤ maxLen
  cap : x.cl.length ≤ cj
theorem LnR.below {W W' : World} {B B2 : Nat} {x : Ln} {Aj : Option Addr} {cj : Nat} (h : LnR W B x Aj cj) (hb : Below B W W') (h2 : B ≤ B2) : LnR W' B2 x Aj cj := ⟨(h.rd.below hb).more h2, h.le, h.cap⟩
def lnC (x : Ln) (Aj : Option Addr) (cj : Nat) : Array Value := #[.slice Aj x.cl.length cj, .int .i64 x.left, .int .i64 x.right, .int .i64 x.on]
/-- lines in memory -/
structure LnsR (W : World) (B : Nat) (A : Option Addr) (n : Nat) (s : List Ln) : Prop where
  len : s.length = n
  ex : ∃ cs, Reads W B 4 A n cs ∧ ∀ j, j < n → ∃ Aj cj, cs[j * 4]? = some (.slice Aj (s.getD j ln0).cl.length cj) ∧ cs[j * 4 + 1]? = some (.int .i64 (s.getD j ln0).left) ∧ cs[j * 4 + 2]? = some (.int .i64 (s.getD j ln0).right) ∧ cs[j * 4 + 3]? = some (.int .i64 (s.getD j ln0).on) ∧ LnR W B (s.getD j ln0) Aj cj
theorem LnsR.below {W W' : World} {B B2 : Nat} {A : Option Addr} {n : Nat} {s : List Ln} (h : LnsR W B A n s) (hb : Below B W W') (h2 : B ≤ B2) : LnsR W' B2 A n s := by
  obtain ⟨cs, h1, h3⟩ := h.ex
  refine ⟨h.len, cs, (h1.below hb).more h2, fun j hj => ?_⟩
  obtain ⟨Aj, cj, e0, e1, e2, e3, h4⟩ := h3 j hj
  exact ⟨Aj, cj, e0, e1, e2, e3, h4.below hb h2⟩
theorem spot_none {W : World} {ad : Addr} {v : Value} (h : W.cell? ad = some v) : ad.spot = none := by
  unfold World.cell? at h
  cases hs : ad.spot with
  | none => rfl
  | some x =>
    exfalso
    simp [hs] at h
    split at h <;> cases h
theorem add_spot (b o k : Nat) : (⟨b, o, none⟩ : Addr).add k = ⟨b, o + k, none⟩ := by
  unfold Addr.add
  split
  · subst_vars; rfl
  · rfl
theorem LnsR.at_ {W : World} {B : Nat} {A : Option Addr} {n k : Nat} {s : List Ln} (h : LnsR W B A n s) (hk : k < n) :
    ∃ b o Aj cj, A = some ⟨b, o, none⟩ ∧ b < B ∧ W.cell? ⟨b, o + k * 4, none⟩ = some (.slice Aj (s.getD k ln0).cl.length cj) ∧ W.cell? ⟨b, o + k * 4 + 1, none⟩ = some (.int .i64 (s.getD k ln0).left) ∧ W.cell? ⟨b, o + k * 4 + 2, none⟩ = some (.int .i64 (s.getD k ln0).right) ∧ W.cell? ⟨b, o + k * 4 + 3, none⟩ = some (.int .i64 (s.getD k ln0).on) ∧ LnR W B (s.getD k ln0) Aj cj := by
  obtain ⟨cs, h1, h3⟩ := h.ex
  obtain ⟨Aj, cj, e0, e1, e2, e3, h4⟩ := h3 k hk
  obtain ⟨_, _, e00, _⟩ := h3 0 (by omega)
  obtain ⟨ad, rfl, hb, hc⟩ := h1.2 (by omega)
  have hsp := spot_none (hc _ _ e00)
  rw [Nat.zero_mul] at hsp
  obtain ⟨b, o, sp⟩ := ad
  have hsp2 : sp = none := hsp
  subst hsp2
  have y0 := hc _ _ e0
  have y1 := hc _ _ e1
  have y2 := hc _ _ e2
  have y3 := hc _ _ e3
  rw [add_spot] at y0 y1 y2 y3
  exact ⟨b, o, Aj, cj, rfl, hb, y0, y1, y2, y3, h4⟩
/-- a box of a line -/
def LB (W : World) (g : Nat) (v : Value) (a b c : Int) : Prop := W.heap[g]? = some (.cells #[v, .int .i64 a, .int .i64 b, .int .i64 c] 41 (0, 0))
section
variable {W W' : World} {g : Nat} {v : Value} {a b c : Int}
theorem LB.c0 (h : LB W g v a b c) : W.cell? ⟨g, 0, none⟩ = some v := by rw [Lib.cell_of_heap h]; rfl
theorem LB.c1 (h : LB W g v a b c) : W.cell? ⟨g, 1, none⟩ = some (.int .i64 a) := by rw [Lib.cell_of_heap h]; rfl
theorem LB.c2 (h : LB W g v a b c) : W.cell? ⟨g, 2, none⟩ = some (.int .i64 b) := by rw [Lib.cell_of_heap h]; rfl
theorem LB.c3 (h : LB W g v a b c) : W.cell? ⟨g, 3, none⟩ = some (.int .i64 c) := by rw [Lib.cell_of_heap h]; rfl
theorem LB.lt (h : LB W g v a b c) : g < W.heap.size := (Array.getElem?_eq_some_iff.1 h).1
theorem LB.below {B : Nat} (h : LB W g v a b c) (hb : Below B W W') (hg : g < B) : LB W' g v a b c := (hb.block g hg).trans h
theorem LB.made (W : World) (v : Value) (a b c : Int) : LB (W.alloc (.cells #[v, .int .i64 a, .int .i64 b, .int .i64 c] 41)) W.heap.size v a b c := heap_alloc_new W _
end
set_option maxHeartbeats 4000000 in
theorem xFormed_any (v : Value) (L : List Int) (p q u i c : Int) (w : World) (_hv : v.oneCell' = true) :
    Calls Tryd.prog 35 #[.agg #[v, .int .i64 p, .int .i64 q, .int .i64 u], .int .i64 i, .int .i64 c] w fun e w' => e = .returned (.bool (formB ⟨L, p, q, u⟩ i c)) ∧ Below w.heap.size w w' := by
  have HB := Lib.hid (LB.made w v p q u)
  have HBe : Hid (Below w.heap.size w (w.alloc (.cells #[v, .int .i64 p, .int .i64 q, .int .i64 u] 41))) := Lib.hid ((Below.refl _ w).alloc (Nat.le_refl _) _)
  by_cases hp : p = -1
  · have HV : Hid (formB ⟨L, p, q, u⟩ i c = decide (0 ≤ q ∧ q < c ∧ u = 0)) := Lib.hid (by unfold formB; rw [if_pos hp])
    have e0 : (p == -1) = true := by simp [hp]
    clear hp _hv
    by_cases h1 : 0 ≤ q
    · have q1 : decide (0 ≤ q) = true := decide_eq_true h1
      by_cases h2 : q < c
      · have q2 : decide (q < c) = true := decide_eq_true h2
        have HV2 : Hid (formB ⟨L, p, q, u⟩ i c = (u == 0)) := Lib.hid (by rw [HV.out, Bool.eq_iff_iff]; simp [h1, h2])
        clear h1 h2
        generalize formB ⟨L, p, q, u⟩ i c = fb at *
        go_enter Tryd.func35, Tryd.ntmps35
        go_wp2
        generalize w.alloc (.cells #[v, .int .i64 p, .int .i64 q, .int .i64 u] 41) = w1 at *
        have y1 := HB.out.c1
        have y2 := HB.out.c2
        have y3 := HB.out.c3
        go_wp2
        go_ret
        exact ⟨ret_bool HV2.out.symm, HBe.out⟩
      · have q2 : decide (q < c) = false := decide_eq_false h2
        have HV2 : Hid (formB ⟨L, p, q, u⟩ i c = false) := Lib.hid (by rw [HV.out]; exact decide_eq_false (fun h => h2 h.2.1))
        clear h1 h2
        generalize formB ⟨L, p, q, u⟩ i c = fb at *
        go_enter Tryd.func35, Tryd.ntmps35
        go_wp2
        generalize w.alloc (.cells #[v, .int .i64 p, .int .i64 q, .int .i64 u] 41) = w1 at *
        have y1 := HB.out.c1
        have y2 := HB.out.c2
        have y3 := HB.out.c3
        go_wp2
        go_ret
        exact ⟨ret_bool HV2.out.symm, HBe.out⟩
    · have q1 : decide (0 ≤ q) = false := decide_eq_false h1
      have HV2 : Hid (formB ⟨L, p, q, u⟩ i c = false) := Lib.hid (by rw [HV.out]; exact decide_eq_false (fun h => h1 h.1))
      clear h1
      generalize formB ⟨L, p, q, u⟩ i c = fb at *
      go_enter Tryd.func35, Tryd.ntmps35
      go_wp2
      generalize w.alloc (.cells #[v, .int .i64 p, .int .i64 q, .int .i64 u] 41) = w1 at *
      have y1 := HB.out.c1
      have y2 := HB.out.c2
      have y3 := HB.out.c3
      go_wp2
      go_ret
      exact ⟨ret_bool HV2.out.symm, HBe.out⟩
  · have HV : Hid (formB ⟨L, p, q, u⟩ i c = decide (0 ≤ p ∧ p < i ∧ 0 ≤ q ∧ q < i)) := Lib.hid (by unfold formB; rw [if_neg hp])
    have e0 : (p == -1) = false := by simp [hp]
    clear hp _hv
    by_cases h0 : 0 ≤ p
    · have q0 : decide (0 ≤ p) = true := decide_eq_true h0
      by_cases h1 : p < i
      · have q1 : decide (p < i) = true := decide_eq_true h1
        by_cases h2 : 0 ≤ q
        · have q2 : decide (0 ≤ q) = true := decide_eq_true h2
          have HV2 : Hid (formB ⟨L, p, q, u⟩ i c = decide (q < i)) := Lib.hid (by rw [HV.out, Bool.eq_iff_iff]; simp [h0, h1, h2])
          clear h0 h1 h2
          generalize formB ⟨L, p, q, u⟩ i c = fb at *
          go_enter Tryd.func35, Tryd.ntmps35
          go_wp2
          generalize w.alloc (.cells #[v, .int .i64 p, .int .i64 q, .int .i64 u] 41) = w1 at *
          have y1 := HB.out.c1
          have y2 := HB.out.c2
          have y3 := HB.out.c3
          go_wp2
          go_ret
          exact ⟨ret_bool HV2.out.symm, HBe.out⟩
        · have q2 : decide (0 ≤ q) = false := decide_eq_false h2
          have HV2 : Hid (formB ⟨L, p, q, u⟩ i c = false) := Lib.hid (by rw [HV.out]; exact decide_eq_false (fun h => h2 h.2.2.1))
          clear h0 h1 h2
          generalize formB ⟨L, p, q, u⟩ i c = fb at *
          go_enter Tryd.func35, Tryd.ntmps35
          go_wp2
          generalize w.alloc (.cells #[v, .int .i64 p, .int .i64 q, .int .i64 u] 41) = w1 at *
          have y1 := HB.out.c1
          have y2 := HB.out.c2
          have y3 := HB.out.c3
          go_wp2
          go_ret
          exact ⟨ret_bool HV2.out.symm, HBe.out⟩
      · have q1 : decide (p < i) = false := decide_eq_false h1
        have HV2 : Hid (formB ⟨L, p, q, u⟩ i c = false) := Lib.hid (by rw [HV.out]; exact decide_eq_false (fun h => h1 h.2.1))
        clear h0 h1
        generalize formB ⟨L, p, q, u⟩ i c = fb at *
        go_enter Tryd.func35, Tryd.ntmps35
        go_wp2
        generalize w.alloc (.cells #[v, .int .i64 p, .int .i64 q, .int .i64 u] 41) = w1 at *
        have y1 := HB.out.c1
        have y2 := HB.out.c2
        have y3 := HB.out.c3
        go_wp2
        go_ret
        exact ⟨ret_bool HV2.out.symm, HBe.out⟩
    · have q0 : decide (0 ≤ p) = false := decide_eq_false h0
      have HV2 : Hid (formB ⟨L, p, q, u⟩ i c = false) := Lib.hid (by rw [HV.out]; exact decide_eq_false (fun h => h0 h.1))
      clear h0
      generalize formB ⟨L, p, q, u⟩ i c = fb at *
      go_enter Tryd.func35, Tryd.ntmps35
      go_wp2
      generalize w.alloc (.cells #[v, .int .i64 p, .int .i64 q, .int .i64 u] 41) = w1 at *
      have y1 := HB.out.c1
      have y2 := HB.out.c2
      have y3 := HB.out.c3
      go_wp2
      go_ret
      exact ⟨ret_bool HV2.out.symm, HBe.out⟩
/-- what is known of the values of the region that resolves two lines -/
def vFo (base : Nat) (L : List Int) (E : Int) : Nat → Value → World → Prop
  | 14, v, W => ∃ A9 c9, v = .tuple #[.slice A9 L.length c9, .int .i64 E] ∧ OwJ W base A9 L
  | 15, v, W => ∃ A9 c9, v = .tuple #[.slice A9 L.length c9, .int .i64 E] ∧ OwJ W base A9 L
  | 16, v, W => ∃ A9 c9, v = .slice A9 L.length c9 ∧ OwJ W base A9 L
  | 18, v, W => ∃ A9 c9, v = .slice A9 L.length c9 ∧ OwJ W base A9 L
  | _, _, _ => True
theorem vFo_up {base : Nat} {L : List Int} {E : Int} : ∀ i v W W', vFo base L E i v W → Below W.heap.size W W' → vFo base L E i v W' := fun i v W W' h hb => by
  match i, h with
  | 14, ⟨A9, c9, e, h⟩ => exact ⟨A9, c9, e, h.below hb⟩
  | 15, ⟨A9, c9, e, h⟩ => exact ⟨A9, c9, e, h.below hb⟩
  | 16, ⟨A9, c9, e, h⟩ => exact ⟨A9, c9, e, h.below hb⟩
  | 18, ⟨A9, c9, e, h⟩ => exact ⟨A9, c9, e, h.below hb⟩
  | 0, _ => trivial
  | 1, _ => trivial
  | 2, _ => trivial
  | 3, _ => trivial
  | 4, _ => trivial
  | 5, _ => trivial
  | 6, _ => trivial
  | 7, _ => trivial
  | 8, _ => trivial
  | 9, _ => trivial
  | 10, _ => trivial
  | 11, _ => trivial
  | 12, _ => trivial
  | 13, _ => trivial
  | 17, _ => trivial
  | _ + 19, _ => trivial
set_option maxHeartbeats 16000000 in
theorem xFollows_any (x : Ln) (Ax : Option Addr) (cx : Nat) (l : List (List Int)) (s : List Ln) (A : Option Addr) (k cap : Nat) (A2 : Option Addr) (k2 cap2 : Nat) (i : Nat) (w : World) (hx : LnR w w.heap.size x Ax cx) (hR : ZsR w w.heap.size A k l) (_hk : k ≤ 64) (hR2 : LnsR w w.heap.size A2 k2 s) (_hk2 : k2 ≤ maxLen) (hi : i < k2) (hf : formB x (i : Int) (k : Int) = true) :
    Calls Tryd.prog 36 #[.agg #[.slice Ax x.cl.length cx, .int .i64 x.left, .int .i64 x.right, .int .i64 x.on], .slice A k cap, .slice A2 k2 cap2] w fun e w' => e = .returned (.bool (folB l s x)) ∧ Below w.heap.size w w' := by
  obtain ⟨cl, left, right, on⟩ := x
  dsimp only at *
  have HB := Lib.hid (LB.made w (.slice Ax cl.length cx) left right on)
  have HBe : Hid (Below w.heap.size w (w.alloc (.cells #[.slice Ax cl.length cx, .int .i64 left, .int .i64 right, .int .i64 on] 41))) := Lib.hid ((Below.refl _ w).alloc (Nat.le_refl _) _)
  unfold maxLen at _hk2
  by_cases hp : left = -1
  · unfold formB at hf
    rw [if_pos hp] at hf
    obtain ⟨f1, f2, f3⟩ := of_decide_eq_true hf
    dsimp only at f1 f2 f3
    obtain ⟨r, rfl⟩ : ∃ r : Nat, right = (r : Int) := ⟨right.toNat, by omega⟩
    have HV : Hid (folB l s ⟨cl, left, r, on⟩ = decide (cl = l.getD r [])) := Lib.hid (by unfold folB; rw [if_pos hp]; dsimp only; rw [Int.toNat_natCast])
    have e0 : (left == -1) = true := by simp [hp]
    have hrk : r < k := by omega
    generalize folB l s ⟨cl, left, r, on⟩ = fb at *
    obtain ⟨ad, Aj, cj, rfl, hadb, hcj, hrj, hlj⟩ := hR.at_ hrk
    have hcj2 := fun W (hw : Below w.heap.size w W) => (hw.cell (p := ad.add r) (by rw [block_of_add]; exact hadb)).trans hcj
    have HQ := Lib.hid (fun W (hw : Below w.heap.size w W) => equalI_any cl (l.getD r []) Ax Aj cl.length (l.getD r []).length cx cj W.heap.size W ((hx.rd.below hw).more hw.size) ((hrj.below hw).more hw.size) hx.le hlj)
    have HC0 := Lib.hid (hcj2 _ HBe.out)
    clear hf hp f1 f2 f3 hR hR2 hx hrj hlj hcj hcj2 hadb
    generalize l.getD r [] = d at *
    generalize decide (cl = d) = db at *
    generalize cl.length = ncl at *
    go_enter Tryd.func36, Tryd.ntmps36
    go_wp2
    generalize w.alloc (.cells #[.slice Ax ncl cx, .int .i64 left, .int .i64 (r : Int), .int .i64 on] 41) = w1 at *
    have y0 := HB.out.c0
    have y1 := HB.out.c1
    have y2 := HB.out.c2
    have hc0 := HC0.out
    go_wp2
    go_quiet (first | (go_at_call 62; exact quiet_drew1 (HQ.out _ (below_drewN HBe.out _))))
    go_wp2
    go_ret
    exact ⟨ret_bool HV.out.symm, below_drewN HBe.out _⟩
  · unfold formB at hf
    rw [if_neg hp] at hf
    obtain ⟨f0, f1, f2, f3⟩ := of_decide_eq_true hf
    dsimp only at f0 f1 f2 f3
    obtain ⟨p, rfl⟩ : ∃ p : Nat, left = (p : Int) := ⟨left.toNat, by omega⟩
    obtain ⟨r, rfl⟩ : ∃ r : Nat, right = (r : Int) := ⟨right.toNat, by omega⟩
    have HV : Hid (folB l s ⟨cl, p, r, on⟩ = decide (resE (s.getD p ln0).cl (s.getD r ln0).cl on = 0 ∧ cl = resL (s.getD p ln0).cl (s.getD r ln0).cl on)) := Lib.hid (by unfold folB; rw [if_neg hp]; dsimp only; rw [Int.toNat_natCast, Int.toNat_natCast])
    have e0 : ((p : Int) == -1) = false := by simp
    have hpk : p < k2 := by omega
    have hrk : r < k2 := by omega
    generalize folB l s ⟨cl, p, r, on⟩ = fb at *
    obtain ⟨b1, o1, Aa, ca, rfl, hb1, c10, _, _, _, hl1⟩ := hR2.at_ hpk
    obtain ⟨b2, o2, Ab, cb, hA2, hb2, c20, _, _, _, hl2⟩ := hR2.at_ hrk
    injection hA2 with hA2
    injection hA2 with hA21 hA22
    subst hA21 hA22
    have HRE := Lib.hid (fun W (hw : Below w.heap.size w W) => xResolve_any (s.getD p ln0).cl (s.getD r ln0).cl on Aa (s.getD p ln0).cl.length ca Ab (s.getD r ln0).cl.length cb W ((hl1.rd.below hw).more hw.size) hl1.le hl1.cap ((hl2.rd.below hw).more hw.size) hl2.le hl2.cap)
    have HC1 := Lib.hid (fun W (hw : Below w.heap.size w W) => (hw.cell (p := ⟨b1, o1 + p * 4, none⟩) hb1).trans c10)
    have HC2 := Lib.hid (fun W (hw : Below w.heap.size w W) => (hw.cell (p := ⟨b1, o1 + r * 4, none⟩) hb1).trans c20)
    have HRL : Hid (∀ W A9, OwJ W w.heap.size A9 (resL (s.getD p ln0).cl (s.getD r ln0).cl on) → Reads W W.heap.size 1 A9 (resL (s.getD p ln0).cl (s.getD r ln0).cl on).length (ints (resL (s.getD p ln0).cl (s.getD r ln0).cl on))) := Lib.hid (fun W A9 h => h.reads)
    have HLL : Hid ((resL (s.getD p ln0).cl (s.getD r ln0).cl on).length ≤ maxLen) := Lib.hid (by
      unfold resL maxLen
      split
      · have := nrm_len (restL (s.getD p ln0).cl (s.getD r ln0).cl on); omega
      · simp)
    have HQ := Lib.hid (fun W (hw : Below w.heap.size w W) L A9 n9 c9 (h : Reads W W.heap.size 1 A9 n9 (ints L)) (h9 : n9 ≤ maxLen) => equalI_any cl L Ax A9 cl.length n9 cx c9 W.heap.size W ((hx.rd.below hw).more hw.size) h hx.le h9)
    clear hf hp f0 f1 f2 f3 hR hR2 hx hl1 hl2 c10 c20 hb1 hb2
    generalize resL (s.getD p ln0).cl (s.getD r ln0).cl on = L at *
    generalize resE (s.getD p ln0).cl (s.getD r ln0).cl on = E at *
    generalize (s.getD p ln0).cl.length = na at *
    generalize (s.getD r ln0).cl.length = nb at *
    have HE1 : Hid (E = 0 → ∀ b, decide (cl = L) = b → fb = b) := Lib.hid (fun h b hb => by rw [HV.out, ← hb]; simp [h])
    have HE2 : Hid (E ≠ 0 → fb = false) := Lib.hid (fun h => by rw [HV.out]; exact decide_eq_false (fun k => h k.1))
    clear HV
    generalize cl.length = ncl at *
    go_enter Tryd.func36, Tryd.ntmps36
    go_wp2
    generalize w.alloc (.cells #[.slice Ax ncl cx, .int .i64 (p : Int), .int .i64 (r : Int), .int .i64 on] 41) = w1 at *
    have hg : w.heap.size < w1.heap.size := HB.out.lt
    generalize hG : w.heap.size = G at *
    have HG := Lib.hid hG
    clear hG
    have HLB := Lib.hid (fun W (hw : Below w1.heap.size w1 W) => HB.out.below hw hg)
    have HBW := Lib.hid (fun W (hw : Below w1.heap.size w1 W) => HBe.out.trans (hw.mono (Nat.le_of_lt hg)))
    have y1 := HB.out.c1
    go_wp2
    clear y1
    refine wp_region_wild [.slice (some ⟨b1, o1, none⟩) k2 cap2, .pointer (some ⟨G, 1, none⟩), .int .i64 (p : Int), .pointer (some ⟨b1, o1 + p * 4, none⟩), .pointer (some ⟨b1, o1 + p * 4, none⟩), .slice Aa na ca, .slice (some ⟨b1, o1, none⟩) k2 cap2, .pointer (some ⟨G, 2, none⟩), .int .i64 (r : Int), .pointer (some ⟨b1, o1 + r * 4, none⟩), .pointer (some ⟨b1, o1 + r * 4, none⟩), .slice Ab nb cb, .pointer (some ⟨G, 3, none⟩), .int .i64 on, undef, undef, undef, .int .i64 E, undef, .int .i64 E] [21, 22, 23, 24, 25, 26, 27, 28, 29, 30, 31, 32, 33, 34, 35, 20, 36, 37, 7, 8] [1, 2, 3, 4, 5, 7, 8, 9, 10, 11, 12, 13, 14, 15, 16, 17, 18] [14, 15, 16, 18] (vFo G L E) (fun W => Below w1.heap.size w1 W) (fun W W' => Below W.heap.size W W') 20 46 rfl rfl rfl (by decide) (by decide) (by kernel_rfl) (by kernel_rfl) (by kernel_rfl) (by kernel_rfl) (fun W => Below.refl _ W) (fun W1 W2 W3 h1 h2 => h1.trans (h2.mono h1.size)) (fun W W' h h2 => h.trans (h2.mono h.size)) vFo_up (Below.refl _ w1).drew (by kernel_rfl) [] rfl ?hop ?fin
    case hop =>
      refine (And.intro ?s1 (And.intro ?s2 (And.intro ?s3 (And.intro ?s4 (And.intro ?s5 (And.intro ?s7 (And.intro ?s8 (And.intro ?s9 (And.intro ?s10 (And.intro ?s11 (And.intro ?s12 (And.intro ?s13 (And.intro ?s14 (And.intro ?s15 (And.intro ?s16 (And.intro ?s17 (And.intro ?s18 trivial)))))))))))))))))
      case s1 =>
        refine And.intro (by rfl) (fun tm W hS hsz hfr hdep K hK => ?_)
        change tm.size = 46 at hsz
        have t3 : tm.getD 3 undef = .pointer (some ⟨G, 0, none⟩) := hfr 3 (by rfl)
        have u3 := getq t3 (by omega)
        clear hdep hfr
        have hk9 := hK (.pointer (some ⟨G, 1, none⟩)) W (Below.refl _ W) (wildV_of (by rfl))
        go_simp
        exact hk9
      case s2 =>
        refine And.intro (by rfl) (fun tm W hS hsz hfr hdep K hK => ?_)
        change tm.size = 46 at hsz
        have t22 : tm.getD 22 undef = .pointer (some ⟨G, 1, none⟩) := wildV_known (by rfl) (hdep 1 (by rfl) (by decide))
        have u22 := getq t22 (by omega)
        have z1 := (HLB.out W hS).c1
        have z2 := (HLB.out W hS).c2
        have z3 := (HLB.out W hS).c3
        clear hdep hfr
        have hk9 := hK (.int .i64 (p : Int)) W (Below.refl _ W) (wildV_of (by rfl))
        go_simp
        exact hk9
      case s3 =>
        refine And.intro (by rfl) (fun tm W hS hsz hfr hdep K hK => ?_)
        change tm.size = 46 at hsz
        have t21 : tm.getD 21 undef = .slice (some ⟨b1, o1, none⟩) k2 cap2 := wildV_known (by rfl) (hdep 0 (by rfl) (by decide))
        have t23 : tm.getD 23 undef = .int .i64 (p : Int) := wildV_known (by rfl) (hdep 2 (by rfl) (by decide))
        have u21 := getq t21 (by omega)
        have u23 := getq t23 (by omega)
        clear hdep hfr
        have hk9 := hK (.pointer (some ⟨b1, o1 + p * 4, none⟩)) W (Below.refl _ W) (wildV_of (by rfl))
        go_simp
        exact hk9
      case s4 =>
        refine And.intro (by rfl) (fun tm W hS hsz hfr hdep K hK => ?_)
        change tm.size = 46 at hsz
        have t24 : tm.getD 24 undef = .pointer (some ⟨b1, o1 + p * 4, none⟩) := wildV_known (by rfl) (hdep 3 (by rfl) (by decide))
        have u24 := getq t24 (by omega)
        clear hdep hfr
        have hk9 := hK (.pointer (some ⟨b1, o1 + p * 4, none⟩)) W (Below.refl _ W) (wildV_of (by rfl))
        go_simp
        exact hk9
      case s5 =>
        refine And.intro (by rfl) (fun tm W hS hsz hfr hdep K hK => ?_)
        change tm.size = 46 at hsz
        have t25 : tm.getD 25 undef = .pointer (some ⟨b1, o1 + p * 4, none⟩) := wildV_known (by rfl) (hdep 4 (by rfl) (by decide))
        have u25 := getq t25 (by omega)
        have z0 := HC1.out W (HBW.out W hS)
        clear hdep hfr
        have hk9 := hK (.slice Aa na ca) W (Below.refl _ W) (wildV_of (by rfl))
        go_simp
        exact hk9
      case s7 =>
        refine And.intro (by rfl) (fun tm W hS hsz hfr hdep K hK => ?_)
        change tm.size = 46 at hsz
        have t3 : tm.getD 3 undef = .pointer (some ⟨G, 0, none⟩) := hfr 3 (by rfl)
        have u3 := getq t3 (by omega)
        clear hdep hfr
        have hk9 := hK (.pointer (some ⟨G, 2, none⟩)) W (Below.refl _ W) (wildV_of (by rfl))
        go_simp
        exact hk9
      case s8 =>
        refine And.intro (by rfl) (fun tm W hS hsz hfr hdep K hK => ?_)
        change tm.size = 46 at hsz
        have t28 : tm.getD 28 undef = .pointer (some ⟨G, 2, none⟩) := wildV_known (by rfl) (hdep 7 (by rfl) (by decide))
        have u28 := getq t28 (by omega)
        have z1 := (HLB.out W hS).c1
        have z2 := (HLB.out W hS).c2
        have z3 := (HLB.out W hS).c3
        clear hdep hfr
        have hk9 := hK (.int .i64 (r : Int)) W (Below.refl _ W) (wildV_of (by rfl))
        go_simp
        exact hk9
      case s9 =>
        refine And.intro (by rfl) (fun tm W hS hsz hfr hdep K hK => ?_)
        change tm.size = 46 at hsz
        have t27 : tm.getD 27 undef = .slice (some ⟨b1, o1, none⟩) k2 cap2 := wildV_known (by rfl) (hdep 6 (by rfl) (by decide))
        have t29 : tm.getD 29 undef = .int .i64 (r : Int) := wildV_known (by rfl) (hdep 8 (by rfl) (by decide))
        have u27 := getq t27 (by omega)
        have u29 := getq t29 (by omega)
        clear hdep hfr
        have hk9 := hK (.pointer (some ⟨b1, o1 + r * 4, none⟩)) W (Below.refl _ W) (wildV_of (by rfl))
        go_simp
        exact hk9
      case s10 =>
        refine And.intro (by rfl) (fun tm W hS hsz hfr hdep K hK => ?_)
        change tm.size = 46 at hsz
        have t30 : tm.getD 30 undef = .pointer (some ⟨b1, o1 + r * 4, none⟩) := wildV_known (by rfl) (hdep 9 (by rfl) (by decide))
        have u30 := getq t30 (by omega)
        clear hdep hfr
        have hk9 := hK (.pointer (some ⟨b1, o1 + r * 4, none⟩)) W (Below.refl _ W) (wildV_of (by rfl))
        go_simp
        exact hk9
      case s11 =>
        refine And.intro (by rfl) (fun tm W hS hsz hfr hdep K hK => ?_)
        change tm.size = 46 at hsz
        have t31 : tm.getD 31 undef = .pointer (some ⟨b1, o1 + r * 4, none⟩) := wildV_known (by rfl) (hdep 10 (by rfl) (by decide))
        have u31 := getq t31 (by omega)
        have z0 := HC2.out W (HBW.out W hS)
        clear hdep hfr
        have hk9 := hK (.slice Ab nb cb) W (Below.refl _ W) (wildV_of (by rfl))
        go_simp
        exact hk9
      case s12 =>
        refine And.intro (by rfl) (fun tm W hS hsz hfr hdep K hK => ?_)
        change tm.size = 46 at hsz
        have t3 : tm.getD 3 undef = .pointer (some ⟨G, 0, none⟩) := hfr 3 (by rfl)
        have u3 := getq t3 (by omega)
        clear hdep hfr
        have hk9 := hK (.pointer (some ⟨G, 3, none⟩)) W (Below.refl _ W) (wildV_of (by rfl))
        go_simp
        exact hk9
      case s13 =>
        refine And.intro (by rfl) (fun tm W hS hsz hfr hdep K hK => ?_)
        change tm.size = 46 at hsz
        have t33 : tm.getD 33 undef = .pointer (some ⟨G, 3, none⟩) := wildV_known (by rfl) (hdep 12 (by rfl) (by decide))
        have u33 := getq t33 (by omega)
        have z1 := (HLB.out W hS).c1
        have z2 := (HLB.out W hS).c2
        have z3 := (HLB.out W hS).c3
        clear hdep hfr
        have hk9 := hK (.int .i64 on) W (Below.refl _ W) (wildV_of (by rfl))
        go_simp
        exact hk9
      case s14 =>
        refine And.intro (by rfl) (fun tm W hS hsz hfr hdep K hK => ?_)
        change tm.size = 46 at hsz
        have t26 : tm.getD 26 undef = .slice Aa na ca := wildV_known (by rfl) (hdep 5 (by rfl) (by decide))
        have t32 : tm.getD 32 undef = .slice Ab nb cb := wildV_known (by rfl) (hdep 11 (by rfl) (by decide))
        have t34 : tm.getD 34 undef = .int .i64 on := wildV_known (by rfl) (hdep 13 (by rfl) (by decide))
        clear hdep hfr
        refine wp_call _ _ _ _ _ rfl rfl (by simp [Act.eval, t26, t32, t34]) (by kernel_rfl) (HRE.out W (HBW.out W hS)) (fun e W9 h9 => ?_)
        obtain ⟨A9, c9, rfl, hj9, _, hb9⟩ := h9
        exact ⟨_, rfl, hK _ W9 hb9 (show vFo G L E 14 _ W9 from ⟨A9, c9, rfl, hj9.mono (by have := hS.size; omega)⟩)⟩
      case s15 =>
        refine And.intro (by rfl) (fun tm W hS hsz hfr hdep K hK => ?_)
        change tm.size = 46 at hsz
        have h14 : (vFo G L E) 14 (tm.getD 35 undef) W := wildV_wild (by rfl) (hdep 14 (by rfl) (by decide))
        clear hdep hfr
        obtain ⟨A9, c9, t106, hj9⟩ := (show ∃ A9 c9, tm.getD 35 undef = .tuple #[.slice A9 L.length c9, .int .i64 E] ∧ OwJ W G A9 L from h14)
        have u106 := getq t106 (by omega)
        have hk9 := hK (.tuple #[.slice A9 L.length c9, .int .i64 E]) W (Below.refl _ W) (show vFo G L E 15 _ W from ⟨A9, c9, rfl, hj9⟩)
        go_simp
        exact hk9
      case s16 =>
        refine And.intro (by rfl) (fun tm W hS hsz hfr hdep K hK => ?_)
        change tm.size = 46 at hsz
        have h15 : (vFo G L E) 15 (tm.getD 20 undef) W := wildV_wild (by rfl) (hdep 15 (by rfl) (by decide))
        clear hdep hfr
        obtain ⟨A9, c9, t106, hj9⟩ := (show ∃ A9 c9, tm.getD 20 undef = .tuple #[.slice A9 L.length c9, .int .i64 E] ∧ OwJ W G A9 L from h15)
        have u106 := getq t106 (by omega)
        have hk9 := hK (.slice A9 L.length c9) W (Below.refl _ W) (show vFo G L E 16 _ W from ⟨A9, c9, rfl, hj9⟩)
        go_simp
        exact hk9
      case s17 =>
        refine And.intro (by rfl) (fun tm W hS hsz hfr hdep K hK => ?_)
        change tm.size = 46 at hsz
        have h15 : (vFo G L E) 15 (tm.getD 20 undef) W := wildV_wild (by rfl) (hdep 15 (by rfl) (by decide))
        clear hdep hfr
        obtain ⟨A9, c9, t106, hj9⟩ := (show ∃ A9 c9, tm.getD 20 undef = .tuple #[.slice A9 L.length c9, .int .i64 E] ∧ OwJ W G A9 L from h15)
        have u106 := getq t106 (by omega)
        have hk9 := hK (.int .i64 E) W (Below.refl _ W) (wildV_of (by rfl))
        go_simp
        exact hk9
      case s18 =>
        refine And.intro (by rfl) (fun tm W hS hsz hfr hdep K hK => ?_)
        change tm.size = 46 at hsz
        have h16 : (vFo G L E) 16 (tm.getD 36 undef) W := wildV_wild (by rfl) (hdep 16 (by rfl) (by decide))
        clear hdep hfr
        obtain ⟨A9, c9, t106, hj9⟩ := (show ∃ A9 c9, tm.getD 36 undef = .slice A9 L.length c9 ∧ OwJ W G A9 L from h16)
        have u106 := getq t106 (by omega)
        have hk9 := hK (.slice A9 L.length c9) W (Below.refl _ W) (show vFo G L E 18 _ W from ⟨A9, c9, rfl, hj9⟩)
        go_simp
        exact hk9
    case fin =>
      intro f W hS hV
      have y14 : (vFo G L E) 14 (f 14) W := hV 14 (by decide) (by rfl)
      have y15 : (vFo G L E) 15 (f 15) W := hV 15 (by decide) (by rfl)
      have y16 : (vFo G L E) 16 (f 16) W := hV 16 (by decide) (by rfl)
      have y18 : (vFo G L E) 18 (f 18) W := hV 18 (by decide) (by rfl)
      clear hV
      have hvl : ((List.range 20).map (fun qq => if [14, 15, 16, 18].contains qq then f qq else ([.slice (some ⟨b1, o1, none⟩) k2 cap2, .pointer (some ⟨G, 1, none⟩), .int .i64 (p : Int), .pointer (some ⟨b1, o1 + p * 4, none⟩), .pointer (some ⟨b1, o1 + p * 4, none⟩), .slice Aa na ca, .slice (some ⟨b1, o1, none⟩) k2 cap2, .pointer (some ⟨G, 2, none⟩), .int .i64 (r : Int), .pointer (some ⟨b1, o1 + r * 4, none⟩), .pointer (some ⟨b1, o1 + r * 4, none⟩), .slice Ab nb cb, .pointer (some ⟨G, 3, none⟩), .int .i64 on, undef, undef, undef, .int .i64 E, undef, .int .i64 E] : List Value).getD qq undef)) = [.slice (some ⟨b1, o1, none⟩) k2 cap2, .pointer (some ⟨G, 1, none⟩), .int .i64 (p : Int), .pointer (some ⟨b1, o1 + p * 4, none⟩), .pointer (some ⟨b1, o1 + p * 4, none⟩), .slice Aa na ca, .slice (some ⟨b1, o1, none⟩) k2 cap2, .pointer (some ⟨G, 2, none⟩), .int .i64 (r : Int), .pointer (some ⟨b1, o1 + r * 4, none⟩), .pointer (some ⟨b1, o1 + r * 4, none⟩), .slice Ab nb cb, .pointer (some ⟨G, 3, none⟩), .int .i64 on, f 14, f 15, f 16, .int .i64 E, f 18, .int .i64 E] := by rfl
      rw [hvl]
      clear hvl
      have HS9 := Lib.hid hS
      obtain ⟨A9, c9, e9, hj9⟩ := (show ∃ A9 c9, f 18 = .slice A9 L.length c9 ∧ OwJ W G A9 L from y18)
      rw [e9]
      have HB9 := Lib.hid (HBW.out W hS)
      have HQ9 := Lib.hid (HQ.out W HB9.out L A9 L.length c9 (HRL.out W A9 hj9) HLL.out)
      have HL9 := Lib.hid (HLB.out W hS)
      clear e9 hj9 y14 y15 y16 y18 hS
      generalize f 14 = f14
      generalize f 15 = f15
      generalize f 16 = f16
      simp only [fillD]
      go_simp
      by_cases hE : E = 0
      · have hE0 : (E == 0) = true := by simp [hE]
        have HFB := Lib.hid (HE1.out hE)
        clear hE
        generalize decide (cl = L) = db at *
        have HFB2 := Lib.hid (HFB.out db rfl)
        have y0 := HL9.out.c0
        go_wp2_with fail
        refine (HQ9.out).mono ?_
        rintro e w5 ⟨rfl, q5, rfl⟩
        go_wp2
        go_ret
        exact ⟨ret_bool HFB2.out.symm, by rw [HG.out]; exact below_drewN HB9.out _⟩
      · have hE0 : (E == 0) = false := by simp [hE]
        have HFB2 := Lib.hid (HE2.out hE)
        clear hE
        have y0 := HL9.out.c0
        go_wp2
        go_ret
        exact ⟨ret_bool HFB2.out.symm, by rw [HG.out]; exact HB9.out⟩
theorem all_range {n : Nat} {p : Nat → Bool} : (List.range n).all p = true ↔ ∀ i, i < n → p i = true := by
  rw [List.all_eq_true]
  exact ⟨fun h i hi => h i (List.mem_range.2 hi), fun h i hi => h i (List.mem_range.1 hi)⟩
theorem all_range_bad {n : Nat} {p : Nat → Bool} {i : Nat} (hi : i < n) (h : p i = false) : (List.range n).all p = false := by
  rw [Bool.eq_false_iff]
  intro h2
  rw [all_range.1 h2 i hi] at h
  cases h
theorem verE_good {n : Int} {l : List (List Int)} {s : List Ln} (hz : chkR n l = 0) (h1 : ∀ i, i < s.length → formB (s.getD i ln0) (i : Int) (l.length : Int) = true) (h2 : ∀ i, i < s.length → folB l s (s.getD i ln0) = true) :
    verE n l s = if s = [] ∨ (s.getD (s.length - 1) ln0).cl ≠ [] then 13 else 0 := by
  unfold verE
  rw [if_neg (fun h => h hz), if_neg (by rw [all_range.2 h1]; decide), if_neg (by rw [all_range.2 h2]; decide)]
set_option maxHeartbeats 16000000 in
theorem xVerify_any (n : Int) (l : List (List Int)) (s : List Ln) (A : Option Addr) (k cap : Nat) (A2 : Option Addr) (k2 cap2 : Nat) (w : World) (hR : ZsR w w.heap.size A k l) (hk : k ≤ maxLen) (hR2 : LnsR w w.heap.size A2 k2 s) (hk2 : k2 ≤ maxLen) :
    Calls Tryd.prog 15 #[.int .i64 n, .slice A k cap, .slice A2 k2 cap2] w fun e w' => e = .returned (.int .i64 (verE n l s)) ∧ Below w.heap.size w w' := by
  have HC := Lib.hid (xCheck_any n l A k cap w.heap.size w hR hk)
  by_cases hz : chkR n l = 0
  · obtain ⟨m, rfl, hm, hln, hcl⟩ := chkR_ok hz
    have hl := hR.len
    have hl2 := hR2.len
    have HG1 : Hid (∀ i, i < k2 → formB (s.getD i ln0) (i : Int) (k : Int) = false → verE (m : Int) l s = 3) := Lib.hid (fun i hi h => by
      unfold verE
      rw [if_neg (fun h => h hz), if_pos (all_range_bad (n := s.length) (i := i) (by omega) (by rw [hl]; exact h))])
    have HG2 : Hid ((∀ i, i < k2 → formB (s.getD i ln0) (i : Int) (k : Int) = true) → ∀ i, i < k2 → folB l s (s.getD i ln0) = false → verE (m : Int) l s = 13) := Lib.hid (fun h1 i hi h => by
      unfold verE
      rw [if_neg (fun h => h hz), if_neg (by rw [all_range.2 (fun j hj => by rw [hl]; exact h1 j (by omega))]; decide), if_pos (all_range_bad (n := s.length) (i := i) (by omega) h)])
    have HG3 : Hid ((∀ i, i < k2 → formB (s.getD i ln0) (i : Int) (k : Int) = true) → (∀ i, i < k2 → folB l s (s.getD i ln0) = true) → verE (m : Int) l s = if s = [] ∨ (s.getD (s.length - 1) ln0).cl ≠ [] then 13 else 0) := Lib.hid (fun h1 h2 => verE_good hz (fun i hi => by rw [hl]; exact h1 i (by omega)) (fun i hi => h2 i (by omega)))
    have HFM := Lib.hid (fun (W : World) (v : Value) (L : List Int) (p q u i : Int) hv => xFormed_any v L p q u i (k : Int) W hv)
    have HFO := Lib.hid (fun (W : World) (hw : Below w.heap.size w W) (x : Ln) Ax cx (i : Nat) (hx : LnR W W.heap.size x Ax cx) (hi : i < k2) hf => xFollows_any x Ax cx l s A k cap A2 k2 cap2 i W hx (hR.below hw hw.size) (by omega) (hR2.below hw hw.size) hk2 hi hf)
    have HRL := Lib.hid (fun (W : World) (hw : Below w.heap.size w W) => hR2.below hw hw.size)
    have HL2 := Lib.hid hl2
    rw [hz] at HC
    unfold maxLen at hk2
    clear hz hl hl2 hR hR2 hcl hk
    generalize verE (m : Int) l s = E at *
    go_enter Tryd.func15, Tryd.ntmps15
    go_wp2_with fail
    refine (HC.out).mono ?_
    rintro e w2 ⟨rfl, rfl⟩
    go_wp2
    go_loopw [8, 9, 20] (fun _ _ i wr => ∃ j : Nat, j ≤ k2 ∧ i = .int .i64 j ∧ Hid (∀ i, i < j → formB (s.getD i ln0) (i : Int) (k : Int) = true) ∧ Hid (Below w.heap.size w wr)) (fun _ _ i _ => k2 - (intOf i).toNat)
    case atStart => exact ⟨0, Nat.zero_le _, rfl, Lib.hid (fun i hi => absurd hi (Nat.not_lt_zero _)), Lib.hid (Below.refl _ _)⟩
    case round =>
      obtain ⟨j, hj, rfl, HI, HO⟩ := hrel
      by_cases hlt : j < k2
      · obtain ⟨b1, o1, Aj, cj, rfl, hb1, c0, c1, c2, c3, hlr⟩ := (HRL.out wr HO.out).at_ hlt
        have HFJ := Lib.hid (fun W => HFM.out W (.slice Aj (s.getD j ln0).cl.length cj) (s.getD j ln0).cl (s.getD j ln0).left (s.getD j ln0).right (s.getD j ln0).on (j : Int) rfl)
        have HN : Hid (∀ b, formB (s.getD j ln0) (j : Int) (k : Int) = b → b = true → ∀ i, i < j + 1 → formB (s.getD i ln0) (i : Int) (k : Int) = true) := Lib.hid (fun b h1 h2 i hi => by
          by_cases e : i = j
          · rw [e, h1, h2]
          · exact HI.out i (by omega))
        have HE1 := Lib.hid (HG1.out j hlt)
        clear HI hlr
        generalize s.getD j ln0 = x at *
        obtain ⟨cl, p, q, u⟩ := x
        dsimp only at *
        generalize hq : formB ⟨cl, p, q, u⟩ (j : Int) (k : Int) = b at *
        generalize cl.length = ncl at *
        have HB1 : Hid (Below w.heap.size w (wr.alloc (.cells #[.slice Aj ncl cj, .int .i64 p, .int .i64 q, .int .i64 u] 41))) := Lib.hid (HO.out.alloc HO.out.size _)
        have HLB := Lib.hid (LB.made wr (.slice Aj ncl cj) p q u)
        cases b with
        | true =>
          have HI2 := Lib.hid (HN.out true rfl rfl)
          clear hq HN HE1
          go_wp2_with fail
          generalize wr.alloc (.cells #[.slice Aj ncl cj, .int .i64 p, .int .i64 q, .int .i64 u] 41) = w1 at *
          clear c0 c1 c2 c3
          refine (HFJ.out _).mono ?_
          rintro e w3 ⟨rfl, hb⟩
          have HO2 := Lib.hid (HB1.out.trans (hb.mono HB1.out.size))
          clear hb
          go_wp2
          go_roundw
          case rel => exact ⟨j + 1, by omega, by go_num, HI2, HO2⟩
          case measure => first | (simp [intOf]; done) | (simp [intOf]; omega)
        | false =>
          have HE2 := Lib.hid (HE1.out rfl)
          clear hq HN HE1
          go_wp2_with fail
          generalize wr.alloc (.cells #[.slice Aj ncl cj, .int .i64 p, .int .i64 q, .int .i64 u] 41) = w1 at *
          clear c0 c1 c2 c3
          refine (HFJ.out _).mono ?_
          rintro e w3 ⟨rfl, hb⟩
          have HO2 := Lib.hid (HB1.out.trans (hb.mono HB1.out.size))
          clear hb
          go_wp2
          go_ret
          exact ⟨ret_i64 HE2.out.symm, HO2.out⟩
      · have hjk : j = k2 := by omega
        subst hjk
        have HFA := Lib.hid HI.out
        have HGA := Lib.hid (HG2.out HI.out)
        have HGB := Lib.hid (HG3.out HI.out)
        clear HI HG1 HG2 HG3
        go_wp2
        go_loopw [11, 34] (fun _ i wr => ∃ m : Nat, m ≤ j ∧ i = .int .i64 m ∧ Hid (∀ i, i < m → folB l s (s.getD i ln0) = true) ∧ Hid (Below w.heap.size w wr)) (fun _ i _ => j - (intOf i).toNat)
        case atStart => exact ⟨0, Nat.zero_le _, rfl, Lib.hid (fun i hi => absurd hi (Nat.not_lt_zero _)), HO⟩
        case round =>
          clear HO
          obtain ⟨m2, hm2, rfl, HI, HO⟩ := hrel
          by_cases hlt2 : m2 < j
          · obtain ⟨b1, o1, Aj, cj, rfl, hb1, c0, c1, c2, c3, hlr⟩ := (HRL.out wr HO.out).at_ hlt2
            have hfx := HFA.out m2 hlt2
            have HN : Hid (∀ b, folB l s (s.getD m2 ln0) = b → b = true → ∀ i, i < m2 + 1 → folB l s (s.getD i ln0) = true) := Lib.hid (fun b h1 h2 i hi => by
              by_cases e : i = m2
              · rw [e, h1, h2]
              · exact HI.out i (by omega))
            have HE1 := Lib.hid (HGA.out m2 hlt2)
            clear HI
            generalize s.getD m2 ln0 = x at *
            have HFJ := Lib.hid (fun W (hw : Below wr.heap.size wr W) => HFO.out W (HO.out.trans (hw.mono HO.out.size)) x Aj cj m2 (hlr.below hw hw.size) hlt2 hfx)
            clear hlr hfx
            obtain ⟨cl, p, q, u⟩ := x
            dsimp only at *
            generalize hq : folB l s ⟨cl, p, q, u⟩ = b at *
            generalize cl.length = ncl at *
            have HB1 : Hid (Below wr.heap.size wr (wr.alloc (.cells #[.slice Aj ncl cj, .int .i64 p, .int .i64 q, .int .i64 u] 41))) := Lib.hid ((Below.refl _ wr).alloc (Nat.le_refl _) _)
            have HLB := Lib.hid (LB.made wr (.slice Aj ncl cj) p q u)
            cases b with
            | true =>
              have HI2 := Lib.hid (HN.out true rfl rfl)
              clear hq HN HE1
              go_wp2_with fail
              generalize wr.alloc (.cells #[.slice Aj ncl cj, .int .i64 p, .int .i64 q, .int .i64 u] 41) = w1 at *
              clear c0 c1 c2 c3
              refine (HFJ.out _ HB1.out).mono ?_
              rintro e w3 ⟨rfl, hb⟩
              have HO2 := Lib.hid (HO.out.trans ((HB1.out.trans (hb.mono HB1.out.size)).mono HO.out.size))
              clear hb
              go_wp2
              go_roundw
              case rel => exact ⟨m2 + 1, by omega, by go_num, HI2, HO2⟩
              case measure => first | (simp [intOf]; done) | (simp [intOf]; omega)
            | false =>
              have HE2 := Lib.hid (HE1.out rfl)
              clear hq HN HE1
              go_wp2_with fail
              generalize wr.alloc (.cells #[.slice Aj ncl cj, .int .i64 p, .int .i64 q, .int .i64 u] 41) = w1 at *
              clear c0 c1 c2 c3
              refine (HFJ.out _ HB1.out).mono ?_
              rintro e w3 ⟨rfl, hb⟩
              have HO2 := Lib.hid (HO.out.trans ((HB1.out.trans (hb.mono HB1.out.size)).mono HO.out.size))
              clear hb
              go_wp2
              go_ret
              exact ⟨ret_i64 HE2.out.symm, HO2.out⟩
          · have hjm : m2 = j := by omega
            subst hjm
            have HE := Lib.hid (HGB.out HI.out)
            clear HI HGA HGB HFA
            by_cases h0 : m2 = 0
            · subst h0
              have hs0 : s = [] := List.length_eq_zero_iff.1 HL2.out
              have HE2 : Hid (E = 13) := Lib.hid (by rw [HE.out, if_pos (.inl hs0)])
              clear hs0
              go_wp2
              go_ret
              exact ⟨ret_i64 HE2.out.symm, HO.out⟩
            · obtain ⟨b1, o1, Aj, cj, rfl, hb1, c0, _, _, _, hlr⟩ := (HRL.out wr HO.out).at_ (show m2 - 1 < m2 by omega)
              have hm0 : ((m2 : Int) == 0) = false := by simp; omega
              have hcast : (m2 : Int) - 1 = ((m2 - 1 : Nat) : Int) := by omega
              have HE2 : Hid (E = if (s.getD (m2 - 1) ln0).cl ≠ [] then 13 else 0) := Lib.hid (by
                rw [HE.out, HL2.out]
                by_cases hc : (s.getD (m2 - 1) ln0).cl ≠ []
                · rw [if_pos (.inr hc), if_pos hc]
                · rw [if_neg hc, if_neg]
                  rintro (h | h)
                  · have := HL2.out; rw [h] at this; simp at this; omega
                  · exact hc h)
              have hle := hlr.le
              clear hlr
              generalize (s.getD (m2 - 1) ln0).cl = L9 at *
              unfold maxLen at hle
              by_cases hc : L9 = []
              · have HE3 : Hid (E = 0) := Lib.hid (by rw [HE2.out, if_neg (fun h => h hc)])
                rw [hc] at c0
                clear hc hle
                have q9 : decide ((0 : Int) < ((0 : Nat) : Int)) = false := rfl
                go_wp2
                go_ret
                exact ⟨ret_i64 HE3.out.symm, HO.out⟩
              · have HE3 : Hid (E = 13) := Lib.hid (by rw [HE2.out, if_pos hc])
                have hlp := List.length_pos_iff.2 hc
                clear hc
                generalize L9.length = n9 at *
                have q9 : decide ((0 : Int) < (n9 : Int)) = true := decide_eq_true (by omega)
                go_wp2
                go_ret
                exact ⟨ret_i64 HE3.out.symm, HO.out⟩
  · have HE : Hid (verE n l s = chkR n l) := Lib.hid (by unfold verE; rw [if_pos hz])
    have q1 : (chkR n l != 0) = true := by rw [bne_iff_ne]; exact hz
    generalize verE n l s = E at *
    clear hz hR hR2
    generalize chkR n l = ee at *
    go_enter Tryd.func15, Tryd.ntmps15
    go_wp2_with fail
    refine (HC.out).mono ?_
    rintro e w2 ⟨rfl, rfl⟩
    go_wp2
    go_ret
    exact ⟨ret_i64 HE.out.symm, Below.refl _ _⟩
end Go.Proofs.YtopkmcoblndokaaDoor.rsl
