/- Layer 6: texts joined: Zn Zo Zp Zq Zr. -/
import Derived.Test.YtfbgabcdeecpoaaDoorNMt
/- Layer 24: priors in boxes, for the laws. -/
namespace Go.Proofs.YtfbgabcdeecpoaaDoor
open Go.RowKit Go.Proofs.Ws
set_option maxRecDepth 100000
/-- a box that holds a prior -/
def BoxP (W : World) (g : Nat) (v1 v2 : Value) (q : Pri) : Prop := PBox W g v1 v2 ∧ PrR W W.heap.size (.agg #[v1, v2]) q
theorem BoxP.step {W W' : World} {g : Nat} {v1 v2 : Value} {q : Pri} (h : BoxP W g v1 v2 q) (hb : Below W.heap.size W W') : BoxP W' g v1 v2 q := ⟨h.1.below hb h.1.lt, h.2.step hb⟩
theorem BoxP.made {W : World} {v1 v2 : Value} {q : Pri} (h : PrR W W.heap.size (.agg #[v1, v2]) q) : BoxP (W.alloc (.cells #[v1, v2] 25)) W.heap.size v1 v2 q :=
  ⟨PBox.made W v1 v2, h.step ((Below.refl _ W).alloc (Nat.le_refl _) _)⟩
/-- a prior is returned, with an error -/
def GivesPF (q : Pri) (E : Int) (W : World) (e : Ending) (w' : World) : Prop :=
  ∃ A1 n1 c1 A2 n2 c2, e = .returned (.tuple #[.agg #[.slice A1 n1 c1, .slice A2 n2 c2], .int .i64 E]) ∧ PrR w' w'.heap.size (.agg #[.slice A1 n1 c1, .slice A2 n2 c2]) q ∧ Below W.heap.size W w'
theorem GivesPE.pf {q : Pri} {E : Int} {W w' : World} {e : Ending} (h : GivesPE q E W e w') : GivesPF q E W e w' := by
  obtain ⟨v', rfl, h2, _, h4⟩ := h
  obtain ⟨A1, c1, A2, c2, rfl, _⟩ := h2.ex
  exact ⟨A1, _, c1, A2, _, c2, rfl, h2, h4⟩
theorem same_self (q : Pri) (v v' : Value) (W : World) (h1 : PrR W W.heap.size v q) (h2 : PrR W W.heap.size v' q) :
    Calls Tryd.prog 33 #[v, v'] W fun e w' => e = .returned (.bool true) ∧ Below W.heap.size W w' := by
  have h := rSameP_any q q v v' W h1 h2
  rw [decide_eq_true rfl] at h
  exact h
/-- the environment of the laws, in whatever later world -/
def EnvW (W : World) : Prop := Tab W ∧ FinW W
theorem EnvW.below {W W' : World} (h : EnvW W) (hb : Below W.heap.size W W') : EnvW W' := ⟨h.1.belowAt hb h.1.2, h.2.below hb⟩
end Go.Proofs.YtfbgabcdeecpoaaDoor
/- Layer 24: fractions in boxes and in lists, for the laws. -/
namespace Go.Proofs.YtfbgabcdeecpoaaDoor
open Go.RowKit Go.Proofs.Ws
set_option maxRecDepth 100000
/-- a box that holds a fraction -/
def BoxF (W : World) (g : Nat) (q : Nat × Nat) : Prop := FBox W g (.int .i64 (q.1 : Int)) (.int .i64 (q.2 : Int)) ∧ True
theorem BoxF.step {W W' : World} {g : Nat} {q : Nat × Nat} (h : BoxF W g q) (hb : Below W.heap.size W W') : BoxF W' g q := ⟨h.1.below hb h.1.lt, trivial⟩
theorem BoxF.made (W : World) (q : Nat × Nat) : BoxF (W.alloc (.cells #[.int .i64 (q.1 : Int), .int .i64 (q.2 : Int)] 41)) W.heap.size q := ⟨FBox.made W _ _, trivial⟩
/-- a list of fractions -/
def LstF (W : World) (A : Option Addr) (n : Nat) (L : List (Nat × Nat)) : Prop := Reads W W.heap.size 2 A n (frs L)
theorem LstF.step {W W' : World} {A : Option Addr} {n : Nat} {L : List (Nat × Nat)} (h : LstF W A n L) (hb : Below W.heap.size W W') : LstF W' A n L := (h.below hb).more hb.size
/-- a box that holds two numbers -/
def BoxA (W : World) (g : Nat) (x y : Int) : Prop := W.heap[g]? = some (.cells #[.int .i64 x, .int .i64 y] 39 (0, 0))
section
variable {W W' : World} {g : Nat} {x y : Int}
theorem BoxA.lt (h : BoxA W g x y) : g < W.heap.size := (Array.getElem?_eq_some_iff.1 h).1
theorem BoxA.step (h : BoxA W g x y) (hb : Below W.heap.size W W') : BoxA W' g x y := (hb.block g h.lt).trans h
theorem BoxA.c0 (h : BoxA W g x y) : W.cell? ⟨g, 0, none⟩ = some (.int .i64 x) := by rw [Lib.cell_of_heap h]; rfl
theorem BoxA.c1 (h : BoxA W g x y) : W.cell? ⟨g, 1, none⟩ = some (.int .i64 y) := by rw [Lib.cell_of_heap h]; rfl
theorem BoxA.made (W : World) (x y : Int) : BoxA (W.alloc (.cells #[.int .i64 x, .int .i64 y] 39)) W.heap.size x y := heap_alloc_new W _
end
/-- fractions are returned, with an error -/
def GivesLF (L : List (Nat × Nat)) (n : Nat) (E : Int) (W : World) (e : Ending) (w' : World) : Prop :=
  ∃ A c, e = .returned (.tuple #[.slice A n c, .int .i64 E]) ∧ LstF w' A n L ∧ Below W.heap.size W w'
theorem sameFr_self (L : List (Nat × Nat)) (A A2 : Option Addr) (n c c2 : Nat) (W : World) (h1 : LstF W A n L) (h2 : LstF W A2 n L) (hm : n ≤ 1000000) :
    Calls Tryd.prog 28 #[.slice A n c, .slice A2 n c2] W fun e w' => e = .returned (.bool true) ∧ Below W.heap.size W w' := by
  have h := sameFr_any L L A A2 n n c c2 W h1 h2 hm hm
  rw [decide_eq_true rfl] at h
  exact h
theorem postsL_len (p : Pri) (a : Int) (s : Nat) : (postsL p a s).length ≤ 64 := by
  unfold postsL
  split
  · rename_i h
    rw [postL_len]
    exact (postsE_ok h).1.le
  · simp
end Go.Proofs.YtfbgabcdeecpoaaDoor
/- Layer 24: lists of priors, for the laws. -/
namespace Go.Proofs.YtfbgabcdeecpoaaDoor
open Go.RowKit Go.Proofs.Ws
set_option maxRecDepth 100000
def LstP (W : World) (A : Option Addr) (n : Nat) (X : Nat → Pri) : Prop := PrsR W W.heap.size A n X
theorem LstP.step {W W' : World} {A : Option Addr} {n : Nat} {X : Nat → Pri} (h : LstP W A n X) (hb : Below W.heap.size W W') : LstP W' A n X := PrsR.below h hb hb.size
theorem LstP.nil (W : World) (X : Nat → Pri) : LstP W none 0 X := ⟨[], Reads.none_, fun j hj => absurd hj (by omega)⟩
/-- how long an exchange's list is -/
def KOf (p : Pri) (s K : Nat) : Prop := (evE p s = 0 → ExK p s K) ∧ (evE p s ≠ 0 → K = 0)
theorem KOf.unique {p : Pri} {s K L : Nat} (h : KOf p s K) (h' : KOf p s L) : K = L := by
  by_cases e : evE p s = 0
  · exact (h.1 e).unique (h'.1 e)
  · rw [h.2 e, h'.2 e]
theorem KOf.le {p : Pri} {s K : Nat} (h : KOf p s K) : K ≤ 257 := by
  by_cases e : evE p s = 0
  · have hk := h.1 e
    have := exN_last (evE_ok e).1 s (K - 1) (fun i hi => hk.diff i (by omega))
    omega
  · rw [h.2 e]; omega
def GivesLP (X : Nat → Pri) (K : Nat) (E : Int) (W : World) (e : Ending) (w' : World) : Prop :=
  ∃ A c, e = .returned (.tuple #[.slice A K c, .int .i64 E]) ∧ LstP w' A K X ∧ Below W.heap.size W w'
theorem GivesX.lp {p : Pri} {s : Nat} {W w' : World} {e : Ending} (h : GivesX p s W e w') : ∃ K, KOf p s K ∧ GivesLP (exN p s) K (evE p s) W e w' := by
  obtain ⟨h1, h2, h3⟩ := h
  by_cases h0 : evE p s = 0
  · obtain ⟨K, LV, rfl, hk, hL⟩ := h1 h0
    obtain ⟨A, c, rfl, hR⟩ := hL.prs (fun j _ => exN_ok (evE_ok h0).1 s j)
    exact ⟨K, ⟨fun _ => hk, fun h => absurd h0 h⟩, A, c, by rw [h0], hR, h3⟩
  · exact ⟨0, ⟨fun h => absurd h h0, fun _ => rfl⟩, none, 0, h2 h0, LstP.nil _ _, h3⟩
theorem LstP.at_ {W : World} {A : Option Addr} {n : Nat} {X : Nat → Pri} (h : LstP W A n X) {k : Nat} (hk : k < n) :
    ∃ b o V1 V2, A = some ⟨b, o, none⟩ ∧ ∀ W', Below W.heap.size W W' → W'.cell? ⟨b, o + k * 2, none⟩ = some V1 ∧ W'.cell? ⟨b, o + k * 2 + 1, none⟩ = some V2 ∧ PrR W' W'.heap.size (.agg #[V1, V2]) (X k) := by
  obtain ⟨b, o, V1, V2, hA, hb, h1, h2, h3⟩ := PrsR.at_ h hk
  exact ⟨b, o, V1, V2, hA, fun W' hB => ⟨(hB.cell (p := ⟨b, o + k * 2, none⟩) hb).trans h1, (hB.cell (p := ⟨b, o + k * 2 + 1, none⟩) hb).trans h2, h3.step hB⟩⟩
end Go.Proofs.YtfbgabcdeecpoaaDoor
/- Layer 24: agents cannot agree to disagree. -/
namespace Go.Proofs.YtfbgabcdeecpoaaDoor
open Go.RowKit Go.Proofs.Ws
set_option maxRecDepth 100000
/-- what is common knowledge is a union of the cells of each agent -/
theorem lub_closed {p : Pri} {j : List Int} (hj : LubK p p.cells.length j) {x a u v : Nat} (ha : a < p.cells.length) (hx : x < p.wt.length) (hu : u < p.wt.length) (hv : v < p.wt.length)
    (h1 : (blkV j (x : Int)).testBit u = true) (h2 : fo (p.cells.getD a []) v = fo (p.cells.getD a []) u) : (blkV j (x : Int)).testBit v = true := by
  rw [blk_test hj.can hx hu] at h1
  rw [blk_test hj.can hx hv]
  have h1 := of_decide_eq_true h1
  refine decide_eq_true ?_
  have hr := hj.up a ha
  rw [← hr v, h2, hr u, h1]
theorem lub_self {p : Pri} {j : List Int} {k : Nat} (hj : LubK p k j) {x : Nat} (hx : x < p.wt.length) : (blkV j (x : Int)).testBit x = true := by
  rw [blk_test hj.can hx hx]
  exact decide_eq_true rfl
theorem com_post {p : Pri} (hok : OkP p) {j : List Int} (hj : LubK p p.cells.length j) {x s a : Nat} (hx : x < p.wt.length) (ha : a < p.cells.length)
    (hc : ∀ u, u < p.wt.length → (blkV j (x : Int)).testBit u = true → postN p a u s = postN p a x s) :
    postN p a x s = redN (wT p.wt (fun i => (blkV j (x : Int)).testBit i && s.testBit i) p.wt.length) (wT p.wt (fun i => (blkV j (x : Int)).testBit i) p.wt.length) ∧ 0 < wT p.wt (fun i => (blkV j (x : Int)).testBit i) p.wt.length :=
  agree_on hok (J := fun i => (blkV j (x : Int)).testBit i) ha hx (lub_self hj hx) (fun _u _v hu hv h1 h2 => lub_closed hj ha hx hu hv h1 h2) hc
theorem com_agree {p : Pri} (hok : OkP p) {j : List Int} (hj : LubK p p.cells.length j) {x s : Nat} (hx : x < p.wt.length)
    (hc : ∀ a, a < p.cells.length → ∀ u, u < p.wt.length → (blkV j (x : Int)).testBit u = true → postN p a u s = postN p a x s) : agB p x s = true := by
  refine agB_true fun a ha => ?_
  rw [(com_post hok hj hx ha (hc a ha)).1, (com_post hok hj hx (show 0 < p.cells.length by omega) (hc 0 (by omega))).1]
theorem agE_of {p : Pri} {x s : Nat} (h : evE p s = 0) (hx : x < p.wt.length) : agE p (x : Int) s = 0 := by
  unfold agE
  rw [if_pos h, if_pos ⟨by omega, by omega⟩]
theorem agV_of {p : Pri} {x s : Nat} (h : evE p s = 0) (hx : x < p.wt.length) : agV p (x : Int) s = agB p x s := by
  unfold agV
  rw [if_pos (agE_of h hx)]
  rfl
theorem postsE_of {p : Pri} {a s : Nat} (h : evE p s = 0) (ha : a < p.cells.length) : postsE p (a : Int) s = 0 := by
  unfold postsE
  rw [if_pos h, if_pos ⟨by omega, by omega⟩]
theorem postsL_of {p : Pri} {a s : Nat} (h : evE p s = 0) (ha : a < p.cells.length) : postsL p (a : Int) s = postL p a s := by
  unfold postsL
  rw [if_pos (postsE_of h ha)]
  rfl
theorem LstF.at_ {W : World} {A : Option Addr} {n : Nat} {L : List (Nat × Nat)} (h : LstF W A n L) {k : Nat} (hk : k < n) :
    ∃ b o, A = some ⟨b, o, none⟩ ∧ ∀ W', Below W.heap.size W W' → W'.cell? ⟨b, o + k * 2, none⟩ = some (.int .i64 ((L.getD k (0, 0)).1 : Int)) ∧ W'.cell? ⟨b, o + k * 2 + 1, none⟩ = some (.int .i64 ((L.getD k (0, 0)).2 : Int)) := by
  obtain ⟨b, o, e, hb, h1, h2⟩ := Reads.fr_at h hk
  exact ⟨b, o, e, fun W' hB => ⟨(hB.cell (p := ⟨b, o + k * 2, none⟩) hb).trans h1, (hB.cell (p := ⟨b, o + k * 2 + 1, none⟩) hb).trans h2⟩⟩
theorem wrapU_in (n : Nat) (h : n < 18446744073709551616) : IntKind.u64.wrap (n : Int) = (n : Int) := by
  rw [IntKind.wrap_u64]
  omega
end Go.Proofs.YtfbgabcdeecpoaaDoor
/- Layer 24: where an exchange has ended. -/
namespace Go.Proofs.YtfbgabcdeecpoaaDoor
open Go.RowKit Go.Proofs.Ws
set_option maxRecDepth 100000
/-- in a divided cell the keys are the same -/
theorem divC_keys {n : Nat} (hn : n ≤ 64) : ∀ (ks : List (List Int)) {c : List Int}, Can n c → ∀ {k : List Int}, k ∈ ks → ∀ {u v : Nat}, u < n → v < n → fo (divC c ks) u = fo (divC c ks) v → k.getD u 0 = k.getD v 0
  | [], _, _, _, hk, _, _, _, _, _ => absurd hk (by simp)
  | k0 :: ks, c, h, k, hk, u, v, hu, hv, he => by
    have hc := canon_can (b := k0) h.len hn
    rcases List.mem_cons.1 hk with rfl | hk
    · have hr := divC_rf hn ks hc
      have he : fo (divC (canonL c k) ks) u = fo (divC (canonL c k) ks) v := he
      have e : fo (canonL c k) u = fo (canonL c k) v := by rw [← hr u, ← hr v, he]
      rw [fo_canon h.len hu, fo_canon h.len hv] at e
      have h1 := (sameAt_iff c k u _).1 (firstAt_spec c k u).1
      have h2 := (sameAt_iff c k v _).1 (firstAt_spec c k v).1
      rw [e] at h1
      have := h1.2
      have := h2.2
      omega
    · exact divC_keys hn ks hc hk hu hv he
theorem tell_same {p : Pri} {b s u v : Nat} (hu : u < p.wt.length) (hv : v < p.wt.length) : (tellK p b s).getD u 0 = (tellK p b s).getD v 0 ↔ postN p b u s = postN p b v s := by
  unfold tellK
  rw [keysF_same (by rw [postL_len]; exact hu) (by rw [postL_len]; exact hv), postL_at p b s hu, postL_at p b s hv]
theorem tells_mem {p : Pri} {b s : Nat} (hb : b < p.cells.length) : tellK p b s ∈ tellsL p s := List.mem_map.2 ⟨b, List.mem_range.2 hb, rfl⟩
theorem divP_at (p : Pri) (ks : List (List Int)) {a : Nat} (ha : a < p.cells.length) : (divP p ks).cells.getD a [] = divC (p.cells.getD a []) ks := by
  show (p.cells.map _).getD a [] = _
  rw [List.getD_eq_getElem?_getD, List.getElem?_map, List.getElem?_eq_getElem ha, List.getD_eq_getElem?_getD, List.getElem?_eq_getElem ha]
  rfl
/-- behind the last round each agent knows what the others say -/
theorem fix_const {q : Pri} {s : Nat} (hok : OkP q) (hf : rndP q s = q) {a b u v : Nat} (ha : a < q.cells.length) (hb : b < q.cells.length) (hu : u < q.wt.length) (hv : v < q.wt.length)
    (h : fo (q.cells.getD a []) v = fo (q.cells.getD a []) u) : postN q b v s = postN q b u s := by
  have e : divC (q.cells.getD a []) (tellsL q s) = q.cells.getD a [] := by
    have h1 := divP_at q (tellsL q s) ha
    rw [← h1]
    exact congrArg (fun z : Pri => z.cells.getD a []) hf
  rw [← e] at h
  exact (tell_same hv hu).1 (divC_keys hok.le _ (hok.can ha) (tells_mem hb) hv hu h)
theorem fix_agree {q : Pri} {s x : Nat} (hok : OkP q) (hf : rndP q s = q) (hx : x < q.wt.length) : agB q x s = true := by
  obtain ⟨J, hJ⟩ : ∃ J : Nat → Bool, ∀ u, J u = true ↔ ∀ b, b < q.cells.length → postN q b u s = postN q b x s :=
    ⟨fun u => (List.range q.cells.length).all (fun b => decide (postN q b u s = postN q b x s)), fun u => by
      rw [List.all_eq_true]
      exact ⟨fun h b hb => of_decide_eq_true (h b (List.mem_range.2 hb)), fun h b hb => decide_eq_true (h b (List.mem_range.1 hb))⟩⟩
  have key : ∀ a, a < q.cells.length → postN q a x s = redN (wT q.wt (fun i => J i && s.testBit i) q.wt.length) (wT q.wt J q.wt.length) := fun a ha =>
    (agree_on hok (E := s) (J := J) ha hx ((hJ x).2 fun b _ => rfl) (fun u v hu hv h1 h2 => (hJ v).2 fun b hb => by rw [fix_const hok hf ha hb hu hv h2]; exact (hJ u).1 h1 b hb) (fun u hu h1 => (hJ u).1 h1 a ha)).1
  refine agB_true fun a ha => ?_
  rw [key a ha, key 0 (by omega)]
end Go.Proofs.YtfbgabcdeecpoaaDoor
