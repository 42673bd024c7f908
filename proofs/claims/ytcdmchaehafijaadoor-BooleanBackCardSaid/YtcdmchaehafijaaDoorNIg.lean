/- Layer 6: texts joined: Ig Ih. -/
import Derived.Test.YtcdmchaehafijaaDoorNEa
import Derived.Test.YtcdmchaehafijaaDoorNId
import Derived.Test.YtcdmchaehafijaaDoorNJg
import Derived.Maps.RangeWalk
import Derived.Maps.Ext
/- Layer 9: cubes as keys of a map; their bits. -/
namespace Go.Proofs.YtcdmchaehafijaaDoor
open Go.RowKit Go.Proofs.Ws Go.Maps
theorem cubeKT : Tryd.prog.keyType 51 = true := by kernel_rfl
theorem cubeLaw : Keyed Tryd.prog 51 :=
  Keyed.of_law (deep_law_laid nodeLaid (m := 9999) (by omega) (of_decide_eq_true (by kernel_rfl)) (by kernel_rfl) (by kernel_rfl))
theorem cubeCells : Tryd.prog.cellsOf 51 = 2 := by kernel_rfl
/-- a cube of up to six facts -/
def CbW (c : Nat × Nat) : Prop := c.1 < 64 ∧ c.2 < 64
def cbV (c : Nat × Nat) : Value := .agg #[.int .i64 (c.1 : Int), .int .i64 (c.2 : Int)]
def keyC (c : Nat × Nat) : Lit := .string (keyBytes [.int .i64 (c.1 : Int), .int .i64 (c.2 : Int)])
theorem key_cb {c : Nat × Nat} (h : CbW c) : keyOf Tryd.prog 51 (cbV c) = some (keyC c) := by
  obtain ⟨h0, h1⟩ := h
  have k0 : (Lit.int .i64 (c.1 : Int)).wf = true := WalkArith.wf_i64 (by omega)
  have k1 : (Lit.int .i64 (c.2 : Int)).wf = true := WalkArith.wf_i64 (by omega)
  unfold keyOf cbV
  simp only [Tryd.underlying51]
  rw [if_pos (by rw [cubeKT]; simp [Value.formed, Tryd.underlying51]; kernel_rfl), nodeSize]
  unfold Program.keyLits
  simp only [Tryd.underlying51, Value.cells]
  rw [if_pos ⟨by rw [cubeCells]; rfl, by kernel_rfl⟩, List.mapM_cons, List.mapM_cons, List.mapM_nil]
  simp [intCells, Program.keyLits, Tryd.underlying3, k0, k1, keyC]
theorem keyC_key {c : Nat × Nat} (h : CbW c) : WideAt.IsKeyLit (keyC c) := cubeLaw.key (key_cb h)
theorem keyC_inj {a b : Nat × Nat} (ha : CbW a) (hb : CbW b) (h : keyC a = keyC b) : a = b := by
  have := cubeLaw.inj (key_cb ha) (by rw [h]; exact key_cb hb)
  unfold cbV at this
  injection this with h1
  simp at h1
  exact Prod.ext (by omega) (by omega)
/-- the map holds just these cubes -/
structure MapC (S : Nat × Nat → Prop) (D : DataW Unit) : Prop where
  map : IsMap D
  wide : ∀ c, S c → CbW c
  there : ∀ c, CbW c → (Maps.has D (keyC c) = true ↔ S c)
  only : ∀ kl, Maps.has D kl = true → ∃ c, S c ∧ kl = keyC c
  at_ : ∀ c z, S c → D.atKey (keyC c) z = .lit (.bool true)
theorem MapC.start : MapC (fun _ => False) (.map []) where
  map := ⟨[], rfl⟩
  wide := fun c h => h.elim
  there := fun c _ => ⟨fun h => by simp [Maps.has] at h, fun h => h.elim⟩
  only := fun kl h => by simp [Maps.has] at h
  at_ := fun c z h => h.elim
theorem MapC.congr {S T : Nat × Nat → Prop} {D : DataW Unit} (h : MapC S D) (e : ∀ c, S c ↔ T c) : MapC T D where
  map := h.map
  wide := fun c hc => h.wide c ((e c).2 hc)
  there := fun c hc => (h.there c hc).trans (e c)
  only := fun kl hk => let ⟨c, h1, h2⟩ := h.only kl hk; ⟨c, (e c).1 h1, h2⟩
  at_ := fun c z hc => h.at_ c z ((e c).2 hc)
theorem MapC.put {S : Nat × Nat → Prop} {D : DataW Unit} (h : MapC S D) {c : Nat × Nat} (hc : CbW c) : MapC (fun d => S d ∨ d = c) (D.put (keyC c) (.lit (.bool true))) := by
  have hkey := keyC_key hc
  refine ⟨h.map.put _ _, fun d hd => ?_, fun d hd => ?_, fun kl hk => ?_, fun d z hd => ?_⟩
  · rcases hd with hd | rfl
    · exact h.wide d hd
    · exact hc
  · by_cases e : d = c
    · subst e
      rw [has_put_same h.map hkey]
      simp
    · rw [has_put_other (fun e2 => e (keyC_inj hd hc e2)), h.there d hd]
      simp [e]
  · by_cases e : kl = keyC c
    · exact ⟨c, .inr rfl, e⟩
    · rw [has_put_other e] at hk
      obtain ⟨d, h1, h2⟩ := h.only kl hk
      exact ⟨d, .inl h1, h2⟩
  · by_cases e : d = c
    · subst e
      exact atKey_put_same h.map hkey _ _
    · have hs : S d := hd.resolve_right e
      rw [atKey_put_other (fun e2 => e (keyC_inj (h.wide d hs) hc e2))]
      exact h.at_ d z hs
theorem MapC.not {S : Nat × Nat → Prop} {D : DataW Unit} (h : MapC S D) {c : Nat × Nat} (hc : CbW c) (hn : ¬ S c) : Maps.has D (keyC c) = false := by
  cases hq : Maps.has D (keyC c)
  · rfl
  · exact absurd ((h.there c hc).1 hq) hn
/-- an empty map holds no cube -/
theorem MapC.size_zero {S : Nat × Nat → Prop} {D : DataW Unit} (h : MapC S D) (hcan : Canon D) : Maps.size D = 0 ↔ ∀ c, ¬ S c := by
  obtain ⟨es, rfl, _, hk⟩ := hcan
  rw [size_eq]
  constructor
  · intro h0 c hc
    have := (h.there c (h.wide c hc)).2 hc
    rw [List.length_eq_zero_iff.1 h0] at this
    simp [Maps.has] at this
  · intro hn
    cases es with
    | nil => rfl
    | cons p es =>
      exfalso
      obtain ⟨c, h1, _⟩ := h.only p.1 (by rw [has_eq]; simp [WideAt.sameKey_self (hk p (by simp))])
      exact hn c h1
theorem zeroB (w : World) : (zeroValue 4).run Tryd.prog w = .ok (.bool false) w := by kernel_rfl
theorem plainElem_bool_inv {v : Value} {z : DataW Unit × List MemPlace} (h : plainElem Tryd.prog 4 v = some z) : ∃ b, v = .bool b ∧ z = (.lit (.bool b), []) := by
  unfold plainElem at h
  simp only [Tryd.underlying4] at h
  cases v <;> simp at h
  exact ⟨_, rfl, h.symm⟩
set_option maxRecDepth 100000 in
theorem look_cb {W : World} {bm m : Nat} {D : DataW Unit} {S : Nat × Nat → Prop} {c : Nat × Nat} (h : W.ownsMap Tryd.prog 51 (plainElem (H := Unit) Tryd.prog 4) bm m D) (hM : MapC S D) (hc : CbW c) {b : Bool} (hb : b = true ↔ S c) :
    (Instr.lookup 77 (.map (some bm)) (cbV c) false).run Tryd.prog W = .ok (.bool b) W := by
  obtain ⟨v, ps, hrun, hv⟩ := h.lookup cubeLaw Tryd.underlying77 (zeroB W) (plainElem_bool Tryd.underlying4 false) (key_cb hc)
  obtain ⟨x, rfl, hx⟩ := plainElem_bool_inv hv
  rw [hrun]
  have h1 := congrArg Prod.fst hx
  dsimp only at h1
  cases b with
  | true =>
    rw [hM.at_ c _ (hb.1 rfl)] at h1
    injection h1 with h2
    injection h2 with h3
    rw [← h3]
  | false =>
    rw [atKey_of_not_has (hM.not hc (fun h => by cases hb.2 h))] at h1
    injection h1 with h2
    injection h2 with h3
    rw [← h3]
/-- the lowest bit -/
def tzB (r : Nat) : Nat := if r.testBit 0 then 0 else if r.testBit 1 then 1 else if r.testBit 2 then 2 else if r.testBit 3 then 3 else if r.testBit 4 then 4 else 5
theorem low_all : ∀ r : Fin 64, r.val ≠ 0 → tzB r.val < 6 ∧ r.val.testBit (tzB r.val) = true ∧ bits .and .i64 (r.val : Int) (-(r.val : Int)) = ((2 ^ tzB r.val : Nat) : Int) ∧ bits .and .i64 (r.val : Int) ((r.val : Int) - 1) = ((clr r.val (tzB r.val) : Nat) : Int) ∧ clr r.val (tzB r.val) < r.val := by decide +kernel
theorem low_cb {x : Nat} (hx : x < 64) (h0 : x ≠ 0) : ∃ j, j < 6 ∧ x.testBit j = true ∧ bits .and .i64 (x : Int) (-(x : Int)) = ((2 ^ j : Nat) : Int) ∧ bits .and .i64 (x : Int) ((x : Int) - 1) = ((clr x j : Nat) : Int) ∧ clr x j < x := ⟨tzB x, low_all ⟨x, hx⟩ h0⟩
theorem flp_all : ∀ x : Fin 64, ∀ j : Fin 6, bits .xor .i64 (x.val : Int) ((2 ^ j.val : Nat) : Int) = ((flp x.val j.val : Nat) : Int) ∧ bits .andNot .i64 (x.val : Int) ((2 ^ j.val : Nat) : Int) = ((clr x.val j.val : Nat) : Int) ∧ flp x.val j.val < 64 ∧ clr x.val j.val < 64 := by decide +kernel
theorem flp_cb {x j : Nat} (hx : x < 64) (hj : j < 6) : bits .xor .i64 (x : Int) ((2 ^ j : Nat) : Int) = ((flp x j : Nat) : Int) ∧ bits .andNot .i64 (x : Int) ((2 ^ j : Nat) : Int) = ((clr x j : Nat) : Int) ∧ flp x j < 64 ∧ clr x j < 64 := flp_all ⟨x, hx⟩ ⟨j, hj⟩
end Go.Proofs.YtcdmchaehafijaaDoor
/- Layer 9: a round of merging. -/
namespace Go.Proofs.YtcdmchaehafijaaDoor
open Go.RowKit Go.Proofs.Ws Go.Maps
set_option maxRecDepth 100000
/-- the step of a range over a map of cubes -/
theorem wpList_next_cb (w : World) {ops : Array Oper} {rest : List Oper} {o : Oper} {a : Act} {Q : Exit → Act → World → Prop} (hg : o.guard = none) (it : Operand) (hop : o.op = Op.next it false) (b r n : Nat) (D : DataW Unit) (S : Nat × Nat → Prop) (hM : MapC S D) (left : Lit → Bool) (cnt : Nat)
    (hit : a.eval it = .pointer (some ⟨r, 0, none⟩)) (h : w.ranges Tryd.prog 51 (plainElem (H := Unit) Tryd.prog 4) b r n D left cnt)
    (hDone : cnt = 0 → (∀ kl, left kl = false) → wpList Tryd.prog ops Q rest (a.put o.dst (.tuple #[.bool false])) w)
    (hMore : ∀ (c : Nat × Nat) (w' : World) (cnt' : Nat), S c → left (keyC c) = true → w'.ranges Tryd.prog 51 (plainElem (H := Unit) Tryd.prog 4) b r n D (fun z => left z && !z.sameKey (keyC c)) cnt' → cnt' < cnt →
      w.grownBy w' (some r) → w'.heap.size = w.heap.size → (Instr.entry (.pointer (some ⟨r, 0, none⟩))).run Tryd.prog w' = .ok (.tuple #[cbV c, .bool true]) w' → wpList Tryd.prog ops Q rest (a.put o.dst (.tuple #[.bool true, cbV c, .bool true])) w') :
    wpList Tryd.prog ops Q (o :: rest) a w := by
  refine wpList_plain hg fun K' hK' => ?_
  unfold Oper.wp
  rcases h.next cubeLaw o.type with ⟨h0, hl, hrun⟩ | ⟨key, v, kl, y, w', cnt', hkey, hlk, hv, hat, hrun, hrg, hlt, hgr, hsz, hen⟩
  · simp [execOp, hop, hit, hrun, Result.andThen]
    exact hK' _ _ (hDone h0 hl)
  · obtain ⟨c, hc, rfl⟩ := hM.only kl (has_true_of_atKey hat)
    have ek : key = cbV c := cubeLaw.inj hkey (key_cb (hM.wide c hc))
    subst ek
    obtain ⟨x, rfl, hx⟩ := plainElem_bool_inv hv
    have h1 := (hat (.lit (.bool true))).symm.trans (hM.at_ c _ hc)
    rw [hx] at h1
    dsimp only at h1
    injection h1 with h2
    injection h2 with h3
    subst h3
    simp [execOp, hop, hit, hrun, Result.andThen]
    exact hK' _ _ (hMore c w' cnt' hc hlk hrg hlt hgr hsz hen)
/-- the cells of cubes -/
def cbs (l : List (Nat × Nat)) : List Value := l.flatMap (fun c => [.int .i64 (c.1 : Int), .int .i64 (c.2 : Int)])
/-- merged of two, of those that are no longer to come -/
def upL (S : Nat × Nat → Prop) (left : Lit → Bool) (d : Nat × Nat) : Prop := ∃ c i, S c ∧ left (keyC c) = false ∧ c.1.testBit i = true ∧ S (c.1, flp c.2 i) ∧ d = (clr c.1 i, clr c.2 i)
def aloneS (S : Nat × Nat → Prop) (c : Nat × Nat) : Prop := ∀ i, c.1.testBit i = true → ¬ S (c.1, flp c.2 i)
def upS (S : Nat × Nat → Prop) (d : Nat × Nat) : Prop := ∃ c i, S c ∧ c.1.testBit i = true ∧ S (c.1, flp c.2 i) ∧ d = (clr c.1 i, clr c.2 i)
theorem own_iter {W : World} {bm r n size m base : Nat} {D : DataW Unit} {left : Lit → Bool} {cnt : Nat} {e : TypeId} {v : Value} {xs : List Value} (h : W.ranges Tryd.prog 51 (plainElem (H := Unit) Tryd.prog 4) bm r n D left cnt) (ho : W.ownsRow base e size v m xs) : v.ownBlock ≠ some r := by
  intro hg
  obtain ⟨cur, hc⟩ := own_type ho hg
  obtain ⟨es, clock, since, seen, c0, hb, F, hs, hD, hr, rest⟩ := h
  rw [hr] at hc
  cases hc
theorem own_map {W : World} {b n size m base : Nat} {D : DataW Unit} {P : Program} {k e : TypeId} {R : Value → Option (DataW Unit × List MemPlace)} {v : Value} {xs : List Value} (h : W.ownsMap P k R b n D) (ho : W.ownsRow base e size v m xs) : v.ownBlock ≠ some b := by
  intro hg
  obtain ⟨cur, hc⟩ := own_type ho hg
  obtain ⟨es, clock, hb, _⟩ := h
  rw [hb] at hc
  cases hc
/-- one fact more -/
theorem upX_step {S : Nat × Nat → Prop} {c1 c2 x j : Nat} (_h : x.testBit j = true) (hc : c1.testBit j = true) {G : Nat × Nat → Prop} (d : Nat × Nat) :
    (G d ∨ ∃ i, c1.testBit i = true ∧ (clr x j).testBit i = false ∧ S (c1, flp c2 i) ∧ d = (clr c1 i, clr c2 i)) ↔ ((G d ∨ ∃ i, c1.testBit i = true ∧ x.testBit i = false ∧ S (c1, flp c2 i) ∧ d = (clr c1 i, clr c2 i)) ∨ (S (c1, flp c2 j) ∧ d = (clr c1 j, clr c2 j))) := by
  constructor
  · rintro (h1 | ⟨i, h1, h2, h3⟩)
    · exact .inl (.inl h1)
    · rw [clr_bit] at h2
      by_cases e : j = i
      · subst e; exact .inr h3
      · rw [if_neg e] at h2; exact .inl (.inr ⟨i, h1, h2, h3⟩)
  · rintro ((h1 | ⟨i, h1, h2, h3⟩) | h3)
    · exact .inl h1
    · refine .inr ⟨i, h1, ?_, h3⟩
      rw [clr_bit]
      split
      · rfl
      · exact h2
    · exact .inr ⟨j, hc, by rw [clr_bit, if_pos rfl], h3⟩
theorem met_step {S : Nat × Nat → Prop} {c1 c2 x j : Nat} (_h : x.testBit j = true) (hc : c1.testBit j = true) :
    (∃ i, c1.testBit i = true ∧ (clr x j).testBit i = false ∧ S (c1, flp c2 i)) ↔ ((∃ i, c1.testBit i = true ∧ x.testBit i = false ∧ S (c1, flp c2 i)) ∨ S (c1, flp c2 j)) := by
  constructor
  · rintro ⟨i, h1, h2, h3⟩
    rw [clr_bit] at h2
    by_cases e : j = i
    · subst e; exact .inr h3
    · rw [if_neg e] at h2; exact .inl ⟨i, h1, h2, h3⟩
  · rintro (⟨i, h1, h2, h3⟩ | h3)
    · refine ⟨i, h1, ?_, h3⟩
      rw [clr_bit]
      split
      · rfl
      · exact h2
    · exact ⟨j, hc, by rw [clr_bit, if_pos rfl], h3⟩
theorem left_key {left : Lit → Bool} {a c : Nat × Nat} (ha : CbW a) (hc : CbW c) : (left (keyC a) && !(keyC a).sameKey (keyC c)) = false ↔ (left (keyC a) = false ∨ a = c) := by
  by_cases e : a = c
  · subst e
    rw [WideAt.sameKey_self (keyC_key ha)]
    simp
  · rw [sameKey_ne (fun h => e (keyC_inj ha hc h))]
    simp [e]
/-- a cube more that is no longer to come -/
theorem upL_next {S : Nat × Nat → Prop} {left : Lit → Bool} {c1 c2 : Nat} (hw : ∀ c, S c → CbW c) (hc : S (c1, c2)) (d : Nat × Nat) :
    (upL S left d ∨ ∃ i, c1.testBit i = true ∧ (0 : Nat).testBit i = false ∧ S (c1, flp c2 i) ∧ d = (clr c1 i, clr c2 i)) ↔ upL S (fun z => left z && !z.sameKey (keyC (c1, c2))) d := by
  unfold upL
  constructor
  · rintro (⟨c, i, h1, h2, h3, h4, h5⟩ | ⟨i, h1, _, h3, h4⟩)
    · exact ⟨c, i, h1, (left_key (hw c h1) (hw _ hc)).2 (.inl h2), h3, h4, h5⟩
    · exact ⟨(c1, c2), i, hc, (left_key (hw _ hc) (hw _ hc)).2 (.inr rfl), h1, h3, h4⟩
  · rintro ⟨c, i, h1, h2, h3, h4, h5⟩
    rcases (left_key (hw c h1) (hw _ hc)).1 h2 with h | h
    · exact .inl ⟨c, i, h1, h, h3, h4, h5⟩
    · subst h
      exact .inr ⟨i, h3, Nat.zero_testBit i, h4, h5⟩
theorem cbs_append (l m : List (Nat × Nat)) : cbs (l ++ m) = cbs l ++ cbs m := by unfold cbs; rw [List.flatMap_append]
theorem al_true {S : Nat × Nat → Prop} {left : Lit → Bool} {l : List (Nat × Nat)} {c0 : Nat × Nat} (hw : ∀ c, S c → CbW c) (hc : S c0) (h : ∀ c, c ∈ l ↔ S c ∧ left (keyC c) = false ∧ aloneS S c) (hna : ¬ aloneS S c0) : ∀ c, c ∈ l ↔ S c ∧ (left (keyC c) && !(keyC c).sameKey (keyC c0)) = false ∧ aloneS S c := fun c => by
  rw [h c]
  constructor
  · rintro ⟨h1, h2, h3⟩
    exact ⟨h1, (left_key (hw c h1) (hw _ hc)).2 (.inl h2), h3⟩
  · rintro ⟨h1, h2, h3⟩
    rcases (left_key (hw c h1) (hw _ hc)).1 h2 with e | e
    · exact ⟨h1, e, h3⟩
    · subst e; exact absurd h3 hna
theorem al_false {S : Nat × Nat → Prop} {left : Lit → Bool} {l : List (Nat × Nat)} {c0 : Nat × Nat} (hw : ∀ c, S c → CbW c) (hc : S c0) (h : ∀ c, c ∈ l ↔ S c ∧ left (keyC c) = false ∧ aloneS S c) (ha : aloneS S c0) : ∀ c, c ∈ l ++ [c0] ↔ S c ∧ (left (keyC c) && !(keyC c).sameKey (keyC c0)) = false ∧ aloneS S c := fun c => by
  rw [List.mem_append, List.mem_singleton, h c]
  constructor
  · rintro (⟨h1, h2, h3⟩ | rfl)
    · exact ⟨h1, (left_key (hw c h1) (hw _ hc)).2 (.inl h2), h3⟩
    · exact ⟨hc, (left_key (hw c hc) (hw _ hc)).2 (.inr rfl), ha⟩
  · rintro ⟨h1, h2, h3⟩
    rcases (left_key (hw c h1) (hw _ hc)).1 h2 with e | e
    · exact .inl ⟨h1, e, h3⟩
    · exact .inr e
theorem al_nodup {S : Nat × Nat → Prop} {left : Lit → Bool} {l : List (Nat × Nat)} {c0 : Nat × Nat} (h : ∀ c, c ∈ l ↔ S c ∧ left (keyC c) = false ∧ aloneS S c) (hlx : left (keyC c0) = true) (hn : l.Nodup) : (l ++ [c0]).Nodup := by
  rw [List.nodup_append]
  refine ⟨hn, by simp, fun a ha b hb e => ?_⟩
  rw [List.mem_singleton.1 hb] at e
  rw [e] at ha
  have := ((h c0).1 ha).2.1
  rw [hlx] at this
  cases this
theorem alone_iff {S : Nat × Nat → Prop} {c1 c2 : Nat} : (∃ j, c1.testBit j = true ∧ (0 : Nat).testBit j = false ∧ S (c1, flp c2 j)) ↔ ¬ aloneS S (c1, c2) := by
  constructor
  · rintro ⟨j, h1, _, h3⟩ ha
    exact ha j h1 h3
  · intro h
    refine Classical.byContradiction (fun hn => h (fun j h1 h3 => hn ⟨j, h1, Nat.zero_testBit j, h3⟩))
theorem Tryd.infoCb : (Tryd.prog.info? 51).map (fun i => (i.zero, i.size, i.bytes)) = some (some (.agg #[.int .i64 0, .int .i64 0]), 2, 16) := by kernel_rfl
set_option maxHeartbeats 16000000 in
theorem merge_any (S : Nat × Nat → Prop) (D : DataW Unit) (bm n : Nat) (w : World) (hown : w.ownsMap Tryd.prog 51 (plainElem (H := Unit) Tryd.prog 4) bm n D) (hM : MapC S D) (hn : Maps.size D ≤ 100000000) :
    Calls Tryd.prog 47 #[.map (some bm)] w fun e w' => ∃ b2 D2 A c l, e = .returned (.tuple #[.map (some b2), .slice A l.length c]) ∧ w'.ownsMap Tryd.prog 51 (plainElem (H := Unit) Tryd.prog 4) b2 (6 * Maps.size D) D2 ∧ MapC (upS S) D2 ∧ w.heap.size ≤ b2 ∧ w'.ownsRow w.heap.size 51 2 (.slice A l.length c) l.length (cbs l) ∧ l.Nodup ∧ (∀ c, c ∈ l ↔ S c ∧ aloneS S c) ∧ l.length ≤ Maps.size D ∧ Below w.heap.size w w' := by
  have hmm := @run_makeMap Tryd.prog
  have hbl := hown.lt
  have e1 : (w.alloc (.map #[] 0)).heap.size = w.heap.size + 1 := by simp
  have HM := Lib.hid hM
  go_enter Tryd.func47, Tryd.ntmps47
  go_wp2_with (first
    | (at_range; refine wpList_range_own _ rfl _ 77 rfl 51 4 cubeLaw Tryd.underlying77 _ bm n _ rfl (hown.alloc _) ?_; intro w0 hrg0 hg0 hs0)
    | fail)
  go_frame
  rw [e1] at hrg0 hs0 ⊢
  clear hown hM
  go_loopw [3, 4, 5, 6, 7] (fun v _ _ _ _ wr => ∃ (left : Lit → Bool) (cnt : Nat) (D2 : DataW Unit) (l : List (Nat × Nat)), wr.ranges Tryd.prog 51 (plainElem (H := Unit) Tryd.prog 4) bm (w.heap.size + 1) n D left cnt ∧ cnt ≤ Maps.size D ∧
      Hid (wr.ownsMap Tryd.prog 51 (plainElem (H := Unit) Tryd.prog 4) w.heap.size (6 * (Maps.size D - cnt)) D2) ∧ Hid (MapC (upL S left) D2) ∧ Hid (∃ A c, v = .slice A l.length c ∧ wr.ownsRow w.heap.size 51 2 (.slice A l.length c) l.length (cbs l)) ∧ Hid (l.Nodup) ∧ Hid (∀ c, c ∈ l ↔ S c ∧ left (keyC c) = false ∧ aloneS S c) ∧ Hid (l.length ≤ Maps.size D - cnt) ∧ Hid (Below w.heap.size w wr))
    (fun _ _ _ _ _ wr => wr.rangeLeft bm (w.heap.size + 1))
  case atStart =>
    exact ⟨_, _, .map [], [], hrg0, Nat.le_refl _, Lib.hid (((World.ownsMap_made _ _ _ _).kept hg0 (by simp)).mono (Nat.zero_le _)), Lib.hid (MapC.start.congr (fun d => ⟨fun h => h.elim, fun ⟨c, i, h1, h2, _⟩ => by rw [(HM.out.there c (HM.out.wide c h1)).2 h1] at h2; cases h2⟩)),
      Lib.hid ⟨none, 0, rfl, World.ownsRow_nil _ _ _ _⟩, Lib.hid List.nodup_nil, Lib.hid (fun c => ⟨fun h => (by cases h), fun ⟨h1, h2, _⟩ => by rw [(HM.out.there c (HM.out.wide c h1)).2 h1] at h2; cases h2⟩), Lib.hid (Nat.zero_le _),
      Lib.hid (((Below.refl _ _).alloc (Nat.le_refl _) _).grown hg0 (by simp) (fun j hj => by cases hj))⟩
  case round =>
    obtain ⟨left, cnt, D2, l, hrg, hcs, HOW, HMC, HRO, HND, HAL, HLN, HBR⟩ := hrel
    obtain ⟨A, c, rfl, hro⟩ := HRO.out
    have HRO2 := Lib.hid hro
    clear hro HRO
    go_wp2_with (first
      | (at_next; refine wpList_next_cb _ rfl _ rfl bm (w.heap.size + 1) n D S HM.out left cnt rfl hrg ?_ ?_)
      | fail)
    · intro hc0 hl0
      have HL0 := Lib.hid hl0
      have HMF : Hid (MapC (upS S) D2) := Lib.hid (HMC.out.congr (fun d => ⟨fun ⟨c, i, h1, _, h3⟩ => ⟨c, i, h1, h3⟩, fun ⟨c, i, h1, h3⟩ => ⟨c, i, h1, HL0.out _, h3⟩⟩))
      have HAF : Hid (∀ c, c ∈ l ↔ S c ∧ aloneS S c) := Lib.hid (fun c => (HAL.out c).trans ⟨fun h => ⟨h.1, h.2.2⟩, fun h => ⟨h.1, HL0.out _, h.2⟩⟩)
      have HOF : Hid (wr.ownsMap Tryd.prog 51 (plainElem (H := Unit) Tryd.prog 4) w.heap.size (6 * Maps.size D) D2) := Lib.hid (HOW.out.mono (by omega))
      have HLF : Hid (l.length ≤ Maps.size D) := Lib.hid (by have := HLN.out; omega)
      clear hl0 HMC HAL HOW HLN
      go_wp2
      go_ret2
      exact ⟨_, D2, A, c, l, rfl, HOF.out, HMF.out, Nat.le_refl _, HRO2.out, HND.out, HAF.out, HLF.out, HBR.out⟩
    · intro c1 c2 w1 cnt1 hsc hlx hrg1 hlt hg1 hs1 hen
      unfold cbV at hen
      have HLX := Lib.hid hlx
      have HSC := Lib.hid hsc
      have hcw := HM.out.wide _ hsc
      have hc1 : c1 < 64 := hcw.1
      have hc2 : c2 < 64 := hcw.2
      have hrl := hrg.lt
      have hszr := HBR.out.size
      have HO1 := Lib.hid (HOW.out.kept hg1 (by simp))
      have HR1 := Lib.hid (own_keep1 HRO2.out (fun g hg => hg1.block g (HRO2.out.lt g hg).2 (fun e => own_iter hrg HRO2.out (hg.trans e))))
      have HB1 : Hid (Below w.heap.size w w1) := Lib.hid (HBR.out.grown hg1 hszr (fun j hj => by cases hj; omega))
      have hrgb := hrg1.alloc (.cells #[.int .i64 (c1 : Int), .int .i64 (c2 : Int)] 51)
      have HOb := Lib.hid (HO1.out.alloc (.cells #[.int .i64 (c1 : Int), .int .i64 (c2 : Int)] 51))
      have HRb := Lib.hid (HR1.out.alloc (.cells #[.int .i64 (c1 : Int), .int .i64 (c2 : Int)] 51))
      have HBb := Lib.hid (HB1.out.alloc HB1.out.size (.cells #[.int .i64 (c1 : Int), .int .i64 (c2 : Int)] 51))
      have HBX := Lib.hid (heap_alloc_new w1 (.cells #[.int .i64 (c1 : Int), .int .i64 (c2 : Int)] 51))
      rw [hs1] at HBX
      have HMEAS := Lib.hid hrg.left_eq
      have HP6 := Lib.hid (pop_le c1 6)
      clear hlx hsc hcw hrg hrg1 hg1
      go_wp2
      generalize w1.alloc (.cells #[.int .i64 (c1 : Int), .int .i64 (c2 : Int)] 51) = wb at *
      clear hen
      generalize wr.heap.size = B at *
      go_loopw [5, 6, 7] (fun mg rv _ wi => ∃ (b : Bool) (x t : Nat) (D3 : DataW Unit), mg = .bool b ∧ rv = .int .i64 (x : Int) ∧ x < 64 ∧ Hid (∀ j, x.testBit j = true → c1.testBit j = true) ∧ Hid (b = true ↔ ∃ j, c1.testBit j = true ∧ x.testBit j = false ∧ S (c1, flp c2 j)) ∧ Hid (popN 6 x + t ≤ 6) ∧
          Hid (wi.ownsMap Tryd.prog 51 (plainElem (H := Unit) Tryd.prog 4) w.heap.size (6 * (Maps.size D - cnt) + t) D3) ∧ Hid (MapC (fun d => upL S left d ∨ ∃ i, c1.testBit i = true ∧ x.testBit i = false ∧ S (c1, flp c2 i) ∧ d = (clr c1 i, clr c2 i)) D3) ∧
          wi.ranges Tryd.prog 51 (plainElem (H := Unit) Tryd.prog 4) bm (w.heap.size + 1) n D (fun z => left z && !z.sameKey (keyC (c1, c2))) cnt1 ∧ Hid (wb.grownBy wi (some w.heap.size)))
        (fun _ rv _ _ => (intOf rv).toNat)
      case atStart =>
        exact ⟨false, c1, 0, D2, rfl, rfl, hc1, Lib.hid (fun j h => h), Lib.hid ⟨fun h => (by cases h), fun ⟨j, h1, h2, _⟩ => by rw [h1] at h2; cases h2⟩, Lib.hid (by have := HP6.out; omega), HOb,
          Lib.hid (HMC.out.congr (fun d => ⟨.inl, fun h => h.elim id (fun ⟨i, h1, h2, _⟩ => by rw [h1] at h2; cases h2)⟩)), hrgb, Lib.hid ⟨rfl, rfl, rfl, Nat.le_refl _, fun _ _ _ => rfl⟩⟩
      case round =>
        obtain ⟨b, x, t, D3, rfl, rfl, hx64, HSB, HBI, HPT, HO3, HM3, hrgi, HGI⟩ := hrel
        have hbs := (Array.getElem?_eq_some_iff.1 HBX.out).1
        have hbx := (HGI.out.block B hbs (fun e => by injection e; omega)).trans HBX.out
        have b0 : wr.cell? ⟨B, 0, none⟩ = some (.int .i64 (c1 : Int)) := Lib.cell_of_heap hbx 0
        have b1 : wr.cell? ⟨B, 1, none⟩ = some (.int .i64 (c2 : Int)) := Lib.cell_of_heap hbx 1
        have HGS := Lib.hid HGI.out.size
        clear hbx
        by_cases hx0 : x = 0
        · subst hx0
          have HFB : Hid (Below w.heap.size w wr) := Lib.hid (HBb.out.grown HGI.out HBb.out.size (fun j hj => by cases hj; omega))
          have HRF := Lib.hid (own_keep1 HRb.out (fun g hg => HGI.out.block g (HRb.out.lt g hg).2 (fun e => own_map HOb.out HRb.out (hg.trans e))))
          have HMF := Lib.hid (HM3.out.congr (fun d => upL_next HM.out.wide HSC.out d))
          have HOF : Hid (wr.ownsMap Tryd.prog 51 (plainElem (H := Unit) Tryd.prog 4) w.heap.size (6 * (Maps.size D - cnt1)) D3) := Lib.hid (HO3.out.mono (by have := HPT.out; omega))
          clear HM3 HO3 HGI HBb HRb HOb hrgb
          by_cases hbt : b = true
          · have HNA := Lib.hid (alone_iff.1 (HBI.out.1 hbt))
            subst hbt
            have HAF := Lib.hid (al_true HM.out.wide HSC.out HAL.out HNA.out)
            clear HBI
            go_wp2
            go_roundw
            case rel => exact ⟨_, cnt1, D3, l, hrgi, by omega, HOF, HMF, Lib.hid ⟨A, c, rfl, HRF.out⟩, HND, HAF, Lib.hid (by have := HLN.out; omega), HFB⟩
            case measure => rw [hrgi.left_eq, HMEAS.out]; exact hlt
          · have HAA : Hid (aloneS S (c1, c2)) := Lib.hid (Classical.byContradiction (fun hn => hbt (HBI.out.2 (alone_iff.2 hn))))
            have hbf : b = false := by simpa using hbt
            subst hbf
            have HAF := Lib.hid (al_false HM.out.wide HSC.out HAL.out HAA.out)
            have HNF := Lib.hid (al_nodup HAL.out HLX.out HND.out)
            have hln := HLN.out
            have hfs := HFB.out.size
            obtain ⟨i0, hi0, hz0, hz1, hz2⟩ := info_parts Tryd.infoCb
            clear HBI hbt
            go_wp2_with (at_builtin; refine wpList_append_lies _ rfl _ _ 45 rfl w.heap.size 51 i0 (.agg #[.int .i64 0, .int .i64 0]) 2 16 Tryd.underlying45 hi0 hz0 hz1 hz2 rfl (by decide) _ _ _ rfl (HRF.out.alloc _) ⟨wr.heap.size, 0, none⟩ 1 1 [.int .i64 (c1 : Int), .int .i64 (c2 : Int)] rfl rfl ?k1 ?k2 (by decide) ?k3 ?k4 ?k5 _ rfl ?_)
            case k1 =>
              intro j' u hj'
              match j', hj' with
              | 0, hj' => simp at hj'; subst hj'; simp [Addr.add]
              | 1, hj' => simp at hj'; subst hj'; simp [Addr.add]
            case k2 => intro u hu; simp at hu; rcases hu with rfl | rfl <;> rfl
            case k3 => unfold maxLen; omega
            case k4 => omega
            case k5 => simp; omega
            · intro gv cv w5 hown' hgrow hnew hglt
              have hrg5 := (hrgi.alloc (.cells #[.int .i64 (c1 : Int), .int .i64 (c2 : Int)] 51)).kept hgrow (fun e => own_map hrgi.owns HRF.out e.symm) (fun e => own_iter hrgi HRF.out e.symm)
              have HO5 := Lib.hid ((HOF.out.alloc (.cells #[.int .i64 (c1 : Int), .int .i64 (c2 : Int)] 51)).kept hgrow (fun e => own_map HOF.out HRF.out e.symm))
              have HB5 : Hid (Below w.heap.size w w5) := Lib.hid ((HFB.out.alloc hfs _).grown hgrow (by simp; omega) (fun g hg => (HRF.out.lt g hg).1))
              have HR5 : Hid (∃ A c, Value.slice (some ⟨gv, 0, none⟩) (l.length + 1) cv = .slice A (l ++ [(c1, c2)]).length c ∧ w5.ownsRow w.heap.size 51 2 (.slice A (l ++ [(c1, c2)]).length c) (l ++ [(c1, c2)]).length (cbs (l ++ [(c1, c2)]))) := Lib.hid (by
                rw [List.length_append, cbs_append]
                exact ⟨_, _, rfl, hown'⟩)
              clear hown' hgrow hnew
              go_wp2
              go_roundw
              case rel => exact ⟨_, cnt1, D3, l ++ [(c1, c2)], hrg5, by omega, HO5, HMF, HR5, HNF, HAF, Lib.hid (by rw [List.length_append]; simp; omega), HB5⟩
              case measure => rw [hrg5.left_eq, HMEAS.out]; exact hlt
        · obtain ⟨j, hj6, hxj, hlow, hrest, hless⟩ := low_cb hx64 hx0
          have hcj := HSB.out j hxj
          obtain ⟨hxor, hand2, hflt, hclt2⟩ := flp_cb hc2 hj6
          obtain ⟨_, hand1, _, hclt1⟩ := flp_cb hc1 hj6
          have HXS : Hid (∀ i, (clr x j).testBit i = true → c1.testBit i = true) := Lib.hid (fun i hi => by
            rw [clr_bit] at hi
            split at hi
            · cases hi
            · exact HSB.out i hi)
          have HPT2 : Hid (popN 6 (clr x j) + (t + 1) ≤ 6) := Lib.hid (by have := pop_clr hxj 6 hj6; have := HPT.out; omega)
          have hpt6 : t ≤ 6 := by have := HPT.out; omega
          have HUX := Lib.hid (fun d => upX_step (S := S) (c2 := c2) hxj hcj (G := upL S left) d)
          have HMS := Lib.hid (met_step (S := S) (c2 := c2) hxj hcj)
          have hnx : ((x : Int) != 0) = true := by simpa using hx0
          generalize 2 ^ j = f at *
          generalize flp c2 j = fv at *
          generalize clr c1 j = k1 at *
          generalize clr c2 j = k2 at *
          generalize clr x j = x2 at *
          clear hxj hcj HPT HSB
          by_cases hS : S (c1, fv)
          · have hL : (Instr.lookup 77 (.map (some bm)) (.agg #[.int .i64 (c1 : Int), .int .i64 (fv : Int)]) false).run Tryd.prog wr = .ok (.bool true) wr := look_cb hrgi.owns HM.out (c := (c1, fv)) ⟨hc1, hflt⟩ ⟨fun _ => hS, fun _ => rfl⟩
            have hout := HO3.out
            have HB2 : Hid (true = true ↔ ∃ i, c1.testBit i = true ∧ x2.testBit i = false ∧ S (c1, flp c2 i)) := Lib.hid ⟨fun _ => HMS.out.2 (.inr hS), fun _ => rfl⟩
            have HM4 : Hid (MapC (fun d => upL S left d ∨ ∃ i, c1.testBit i = true ∧ x2.testBit i = false ∧ S (c1, flp c2 i) ∧ d = (clr c1 i, clr c2 i)) (D3.put (keyC (k1, k2)) (.lit (.bool true)))) := Lib.hid ((HM3.out.put (c := (k1, k2)) ⟨hclt1, hclt2⟩).congr (fun d => (or_congr Iff.rfl ⟨fun h => ⟨hS, h⟩, fun h => h.2⟩).trans (HUX.out d).symm))
            clear hS
            go_wp2_with (first
              | (at_mapUpdate; refine wpList_mapUpdate_own _ rfl _ _ _ 77 rfl 51 4 cubeLaw Tryd.underlying77 _ w.heap.size _ _ rfl hout (by unfold maxLen; omega) (cbV (k1, k2)) _ _ rfl rfl (key_cb ⟨hclt1, hclt2⟩) _ [] (plainElem_bool Tryd.underlying4 true) ?_; intro w3 hown4 hg3; go_frame)
              | fail)
            have hrg3 := hrgi.kept hg3 (fun e => by injection e; omega) (fun e => by injection e; omega)
            have HG3 : Hid (wb.grownBy w3 (some w.heap.size)) := Lib.hid (HGI.out.andThen hg3 (fun j hj => .inr hj))
            go_roundw
            case rel => exact ⟨true, x2, t + 1, _, rfl, rfl, by omega, HXS, HB2, HPT2, Lib.hid hown4, HM4, hrg3, HG3⟩
            case measure => first | (simp [intOf]; done) | (simp [intOf]; omega)
          · have hL : (Instr.lookup 77 (.map (some bm)) (.agg #[.int .i64 (c1 : Int), .int .i64 (fv : Int)]) false).run Tryd.prog wr = .ok (.bool false) wr := look_cb hrgi.owns HM.out (c := (c1, fv)) ⟨hc1, hflt⟩ ⟨fun h => (by cases h), fun h => absurd h hS⟩
            have HB2 : Hid (b = true ↔ ∃ i, c1.testBit i = true ∧ x2.testBit i = false ∧ S (c1, flp c2 i)) := Lib.hid (HBI.out.trans ⟨fun h => HMS.out.2 (.inl h), fun h => (HMS.out.1 h).resolve_right hS⟩)
            have HM4 : Hid (MapC (fun d => upL S left d ∨ ∃ i, c1.testBit i = true ∧ x2.testBit i = false ∧ S (c1, flp c2 i) ∧ d = (clr c1 i, clr c2 i)) D3) := Lib.hid (HM3.out.congr (fun d => ⟨fun h => (HUX.out d).2 (.inl h), fun h => ((HUX.out d).1 h).resolve_right (fun k => hS k.1)⟩))
            clear hS
            go_wp2
            go_roundw
            case rel => exact ⟨b, x2, t, D3, rfl, rfl, by omega, HXS, HB2, Lib.hid (by have := HPT2.out; omega), HO3, HM4, hrgi, HGI⟩
            case measure => first | (simp [intOf]; done) | (simp [intOf]; omega)
end Go.Proofs.YtcdmchaehafijaaDoor
