/- Layer 9: the program's prime implicants. -/
import Derived.Test.YtcdmchaehafijaaDoorNIi
import Derived.Deep.Upon
import Derived.Deep.AppendSrc
namespace Go.Proofs.YtcdmchaehafijaaDoor
open Go.RowKit Go.Proofs.Ws Go.Maps
set_option maxRecDepth 100000
/-- what a map's block reads as -/
noncomputable def mapD (W : World) (v : Value) : DataW Unit := match v with
  | .map (some b) => (match W.heap[b]? with
    | some (.map es _) => .map ((es.toList.map (Go.WideElems.rg Tryd.prog 51 (plainElem (H := Unit) Tryd.prog 4))).foldr DataW.insert [])
    | _ => .nil)
  | _ => .nil
theorem mapD_own {W : World} {b n : Nat} {D : DataW Unit} (h : W.ownsMap Tryd.prog 51 (plainElem (H := Unit) Tryd.prog 4) b n D) : mapD W (.map (some b)) = D := by
  obtain ⟨es, clock, hb, F, hs, rfl⟩ := h
  unfold mapD
  simp only [hb]
open Classical in
/-- how many rounds of merging are to come, at most -/
noncomputable def mLvl (n : Nat) (W : World) (v : Value) : Nat := if h : ∃ c : Nat × Nat, CbW c ∧ Maps.has (mapD W v) (keyC c) = true then popN n (Classical.choose h).1 + 1 else 0
theorem mLvl_at {W : World} {b m t n k : Nat} {D : DataW Unit} (h : W.ownsMap Tryd.prog 51 (plainElem (H := Unit) Tryd.prog 4) b m D) (hM : MapC (lvl t n k) D) {c : Nat × Nat} (hc : lvl t n k c) : mLvl n W (.map (some b)) + k = n + 1 := by
  unfold mLvl
  rw [mapD_own h]
  have hex : ∃ c : Nat × Nat, CbW c ∧ Maps.has D (keyC c) = true := ⟨c, hM.wide c hc, (hM.there c (hM.wide c hc)).2 hc⟩
  rw [dif_pos hex]
  have hsp := Classical.choose_spec hex
  have := ((hM.there _ hsp.1).1 hsp.2).2.2
  omega
theorem mLvl_le {W : World} {b m t n k : Nat} {D : DataW Unit} (h : W.ownsMap Tryd.prog 51 (plainElem (H := Unit) Tryd.prog 4) b m D) (hM : MapC (lvl t n k) D) : mLvl n W (.map (some b)) ≤ n + 1 - k := by
  unfold mLvl
  rw [mapD_own h]
  split
  · rename_i hex
    have hsp := Classical.choose_spec hex
    have := ((hM.there _ hsp.1).1 hsp.2).2.2
    omega
  · exact Nat.zero_le _
/-- cubes of up to six facts are few -/
theorem cubes_few {l : List (Nat × Nat)} (hn : l.Nodup) (hw : ∀ c ∈ l, CbW c) : l.length ≤ 4096 := by
  have h := List.Nodup.length_le_of_subset hn (fun c hc => (pairs_mem (m := 64) c).2 (hw c hc) : l ⊆ pairsL 64)
  have h2 : (pairsL 64).length = 4096 := by decide +kernel
  omega
/-- the merged ones are the next level -/
theorem up_lvl {t n k : Nat} (d : Nat × Nat) : upS (lvl t n k) d ↔ lvl t n (k + 1) d := by
  constructor
  · rintro ⟨c, i, h1, h2, h3, rfl⟩
    exact lvl_up h1 h2 h3
  · intro h
    obtain ⟨c, i, h1, h2, h3, h4⟩ := lvl_down h
    exact ⟨c, i, h1, h2, h3, h4⟩
theorem bit_eq (t v : Nat) (ht : t < 18446744073709551616) : (bits .and .u64 ((t : Int) / 2 ^ v) 1 == 1) = t.testBit v := by
  have e : (t : Int) / 2 ^ v = ((t / 2 ^ v : Nat) : Int) := by push_cast; rfl
  have h := u64_and_nat (t / 2 ^ v) 1 (Nat.lt_of_le_of_lt (Nat.div_le_self _ _) ht) (by decide)
  rw [e]
  have e2 : ((1 : Nat) : Int) = 1 := rfl
  rw [e2] at h
  rw [h, Nat.and_one_is_mod, Nat.testBit_eq_decide_div_mod_eq]
  have hm : t / 2 ^ v % 2 < 2 := Nat.mod_lt _ (by decide)
  generalize t / 2 ^ v % 2 = z at *
  have : z = 0 ∨ z = 1 := by omega
  rcases this with rfl | rfl <;> rfl
/-- nothing is appended -/
theorem wpList_append_not {P : Program} (w : World) {ops : Array Oper} {rest : List Oper} {o : Oper} {a : Act} {Q : Exit → Act → World → Prop} (hgd : o.guard = none) (s x : Operand) (t : TypeId)
    (ho : o.op = .call { callee := .builtin .append, args := #[s, x], argTypes := #[t, t] }) (v y : Value) (hs : a.eval s = v) (hx : a.eval x = y)
    (hrun : ∀ ty, (Builtin.append_ #[t, t] ty #[v, y]).run P w = .ok v w) (h : wpList P ops Q rest (a.put o.dst v) w) : wpList P ops Q (o :: rest) a w := by
  refine wpList_plain hgd fun K' hK => ?_
  unfold Oper.wp execOp
  simp only [ho, resolve, invoke, builtin, Sem.run_bind, Sem.run_pure, Result.andThen_ok, List.map_toArray, List.map_cons, List.map_nil, hs, hx, hrun]
  exact hK _ _ h
/-- the first map grows by a valuation -/
theorem zero_next {t P v : Nat} (h : t.testBit v = true) (c : Nat × Nat) : ((c.1 = P - 1 ∧ c.2 < v ∧ t.testBit c.2 = true) ∨ c = (P - 1, v)) ↔ (c.1 = P - 1 ∧ c.2 < v + 1 ∧ t.testBit c.2 = true) := by
  constructor
  · rintro (⟨h1, h2, h3⟩ | rfl)
    · exact ⟨h1, by omega, h3⟩
    · exact ⟨rfl, by dsimp only; omega, h⟩
  · rintro ⟨h1, h2, h3⟩
    by_cases e : c.2 = v
    · exact .inr (Prod.ext h1 e)
    · exact .inl ⟨h1, by omega, h3⟩
theorem zero_stay {t P v : Nat} (h : t.testBit v = false) (c : Nat × Nat) : (c.1 = P - 1 ∧ c.2 < v ∧ t.testBit c.2 = true) ↔ (c.1 = P - 1 ∧ c.2 < v + 1 ∧ t.testBit c.2 = true) := by
  constructor
  · rintro ⟨h1, h2, h3⟩
    exact ⟨h1, by omega, h3⟩
  · rintro ⟨h1, h2, h3⟩
    refine ⟨h1, ?_, h3⟩
    have : c.2 ≠ v := fun e => by rw [e, h] at h3; cases h3
    omega
theorem lvl_none {t n j : Nat} (h : ∀ c, ¬ lvl t n j c) : ∀ i c, ¬ lvl t n (j + i) c
  | 0, c => h c
  | i + 1, c => fun hc => by
    obtain ⟨d, _, h1, _⟩ := lvl_down (k := j + i) hc
    exact lvl_none h i d h1
/-- all prime implicants are there when nothing is left to merge -/
theorem impl_done {t n j : Nat} {l : List (Nat × Nat)} (hl : ∀ c, c ∈ l ↔ prime t n c ∧ n < popN n c.1 + j) (h : ∀ c, ¬ lvl t n j c) : ∀ c, c ∈ l ↔ prime t n c := fun c => by
  rw [hl c]
  refine ⟨fun k => k.1, fun k => ⟨k, ?_⟩⟩
  rcases Nat.lt_or_ge n (popN n c.1 + j) with h1 | h1
  · exact h1
  · have h2 := prime_lvl k
    exact absurd (by rw [show j + (n - popN n c.1 - j) = n - popN n c.1 by omega]; exact h2) (lvl_none h (n - popN n c.1 - j) c)
theorem impl_next {t n j : Nat} {l m : List (Nat × Nat)} (hl : ∀ c, c ∈ l ↔ prime t n c ∧ n < popN n c.1 + j) (hm : ∀ c, c ∈ m ↔ lvl t n j c ∧ aloneS (lvl t n j) c) : ∀ c, c ∈ l ++ m ↔ prime t n c ∧ n < popN n c.1 + (j + 1) := fun c => by
  rw [List.mem_append, hl c, hm c]
  constructor
  · rintro (⟨h1, h2⟩ | ⟨h1, h2⟩)
    · exact ⟨h1, by omega⟩
    · exact ⟨(alone_prime h1).1 h2, by have := h1.2.2; omega⟩
  · rintro ⟨h1, h2⟩
    rcases Nat.lt_or_ge n (popN n c.1 + j) with h3 | h3
    · exact .inl ⟨h1, h3⟩
    · have h4 := prime_lvl h1
      rw [show n - popN n c.1 = j by omega] at h4
      exact .inr ⟨h4, (alone_prime h4).2 h1⟩
theorem impl_nodup {t n j : Nat} {l m : List (Nat × Nat)} (hl : ∀ c, c ∈ l ↔ prime t n c ∧ n < popN n c.1 + j) (hm : ∀ c, c ∈ m ↔ lvl t n j c ∧ aloneS (lvl t n j) c) (h1 : l.Nodup) (h2 : m.Nodup) : (l ++ m).Nodup := by
  rw [List.nodup_append]
  refine ⟨h1, h2, fun a ha b hb e => ?_⟩
  subst e
  have k1 := ((hl a).1 ha).2
  have k2 := ((hm a).1 hb).1.2.2
  omega
theorem prime_cb {t n : Nat} (hn : n ≤ 6) {c : Nat × Nat} (h : prime t n c) : CbW c := by
  have h1 := h.1
  have h2 : 2 ^ n ≤ 64 := Nat.pow_le_pow_right (n := 2) (by decide) hn
  refine ⟨Nat.lt_of_lt_of_le h1.1 h2, ?_⟩
  have h3 : c.2 ≤ c.1 := by rw [← h1.2]; exact Nat.and_le_right
  have := h1.1
  omega
theorem cbs_one (l : List (Nat × Nat)) : ∀ u ∈ cbs l, u.oneCell' = true := by
  intro u hu
  unfold cbs at hu
  obtain ⟨c, _, h2⟩ := List.mem_flatMap.1 hu
  simp at h2
  rcases h2 with rfl | rfl <;> rfl
theorem pow_few {j : Nat} (h : j ≤ 7) : 64 * 6 ^ j ≤ 17915904 := by
  have := Nat.pow_le_pow_right (n := 6) (by decide) h
  omega
set_option maxHeartbeats 16000000 in
theorem pImpl_any (t : Nat) (ht : t < 18446744073709551616) (n : Int) (w : World) :
    Calls Tryd.prog 21 #[.int .u64 (t : Int), .int .i64 n] w fun e w' => ∃ A c l, e = .returned (.tuple #[.slice A l.length c, .int .i64 (chkT t n)]) ∧ w'.ownsRow w.heap.size 51 2 (.slice A l.length c) l.length (cbs l) ∧ (chkT t n ≠ 0 → l = []) ∧ (chkT t n = 0 → l.Pairwise cLt ∧ ∀ x, x ∈ l ↔ prime t n.toNat x) ∧ Below w.heap.size w w' := by
  have HCH := Lib.hid (checkTable_any t ht n w)
  by_cases hz : chkT t n = 0
  · have h06 : 0 ≤ n ∧ n ≤ 6 := by
      unfold chkT at hz
      split at hz
      · assumption
      · cases hz
    obtain ⟨k, rfl⟩ : ∃ k : Nat, n = (k : Int) := ⟨n.toNat, by omega⟩
    have hk6 : k ≤ 6 := by omega
    rw [hz] at HCH
    rw [hz, Int.toNat_natCast]
    obtain ⟨P, hP⟩ : ∃ P : Nat, 2 ^ k = P := ⟨_, rfl⟩
    have HP := Lib.hid hP
    have hP64 : P ≤ 64 := by rw [← hP]; exact Nat.pow_le_pow_right (n := 2) (by decide) hk6
    have hP0 : 0 < P := by rw [← hP]; exact Nat.two_pow_pos k
    have hsh : wrap64 (2 ^ k) = (P : Int) := by
      have e : ((2 ^ k : Nat) : Int) = (2 : Int) ^ k := by simp
      rw [← e, hP]
      unfold wrap64
      omega
    have hp1 : wrap64 ((P : Int) - 1) = ((P - 1 : Nat) : Int) := by unfold wrap64; omega
    have hp2 : (P : Int) - 1 = ((P - 1 : Nat) : Int) := by omega
    have hmm := @run_makeMap Tryd.prog
    have e1 : (w.alloc (.map #[] 0)).heap.size = w.heap.size + 1 := by simp
    have HO0 : Hid ((w.alloc (.map #[] 0)).ownsMap Tryd.prog 51 (plainElem (H := Unit) Tryd.prog 4) w.heap.size 0 (.map [])) := Lib.hid (World.ownsMap_made _ _ _ _)
    have HB0 : Hid (Below w.heap.size w (w.alloc (.map #[] 0))) := Lib.hid ((Below.refl _ w).alloc (Nat.le_refl _) _)
    clear hz h06 hP
    go_enter Tryd.func21, Tryd.ntmps21
    go_wp2_with fail
    refine (HCH.out).mono ?_
    rintro e wq ⟨rfl, rfl⟩
    go_wp2
    generalize w.alloc (.map #[] 0) = w1 at *
    have HSH := Lib.hid hsh
    rw [hsh]
    clear hsh
    go_loopw [8, 21] (fun _ i wr => ∃ (v : Nat) (D : DataW Unit), v ≤ P ∧ i = .int .i64 (v : Int) ∧ Hid (wr.ownsMap Tryd.prog 51 (plainElem (H := Unit) Tryd.prog 4) w.heap.size v D) ∧ Hid (MapC (fun c => c.1 = P - 1 ∧ c.2 < v ∧ t.testBit c.2 = true) D) ∧ Hid (Below w.heap.size w wr)) (fun _ i _ => P - (intOf i).toNat)
    case atStart => exact ⟨0, .map [], Nat.zero_le _, rfl, HO0, Lib.hid (MapC.start.congr (fun c => ⟨fun h => h.elim, fun h => absurd h.2.1 (Nat.not_lt_zero _)⟩)), HB0⟩
    case round =>
      obtain ⟨v, D, hv, rfl, HO, HM, HB⟩ := hrel
      have hszv := HB.out.size
      by_cases hvP : v < P
      · have hbt := bit_eq t v ht
        by_cases hb : t.testBit v = true
        · rw [hb] at hbt
          have HM2 := Lib.hid ((HM.out.put (c := (P - 1, v)) ⟨by show P - 1 < 64; omega, by show v < 64; omega⟩).congr (zero_next hb))
          have hout := HO.out
          have hsh := HSH.out
          clear hb
          go_wp2_with (first
            | (at_mapUpdate; refine wpList_mapUpdate_own _ rfl _ _ _ 77 rfl 51 4 cubeLaw Tryd.underlying77 _ w.heap.size _ _ rfl hout (by unfold maxLen; omega) (cbV (P - 1, v)) _ _ rfl rfl (key_cb ⟨by show P - 1 < 64; omega, by show v < 64; omega⟩) _ [] (plainElem_bool Tryd.underlying4 true) ?_; intro w3 hown4 hg3; go_frame)
            | fail)
          have HB3 : Hid (Below w.heap.size w w3) := Lib.hid (HB.out.grown hg3 hszv (fun j hj => by cases hj; exact Nat.le_refl _))
          go_roundw
          case rel => exact ⟨v + 1, _, by omega, by go_num, Lib.hid hown4, HM2, HB3⟩
          case measure => first | (simp [intOf]; done) | (simp [intOf]; omega)
        · have hbf : t.testBit v = false := by simpa using hb
          rw [hbf] at hbt
          have HM2 := Lib.hid (HM.out.congr (zero_stay hbf))
          have HO2 : Hid (wr.ownsMap Tryd.prog 51 (plainElem (H := Unit) Tryd.prog 4) w.heap.size (v + 1) D) := Lib.hid (HO.out.mono (Nat.le_succ _))
          clear hb hbf
          go_wp2
          go_roundw
          case rel => exact ⟨v + 1, D, by omega, by go_num, HO2, HM2, HB⟩
          case measure => first | (simp [intOf]; done) | (simp [intOf]; omega)
      · have hvp : P = v := by omega
        subst hvp
        have HLV : Hid (MapC (lvl t k 0) D) := Lib.hid (HM.out.congr (fun c => by rw [lvl_zero, HP.out]))
        have HSZ : Hid (Maps.size D ≤ 64 * 6 ^ 0) := Lib.hid (Nat.le_trans HO.out.size_le hP64)
        clear hvP HM HSH hp1 hp2 hmm HO0 HB0
        go_wp2
        go_loopw [7, 9, 10, 11] (fun cv pv _ _ wl => ∃ (j b m : Nat) (D : DataW Unit) (l : List (Nat × Nat)), cv = .map (some b) ∧ j ≤ k + 1 ∧ w.heap.size ≤ b ∧ Hid (wl.ownsMap Tryd.prog 51 (plainElem (H := Unit) Tryd.prog 4) b m D) ∧ Hid (MapC (lvl t k j) D) ∧ Hid (Maps.size D ≤ 64 * 6 ^ j) ∧ Hid (∃ A c, pv = .slice A l.length c ∧ wl.ownsRow w.heap.size 51 2 (.slice A l.length c) l.length (cbs l)) ∧ Hid (l.Nodup) ∧ Hid (∀ c, c ∈ l ↔ prime t k c ∧ k < popN k c.1 + j) ∧ Hid (Below w.heap.size w wl))
          (fun cv _ _ _ wl => mLvl k wl cv)
        case atStart => exact ⟨0, w.heap.size, P, D, [], rfl, by omega, Nat.le_refl _, HO, HLV, HSZ, Lib.hid ⟨none, 0, rfl, World.ownsRow_nil _ _ _ _⟩, Lib.hid List.nodup_nil, Lib.hid (fun c => ⟨fun h => (by cases h), fun h => absurd h.2 (by have := pop_le c.1 k; omega)⟩), HB⟩
        case round =>
          obtain ⟨j, b, m, D, l, rfl, hj, hbl, HO, HM, HS, HR, HND, HAL, HB⟩ := hrel
          obtain ⟨A, c, rfl, hro⟩ := HR.out
          have HRO := Lib.hid hro
          have HFW := Lib.hid (cubes_few HND.out (fun c hc => prime_cb hk6 ((HAL.out c).1 hc).1))
          have hown := HO.out
          have HCAN := Lib.hid (HO.out.canon cubeLaw)
          have hszl := HB.out.size
          clear hro HR
          by_cases hs0 : Maps.size D = 0
          · have HAE := Lib.hid (impl_done HAL.out ((HM.out.size_zero HCAN.out).1 hs0))
            go_wp2_with (first
              | (at_len; refine wpList_len_own _ rfl _ _ rfl 51 4 Tryd.underlying77 _ b m D rfl hown ?_)
              | fail)
            have HPF : Hid (l.length ≤ 4096) := HFW
            clear HM HS HAL HCAN
            by_cases hl0 : l = []
            · subst hl0
              refine (sortC_none A c _ wr).mono ?_
              rintro e w5 ⟨rfl, rfl⟩
              go_wp2
              go_ret2
              exact ⟨A, c, [], rfl, HRO.out, fun h => absurd rfl h, fun _ => ⟨List.Pairwise.nil, HAE.out⟩, HB.out⟩
            · refine (sortC_any l w.heap.size A c wr HRO.out HND.out (by have := HPF.out; omega) hl0).mono ?_
              rintro e w5 ⟨rfl, l3, hp3, hm3, hl3, hr3, hg3⟩
              have HB5 := Lib.hid (HB.out.grown hg3 HB.out.size (fun g hg => (HRO.out.lt g hg).1))
              have HR3 := Lib.hid hr3
              have HP3 := Lib.hid hp3
              have HM3 := Lib.hid hm3
              have HL3 := Lib.hid hl3
              clear hr3 hp3 hm3 hl3 hg3
              go_wp2
              go_ret2
              refine ⟨A, c, l3, by rw [HL3.out]; rfl, by rw [HL3.out]; exact HR3.out, fun h => absurd rfl h, fun _ => ⟨HP3.out, fun x => (HM3.out x).trans (HAE.out x)⟩, HB5.out⟩
          · have hpos : 0 < Maps.size D := by omega
            have HEX : Hid (∃ c, lvl t k j c) := Lib.hid (Classical.byContradiction (fun hn => hs0 ((HM.out.size_zero HCAN.out).2 (fun c hc => hn ⟨c, hc⟩))))
            have hjk : j ≤ k := by obtain ⟨c, hc⟩ := HEX.out; have := hc.2.2; omega
            have HMG := Lib.hid (merge_any (lvl t k j) D b m wr HO.out HM.out (by have := HS.out; have := pow_few (show j ≤ 7 by omega); omega))
            go_wp2_with (first
              | (at_len; refine wpList_len_own _ rfl _ _ rfl 51 4 Tryd.underlying77 _ b m D rfl hown ?_)
              | fail)
            refine (HMG.out).mono ?_
            rintro e w3 ⟨b2, D2, A2, c2, l2, rfl, ho2, hm2, hbb, hr2, hn2, ha2, hl2, hb2⟩
            have HO2 := Lib.hid ho2
            have HM2 : Hid (MapC (lvl t k (j + 1)) D2) := Lib.hid (hm2.congr up_lvl)
            have HR2 := Lib.hid hr2
            have HB2 := Lib.hid (HB.out.trans (hb2.mono HB.out.size))
            have HRW := Lib.hid (own_keep1 HRO.out (fun g hg => hb2.block g (HRO.out.lt g hg).2))
            have HAN := Lib.hid (impl_next HAL.out ha2)
            have HNN := Lib.hid (impl_nodup HAL.out ha2 HND.out hn2)
            have hf2 := cubes_few hn2 (fun c hc => HM.out.wide c ((ha2 c).1 hc).1)
            have hf1 := HFW.out
            have HS2 : Hid (Maps.size D2 ≤ 64 * 6 ^ (j + 1)) := Lib.hid (by have h1 := HO2.out.size_le; have h2 := HS.out; rw [Nat.pow_succ]; omega)
            have hb2l : w.heap.size ≤ b2 := Nat.le_trans HB.out.size hbb
            have HME : Hid (mLvl k wr (.map (some b)) + j = k + 1) := Lib.hid (by obtain ⟨c, hc⟩ := HEX.out; exact mLvl_at HO.out HM.out hc)
            have hb3s := HB2.out.size
            obtain ⟨i0, hi0, hz0, hz1, hz2⟩ := info_parts Tryd.infoCb
            have hcap := own_cap HRW.out
            clear ho2 hm2 hr2 hn2 ha2 hl2 hb2 HMG HO HM HS HRO HAL HND HFW hown HCAN
            by_cases hl20 : l2 = []
            · subst hl20
              have happ : ∀ ty, (Builtin.append_ #[45, 45] ty #[.slice A l.length c, .slice A2 0 c2]).run Tryd.prog w3 = .ok (.slice A l.length c) w3 := fun ty => run_append_nothing w3 45 45 ty 51 i0 Tryd.underlying45 hi0 A l.length c hcap _ (by
                cases A2 with
                | none => exact Src.ofNil w3 Tryd.underlying45 c2
                | some ad => exact Src.ofSlice w3 Tryd.underlying45 ad 0 c2 [] (by simp) (fun j u h => by simp at h) (fun u h => by cases h))
              rw [List.append_nil] at HNN HAN
              have HML := Lib.hid (mLvl_le HO2.out HM2.out)
              have HAP := Lib.hid happ
              clear happ
              go_wp2_with (at_builtin; refine wpList_append_not _ rfl _ _ 45 rfl (.slice A l.length c) (.slice A2 0 c2) rfl rfl HAP.out ?_)
              go_roundw
              case rel => exact ⟨j + 1, b2, _, D2, l, rfl, by omega, hb2l, HO2, HM2, HS2, Lib.hid ⟨A, c, rfl, HRW.out⟩, HNN, HAN, HB2⟩
              case measure => show mLvl k w3 (.map (some b2)) < mLvl k wr (.map (some b)); have := HME.out; have := HML.out; omega
            · have hl2p := List.length_pos_iff.2 hl20
              obtain ⟨ad, rfl, hadb, hnews⟩ := (Reads.of_own HR2.out).2 hl2p
              go_wp2_with (at_builtin; refine wpList_append_lies _ rfl _ _ 45 rfl w.heap.size 51 i0 (.agg #[.int .i64 0, .int .i64 0]) 2 16 Tryd.underlying45 hi0 hz0 hz1 hz2 rfl (by decide) _ _ _ rfl HRW.out ad l2.length c2 (cbs l2) rfl (cbs_len l2) hnews (cbs_one l2) hl2p ?k3 ?k4 ?k5 _ rfl ?_)
              case k3 => unfold maxLen; omega
              case k4 => omega
              case k5 => omega
              · intro gv cv w5 hown' hgrow hnew hglt
                have HR5 : Hid (∃ A c, Value.slice (some ⟨gv, 0, none⟩) (l.length + l2.length) cv = .slice A (l ++ l2).length c ∧ w5.ownsRow w.heap.size 51 2 (.slice A (l ++ l2).length c) (l ++ l2).length (cbs (l ++ l2))) := Lib.hid (by
                  rw [List.length_append, cbs_append]
                  exact ⟨_, _, rfl, hown'⟩)
                have HO5 := Lib.hid (HO2.out.kept hgrow (fun e => own_map HO2.out HRW.out e.symm))
                have HB5 : Hid (Below w.heap.size w w5) := Lib.hid (HB2.out.grown hgrow hb3s (fun g hg => (HRW.out.lt g hg).1))
                have HML := Lib.hid (mLvl_le HO5.out HM2.out)
                clear hown' hgrow hnew hnews
                go_wp2
                go_roundw
                case rel => exact ⟨j + 1, b2, _, D2, l ++ l2, rfl, by omega, hb2l, HO5, HM2, HS2, HR5, HNN, HAN, HB5⟩
                case measure => show mLvl k w5 (.map (some b2)) < mLvl k wr (.map (some b)); have := HME.out; have := HML.out; omega
  · have hb0 : (chkT t n != 0) = true := by simpa using hz
    have HZ := Lib.hid hz
    clear hz
    generalize chkT t n = ef at *
    go_enter Tryd.func21, Tryd.ntmps21
    go_wp2_with fail
    refine (HCH.out).mono ?_
    rintro e wq ⟨rfl, rfl⟩
    go_wp2
    go_ret2
    exact ⟨none, 0, [], rfl, World.ownsRow_nil _ _ _ _, fun _ => rfl, fun h => absurd h HZ.out, Below.refl _ _⟩
end Go.Proofs.YtcdmchaehafijaaDoor
