/- Layer 6: texts joined: Sj Sk Sl Sy. -/
import Derived.Test.YtenbhalnpiahaaaGreatDoorJg
import Derived.Shelf.Strings.OnBuilder
import Derived.Shelf.Lay
/- Layer 4: the mask of a group, by the reference. -/
namespace Go.Proofs.YtenbhalnpiahaaaGreatDoor
open Go.RowKit Go.Proofs.Ws
end Go.Proofs.YtenbhalnpiahaaaGreatDoor
/- Layer 4: strings.Join off the shelf. -/
namespace Go.Proofs
open Go.Shelf
shelf_lay Lays.n156 Nm 156 at Tryz as Tryz.laysJoin
end Go.Proofs
namespace Go.Proofs
open Go.Shelf
theorem Tryz.joinExtra : Builder.Extra Tryz.prog Tryz.laysJoin_ren := {
  sizeBuilder := by kernel_rfl
  liesBuilder := by kernel_rfl
  t5 := Tryz.underlying5
  a5 := Tryz.isAgg5
  z5 := Tryz.sizeOf5
  v5 := Tryz.zeroValue5
  infoByte := by kernel_rfl
  cellsByte := by kernel_rfl
  sizeByte := by kernel_rfl
  neB5 := by decide }
end Go.Proofs
namespace Go.Proofs.YtenbhalnpiahaaaGreatDoor
open Go.RowKit Go.Proofs.Ws
theorem pJoin_any (l : List ByteArray) (v : Value) (B : Nat) (e : TypeId) (n : Nat) (w : World) (h : w.ownsRow B e 1 v n (ss l)) (hn : 1 ≤ n) (hN : n ≤ 1000)
    (hlen : (Lib.join (l.map (·.data.toList)) [44]).length ≤ 140737488355328) :
    Calls Tryz.prog 114 #[v, .string ⟨#[44]⟩] w fun e w' => e = .returned (.string (joinV l)) ∧ Below w.heap.size w w' := by
  obtain ⟨A, c, rfl, hnc, _, _, hR⟩ := own_reads2 h
  have hl := hR.str_len
  rcases h.2 with ⟨h0, h1⟩ | ⟨g, cap, cur, h0, _, hg, _⟩
  · omega
  · injection h0 with h2 h3 h4
    subst h2
    obtain ⟨ad, hA, hb, hc⟩ := hR.2 (by omega)
    injection hA with hA
    subst hA
    have hlt : g < w.heap.size := hb
    refine (hl ▸ Any.strings_Join Tryz.laysJoin Tryz.joinExtra g 0 c l ⟨#[44]⟩ w (fun j x hx => ?_) hlt (by omega) (by omega) hlen : Calls Tryz.prog 114 #[.slice (some ⟨g, 0, none⟩) n c, .string ⟨#[44]⟩] w _)
    have := hc j (.string x) (by unfold ss; rw [List.getElem?_map, hx]; rfl)
    rw [addr0] at this
    rw [Nat.zero_add]
    exact this
end Go.Proofs.YtenbhalnpiahaaaGreatDoor
/- Layer 4: the text of a group, by the program. -/
namespace Go.Proofs.YtenbhalnpiahaaaGreatDoor
open Go.RowKit Go.Proofs.Ws
theorem tail_len (r : List (List UInt8)) (h : ∀ x ∈ r, x.length ≤ 8) : (Lib.joinTail [44] r).length ≤ 9 * r.length := by
  induction r with
  | nil => simp [Lib.joinTail]
  | cons x r ih =>
    have h1 := ih (fun y hy => h y (List.mem_cons_of_mem _ hy))
    have h2 := h x (by simp)
    simp only [Lib.joinTail, List.map_cons, List.flatten_cons, List.length_append, List.length_cons, List.length_nil] at h1 ⊢
    omega
theorem join_len {l : List ByteArray} (h : ∀ x ∈ l, nameV x = true) (hl : l.length ≤ 20) : (Lib.join (l.map (·.data.toList)) [44]).length ≤ 200 := by
  have h8 : ∀ x ∈ l.map (·.data.toList), x.length ≤ 8 := fun y hy => by
    obtain ⟨x, hx, rfl⟩ := List.mem_map.1 hy
    have := h x hx
    unfold nameV nameL at this
    simp only [Bool.and_eq_true, decide_eq_true_eq] at this
    exact this.1.1.2
  cases hc : l.map (·.data.toList) with
  | nil => simp [Lib.join]
  | cons x r =>
    rw [hc] at h8
    have h1 := tail_len r (fun y hy => h8 y (List.mem_cons_of_mem _ hy))
    have h2 := h8 x (by simp)
    have h3 : r.length + 1 = l.length := by have := congrArg List.length hc; rw [List.length_map, List.length_cons] at this; omega
    rw [Lib.join_cons, List.length_append]
    omega
theorem ret_txt {p : ByteArray × Int} {t : ByteArray} {z : Int} (h : p = (t, z)) : Ending.returned (.tuple #[.string t, .int .i64 z]) = .returned (.tuple #[.string p.1, .int .i64 p.2]) := by rw [h]
theorem text_ok {A F X : List ByteArray} {m : Nat} (h : sigErr A F X = 0) (h1 : 1 ≤ m) (h2 : m < 2 ^ A.length) : textV A F X (m : Int) = (joinV (selK A m A.length), 0) := by
  unfold textV
  rw [if_pos h, if_pos ⟨by omega, by exact_mod_cast h2⟩, Int.toNat_natCast]
theorem text_out {A F X : List ByteArray} {g : Int} (h : sigErr A F X = 0) (h1 : ¬ (1 ≤ g ∧ g < 2 ^ A.length)) : textV A F X g = (ByteArray.empty, 2) := by
  unfold textV
  rw [if_pos h, if_neg h1]
theorem text_bad {A F X : List ByteArray} {g : Int} (h : sigErr A F X ≠ 0) : textV A F X g = (ByteArray.empty, sigErr A F X) := by
  unfold textV
  rw [if_neg h]
theorem shl_i64 : ∀ n : Fin 5, wrap64 ((2 : Int) ^ n.1) = 2 ^ n.1 := by decide +kernel
theorem pow4 {n : Nat} (h : n ≤ 4) : 2 ^ n ≤ 2 ^ 4 := Nat.pow_le_pow_right (by decide) h
set_option maxRecDepth 100000 in
set_option maxHeartbeats 4000000 in
theorem pText_any (v : Value) (A F X : List ByteArray) (g : Int) (w : World) (hS : SigR w w.heap.size v A F X) (hE : EnvS w) :
    Calls Tryz.prog 92 #[v, .int .i64 g] w fun e w' => e = .returned (.tuple #[.string (textV A F X g).1, .int .i64 (textV A F X g).2]) ∧ Below w.heap.size w w' := by
  have HC := Lib.hid (fun o => pSigCheck_any v A F X (w.alloc o) (hS.on ((Below.refl _ w).alloc (Nat.le_refl _) o)) (hE.below ((Below.refl _ w).alloc (Nat.le_refl _) o)))
  obtain ⟨a0, n0, c0, a1, n1, c1, a2, n2, c2, rfl, h0, h1, h2⟩ := hS
  have HL0 := Lib.hid h0
  have hm0 : n0 ≤ 20 := h0.2.2.1
  unfold sv at HC ⊢
  have HBX := Lib.hid (@boxed w a0 a1 a2 n0 c0 n1 c1 n2 c2 24)
  have HAL := Lib.hid h0.1.str_len
  clear h0 h1 h2 hE
  by_cases h0 : sigErr A F X = 0
  · have hA4 : A.length ≤ 4 := (sigErr_ok h0).1
    have hn4 : n0 ≤ 4 := by rw [← HAL.out]; exact hA4
    have HNM : Hid (∀ x ∈ A, nameV x = true) := Lib.hid (fun x hx => ((sigErr_ok h0).2.2.2.1 x (List.mem_append.2 (.inl hx))).1)
    have hsh := shl_i64 ⟨n0, by omega⟩
    dsimp only at hsh
    by_cases hg1 : g < 1
    · have HV : Hid (textV A F X g = (ByteArray.empty, 2)) := Lib.hid (text_out h0 (by omega))
      have d1 : decide (g < 1) = true := by simp; omega
      rw [h0] at HC
      clear h0 hA4
      go_enter Tryz.func92, Tryz.ntmps92
      go_wp2_with fail
      refine (HC.out _).mono ?_
      rintro e w1 ⟨rfl, hb⟩
      have HB : Hid (Below w.heap.size w w1) := Lib.hid (((Below.refl _ w).alloc (Nat.le_refl _) _).trans (hb.mono (by simp)))
      clear hb HC
      go_wp2
      go_ret2
      exact ⟨ret_txt HV.out, HB.out⟩
    · have d1 : decide (g < 1) = false := by simp; omega
      obtain ⟨m, rfl⟩ := Int.eq_ofNat_of_zero_le (show 0 ≤ g by omega)
      by_cases hg2 : 2 ^ n0 ≤ m
      · have HV : Hid (textV A F X (m : Int) = (ByteArray.empty, 2)) := Lib.hid (text_out h0 (fun hh => by
          have h3 := hh.2
          rw [HAL.out] at h3
          have h4 : m < 2 ^ n0 := by exact_mod_cast h3
          omega))
        have d2 : decide (wrap64 ((2 : Int) ^ n0) ≤ (m : Int)) = true := by rw [hsh, decide_eq_true_eq]; exact_mod_cast hg2
        rw [h0] at HC
        clear h0 hA4 hsh hg1 hg2
        go_enter Tryz.func92, Tryz.ntmps92
        go_wp2_with fail
        refine (HC.out _).mono ?_
        rintro e w1 ⟨rfl, hb⟩
        have HB : Hid (Below w.heap.size w w1) := Lib.hid (((Below.refl _ w).alloc (Nat.le_refl _) _).trans (hb.mono (by simp)))
        have hcell := (HBX.out w1 (hb.mono (by simp))).1
        clear hb HC
        go_wp2
        go_ret2
        exact ⟨ret_txt HV.out, HB.out⟩
      · have HG : Hid (1 ≤ m ∧ m < 2 ^ A.length) := Lib.hid ⟨by omega, by rw [HAL.out]; omega⟩
        have hm16 : m < 16 := Nat.lt_of_lt_of_le (Nat.lt_of_not_le hg2) (pow4 hn4)
        have HV : Hid (textV A F X (m : Int) = (joinV (selK A m A.length), 0)) := Lib.hid (text_ok h0 HG.out.1 HG.out.2)
        have d2 : decide (wrap64 ((2 : Int) ^ n0) ≤ (m : Int)) = false := by rw [hsh, decide_eq_false_iff_not]; intro hh; exact hg2 (by exact_mod_cast hh)
        obtain ⟨i0, hi, hz0, hz1, hz2⟩ := info_parts Tryz.infoS
        rw [h0] at HC
        clear h0 hA4 hsh hg1 hg2
        go_enter Tryz.func92, Tryz.ntmps92
        go_wp2_with fail
        refine (HC.out _).mono ?_
        rintro e w1 ⟨rfl, hb⟩
        have HB : Hid (Below w.heap.size w w1) := Lib.hid (((Below.refl _ w).alloc (Nat.le_refl _) _).trans (hb.mono (by simp)))
        have hcell := (HBX.out w1 (hb.mono (by simp))).1
        clear hb HC
        go_wp2
        clear d1 d2
        go_loopw [7, 28] (fun v i wr => ∃ (k q : Nat) (xs : List Value), k ≤ n0 ∧ i = .int .i64 k ∧ q ≤ k ∧ Hid (q = (selK A m k).length ∧ xs = ss (selK A m k)) ∧ wr.ownsRow w1.heap.size 9 1 v q xs ∧ Below w1.heap.size w1 wr) (fun _ i _ => n0 - (intOf i).toNat)
        case atStart => exact ⟨0, 0, [], Nat.zero_le _, rfl, Nat.le_refl _, Lib.hid ⟨rfl, rfl⟩, World.ownsRow_nil _ _ _ _, Below.refl _ _⟩
        case round =>
          obtain ⟨k, q, xs, hk, rfl, hqk, HO, hown, hb⟩ := hrel
          have hsz := hb.size
          by_cases hlt : k < n0
          · obtain ⟨ad, rfl, hbb, hc0, _⟩ := (HL0.out.below HB.out).at_ hlt
            have hc := (hb.cell (p := ad.add k) (by rw [block_of_add]; have := HB.out.size; omega)).trans hc0
            have hbit := bit_i64 ⟨m, hm16⟩ ⟨k, by omega⟩
            dsimp only at hbit
            have HSU := Lib.hid (selK_succ A m k)
            generalize A.getD k ByteArray.empty = x at *
            clear hc0 hbb
            cases hbt : m.testBit k with
            | true =>
              rw [hbt] at hbit HSU
              have HX : Hid (q + 1 = (selK A m (k + 1)).length ∧ xs ++ [.string x] = ss (selK A m (k + 1))) := Lib.hid (by
                rw [HSU.out, if_pos rfl, List.length_append, ss_append, ← HO.out.1, ← HO.out.2]
                exact ⟨rfl, rfl⟩)
              clear HO HSU hbt
              go_wp2_with (at_builtin; refine wpList_append_own _ rfl _ _ 22 rfl w1.heap.size 9 i0 (.string ByteArray.empty) 1 16 Tryz.underlying22 hi hz0 hz1 hz2 rfl (by decide) _ _ _ rfl (hown.alloc _) ⟨wr.heap.size, 0, none⟩ 1 1 [.string x] rfl rfl ?c1 ?c2 ?c3 ?c4 ?c5 ?_)
              case c1 =>
                intro j u hj
                match j, hj with
                | 0, hj => simp at hj; subst hj; simp [Addr.add]
              case c2 => intro u hu; simp at hu; subst hu; rfl
              case c3 => unfold maxLen; omega
              case c4 => omega
              case c5 => simp; omega
              intro v' w3 hown' hgrow _
              have hb3 : Below w1.heap.size w1 w3 := (hb.alloc hsz _).grown hgrow (by simp; omega) (fun j hj => ((hown.alloc (.cells #[.string x] 9)).lt j hj).1)
              clear hgrow hown hb
              go_wp2
              go_roundw
              case rel => exact ⟨k + 1, q + 1, _, by omega, by go_num, by omega, HX, hown', hb3⟩
              case measure => simp [intOf]; omega
            | false =>
              rw [hbt] at hbit HSU
              have HX : Hid (q = (selK A m (k + 1)).length ∧ xs = ss (selK A m (k + 1))) := Lib.hid (by
                rw [HSU.out, if_neg (by decide)]
                exact HO.out)
              clear HO HSU hbt
              go_wp2
              go_roundw
              case rel => exact ⟨k + 1, q, xs, by omega, by go_num, by omega, HX, hown, hb⟩
              case measure => simp [intOf]; omega
          · have hkn : n0 = k := by omega
            subst hkn
            have hown2 := hown
            rw [HO.out.2] at hown2
            have HJ := Lib.hid (pJoin_any (selK A m n0) _ _ _ _ _ hown2 (by
                have h1 := selK_ne A HG.out.1 HG.out.2
                rw [HAL.out] at h1
                rw [HO.out.1]
                cases hc : selK A m n0 with
                | nil => exact absurd hc h1
                | cons _ _ => simp) (by omega) (by
                  have := join_len (l := selK A m n0) (fun x hx => HNM.out x (selK_mem (by rw [HAL.out]; omega) hx)) (by rw [← HO.out.1]; omega)
                  omega))
            have HBW : Hid (Below w.heap.size w wr) := Lib.hid (HB.out.trans (hb.mono HB.out.size))
            have HSW : Hid (w.heap.size ≤ wr.heap.size) := Lib.hid (Nat.le_trans HB.out.size hsz)
            clear hown hown2 hb HO
            go_wp2_with fail
            refine (HJ.out).mono ?_
            rintro e w4 ⟨rfl, hb4⟩
            have HB4 : Hid (Below w.heap.size w w4) := Lib.hid (HBW.out.trans (hb4.mono HSW.out))
            clear hb4
            go_wp2
            go_ret2
            exact ⟨ret_txt (by rw [HV.out, HAL.out]), HB4.out⟩
  · have HV : Hid (textV A F X g = (ByteArray.empty, sigErr A F X)) := Lib.hid (text_bad h0)
    have hne : (sigErr A F X != 0) = true := by rw [bne_iff_ne]; exact h0
    generalize sigErr A F X = z at *
    clear h0
    go_enter Tryz.func92, Tryz.ntmps92
    go_wp2_with fail
    refine (HC.out _).mono ?_
    rintro e w1 ⟨rfl, hb⟩
    have HB : Hid (Below w.heap.size w w1) := Lib.hid (((Below.refl _ w).alloc (Nat.le_refl _) _).trans (hb.mono (by simp)))
    clear hb HC
    go_wp2
    go_ret2
    exact ⟨ret_txt HV.out, HB.out⟩
end Go.Proofs.YtenbhalnpiahaaaGreatDoor
/- Layer 4: the text of a group, by the reference. -/
namespace Go.Proofs.YtenbhalnpiahaaaGreatDoor
open Go.RowKit Go.Proofs.Ws
theorem name_size {x : ByteArray} (h : nameV x = true) : x.size ≤ 8 := by
  unfold nameV nameL at h
  simp only [Bool.and_eq_true, decide_eq_true_eq] at h
  have := h.1.1.2
  rwa [ba_len] at this
theorem joinV_append (l : List ByteArray) (x : ByteArray) : joinV (l ++ [x]) = if l = [] then x else joinV l ++ ⟨#[44]⟩ ++ x := by
  by_cases hl : l = []
  · subst hl
    rw [if_pos rfl]
    unfold joinV
    simp [Lib.join_one]
  · rw [if_neg hl]
    obtain ⟨y, r, rfl⟩ : ∃ y r, l = y :: r := by
      cases l with
      | nil => exact absurd rfl hl
      | cons y r => exact ⟨y, r, rfl⟩
    apply ByteArray.ext
    unfold joinV
    rw [ByteArray.data_append, ByteArray.data_append]
    apply Array.toList_inj.1
    simp [Lib.join_cons, Lib.joinTail]
theorem joinV_full {l : List ByteArray} (hl : l ≠ []) (h : ∀ x ∈ l, nameV x = true) : (joinV l).toList.isEmpty = false := by
  rw [Lib.toList_data]
  obtain ⟨y, r, rfl⟩ : ∃ y r, l = y :: r := by
    cases l with
    | nil => exact absurd rfl hl
    | cons y r => exact ⟨y, r, rfl⟩
  have hy := h y (by simp)
  have h1 : 1 ≤ y.data.toList.length := by
    unfold nameV nameL at hy
    simp only [Bool.and_eq_true, decide_eq_true_eq] at hy
    exact hy.1.1.1
  unfold joinV
  show ((Lib.join ((y :: r).map (·.data.toList)) [44]).toArray.toList).isEmpty = false
  rw [List.map_cons, Lib.join_cons]
  cases hd : y.data.toList with
  | nil => rw [hd] at h1; simp at h1
  | cons _ _ => rfl
theorem rem_i64t : ∀ m : Fin 16, ∀ j : Fin 4, (Int.tmod ((m.1 : Int) / 2 ^ j.1) 2 == 1) = m.1.testBit j.1 := by decide +kernel
set_option maxRecDepth 100000 in
set_option maxHeartbeats 4000000 in
theorem pRefText_any (v : Value) (A F X : List ByteArray) (g : Int) (w : World) (hS : SigR w w.heap.size v A F X) :
    Calls Tryz.prog 101 #[v, .int .i64 g] w fun e w' => e = .returned (.tuple #[.string (textV A F X g).1, .int .i64 (textV A F X g).2]) ∧ Below w.heap.size w w' := by
  have HC := Lib.hid (fun o => pRefSigCheck_any v A F X (w.alloc o) (hS.on ((Below.refl _ w).alloc (Nat.le_refl _) o)))
  obtain ⟨a0, n0, c0, a1, n1, c1, a2, n2, c2, rfl, h0, h1, h2⟩ := hS
  have HL0 := Lib.hid h0
  have hm0 : n0 ≤ 20 := h0.2.2.1
  unfold sv at HC ⊢
  have HBX := Lib.hid (@boxed w a0 a1 a2 n0 c0 n1 c1 n2 c2 24)
  have HAL := Lib.hid h0.1.str_len
  clear h0 h1 h2
  by_cases h0 : sigErr A F X = 0
  · have hA4 : A.length ≤ 4 := (sigErr_ok h0).1
    have hn4 : n0 ≤ 4 := by rw [← HAL.out]; exact hA4
    have HNM : Hid (∀ x ∈ A, nameV x = true) := Lib.hid (fun x hx => ((sigErr_ok h0).2.2.2.1 x (List.mem_append.2 (.inl hx))).1)
    have hsh := shl_i64 ⟨n0, by omega⟩
    dsimp only at hsh
    by_cases hg1 : g < 1
    · have HV : Hid (textV A F X g = (ByteArray.empty, 2)) := Lib.hid (text_out h0 (by omega))
      have d1 : decide (g < 1) = true := by simp; omega
      rw [h0] at HC
      clear h0 hA4
      go_enter Tryz.func101, Tryz.ntmps101
      go_wp2_with fail
      refine (HC.out _).mono ?_
      rintro e w1 ⟨rfl, hb⟩
      have HB : Hid (Below w.heap.size w w1) := Lib.hid (((Below.refl _ w).alloc (Nat.le_refl _) _).trans (hb.mono (by simp)))
      clear hb HC
      go_wp2
      go_ret2
      exact ⟨ret_txt HV.out, HB.out⟩
    · have d1 : decide (g < 1) = false := by simp; omega
      obtain ⟨m, rfl⟩ := Int.eq_ofNat_of_zero_le (show 0 ≤ g by omega)
      by_cases hg2 : 2 ^ n0 ≤ m
      · have HV : Hid (textV A F X (m : Int) = (ByteArray.empty, 2)) := Lib.hid (text_out h0 (fun hh => by
          have h3 := hh.2
          rw [HAL.out] at h3
          have h4 : m < 2 ^ n0 := by exact_mod_cast h3
          omega))
        have d2 : decide (wrap64 ((2 : Int) ^ n0) ≤ (m : Int)) = true := by rw [hsh, decide_eq_true_eq]; exact_mod_cast hg2
        rw [h0] at HC
        clear h0 hA4 hsh hg1 hg2
        go_enter Tryz.func101, Tryz.ntmps101
        go_wp2_with fail
        refine (HC.out _).mono ?_
        rintro e w1 ⟨rfl, hb⟩
        have HB : Hid (Below w.heap.size w w1) := Lib.hid (((Below.refl _ w).alloc (Nat.le_refl _) _).trans (hb.mono (by simp)))
        have hcell := (HBX.out w1 (hb.mono (by simp))).1
        clear hb HC
        go_wp2
        go_ret2
        exact ⟨ret_txt HV.out, HB.out⟩
      · have HG : Hid (1 ≤ m ∧ m < 2 ^ A.length) := Lib.hid ⟨by omega, by rw [HAL.out]; omega⟩
        have hm16 : m < 16 := Nat.lt_of_lt_of_le (Nat.lt_of_not_le hg2) (pow4 hn4)
        have HV : Hid (textV A F X (m : Int) = (joinV (selK A m A.length), 0)) := Lib.hid (text_ok h0 HG.out.1 HG.out.2)
        have d2 : decide (wrap64 ((2 : Int) ^ n0) ≤ (m : Int)) = false := by rw [hsh, decide_eq_false_iff_not]; intro hh; exact hg2 (by exact_mod_cast hh)
        rw [h0] at HC
        clear h0 hA4 hsh hg1 hg2
        go_enter Tryz.func101, Tryz.ntmps101
        go_wp2_with fail
        refine (HC.out _).mono ?_
        rintro e w1 ⟨rfl, hb⟩
        have HB : Hid (Below w.heap.size w w1) := Lib.hid (((Below.refl _ w).alloc (Nat.le_refl _) _).trans (hb.mono (by simp)))
        have hcell := (HBX.out w1 (hb.mono (by simp))).1
        clear hb HC
        go_wp2
        clear d1 d2
        go_loopw [7, 8] (fun sv i wr => ∃ (k : Nat) (t : ByteArray), k ≤ n0 ∧ i = .int .i64 k ∧ sv = .string t ∧ t.size ≤ 9 * k ∧ Hid (t = joinV (selK A m k)) ∧ wr = w1) (fun _ i _ => n0 - (intOf i).toNat)
        case atStart => exact ⟨0, ⟨#[]⟩, Nat.zero_le _, rfl, rfl, by decide, Lib.hid rfl, rfl⟩
        case round =>
          obtain ⟨k, t, hk, rfl, rfl, hts, HT, rfl⟩ := hrel
          by_cases hlt : k < n0
          · obtain ⟨ad, rfl, hbb, hc0, _⟩ := (HL0.out.below HB.out).at_ hlt
            have hbit := rem_i64t ⟨m, hm16⟩ ⟨k, by omega⟩
            dsimp only at hbit
            have HSU := Lib.hid (selK_succ A m k)
            have hnx : nameV (A.getD k ByteArray.empty) = true := HNM.out _ (by
              rw [List.getD_eq_getElem?_getD, List.getElem?_eq_getElem (by rw [HAL.out]; exact hlt)]
              exact List.getElem_mem _)
            have HNK : Hid (∀ x ∈ selK A m k, nameV x = true) := Lib.hid (fun x hx => HNM.out x (selK_mem (by rw [HAL.out]; omega) hx))
            have hx8 := name_size hnx
            generalize A.getD k ByteArray.empty = x at *
            clear hbb hnx
            cases hbt : m.testBit k with
            | true =>
              rw [hbt] at hbit HSU
              have HJA := Lib.hid (joinV_append (selK A m k) x)
              by_cases hs : selK A m k = []
              · have HN : Hid (t ++ x = joinV (selK A m (k + 1))) := Lib.hid (by
                  rw [HSU.out, if_pos rfl, HT.out, hs]
                  rw [hs] at HJA
                  rw [HJA.out, if_pos rfl]
                  exact ByteArray.empty_append)
                have hie : t.toList.isEmpty = true := by rw [HT.out, hs, Lib.toList_data]; rfl
                clear hbt HSU HT hs HJA HNK
                go_wp2
                go_roundw
                case rel => exact ⟨k + 1, t ++ x, by omega, by go_num, rfl, by rw [ByteArray.size_append]; omega, HN, by first | rfl | trivial⟩
                case measure => simp [intOf]; omega
              · have HN : Hid (t ++ ⟨#[44]⟩ ++ x = joinV (selK A m (k + 1))) := Lib.hid (by rw [HSU.out, if_pos rfl, HT.out, HJA.out, if_neg hs])
                have hie : t.toList.isEmpty = false := by rw [HT.out]; exact joinV_full hs HNK.out
                have hc1 : (⟨#[44]⟩ : ByteArray).size = 1 := rfl
                have hts2 : (t ++ (⟨#[44]⟩ : ByteArray)).size ≤ 1 + 9 * k := by rw [ByteArray.size_append, hc1]; omega
                clear hbt HSU HT hs HJA HNK
                go_wp2
                go_roundw
                case rel => exact ⟨k + 1, t ++ ⟨#[44]⟩ ++ x, by omega, by go_num, rfl, by rw [ByteArray.size_append]; omega, HN, by first | rfl | trivial⟩
                case measure => simp [intOf]; omega
            | false =>
              rw [hbt] at hbit HSU
              have HN : Hid (t = joinV (selK A m (k + 1))) := Lib.hid (by rw [HSU.out, if_neg (by decide)]; exact HT.out)
              clear hbt HSU HT HNK
              go_wp2
              go_roundw
              case rel => exact ⟨k + 1, t, by omega, by go_num, rfl, by omega, HN, by first | rfl | trivial⟩
              case measure => simp [intOf]; omega
          · have hkn : n0 = k := by omega
            subst hkn
            go_wp2
            go_ret2
            exact ⟨ret_txt (by rw [HV.out, HAL.out, HT.out]), HB.out⟩
  · have HV : Hid (textV A F X g = (ByteArray.empty, sigErr A F X)) := Lib.hid (text_bad h0)
    have hne : (sigErr A F X != 0) = true := by rw [bne_iff_ne]; exact h0
    generalize sigErr A F X = z at *
    clear h0
    go_enter Tryz.func101, Tryz.ntmps101
    go_wp2_with fail
    refine (HC.out _).mono ?_
    rintro e w1 ⟨rfl, hb⟩
    have HB : Hid (Below w.heap.size w w1) := Lib.hid (((Below.refl _ w).alloc (Nat.le_refl _) _).trans (hb.mono (by simp)))
    clear hb HC
    go_wp2
    go_ret2
    exact ⟨ret_txt HV.out, HB.out⟩
end Go.Proofs.YtenbhalnpiahaaaGreatDoor
