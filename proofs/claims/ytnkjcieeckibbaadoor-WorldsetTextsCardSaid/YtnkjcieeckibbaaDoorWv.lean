/- Contracts: the reference's numbers and Parse. -/
import Derived.Test.YtnkjcieeckibbaaDoorWu
namespace Go.Proofs.YtnkjcieeckibbaaDoor
open Go.RowKit Go.Proofs.Ws
set_option maxRecDepth 100000 in
set_option maxHeartbeats 3200000 in
theorem numbers_any (t : ByteArray) (w : World) (hbig : t.size ≤ 1000000) :
    Calls Tryd.prog 73 #[.string t] w (GivesNums (numsV t.data.toList) w) := by
  have HTS := Lib.hid (ba_size t)
  have at0 : ∀ (i : Nat) (h : i < t.size), t.data.toList[i]? = some t[i] := fun i h => by
    rw [List.getElem?_eq_getElem (by have := HTS.out; omega)]
    simp [ByteArray.getElem_eq_getElem_data]
  have AT := Lib.hid at0
  clear at0
  by_cases h2 : 2 ≤ t.size
  · have h2' : ¬ ((t.size : Int) < 2) := by omega
    have hp0 : 0 < t.size := by omega
    have hp1 : t.size - 1 < t.size := by omega
    by_cases h0 : t[0].toNat = 123
    · by_cases h1 : t[t.size - 1].toNat = 125
      · have b0 : ((t[0].toNat : Int) != 123) = false := by simp; omega
        have b1 : ((t[t.size - 1].toNat : Int) != 125) = false := by simp; omega
        obtain ⟨b, hbody, hbl⟩ := form_yes t.data.toList (by have := HTS.out; omega) (by rw [AT.out 0 hp0]; congr 1; exact UInt8.toNat_inj.1 h0) (by
          rw [show t.data.toList.length - 1 = t.size - 1 from by rw [HTS.out], AT.out _ hp1]; congr 1; exact UInt8.toNat_inj.1 h1)
        have HBODY := Lib.hid hbody
        have HBL : Hid (b.length = t.size - 2) := Lib.hid (by rw [hbl, ← HTS.out])
        have HST : Hid (numsV t.data.toList = (todo [] (b.drop (1 - 1))).map ([] ++ ·)) := Lib.hid (by
          rw [hbody, numsV_text]
          unfold todo
          simp)
        have HDROP : Hid (∀ a, 1 ≤ a → a + 1 ≤ t.size → t.data.toList.drop a = b.drop (a - 1) ++ [125]) := Lib.hid (fun a h1 h2 => by
          obtain ⟨a', rfl⟩ : ∃ a', a = a' + 1 := ⟨a - 1, by omega⟩
          rw [hbody]
          simp only [List.cons_append, List.nil_append, List.drop_succ_cons, Nat.add_sub_cancel]
          rw [List.drop_append_of_le_length (by have := HBL.out; omega)])
        obtain ⟨i0, hi, hz0, hz1, hz2⟩ := info_parts Tryd.info3
        clear hbody hbl
        go_enter Tryd.func73, Tryd.ntmps73
        go_wp2
        clear b0 b1 h0 h1
        go_loopw [4, 5] (fun v i wr => ∃ (a : Nat) (L : List Nat), 1 ≤ a ∧ a + 1 ≤ t.size ∧ i = .int .i64 a ∧ L.length ≤ a ∧ wr.ownsRow w.heap.size 3 1 v L.length (iv L) ∧ Below w.heap.size w wr ∧ Hid (numsV t.data.toList = (todo L (b.drop (a - 1))).map (L ++ ·)))
          (fun _ i _ => t.size - (intOf i).toNat)
        case atStart => exact ⟨1, [], by omega, by omega, rfl, by simp, World.ownsRow_nil _ _ _ _, Below.refl _ _, HST⟩
        case round =>
          obtain ⟨a, L, ha1, ha2, rfl, hL, hown, hb, Hto⟩ := hrel
          have hsz := hb.size
          obtain ⟨A, c, rfl, hRd⟩ := own_reads hown
          have HRD := Lib.hid hRd
          clear hRd
          by_cases hlt : a + 1 < t.size
          · have hlt' : (a : Int) < (t.size : Int) - 1 := by omega
            have hat : a < t.size := by omega
            have HR1 : Hid (b.drop (a - 1) = t[a] :: b.drop a) := Lib.hid (by
              have h1 := HDROP.out a ha1 ha2
              have h3 := AT.out a hat
              have h4 : (b.drop (a - 1) ++ [125])[0]? = some t[a] := by rw [← h1, List.getElem?_drop]; exact h3
              have h5 : a - 1 < b.length := by have := HBL.out; omega
              rw [List.getElem?_append_left (by rw [List.length_drop]; omega), List.getElem?_drop, List.getElem?_eq_getElem (by omega)] at h4
              rw [List.drop_eq_getElem_cons h5]
              injection h4 with h4
              simp at h4
              rw [h4, show a - 1 + 1 = a from by omega])
            by_cases hL0 : L = []
            · subst hL0
              have HTO : Hid (numsV t.data.toList = (numsL (sp (b.drop (a - 1)))).map (([] : List Nat) ++ ·)) := Lib.hid (by
                rw [Hto.out]; unfold todo
                rw [if_pos rfl, if_neg (by rw [HR1.out]; simp)])
              have HDR : Hid (t.data.toList.drop a = b.drop (a - 1) ++ [125]) := Lib.hid (HDROP.out a ha1 ha2)
              have HRL : Hid ((b.drop (a - 1)).length + a + 1 = t.size) := Lib.hid (by rw [List.length_drop, HBL.out]; omega)
              have HNA : Hid (lead (t.data.toList.drop (a)) = lead (b.drop (a - 1))) := Lib.hid (by rw [HDR.out, lead_brace])
              cases hv : numV (lead (b.drop (a - 1))) with
              | none =>
                have HRES : Hid (numsV t.data.toList = none) := Lib.hid (by rw [HTO.out, scan_step, hv]; rfl)
                have HNU : Hid (Calls Tryd.prog 112 #[.string t, .int .i64 ((a : Int))] wr fun e w' => e = .returned (.tuple #[.int .i64 ((a : Int)), .int .i64 0]) ∧ wr = w') := Lib.hid (by
                  have h := number_any t (a) wr hbig (by omega)
                  rw [show numAt t.data.toList (a) = (a, 0) from by unfold numAt; rw [HNA.out, hv]] at h
                  simpa using h)
                have eq1 : (((a : Int)) == ((a : Int))) = true := by simp
                have HBB := Lib.hid hb
                clear hv hown hb
                go_wp2_with fail
                refine (HNU.out).mono ?_
                rintro e w' ⟨rfl, rfl⟩
                go_wp2
                go_ret2
                exact ⟨HBB.out, .inl ⟨HRES.out, rfl⟩⟩
              | some n =>
                obtain ⟨m, hm⟩ : ∃ m, m = (lead (b.drop (a - 1))).length := ⟨_, rfl⟩
                have hm1 : 1 ≤ m := by rw [hm]; exact numV_pos hv
                have hm2 : a + m + 1 ≤ t.size := by
                  have h1 : (lead (b.drop (a - 1))).length ≤ (b.drop (a - 1)).length := by unfold lead; exact (List.takeWhile_sublist _).length_le
                  have h2 := HRL.out
                  omega
                have hn9 := numV_lt hv
                have HNU : Hid (Calls Tryd.prog 112 #[.string t, .int .i64 ((a : Int))] wr fun e w' => e = .returned (.tuple #[.int .i64 (((a : Int)) + (m : Int)), .int .i64 n]) ∧ wr = w') := Lib.hid (by
                  have h := number_any t (a) wr hbig (by omega)
                  rw [show numAt t.data.toList (a) = (a + m, n) from by unfold numAt; rw [HNA.out, hv, hm]] at h
                  simpa using h)
                have HTO2 : Hid (numsV t.data.toList = (todo (([] : List Nat) ++ [n]) (b.drop (a + m - 1))).map ((([] : List Nat) ++ [n]) ++ ·)) := Lib.hid (by
                  rw [HTO.out, todo_step ([] : List Nat) _ n hv, ← hm, List.drop_drop]
                  congr 3
                  omega)
                have eq1 : (((a : Int)) + (m : Int) == ((a : Int))) = false := by simp; omega
                have eq2 : ¬ ((t.size : Int) - 1 < ((a : Int)) + (m : Int)) := by omega
                clear hv hm
                go_wp2_with fail
                refine (HNU.out).mono ?_
                rintro e w' ⟨rfl, rfl⟩
                clear HNU
                go_wp2_with (at_builtin; refine wpList_append_own _ rfl _ _ 22 rfl w.heap.size 3 i0 (.int .i64 0) 1 8 Tryd.underlying22 hi hz0 hz1 hz2 rfl (by decide) _ _ _ rfl (hown.alloc _) ⟨wr.heap.size, 0, none⟩ 1 1 [.int .i64 n] rfl rfl ?c1 ?c2 ?c3 ?c4 ?c5 ?_)
                case c1 =>
                  intro j u hj
                  match j, hj with
                  | 0, hj => simp at hj; subst hj; simp [Addr.add]
                case c2 => intro u hu; simp at hu; subst hu; rfl
                case c3 => unfold maxLen; first | omega | (simp; done) | (simp; omega)
                case c4 => first | omega | (simp; done) | (simp; omega)
                case c5 => simp; omega
                · intro v' w3 hown' hgrow _
                  have hb4 : Below w.heap.size w w3 := (hb.alloc hsz _).grown hgrow (by simp; omega) (fun j hj => by have := (hown.lt j hj).1; omega)
                  clear hgrow hown hb
                  go_wp2
                  go_roundw
                  case rel => exact ⟨a + m, ([] : List Nat) ++ [n], by omega, by omega, by go_num, by rw [List.length_append]; simp; omega, by rw [iv_append, List.length_append]; exact hown', hb4, HTO2⟩
                  case measure => simp [intOf]; omega
            · have hLp : 0 < L.length := List.length_pos_iff.2 hL0
              have HTO0 : Hid (numsV t.data.toList = (restV (t[a] :: b.drop a)).map (L ++ ·)) := Lib.hid (by
                rw [Hto.out]; unfold todo; rw [if_neg hL0, HR1.out])
              have hd : decide (0 < L.length) = true := decide_eq_true hLp
              clear hL0
              by_cases hsp : t[a].toNat = 32
              · have HTO : Hid (numsV t.data.toList = (numsL (sp (b.drop a))).map (L ++ ·)) := Lib.hid (by
                  rw [HTO0.out, restV, if_pos (UInt8.toNat_inj.1 hsp)])
                have HDR : Hid (t.data.toList.drop (a + 1) = b.drop a ++ [125]) := Lib.hid (HDROP.out (a + 1) (by omega) (by omega))
                have HRL : Hid ((b.drop a).length + (a + 1) + 1 = t.size) := Lib.hid (by rw [List.length_drop, HBL.out]; omega)
                have c1 : ((t[a].toNat : Int) != 32) = false := by simp; omega
                clear hsp
                have HNA : Hid (lead (t.data.toList.drop (a + 1)) = lead (b.drop a)) := Lib.hid (by rw [HDR.out, lead_brace])
                cases hv : numV (lead (b.drop a)) with
                | none =>
                  have HRES : Hid (numsV t.data.toList = none) := Lib.hid (by rw [HTO.out, scan_step, hv]; rfl)
                  have HNU : Hid (Calls Tryd.prog 112 #[.string t, .int .i64 ((a : Int) + 1)] wr fun e w' => e = .returned (.tuple #[.int .i64 ((a : Int) + 1), .int .i64 0]) ∧ wr = w') := Lib.hid (by
                    have h := number_any t (a + 1) wr hbig (by omega)
                    rw [show numAt t.data.toList (a + 1) = (a + 1, 0) from by unfold numAt; rw [HNA.out, hv]] at h
                    simpa using h)
                  have eq1 : (((a : Int) + 1) == ((a : Int) + 1)) = true := by simp
                  have HBB := Lib.hid hb
                  clear hv hown hb
                  go_wp2_with fail
                  refine (HNU.out).mono ?_
                  rintro e w' ⟨rfl, rfl⟩
                  go_wp2
                  go_ret2
                  exact ⟨HBB.out, .inl ⟨HRES.out, rfl⟩⟩
                | some n =>
                  obtain ⟨m, hm⟩ : ∃ m, m = (lead (b.drop a)).length := ⟨_, rfl⟩
                  have hm1 : 1 ≤ m := by rw [hm]; exact numV_pos hv
                  have hm2 : a + 1 + m + 1 ≤ t.size := by
                    have h1 : (lead (b.drop a)).length ≤ (b.drop a).length := by unfold lead; exact (List.takeWhile_sublist _).length_le
                    have h2 := HRL.out
                    omega
                  have hn9 := numV_lt hv
                  have HNU : Hid (Calls Tryd.prog 112 #[.string t, .int .i64 ((a : Int) + 1)] wr fun e w' => e = .returned (.tuple #[.int .i64 (((a : Int) + 1) + (m : Int)), .int .i64 n]) ∧ wr = w') := Lib.hid (by
                    have h := number_any t (a + 1) wr hbig (by omega)
                    rw [show numAt t.data.toList (a + 1) = (a + 1 + m, n) from by unfold numAt; rw [HNA.out, hv, hm]] at h
                    simpa using h)
                  have HTO2 : Hid (numsV t.data.toList = (todo (L ++ [n]) (b.drop (a + 1 + m - 1))).map ((L ++ [n]) ++ ·)) := Lib.hid (by
                    rw [HTO.out, todo_step L _ n hv, ← hm, List.drop_drop]
                    congr 3
                    omega)
                  have eq1 : (((a : Int) + 1) + (m : Int) == ((a : Int) + 1)) = false := by simp; omega
                  have eq2 : ¬ ((t.size : Int) - 1 < ((a : Int) + 1) + (m : Int)) := by omega
                  clear hv hm
                  go_wp2_with fail
                  refine (HNU.out).mono ?_
                  rintro e w' ⟨rfl, rfl⟩
                  clear HNU
                  go_wp2_with (at_builtin; refine wpList_append_own _ rfl _ _ 22 rfl w.heap.size 3 i0 (.int .i64 0) 1 8 Tryd.underlying22 hi hz0 hz1 hz2 rfl (by decide) _ _ _ rfl (hown.alloc _) ⟨wr.heap.size, 0, none⟩ 1 1 [.int .i64 n] rfl rfl ?c1 ?c2 ?c3 ?c4 ?c5 ?_)
                  case c1 =>
                    intro j u hj
                    match j, hj with
                    | 0, hj => simp at hj; subst hj; simp [Addr.add]
                  case c2 => intro u hu; simp at hu; subst hu; rfl
                  case c3 => unfold maxLen; first | omega | (simp; done) | (simp; omega)
                  case c4 => first | omega | (simp; done) | (simp; omega)
                  case c5 => simp; omega
                  · intro v' w3 hown' hgrow _
                    have hb4 : Below w.heap.size w w3 := (hb.alloc hsz _).grown hgrow (by simp; omega) (fun j hj => by have := (hown.lt j hj).1; omega)
                    clear hgrow hown hb
                    go_wp2
                    go_roundw
                    case rel => exact ⟨a + 1 + m, L ++ [n], by omega, by omega, by go_num, by rw [List.length_append]; simp; omega, by rw [iv_append, List.length_append]; exact hown', hb4, HTO2⟩
                    case measure => simp [intOf]; omega
              · have HRES : Hid (numsV t.data.toList = none) := Lib.hid (by
                  rw [HTO0.out, restV, if_neg (fun e => hsp (by rw [e]; rfl))]; rfl)
                have c1 : ((t[a].toNat : Int) != 32) = true := by simp; omega
                have HBB := Lib.hid hb
                clear hsp hown hb
                go_wp2
                go_ret2
                exact ⟨HBB.out, .inl ⟨HRES.out, rfl⟩⟩
          · have HRES : Hid (numsV t.data.toList = some L) := Lib.hid (by
              rw [Hto.out, List.drop_eq_nil_of_le (by have := HBL.out; omega), todo_end])
            have HBB := Lib.hid hb
            have hge : ¬ ((a : Int) < (t.size : Int) - 1) := by omega
            clear hown hb hlt
            go_wp2
            go_ret2
            exact ⟨HBB.out, .inr ⟨L, A, c, HRES.out, rfl, HRD.out⟩⟩
      · have HRES : Hid (numsV t.data.toList = none) := Lib.hid (form_no _ (fun ⟨_, _, x⟩ => h1 (by
          rw [show t.data.toList.length - 1 = t.size - 1 from by rw [HTS.out], AT.out _ hp1] at x
          injection x with x; rw [x]; rfl)))
        have b0 : ((t[0].toNat : Int) != 123) = false := by simp; omega
        have b1 : ((t[t.size - 1].toNat : Int) != 125) = true := by simp; omega
        clear h1
        go_enter Tryd.func73, Tryd.ntmps73
        go_wp2
        go_ret2
        exact ⟨Below.refl _ _, .inl ⟨HRES.out, rfl⟩⟩
    · have HRES : Hid (numsV t.data.toList = none) := Lib.hid (form_no _ (fun ⟨_, x, _⟩ => h0 (by
        rw [AT.out _ hp0] at x
        injection x with x; rw [x]; rfl)))
      have b0 : ((t[0].toNat : Int) != 123) = true := by simp; omega
      clear h0
      go_enter Tryd.func73, Tryd.ntmps73
      go_wp2
      go_ret2
      exact ⟨Below.refl _ _, .inl ⟨HRES.out, rfl⟩⟩
  · have HRES : Hid (numsV t.data.toList = none) := Lib.hid (form_no _ (fun ⟨x, _, _⟩ => h2 (by have := HTS.out; omega)))
    have h2' : (t.size : Int) < 2 := by omega
    clear h2
    go_enter Tryd.func73, Tryd.ntmps73
    go_wp2
    go_ret2
    exact ⟨Below.refl _ _, .inl ⟨HRES.out, rfl⟩⟩
/-- the first error of some numbers, by the loop that looks at two at a time; 0 if there is none -/
def errV : List Nat → Nat → Nat → Int
  | _, _, 0 => 0
  | l, k, j + 1 => if 64 ≤ l.getD k 0 then 2 else if 0 < k ∧ l.getD k 0 ≤ l.getD (k - 1) 0 then 9 else errV l (k + 1) j
/-- what is left to look at from place k on, the number before it in mind -/
theorem err_chk : ∀ (j k : Nat) (l : List Nat) (b : Int) (s : Nat), k + j = l.length → (0 < k → b = (l.getD (k - 1) 0 : Nat)) → (k = 0 → b = -1) →
    (errV l k j ≠ 0 → chkV (l.drop k) b s = (0, errV l k j)) ∧ (errV l k j = 0 → (∀ i, k ≤ i → i < l.length → l.getD i 0 < 64 ∧ (0 < i → l.getD (i - 1) 0 < l.getD i 0))) := by
  intro j
  induction j with
  | zero =>
    intro k l b s h _ _
    refine ⟨fun h => absurd rfl h, fun _ i hi hl => by omega⟩
  | succ j ih =>
    intro k l b s h hb hb0
    have hk : k < l.length := by omega
    have hd : l.drop k = l.getD k 0 :: l.drop (k + 1) := by
      rw [List.drop_eq_getElem_cons hk, List.getD_eq_getElem?_getD, List.getElem?_eq_getElem hk]; rfl
    rw [hd, errV]
    by_cases h1 : 64 ≤ l.getD k 0
    · rw [if_pos h1]
      exact ⟨fun _ => by rw [chkV, if_neg (by omega)], fun h => by cases h⟩
    · rw [if_neg h1]
      by_cases h2 : 0 < k ∧ l.getD k 0 ≤ l.getD (k - 1) 0
      · rw [if_pos h2]
        exact ⟨fun _ => by rw [chkV, if_pos (by omega), if_pos (by have := hb h2.1; omega)], fun h => by cases h⟩
      · rw [if_neg h2]
        have hgt : ¬ ((l.getD k 0 : Nat) : Int) ≤ b := by
          by_cases hk0 : k = 0
          · have := hb0 hk0; omega
          · have := hb (by omega); omega
        obtain ⟨i1, i2⟩ := ih (k + 1) l (l.getD k 0 : Nat) (s ||| p2 (l.getD k 0)) (by omega) (fun _ => by simp) (fun h => by omega)
        refine ⟨fun h => by rw [chkV, if_pos (by omega), if_neg hgt, i1 h], fun h i hi hl => ?_⟩
        by_cases hik : i = k
        · subst hik
          exact ⟨by omega, fun h0 => by omega⟩
        · exact i2 h i (by omega) hl
theorem asc_of : ∀ (l : List Nat) (b : Nat), (∀ i, i < l.length → (0 < i → l.getD (i - 1) 0 < l.getD i 0)) → (∀ x, l[0]? = some x → b ≤ x) → Asc b l
  | [], _, _, _ => trivial
  | w :: l, b, h, hb => by
    refine ⟨hb w rfl, asc_of l (w + 1) (fun i hi h0 => ?_) (fun x hx => ?_)⟩
    · have := h (i + 1) (by simp; omega) (by omega)
      obtain ⟨i', rfl⟩ : ∃ i', i = i' + 1 := ⟨i - 1, by omega⟩
      simpa using this
    · have hl : 0 < l.length := (List.getElem?_eq_some_iff.1 hx).1
      have := h 1 (by simp; omega) (by omega)
      simp only [Nat.sub_self, List.getD_cons_zero, List.getD_cons_succ] at this
      rw [List.getD_eq_getElem?_getD, hx] at this
      have h3 : w < x := by simpa using this
      omega
end Go.Proofs.YtnkjcieeckibbaaDoor
