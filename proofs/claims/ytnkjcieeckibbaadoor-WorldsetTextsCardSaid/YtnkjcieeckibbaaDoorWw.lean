/- Contract: the reference's Parse. -/
import Derived.Test.YtnkjcieeckibbaaDoorWv
namespace Go.Proofs.YtnkjcieeckibbaaDoor
open Go.RowKit Go.Proofs.Ws
theorem parse_err (l : List Nat) (h : errV l 0 l.length ≠ 0) : chkV l (-1) 0 = (0, errV l 0 l.length) := by
  have := (err_chk l.length 0 l (-1) 0 (by omega) (fun h => by omega) (fun _ => rfl)).1 h
  simpa using this
theorem parse_ok (l : List Nat) (h : errV l 0 l.length = 0) : chkV l (-1) 0 = ofV (l.map (fun k : Nat => (k : Int))) 0 := by
  have h1 := (err_chk l.length 0 l (-1) 0 (by omega) (fun h => by omega) (fun _ => rfl)).2 h
  have ha : Asc 0 l := asc_of l 0 (fun i hi h0 => (h1 i (by omega) hi).2 h0) (fun _ _ => Nat.zero_le _)
  have hl : ∀ j ∈ l, j < 64 := fun j hj => by
    obtain ⟨i, hi, he⟩ := List.getElem_of_mem hj
    have := (h1 i (by omega) hi).1
    rw [List.getD_eq_getElem?_getD, List.getElem?_eq_getElem hi, he] at this
    simpa using this
  rw [chkV_asc l 0 (-1) 0 ha hl (by omega), ofV_asc l 0 0 ha hl (fun x _ => Nat.zero_testBit x)]
theorem getD_at (l : List Nat) (k : Nat) (x : Nat) (h : l[k]? = some x) : l.getD k 0 = x := by rw [List.getD_eq_getElem?_getD, h]; rfl
set_option maxRecDepth 100000 in
set_option maxHeartbeats 3200000 in
theorem refParse_any (t : ByteArray) (w : World) (hbig : t.size ≤ 1000000) :
    Calls Tryd.prog 38 #[.string t] w fun e w' => e = .returned (.tuple #[.int .u64 (parseV t.data.toList).1, .int .i64 (parseV t.data.toList).2]) ∧ Below w.heap.size w w' := by
  have HN := Lib.hid (numbers_any t w hbig)
  have HTS := Lib.hid (ba_size t)
  go_enter Tryd.func38, Tryd.ntmps38
  go_wp2_with fail
  refine (HN.out).mono ?_
  rintro e w1 ⟨hb, h⟩
  have HB := Lib.hid hb
  clear hb HN
  rcases h with ⟨hn, rfl⟩ | ⟨l, A, c, hn, rfl, hR⟩
  · have HE : Hid (parseV t.data.toList = (0, 4)) := Lib.hid (by unfold parseV; rw [hn])
    clear hn
    go_wp2
    go_ret2
    exact ⟨by rw [HE.out]; rfl, HB.out⟩
  · have HE : Hid (parseV t.data.toList = chkV l (-1) 0) := Lib.hid (by unfold parseV; rw [hn])
    obtain ⟨hl9, hll⟩ := numsV_lt hn
    have hl : l.length ≤ 1000001 := by have := HTS.out; omega
    have HL9 := Lib.hid hl9
    clear hn hl9 hll
    go_wp2
    go_loopw [6] (fun i wr => ∃ k : Nat, k ≤ l.length ∧ i = .int .i64 k ∧ Below w1.heap.size w1 wr ∧ Hid (errV l 0 l.length = errV l k (l.length - k))) (fun i _ => l.length - (intOf i).toNat)
    case atStart => exact ⟨0, Nat.zero_le _, rfl, Below.refl _ _, Lib.hid rfl⟩
    case round =>
      obtain ⟨k, hk, rfl, hb, Ho⟩ := hrel
      have hRr := hR.below hb
      have HBB := Lib.hid (HB.out.trans (hb.mono HB.out.size))
      by_cases hlt : k < l.length
      · obtain ⟨ad, u, rfl, hbk, hu, hc⟩ := hRr.at_ hlt
        obtain ⟨n, hn, rfl⟩ := iv_get _ _ _ hu
        have hnb : n < 1000000000 := HL9.out n (List.mem_of_getElem? hn)
        have HG : Hid (l.getD k 0 = n) := Lib.hid (getD_at l k n hn)
        have HST : Hid (errV l k (l.length - k) = if 64 ≤ l.getD k 0 then 2 else if 0 < k ∧ l.getD k 0 ≤ l.getD (k - 1) 0 then 9 else errV l (k + 1) (l.length - (k + 1))) := Lib.hid (by
          rw [show l.length - k = (l.length - (k + 1)) + 1 from by omega, errV])
        clear hu hn
        by_cases h64 : 64 ≤ n
        · have HR : Hid (parseV t.data.toList = (0, 2)) := Lib.hid (by
            have h3 : errV l 0 l.length = 2 := by rw [Ho.out, HST.out, HG.out, if_pos h64]
            rw [HE.out, parse_err l (by rw [h3]; decide), h3])
          have h64' : (64 : Int) ≤ (n : Int) := by omega
          clear h64 hb
          go_wp2
          go_ret2
          exact ⟨by rw [HR.out]; rfl, HBB.out⟩
        · have h64' : ¬ (64 : Int) ≤ (n : Int) := by omega
          by_cases hk0 : k = 0
          · have HR : Hid (errV l 0 l.length = errV l (k + 1) (l.length - (k + 1))) := Lib.hid (by
              rw [Ho.out, HST.out, HG.out, if_neg h64, if_neg (fun x => by omega)])
            have hd : decide (0 < k) = false := decide_eq_false (by omega)
            clear h64 hk0
            go_wp2
            go_quiet (fail)
            go_wp2
            go_roundw
            case rel => exact ⟨k + 1, by omega, by go_num, by first | exact hb | exact hb.drew | exact below_drewN hb _, HR⟩
            case measure => simp [intOf]; omega
          · obtain ⟨ad', u, hA', _, hu, hc'⟩ := hRr.at_ (show k - 1 < l.length by omega)
            injection hA' with hA'
            subst hA'
            obtain ⟨m, hm, rfl⟩ := iv_get _ _ _ hu
            have hmb : m < 1000000000 := HL9.out m (List.mem_of_getElem? hm)
            have HGm : Hid (l.getD (k - 1) 0 = m) := Lib.hid (getD_at l (k - 1) m hm)
            have hd : decide (0 < k) = true := decide_eq_true (by omega)
            have hkp : 0 < k := by omega
            clear hu hm hk0
            by_cases hle : n ≤ m
            · have HR : Hid (parseV t.data.toList = (0, 9)) := Lib.hid (by
                have h3 : errV l 0 l.length = 9 := by rw [Ho.out, HST.out, HG.out, HGm.out, if_neg h64, if_pos ⟨by omega, hle⟩]
                rw [HE.out, parse_err l (by rw [h3]; decide), h3])
              have hle' : (n : Int) ≤ (m : Int) := by omega
              clear h64
              go_wp2
              go_quiet (fail)
              go_wp2
              go_ret2
              exact ⟨by rw [HR.out]; rfl, by first | exact HBB.out | exact HBB.out.drew | exact below_drewN HBB.out _⟩
            · have HR : Hid (errV l 0 l.length = errV l (k + 1) (l.length - (k + 1))) := Lib.hid (by
                rw [Ho.out, HST.out, HG.out, HGm.out, if_neg h64, if_neg (fun x => hle x.2)])
              have hle' : ¬ (n : Int) ≤ (m : Int) := by omega
              clear h64
              go_wp2
              go_quiet (fail)
              go_wp2
              go_roundw
              case rel => exact ⟨k + 1, by omega, by go_num, by first | exact hb | exact hb.drew | exact below_drewN hb _, HR⟩
              case measure => simp [intOf]; omega
      · have HR : Hid (parseV t.data.toList = ofV (l.map (fun k : Nat => (k : Int))) 0) := Lib.hid (by
          have h3 : errV l 0 l.length = 0 := by rw [Ho.out, show l.length - k = 0 from by omega, errV]
          rw [HE.out, parse_ok l h3])
        have HOF := Lib.hid (refOf_any (l.map (fun k : Nat => (k : Int))) A l.length c _ wr (by rw [← iv_ints]; exact hRr) (by omega))
        obtain ⟨r1, hr1⟩ : ∃ r, r = (ofV (l.map (fun k : Nat => (k : Int))) 0).1 := ⟨_, rfl⟩
        obtain ⟨r2, hr2⟩ : ∃ r, r = (ofV (l.map (fun k : Nat => (k : Int))) 0).2 := ⟨_, rfl⟩
        have HR2 : Hid (parseV t.data.toList = (r1, r2)) := Lib.hid (by rw [HR.out, hr1, hr2])
        rw [← hr1, ← hr2] at HOF
        clear hr1 hr2 HR hb
        go_wp2_with fail
        refine (HOF.out).mono ?_
        rintro e w' ⟨rfl, rfl⟩
        go_wp2
        go_ret2
        exact ⟨by rw [HR2.out]; rfl, HBB.out⟩
end Go.Proofs.YtnkjcieeckibbaaDoor
