/- Contracts: the program's Parse. -/
import Derived.Test.YtnkjcieeckibbaaDoorWl
namespace Go.Proofs.YtnkjcieeckibbaaDoor
open Go.RowKit Go.Proofs.Ws
/-- the set of some numbers that ascend from above b, or the error of the first that has one -/
def chkV : List Nat → Int → Nat → Nat × Int
  | [], _, s => (s, 0)
  | n :: l, b, s => if n < 64 then (if (n : Int) ≤ b then (0, 9) else chkV l n (s ||| p2 n)) else (0, 2)
/-- the set of a text, or the error -/
def parseV (p : List UInt8) : Nat × Int := match numsV p with
  | none => (0, 4)
  | some l => chkV l (-1) 0
theorem numV_lt {p : List UInt8} {n : Nat} (h : numV p = some n) : n < 1000000000 := by
  unfold numV at h
  split at h
  · rename_i hx
    injection h with h
    have h1 := val_lt p hx.2.2.2
    have h2 : 10 ^ p.length ≤ 10 ^ 9 := Nat.pow_le_pow_right (by decide) hx.2.1
    omega
  · cases h
theorem numsL_lt : ∀ {ps : List (List UInt8)} {l : List Nat}, numsL ps = some l → (∀ n ∈ l, n < 1000000000) ∧ l.length = ps.length := by
  intro ps
  induction ps with
  | nil => intro l h; rw [numsL] at h; injection h with h; subst h; simp
  | cons p ps ih =>
    intro l h
    rw [numsL] at h
    split at h
    · cases h
    · rename_i n hn
      rw [Option.map_eq_some_iff] at h
      obtain ⟨l', h1, rfl⟩ := h
      obtain ⟨h2, h3⟩ := ih h1
      refine ⟨fun x hx => ?_, by simp [h3]⟩
      rcases List.mem_cons.1 hx with rfl | hx
      · exact numV_lt hn
      · exact h2 x hx
theorem sp_count (l : List UInt8) : (sp l).length ≤ l.length + 1 := by
  induction l with
  | nil => simp [sp]
  | cons c r ih =>
    unfold sp
    split
    · simp; omega
    · split
      · simp
      · rename_i q qs hq
        rw [hq] at ih
        simp at ih ⊢
        omega
theorem numsV_lt {p : List UInt8} {l : List Nat} (h : numsV p = some l) : (∀ n ∈ l, n < 1000000000) ∧ l.length ≤ p.length + 1 := by
  unfold numsV at h
  split at h
  · split at h
    · injection h with h; subst h; simp
    · obtain ⟨h1, h2⟩ := numsL_lt h
      refine ⟨h1, ?_⟩
      have h3 := sp_count (Lib.trimSuffix (Lib.trimPrefix p [123]) [125])
      have h4 : (Lib.trimSuffix (Lib.trimPrefix p [123]) [125]).length ≤ p.length := by
        simp only [Lib.trimSuffix, Lib.trimPrefix]
        split <;> split <;> simp <;> omega
      omega
  · cases h
set_option maxRecDepth 100000 in
set_option maxHeartbeats 3200000 in
theorem parse_any (t : ByteArray) (w : World) (hbig : t.size ≤ 1000000) (hE : Env w) :
    Calls Tryd.prog 37 #[.string t] w fun e w' => e = .returned (.tuple #[.int .u64 (parseV t.data.toList).1, .int .i64 (parseV t.data.toList).2]) ∧ Below w.heap.size w w' := by
  have HN := Lib.hid (numbersOf_any t w hbig hE)
  have hts := ba_size t
  have HTS := Lib.hid hts
  clear hE hts
  go_enter Tryd.func37, Tryd.ntmps37
  go_wp2_with fail
  refine (HN.out).mono ?_
  rintro e w1 ⟨hb, h⟩
  have HB := Lib.hid hb
  clear hb HN
  rcases h with ⟨hn, rfl⟩ | ⟨l, A, c, hn, rfl, hR⟩
  · have HE : Hid (parseV t.data.toList = (0, 4)) := Lib.hid (by unfold parseV; rw [hn])
    clear hn
    go_wp2
    go_ret2
    exact ⟨by rw [HE.out]; rfl, HB.out⟩
  · have HE : Hid (parseV t.data.toList = chkV l (-1) 0) := Lib.hid (by unfold parseV; rw [hn])
    obtain ⟨hl9, hll⟩ := numsV_lt hn
    have hl : l.length ≤ 1000001 := by have := HTS.out; omega
    have HL9 := Lib.hid hl9
    clear hn hl9 hll
    go_wp2
    go_loop [6, 7, 19] (fun sv bv i => ∃ (k s : Nat) (b : Int), k ≤ l.length ∧ i = .int .i64 k ∧ sv = .int .u64 s ∧ bv = .int .i64 b ∧ Hid (s < 18446744073709551616) ∧ Hid (chkV l (-1) 0 = chkV (l.drop k) b s)) (fun _ _ i => l.length - (intOf i).toNat)
    case atStart => exact ⟨0, 0, -1, Nat.zero_le _, rfl, rfl, rfl, Lib.hid (by omega), Lib.hid rfl⟩
    case round =>
      obtain ⟨k, s, b, hk, rfl, rfl, rfl, Hs, Ho⟩ := hrel
      by_cases hlt : k < l.length
      · obtain ⟨ad, u, rfl, hbk, hu, hc⟩ := hR.at_ hlt
        obtain ⟨n, hn, rfl⟩ := iv_get _ _ _ hu
        have hnb : n < 1000000000 := HL9.out n (List.mem_of_getElem? hn)
        have HD : Hid (l.drop k = n :: l.drop (k + 1)) := Lib.hid (by
          rw [List.drop_eq_getElem_cons hlt]
          rw [List.getElem?_eq_getElem hlt] at hn
          simp at hn
          rw [hn])
        clear hu hn
        by_cases h64 : n < 64
        · have H1 := Lib.hid (isWorld_yes n w1 ⟨by omega, by omega⟩)
          by_cases hle : (n : Int) ≤ b
          · have HR : Hid (chkV l (-1) 0 = (0, 9)) := Lib.hid (by rw [Ho.out, HD.out, chkV, if_pos h64, if_pos hle])
            go_wp2_with (go_at_call 67; refine (H1.out).mono ?_; rintro e w' ⟨rfl, rfl⟩)
            go_ret2
            exact ⟨by rw [HE.out, HR.out]; rfl, HB.out⟩
          · have HR : Hid (chkV l (-1) 0 = chkV (l.drop (k + 1)) n (s ||| p2 n)) := Lib.hid (by rw [Ho.out, HD.out, chkV, if_pos h64, if_neg hle])
            have H3 := Lib.hid (only_any n w1 h64)
            have hor := or_pow s n Hs.out h64
            have HO := Lib.hid hor.2
            have hor1 := hor.1
            clear hor
            go_wp2_with (first | (go_at_call 67; refine (H1.out).mono ?_; rintro e w' ⟨rfl, rfl⟩) | (go_at_call 68; refine (H3.out).mono ?_; rintro e w' ⟨rfl, rfl⟩))
            go_round
            case rel => exact ⟨k + 1, s ||| p2 n, n, by omega, by go_num, by first | rfl | go_num, rfl, HO, HR⟩
            case measure => simp [intOf]; omega
        · have H1 := Lib.hid (isWorld_no n w1 (by omega))
          have HR : Hid (chkV l (-1) 0 = (0, 2)) := Lib.hid (by rw [Ho.out, HD.out, chkV, if_neg h64])
          go_wp2_with (go_at_call 67; refine (H1.out).mono ?_; rintro e w' ⟨rfl, rfl⟩)
          go_ret2
          exact ⟨by rw [HE.out, HR.out]; rfl, HB.out⟩
      · have HR : Hid (chkV l (-1) 0 = (s, 0)) := Lib.hid (by rw [Ho.out, List.drop_eq_nil_of_le (by omega), chkV])
        go_wp2
        go_ret2
        exact ⟨by rw [HE.out, HR.out]; rfl, HB.out⟩
end Go.Proofs.YtnkjcieeckibbaaDoor
