/- Contracts: the reference's Format. -/
import Derived.Test.YtnkjcieeckibbaaDoorWi
namespace Go.Proofs.YtnkjcieeckibbaaDoor
open Go.RowKit Go.Proofs.Ws
theorem ba_append (a b : ByteArray) : (a ++ b).data.toList = a.data.toList ++ b.data.toList := by
  rw [ByteArray.data_append]; simp
theorem ba_eq {a : ByteArray} {l : List UInt8} (h : a.data.toList = l) : a = ⟨l.toArray⟩ := by
  cases a; simp at h; subst h; simp
theorem ret_str {a b : ByteArray} (h : a = b) : Ending.returned (.string a) = .returned (.string b) := by rw [h]
theorem ba_size (a : ByteArray) : a.size = a.data.toList.length := by rw [Array.length_toList]; rfl
set_option maxRecDepth 100000 in
set_option maxHeartbeats 3200000 in
theorem refFormat_any (s : Nat) (w : World) (hs : s < 18446744073709551616) :
    Calls Tryd.prog 40 #[.int .u64 s] w fun e w' => e = .returned (.string ⟨(fmtV s).toArray⟩) ∧ Below w.heap.size w w' := by
  have HC := Lib.hid (refMembers_any s w hs)
  have hm := mem_length_le s
  clear hs
  go_enter Tryd.func40, Tryd.ntmps40
  go_wp2_with fail
  refine (HC.out).mono ?_
  rintro e w1 ⟨A, c, rfl, hR, hb⟩
  have HB := Lib.hid hb
  clear hb HC
  go_wp2
  go_loop [4, 5] (fun v i => ∃ (k : Nat) (t : ByteArray), k ≤ (mem s).length ∧ i = .int .i64 k ∧ v = .string t ∧ t.size ≤ 1 + 3 * k ∧ Hid (t.data.toList ++ (fmtL ((mem s).drop k) (k == 0) ++ [125]) = fmtV s))
    (fun _ i => (mem s).length - (intOf i).toNat)
  case atStart => exact ⟨0, ⟨#[123]⟩, Nat.zero_le _, rfl, rfl, by decide, Lib.hid rfl⟩
  case round =>
    obtain ⟨k, t, hk, rfl, rfl, ht, Hf⟩ := hrel
    by_cases hlt : k < (mem s).length
    · obtain ⟨ad, u, rfl, hbk, hu, hc⟩ := hR.at_ hlt
      obtain ⟨j, hj, rfl⟩ := iv_get _ _ _ hu
      have hj64 : j < 64 := mem_lt s j (List.mem_of_getElem? hj)
      have HD : Hid ((mem s).drop k = j :: (mem s).drop (k + 1)) := Lib.hid (by
        rw [List.drop_eq_getElem_cons hlt]
        rw [List.getElem?_eq_getElem hlt] at hj
        simp at hj
        rw [hj])
      have hdig := digits_small j (by omega)
      obtain ⟨d, hd⟩ : ∃ d : ByteArray, d = ⟨(Lib.decDigits j).toArray⟩ := ⟨_, rfl⟩
      have hds : d.size ≤ 2 := by rw [ba_size, hd]; simpa using hdig
      have HDD : Hid (d.data.toList = Lib.decDigits j) := Lib.hid (by rw [hd])
      have HI := Lib.hid (itoa_any j (by omega) w1)
      rw [← hd] at HI
      clear hu hj hd hdig
      by_cases hk0 : k = 0
      · subst hk0
        have Hf2 : Hid ((t ++ d).data.toList ++ (fmtL ((mem s).drop (0 + 1)) (0 + 1 == 0) ++ [125]) = fmtV s) := Lib.hid (by rw [ba_append, HDD.out, ← Hf.out, HD.out]; simp [fmtL])
        have hc0 : w1.cell? ad = some (.int .i64 (j : Int)) := by simpa [Addr.add] using hc
        clear hc
        go_wp2_with (go_at_call 76; refine (HI.out).mono ?_; rintro e w' ⟨rfl, rfl⟩)
        go_round
        case rel => exact ⟨0 + 1, t ++ d, by omega, by go_num, rfl, by rw [ByteArray.size_append]; omega, Hf2⟩
        case measure => simp [intOf]; omega
      · have Hf2 : Hid (((t ++ ⟨#[32]⟩) ++ d).data.toList ++ (fmtL ((mem s).drop (k + 1)) (k + 1 == 0) ++ [125]) = fmtV s) := Lib.hid (by rw [ba_append, ba_append, HDD.out, ← Hf.out, HD.out]; simp [fmtL, hk0])
        have hkp : 0 < k := by omega
        have h32 : (⟨#[32]⟩ : ByteArray).size = 1 := rfl
        have hts : (t ++ (⟨#[32]⟩ : ByteArray)).size ≤ 2 + 3 * k := by rw [ByteArray.size_append, h32]; omega
        clear hk0 h32
        go_wp2_with (go_at_call 76; refine (HI.out).mono ?_; rintro e w' ⟨rfl, rfl⟩)
        go_round
        case rel => exact ⟨k + 1, (t ++ ⟨#[32]⟩) ++ d, by omega, by go_num, rfl, by rw [ByteArray.size_append]; omega, Hf2⟩
        case measure => simp [intOf]; omega
    · have HE : Hid (t ++ ⟨#[125]⟩ = ⟨(fmtV s).toArray⟩) := Lib.hid (ba_eq (by rw [ba_append, ← Hf.out, List.drop_eq_nil_of_le (by omega)]; rfl))
      go_wp2
      go_ret
      exact ⟨ret_str HE.out, HB.out⟩
end Go.Proofs.YtnkjcieeckibbaaDoor
