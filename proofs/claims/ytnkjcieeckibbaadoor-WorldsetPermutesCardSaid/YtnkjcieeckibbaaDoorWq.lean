/- Contract: the law's own count of worlds. -/
import Derived.Test.YtnkjcieeckibbaaDoorWb
namespace Go.Proofs.YtnkjcieeckibbaaDoor
open Go.RowKit Go.Proofs.Ws
set_option maxRecDepth 100000 in
theorem bits_any (s : Nat) (w : World) (hs : s < 18446744073709551616) :
    Calls Tryd.prog 41 #[.int .u64 s] w fun e w' => e = .returned (.int .i64 ((mem s).length : Int)) ∧ w = w' := by
  have HS := Lib.hid hs
  have hl := mem_length_le s
  clear hs
  go_enter Tryd.func41, Tryd.ntmps41
  go_wp2
  go_loop [0, 3] (fun sv nv => ∃ r n : Nat, sv = .int .u64 r ∧ nv = .int .i64 n ∧ n ≤ 64 ∧ Hid (r < 18446744073709551616) ∧ Hid (n + (mem r).length = (mem s).length)) (fun sv _ => (intOf sv).toNat)
  case atStart => exact ⟨s, 0, rfl, rfl, by omega, HS, Lib.hid (by omega)⟩
  case round =>
    obtain ⟨r, n, rfl, rfl, hn, Hr, Hm⟩ := hrel
    by_cases h0 : r = 0
    · subst h0
      have HE : Hid (n = (mem s).length) := Lib.hid (by have := Hm.out; rw [mem_zero] at this; simpa using this)
      go_wp2
      go_ret
      exact ⟨ret_i64 (by rw [HE.out]), rfl⟩
    · have hne : ((r : Int) != 0) = true := by simp; omega
      have hap := andpred r h0 Hr.out
      have hml : (mem r).length = (mem (r &&& (r - 1))).length + 1 := by rw [mem_step r h0 Hr.out]; rfl
      have HM : Hid (n + 1 + (mem (r &&& (r - 1))).length = (mem s).length) := Lib.hid (by have := Hm.out; omega)
      have hn2 : n + 1 ≤ 64 := by have := Hm.out; omega
      have HPL := Lib.hid (and_pred_lt r h0)
      clear h0 hml
      go_wp2
      go_round
      case rel => exact ⟨r &&& (r - 1), n + 1, rfl, by go_num, hn2, Lib.hid (by have := HPL.out; have := Hr.out; omega), HM⟩
      case measure => have := HPL.out; simp [intOf]; omega
end Go.Proofs.YtnkjcieeckibbaaDoor
