/- Layer 5: the reference's small functions about operators. -/
import Derived.Test.YtcbmncafmofcpaaKf
namespace Go.Proofs.Ytcbmncafmofcpaa
open Go.RowKit Go.Proofs.Ws
theorem rUsesX_1 (w : World) : Calls Try.prog 45 #[.int .i64 1] w fun e w' => e = .returned (.bool (usesX 1)) ∧ w = w' := by
  go_enter Try.func45, Try.ntmps45
  go_wp2
  go_ret
  exact ⟨rfl, rfl⟩
theorem rUsesX_2 (w : World) : Calls Try.prog 45 #[.int .i64 2] w fun e w' => e = .returned (.bool (usesX 2)) ∧ w = w' := by
  go_enter Try.func45, Try.ntmps45
  go_wp2
  go_ret
  exact ⟨rfl, rfl⟩
theorem rUsesX_3 (w : World) : Calls Try.prog 45 #[.int .i64 3] w fun e w' => e = .returned (.bool (usesX 3)) ∧ w = w' := by
  go_enter Try.func45, Try.ntmps45
  go_wp2
  go_ret
  exact ⟨rfl, rfl⟩
theorem rUsesX_4 (w : World) : Calls Try.prog 45 #[.int .i64 4] w fun e w' => e = .returned (.bool (usesX 4)) ∧ w = w' := by
  go_enter Try.func45, Try.ntmps45
  go_wp2
  go_ret
  exact ⟨rfl, rfl⟩
theorem rUsesX_5 (w : World) : Calls Try.prog 45 #[.int .i64 5] w fun e w' => e = .returned (.bool (usesX 5)) ∧ w = w' := by
  go_enter Try.func45, Try.ntmps45
  go_wp2
  go_ret
  exact ⟨rfl, rfl⟩
theorem rUsesX_6 (w : World) : Calls Try.prog 45 #[.int .i64 6] w fun e w' => e = .returned (.bool (usesX 6)) ∧ w = w' := by
  go_enter Try.func45, Try.ntmps45
  go_wp2
  go_ret
  exact ⟨rfl, rfl⟩
theorem rUsesX_7 (w : World) : Calls Try.prog 45 #[.int .i64 7] w fun e w' => e = .returned (.bool (usesX 7)) ∧ w = w' := by
  go_enter Try.func45, Try.ntmps45
  go_wp2
  go_ret
  exact ⟨rfl, rfl⟩
theorem rUsesX_8 (w : World) : Calls Try.prog 45 #[.int .i64 8] w fun e w' => e = .returned (.bool (usesX 8)) ∧ w = w' := by
  go_enter Try.func45, Try.ntmps45
  go_wp2
  go_ret
  exact ⟨rfl, rfl⟩
theorem rUsesX_9 (w : World) : Calls Try.prog 45 #[.int .i64 9] w fun e w' => e = .returned (.bool (usesX 9)) ∧ w = w' := by
  go_enter Try.func45, Try.ntmps45
  go_wp2
  go_ret
  exact ⟨rfl, rfl⟩
theorem rUsesX_10 (w : World) : Calls Try.prog 45 #[.int .i64 10] w fun e w' => e = .returned (.bool (usesX 10)) ∧ w = w' := by
  go_enter Try.func45, Try.ntmps45
  go_wp2
  go_ret
  exact ⟨rfl, rfl⟩
theorem rUsesX_11 (w : World) : Calls Try.prog 45 #[.int .i64 11] w fun e w' => e = .returned (.bool (usesX 11)) ∧ w = w' := by
  go_enter Try.func45, Try.ntmps45
  go_wp2
  go_ret
  exact ⟨rfl, rfl⟩
theorem rUsesX_12 (w : World) : Calls Try.prog 45 #[.int .i64 12] w fun e w' => e = .returned (.bool (usesX 12)) ∧ w = w' := by
  go_enter Try.func45, Try.ntmps45
  go_wp2
  go_ret
  exact ⟨rfl, rfl⟩
theorem rUsesX_13 (w : World) : Calls Try.prog 45 #[.int .i64 13] w fun e w' => e = .returned (.bool (usesX 13)) ∧ w = w' := by
  go_enter Try.func45, Try.ntmps45
  go_wp2
  go_ret
  exact ⟨rfl, rfl⟩
theorem rUsesX_14 (w : World) : Calls Try.prog 45 #[.int .i64 14] w fun e w' => e = .returned (.bool (usesX 14)) ∧ w = w' := by
  go_enter Try.func45, Try.ntmps45
  go_wp2
  go_ret
  exact ⟨rfl, rfl⟩
theorem rUsesX_15 (w : World) : Calls Try.prog 45 #[.int .i64 15] w fun e w' => e = .returned (.bool (usesX 15)) ∧ w = w' := by
  go_enter Try.func45, Try.ntmps45
  go_wp2
  go_ret
  exact ⟨rfl, rfl⟩
theorem rUsesX_16 (w : World) : Calls Try.prog 45 #[.int .i64 16] w fun e w' => e = .returned (.bool (usesX 16)) ∧ w = w' := by
  go_enter Try.func45, Try.ntmps45
  go_wp2
  go_ret
  exact ⟨rfl, rfl⟩
theorem rUsesX_17 (w : World) : Calls Try.prog 45 #[.int .i64 17] w fun e w' => e = .returned (.bool (usesX 17)) ∧ w = w' := by
  go_enter Try.func45, Try.ntmps45
  go_wp2
  go_ret
  exact ⟨rfl, rfl⟩
theorem rUsesX_18 (w : World) : Calls Try.prog 45 #[.int .i64 18] w fun e w' => e = .returned (.bool (usesX 18)) ∧ w = w' := by
  go_enter Try.func45, Try.ntmps45
  go_wp2
  go_ret
  exact ⟨rfl, rfl⟩
theorem rUsesX_19 (w : World) : Calls Try.prog 45 #[.int .i64 19] w fun e w' => e = .returned (.bool (usesX 19)) ∧ w = w' := by
  go_enter Try.func45, Try.ntmps45
  go_wp2
  go_ret
  exact ⟨rfl, rfl⟩
theorem rUsesX_20 (w : World) : Calls Try.prog 45 #[.int .i64 20] w fun e w' => e = .returned (.bool (usesX 20)) ∧ w = w' := by
  go_enter Try.func45, Try.ntmps45
  go_wp2
  go_ret
  exact ⟨rfl, rfl⟩
theorem rUsesX_21 (w : World) : Calls Try.prog 45 #[.int .i64 21] w fun e w' => e = .returned (.bool (usesX 21)) ∧ w = w' := by
  go_enter Try.func45, Try.ntmps45
  go_wp2
  go_ret
  exact ⟨rfl, rfl⟩
theorem rUsesX_any (op : Int) (h : known op = true) (w : World) : Calls Try.prog 45 #[.int .i64 op] w fun e w' => e = .returned (.bool (usesX op)) ∧ w = w' := by
  rcases known_cases op h with rfl | rfl | rfl | rfl | rfl | rfl | rfl | rfl | rfl | rfl | rfl | rfl | rfl | rfl | rfl | rfl | rfl | rfl | rfl | rfl | rfl
  · exact rUsesX_1 w
  · exact rUsesX_2 w
  · exact rUsesX_3 w
  · exact rUsesX_4 w
  · exact rUsesX_5 w
  · exact rUsesX_6 w
  · exact rUsesX_7 w
  · exact rUsesX_8 w
  · exact rUsesX_9 w
  · exact rUsesX_10 w
  · exact rUsesX_11 w
  · exact rUsesX_12 w
  · exact rUsesX_13 w
  · exact rUsesX_14 w
  · exact rUsesX_15 w
  · exact rUsesX_16 w
  · exact rUsesX_17 w
  · exact rUsesX_18 w
  · exact rUsesX_19 w
  · exact rUsesX_20 w
  · exact rUsesX_21 w
theorem rUsesY_1 (w : World) : Calls Try.prog 46 #[.int .i64 1] w fun e w' => e = .returned (.bool (usesY 1)) ∧ w = w' := by
  go_enter Try.func46, Try.ntmps46
  go_wp2
  go_ret
  exact ⟨rfl, rfl⟩
theorem rUsesY_2 (w : World) : Calls Try.prog 46 #[.int .i64 2] w fun e w' => e = .returned (.bool (usesY 2)) ∧ w = w' := by
  go_enter Try.func46, Try.ntmps46
  go_wp2
  go_ret
  exact ⟨rfl, rfl⟩
theorem rUsesY_3 (w : World) : Calls Try.prog 46 #[.int .i64 3] w fun e w' => e = .returned (.bool (usesY 3)) ∧ w = w' := by
  go_enter Try.func46, Try.ntmps46
  go_wp2
  go_ret
  exact ⟨rfl, rfl⟩
theorem rUsesY_4 (w : World) : Calls Try.prog 46 #[.int .i64 4] w fun e w' => e = .returned (.bool (usesY 4)) ∧ w = w' := by
  go_enter Try.func46, Try.ntmps46
  go_wp2
  go_ret
  exact ⟨rfl, rfl⟩
theorem rUsesY_5 (w : World) : Calls Try.prog 46 #[.int .i64 5] w fun e w' => e = .returned (.bool (usesY 5)) ∧ w = w' := by
  go_enter Try.func46, Try.ntmps46
  go_wp2
  go_ret
  exact ⟨rfl, rfl⟩
theorem rUsesY_6 (w : World) : Calls Try.prog 46 #[.int .i64 6] w fun e w' => e = .returned (.bool (usesY 6)) ∧ w = w' := by
  go_enter Try.func46, Try.ntmps46
  go_wp2
  go_ret
  exact ⟨rfl, rfl⟩
theorem rUsesY_7 (w : World) : Calls Try.prog 46 #[.int .i64 7] w fun e w' => e = .returned (.bool (usesY 7)) ∧ w = w' := by
  go_enter Try.func46, Try.ntmps46
  go_wp2
  go_ret
  exact ⟨rfl, rfl⟩
theorem rUsesY_8 (w : World) : Calls Try.prog 46 #[.int .i64 8] w fun e w' => e = .returned (.bool (usesY 8)) ∧ w = w' := by
  go_enter Try.func46, Try.ntmps46
  go_wp2
  go_ret
  exact ⟨rfl, rfl⟩
theorem rUsesY_9 (w : World) : Calls Try.prog 46 #[.int .i64 9] w fun e w' => e = .returned (.bool (usesY 9)) ∧ w = w' := by
  go_enter Try.func46, Try.ntmps46
  go_wp2
  go_ret
  exact ⟨rfl, rfl⟩
theorem rUsesY_10 (w : World) : Calls Try.prog 46 #[.int .i64 10] w fun e w' => e = .returned (.bool (usesY 10)) ∧ w = w' := by
  go_enter Try.func46, Try.ntmps46
  go_wp2
  go_ret
  exact ⟨rfl, rfl⟩
theorem rUsesY_11 (w : World) : Calls Try.prog 46 #[.int .i64 11] w fun e w' => e = .returned (.bool (usesY 11)) ∧ w = w' := by
  go_enter Try.func46, Try.ntmps46
  go_wp2
  go_ret
  exact ⟨rfl, rfl⟩
theorem rUsesY_12 (w : World) : Calls Try.prog 46 #[.int .i64 12] w fun e w' => e = .returned (.bool (usesY 12)) ∧ w = w' := by
  go_enter Try.func46, Try.ntmps46
  go_wp2
  go_ret
  exact ⟨rfl, rfl⟩
theorem rUsesY_13 (w : World) : Calls Try.prog 46 #[.int .i64 13] w fun e w' => e = .returned (.bool (usesY 13)) ∧ w = w' := by
  go_enter Try.func46, Try.ntmps46
  go_wp2
  go_ret
  exact ⟨rfl, rfl⟩
theorem rUsesY_14 (w : World) : Calls Try.prog 46 #[.int .i64 14] w fun e w' => e = .returned (.bool (usesY 14)) ∧ w = w' := by
  go_enter Try.func46, Try.ntmps46
  go_wp2
  go_ret
  exact ⟨rfl, rfl⟩
theorem rUsesY_15 (w : World) : Calls Try.prog 46 #[.int .i64 15] w fun e w' => e = .returned (.bool (usesY 15)) ∧ w = w' := by
  go_enter Try.func46, Try.ntmps46
  go_wp2
  go_ret
  exact ⟨rfl, rfl⟩
theorem rUsesY_16 (w : World) : Calls Try.prog 46 #[.int .i64 16] w fun e w' => e = .returned (.bool (usesY 16)) ∧ w = w' := by
  go_enter Try.func46, Try.ntmps46
  go_wp2
  go_ret
  exact ⟨rfl, rfl⟩
theorem rUsesY_17 (w : World) : Calls Try.prog 46 #[.int .i64 17] w fun e w' => e = .returned (.bool (usesY 17)) ∧ w = w' := by
  go_enter Try.func46, Try.ntmps46
  go_wp2
  go_ret
  exact ⟨rfl, rfl⟩
theorem rUsesY_18 (w : World) : Calls Try.prog 46 #[.int .i64 18] w fun e w' => e = .returned (.bool (usesY 18)) ∧ w = w' := by
  go_enter Try.func46, Try.ntmps46
  go_wp2
  go_ret
  exact ⟨rfl, rfl⟩
theorem rUsesY_19 (w : World) : Calls Try.prog 46 #[.int .i64 19] w fun e w' => e = .returned (.bool (usesY 19)) ∧ w = w' := by
  go_enter Try.func46, Try.ntmps46
  go_wp2
  go_ret
  exact ⟨rfl, rfl⟩
theorem rUsesY_20 (w : World) : Calls Try.prog 46 #[.int .i64 20] w fun e w' => e = .returned (.bool (usesY 20)) ∧ w = w' := by
  go_enter Try.func46, Try.ntmps46
  go_wp2
  go_ret
  exact ⟨rfl, rfl⟩
theorem rUsesY_21 (w : World) : Calls Try.prog 46 #[.int .i64 21] w fun e w' => e = .returned (.bool (usesY 21)) ∧ w = w' := by
  go_enter Try.func46, Try.ntmps46
  go_wp2
  go_ret
  exact ⟨rfl, rfl⟩
theorem rUsesY_any (op : Int) (h : known op = true) (w : World) : Calls Try.prog 46 #[.int .i64 op] w fun e w' => e = .returned (.bool (usesY op)) ∧ w = w' := by
  rcases known_cases op h with rfl | rfl | rfl | rfl | rfl | rfl | rfl | rfl | rfl | rfl | rfl | rfl | rfl | rfl | rfl | rfl | rfl | rfl | rfl | rfl | rfl
  · exact rUsesY_1 w
  · exact rUsesY_2 w
  · exact rUsesY_3 w
  · exact rUsesY_4 w
  · exact rUsesY_5 w
  · exact rUsesY_6 w
  · exact rUsesY_7 w
  · exact rUsesY_8 w
  · exact rUsesY_9 w
  · exact rUsesY_10 w
  · exact rUsesY_11 w
  · exact rUsesY_12 w
  · exact rUsesY_13 w
  · exact rUsesY_14 w
  · exact rUsesY_15 w
  · exact rUsesY_16 w
  · exact rUsesY_17 w
  · exact rUsesY_18 w
  · exact rUsesY_19 w
  · exact rUsesY_20 w
  · exact rUsesY_21 w
theorem ragent_1 (w : World) : Calls Try.prog 62 #[.int .i64 1] w fun e w' => e = .returned (.bool (hasAgent 1)) ∧ w = w' := by
  go_enter Try.func62, Try.ntmps62
  go_wp2
  go_ret
  exact ⟨rfl, rfl⟩
theorem ragent_2 (w : World) : Calls Try.prog 62 #[.int .i64 2] w fun e w' => e = .returned (.bool (hasAgent 2)) ∧ w = w' := by
  go_enter Try.func62, Try.ntmps62
  go_wp2
  go_ret
  exact ⟨rfl, rfl⟩
theorem ragent_3 (w : World) : Calls Try.prog 62 #[.int .i64 3] w fun e w' => e = .returned (.bool (hasAgent 3)) ∧ w = w' := by
  go_enter Try.func62, Try.ntmps62
  go_wp2
  go_ret
  exact ⟨rfl, rfl⟩
theorem ragent_4 (w : World) : Calls Try.prog 62 #[.int .i64 4] w fun e w' => e = .returned (.bool (hasAgent 4)) ∧ w = w' := by
  go_enter Try.func62, Try.ntmps62
  go_wp2
  go_ret
  exact ⟨rfl, rfl⟩
theorem ragent_5 (w : World) : Calls Try.prog 62 #[.int .i64 5] w fun e w' => e = .returned (.bool (hasAgent 5)) ∧ w = w' := by
  go_enter Try.func62, Try.ntmps62
  go_wp2
  go_ret
  exact ⟨rfl, rfl⟩
theorem ragent_6 (w : World) : Calls Try.prog 62 #[.int .i64 6] w fun e w' => e = .returned (.bool (hasAgent 6)) ∧ w = w' := by
  go_enter Try.func62, Try.ntmps62
  go_wp2
  go_ret
  exact ⟨rfl, rfl⟩
theorem ragent_7 (w : World) : Calls Try.prog 62 #[.int .i64 7] w fun e w' => e = .returned (.bool (hasAgent 7)) ∧ w = w' := by
  go_enter Try.func62, Try.ntmps62
  go_wp2
  go_ret
  exact ⟨rfl, rfl⟩
theorem ragent_8 (w : World) : Calls Try.prog 62 #[.int .i64 8] w fun e w' => e = .returned (.bool (hasAgent 8)) ∧ w = w' := by
  go_enter Try.func62, Try.ntmps62
  go_wp2
  go_ret
  exact ⟨rfl, rfl⟩
theorem ragent_9 (w : World) : Calls Try.prog 62 #[.int .i64 9] w fun e w' => e = .returned (.bool (hasAgent 9)) ∧ w = w' := by
  go_enter Try.func62, Try.ntmps62
  go_wp2
  go_ret
  exact ⟨rfl, rfl⟩
theorem ragent_10 (w : World) : Calls Try.prog 62 #[.int .i64 10] w fun e w' => e = .returned (.bool (hasAgent 10)) ∧ w = w' := by
  go_enter Try.func62, Try.ntmps62
  go_wp2
  go_ret
  exact ⟨rfl, rfl⟩
theorem ragent_11 (w : World) : Calls Try.prog 62 #[.int .i64 11] w fun e w' => e = .returned (.bool (hasAgent 11)) ∧ w = w' := by
  go_enter Try.func62, Try.ntmps62
  go_wp2
  go_ret
  exact ⟨rfl, rfl⟩
theorem ragent_12 (w : World) : Calls Try.prog 62 #[.int .i64 12] w fun e w' => e = .returned (.bool (hasAgent 12)) ∧ w = w' := by
  go_enter Try.func62, Try.ntmps62
  go_wp2
  go_ret
  exact ⟨rfl, rfl⟩
theorem ragent_13 (w : World) : Calls Try.prog 62 #[.int .i64 13] w fun e w' => e = .returned (.bool (hasAgent 13)) ∧ w = w' := by
  go_enter Try.func62, Try.ntmps62
  go_wp2
  go_ret
  exact ⟨rfl, rfl⟩
theorem ragent_14 (w : World) : Calls Try.prog 62 #[.int .i64 14] w fun e w' => e = .returned (.bool (hasAgent 14)) ∧ w = w' := by
  go_enter Try.func62, Try.ntmps62
  go_wp2
  go_ret
  exact ⟨rfl, rfl⟩
theorem ragent_15 (w : World) : Calls Try.prog 62 #[.int .i64 15] w fun e w' => e = .returned (.bool (hasAgent 15)) ∧ w = w' := by
  go_enter Try.func62, Try.ntmps62
  go_wp2
  go_ret
  exact ⟨rfl, rfl⟩
theorem ragent_16 (w : World) : Calls Try.prog 62 #[.int .i64 16] w fun e w' => e = .returned (.bool (hasAgent 16)) ∧ w = w' := by
  go_enter Try.func62, Try.ntmps62
  go_wp2
  go_ret
  exact ⟨rfl, rfl⟩
theorem ragent_17 (w : World) : Calls Try.prog 62 #[.int .i64 17] w fun e w' => e = .returned (.bool (hasAgent 17)) ∧ w = w' := by
  go_enter Try.func62, Try.ntmps62
  go_wp2
  go_ret
  exact ⟨rfl, rfl⟩
theorem ragent_18 (w : World) : Calls Try.prog 62 #[.int .i64 18] w fun e w' => e = .returned (.bool (hasAgent 18)) ∧ w = w' := by
  go_enter Try.func62, Try.ntmps62
  go_wp2
  go_ret
  exact ⟨rfl, rfl⟩
theorem ragent_19 (w : World) : Calls Try.prog 62 #[.int .i64 19] w fun e w' => e = .returned (.bool (hasAgent 19)) ∧ w = w' := by
  go_enter Try.func62, Try.ntmps62
  go_wp2
  go_ret
  exact ⟨rfl, rfl⟩
theorem ragent_20 (w : World) : Calls Try.prog 62 #[.int .i64 20] w fun e w' => e = .returned (.bool (hasAgent 20)) ∧ w = w' := by
  go_enter Try.func62, Try.ntmps62
  go_wp2
  go_ret
  exact ⟨rfl, rfl⟩
theorem ragent_21 (w : World) : Calls Try.prog 62 #[.int .i64 21] w fun e w' => e = .returned (.bool (hasAgent 21)) ∧ w = w' := by
  go_enter Try.func62, Try.ntmps62
  go_wp2
  go_ret
  exact ⟨rfl, rfl⟩
theorem ragent_any (op : Int) (h : known op = true) (w : World) : Calls Try.prog 62 #[.int .i64 op] w fun e w' => e = .returned (.bool (hasAgent op)) ∧ w = w' := by
  rcases known_cases op h with rfl | rfl | rfl | rfl | rfl | rfl | rfl | rfl | rfl | rfl | rfl | rfl | rfl | rfl | rfl | rfl | rfl | rfl | rfl | rfl | rfl
  · exact ragent_1 w
  · exact ragent_2 w
  · exact ragent_3 w
  · exact ragent_4 w
  · exact ragent_5 w
  · exact ragent_6 w
  · exact ragent_7 w
  · exact ragent_8 w
  · exact ragent_9 w
  · exact ragent_10 w
  · exact ragent_11 w
  · exact ragent_12 w
  · exact ragent_13 w
  · exact ragent_14 w
  · exact ragent_15 w
  · exact ragent_16 w
  · exact ragent_17 w
  · exact ragent_18 w
  · exact ragent_19 w
  · exact ragent_20 w
  · exact ragent_21 w
theorem rgroup_1 (w : World) : Calls Try.prog 91 #[.int .i64 1] w fun e w' => e = .returned (.bool (hasGroup 1)) ∧ w = w' := by
  go_enter Try.func91, Try.ntmps91
  go_wp2
  go_ret
  exact ⟨rfl, rfl⟩
theorem rgroup_2 (w : World) : Calls Try.prog 91 #[.int .i64 2] w fun e w' => e = .returned (.bool (hasGroup 2)) ∧ w = w' := by
  go_enter Try.func91, Try.ntmps91
  go_wp2
  go_ret
  exact ⟨rfl, rfl⟩
theorem rgroup_3 (w : World) : Calls Try.prog 91 #[.int .i64 3] w fun e w' => e = .returned (.bool (hasGroup 3)) ∧ w = w' := by
  go_enter Try.func91, Try.ntmps91
  go_wp2
  go_ret
  exact ⟨rfl, rfl⟩
theorem rgroup_4 (w : World) : Calls Try.prog 91 #[.int .i64 4] w fun e w' => e = .returned (.bool (hasGroup 4)) ∧ w = w' := by
  go_enter Try.func91, Try.ntmps91
  go_wp2
  go_ret
  exact ⟨rfl, rfl⟩
theorem rgroup_5 (w : World) : Calls Try.prog 91 #[.int .i64 5] w fun e w' => e = .returned (.bool (hasGroup 5)) ∧ w = w' := by
  go_enter Try.func91, Try.ntmps91
  go_wp2
  go_ret
  exact ⟨rfl, rfl⟩
theorem rgroup_6 (w : World) : Calls Try.prog 91 #[.int .i64 6] w fun e w' => e = .returned (.bool (hasGroup 6)) ∧ w = w' := by
  go_enter Try.func91, Try.ntmps91
  go_wp2
  go_ret
  exact ⟨rfl, rfl⟩
theorem rgroup_7 (w : World) : Calls Try.prog 91 #[.int .i64 7] w fun e w' => e = .returned (.bool (hasGroup 7)) ∧ w = w' := by
  go_enter Try.func91, Try.ntmps91
  go_wp2
  go_ret
  exact ⟨rfl, rfl⟩
theorem rgroup_8 (w : World) : Calls Try.prog 91 #[.int .i64 8] w fun e w' => e = .returned (.bool (hasGroup 8)) ∧ w = w' := by
  go_enter Try.func91, Try.ntmps91
  go_wp2
  go_ret
  exact ⟨rfl, rfl⟩
theorem rgroup_9 (w : World) : Calls Try.prog 91 #[.int .i64 9] w fun e w' => e = .returned (.bool (hasGroup 9)) ∧ w = w' := by
  go_enter Try.func91, Try.ntmps91
  go_wp2
  go_ret
  exact ⟨rfl, rfl⟩
theorem rgroup_10 (w : World) : Calls Try.prog 91 #[.int .i64 10] w fun e w' => e = .returned (.bool (hasGroup 10)) ∧ w = w' := by
  go_enter Try.func91, Try.ntmps91
  go_wp2
  go_ret
  exact ⟨rfl, rfl⟩
theorem rgroup_11 (w : World) : Calls Try.prog 91 #[.int .i64 11] w fun e w' => e = .returned (.bool (hasGroup 11)) ∧ w = w' := by
  go_enter Try.func91, Try.ntmps91
  go_wp2
  go_ret
  exact ⟨rfl, rfl⟩
theorem rgroup_12 (w : World) : Calls Try.prog 91 #[.int .i64 12] w fun e w' => e = .returned (.bool (hasGroup 12)) ∧ w = w' := by
  go_enter Try.func91, Try.ntmps91
  go_wp2
  go_ret
  exact ⟨rfl, rfl⟩
theorem rgroup_13 (w : World) : Calls Try.prog 91 #[.int .i64 13] w fun e w' => e = .returned (.bool (hasGroup 13)) ∧ w = w' := by
  go_enter Try.func91, Try.ntmps91
  go_wp2
  go_ret
  exact ⟨rfl, rfl⟩
theorem rgroup_14 (w : World) : Calls Try.prog 91 #[.int .i64 14] w fun e w' => e = .returned (.bool (hasGroup 14)) ∧ w = w' := by
  go_enter Try.func91, Try.ntmps91
  go_wp2
  go_ret
  exact ⟨rfl, rfl⟩
theorem rgroup_15 (w : World) : Calls Try.prog 91 #[.int .i64 15] w fun e w' => e = .returned (.bool (hasGroup 15)) ∧ w = w' := by
  go_enter Try.func91, Try.ntmps91
  go_wp2
  go_ret
  exact ⟨rfl, rfl⟩
theorem rgroup_16 (w : World) : Calls Try.prog 91 #[.int .i64 16] w fun e w' => e = .returned (.bool (hasGroup 16)) ∧ w = w' := by
  go_enter Try.func91, Try.ntmps91
  go_wp2
  go_ret
  exact ⟨rfl, rfl⟩
theorem rgroup_17 (w : World) : Calls Try.prog 91 #[.int .i64 17] w fun e w' => e = .returned (.bool (hasGroup 17)) ∧ w = w' := by
  go_enter Try.func91, Try.ntmps91
  go_wp2
  go_ret
  exact ⟨rfl, rfl⟩
theorem rgroup_18 (w : World) : Calls Try.prog 91 #[.int .i64 18] w fun e w' => e = .returned (.bool (hasGroup 18)) ∧ w = w' := by
  go_enter Try.func91, Try.ntmps91
  go_wp2
  go_ret
  exact ⟨rfl, rfl⟩
theorem rgroup_19 (w : World) : Calls Try.prog 91 #[.int .i64 19] w fun e w' => e = .returned (.bool (hasGroup 19)) ∧ w = w' := by
  go_enter Try.func91, Try.ntmps91
  go_wp2
  go_ret
  exact ⟨rfl, rfl⟩
theorem rgroup_20 (w : World) : Calls Try.prog 91 #[.int .i64 20] w fun e w' => e = .returned (.bool (hasGroup 20)) ∧ w = w' := by
  go_enter Try.func91, Try.ntmps91
  go_wp2
  go_ret
  exact ⟨rfl, rfl⟩
theorem rgroup_21 (w : World) : Calls Try.prog 91 #[.int .i64 21] w fun e w' => e = .returned (.bool (hasGroup 21)) ∧ w = w' := by
  go_enter Try.func91, Try.ntmps91
  go_wp2
  go_ret
  exact ⟨rfl, rfl⟩
theorem rgroup_any (op : Int) (h : known op = true) (w : World) : Calls Try.prog 91 #[.int .i64 op] w fun e w' => e = .returned (.bool (hasGroup op)) ∧ w = w' := by
  rcases known_cases op h with rfl | rfl | rfl | rfl | rfl | rfl | rfl | rfl | rfl | rfl | rfl | rfl | rfl | rfl | rfl | rfl | rfl | rfl | rfl | rfl | rfl
  · exact rgroup_1 w
  · exact rgroup_2 w
  · exact rgroup_3 w
  · exact rgroup_4 w
  · exact rgroup_5 w
  · exact rgroup_6 w
  · exact rgroup_7 w
  · exact rgroup_8 w
  · exact rgroup_9 w
  · exact rgroup_10 w
  · exact rgroup_11 w
  · exact rgroup_12 w
  · exact rgroup_13 w
  · exact rgroup_14 w
  · exact rgroup_15 w
  · exact rgroup_16 w
  · exact rgroup_17 w
  · exact rgroup_18 w
  · exact rgroup_19 w
  · exact rgroup_20 w
  · exact rgroup_21 w
end Go.Proofs.Ytcbmncafmofcpaa
