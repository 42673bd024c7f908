import Derived.Test.YtcbmncafmofcpaaKpa
import Derived.Test.YtcbmncafmofcpaaKz
/-! Compare is an order (mathematics). -/
namespace Go.Proofs.Ws
open Go
/-- a comparison that is an order: -1, 0, 1 -/
structure Ord3 {α : Type} (c : α → α → Int) : Prop where
  vals : ∀ a b, c a b = -1 ∨ c a b = 0 ∨ c a b = 1
  anti : ∀ a b, c b a = -c a b
  trans : ∀ a b d, c a b ≤ 0 → c b d ≤ 0 → c a d = min (c a b) (c b d)
theorem cmpI_ord : Ord3 cmpI := by
  refine ⟨fun a b => ?_, fun a b => ?_, fun a b d => ?_⟩
  · unfold cmpI; split
    · exact .inl rfl
    · split
      · exact .inr (.inr rfl)
      · exact .inr (.inl rfl)
  · unfold cmpI; repeat' split
    all_goals omega
  · unfold cmpI; repeat' split
    all_goals omega
/-- what stands first decides, else what stands second -/
theorem lex_trans (p q r p' q' r' : Int) (_h3 : p = -1 ∨ p = 0 ∨ p = 1) (_h4 : q = -1 ∨ q = 0 ∨ q = 1) (h5 : p' = -1 ∨ p' = 0 ∨ p' = 1) (h6 : q' = -1 ∨ q' = 0 ∨ q' = 1)
    (h1 : p ≤ 0 → q ≤ 0 → r = min p q) (h2 : p = 0 → q = 0 → p' ≤ 0 → q' ≤ 0 → r' = min p' q') :
    (if p ≠ 0 then p else p') ≤ 0 → (if q ≠ 0 then q else q') ≤ 0 → (if r ≠ 0 then r else r') = min (if p ≠ 0 then p else p') (if q ≠ 0 then q else q') := by
  intro a b
  by_cases z1 : p = 0
  · rw [if_neg (show ¬ p ≠ 0 from fun h => h z1)] at a ⊢
    by_cases z2 : q = 0
    · rw [if_neg (show ¬ q ≠ 0 from fun h => h z2)] at b ⊢
      have h := h1 (by omega) (by omega)
      have z3 : r = 0 := by omega
      rw [if_neg (show ¬ r ≠ 0 from fun h => h z3)]
      exact h2 z1 z2 a b
    · rw [if_pos (show q ≠ 0 from z2)] at b ⊢
      have h := h1 (by omega) (by omega)
      have z3 : r ≠ 0 := by omega
      rw [if_pos z3]
      omega
  · rw [if_pos (show p ≠ 0 from z1)] at a ⊢
    by_cases z2 : q = 0
    · rw [if_neg (show ¬ q ≠ 0 from fun h => h z2)] at b ⊢
      have h := h1 (by omega) (by omega)
      have z3 : r ≠ 0 := by omega
      rw [if_pos z3]
      omega
    · rw [if_pos (show q ≠ 0 from z2)] at b ⊢
      have h := h1 (by omega) (by omega)
      have z3 : r ≠ 0 := by omega
      rw [if_pos z3]
      exact h
/-- first by one comparison, then by another -/
theorem Ord3.lex {α : Type} {c d : α → α → Int} (h : Ord3 c) (k : Ord3 d) : Ord3 (fun a b => if c a b ≠ 0 then c a b else d a b) := by
  refine ⟨fun a b => ?_, fun a b => ?_, fun a b e => ?_⟩
  · have h1 := h.vals a b
    have h2 := k.vals a b
    split <;> assumption
  · have h1 := h.anti a b
    have h2 := k.anti a b
    rw [h1, h2]
    split <;> split <;> omega
  · exact lex_trans _ _ _ _ _ _ (h.vals a b) (h.vals b e) (k.vals a b) (k.vals b e) (h.trans a b e) (fun _ _ => k.trans a b e)
theorem Ord3.on {α β : Type} {c : β → β → Int} (h : Ord3 c) (f : α → β) : Ord3 (fun a b => c (f a) (f b)) :=
  ⟨fun _ _ => h.vals _ _, fun _ _ => h.anti _ _, fun _ _ _ => h.trans _ _ _⟩
theorem cmpN_ord : Ord3 cmpN := by
  have e : cmpN = fun a b : Nd => if cmpI a.op b.op ≠ 0 then cmpI a.op b.op else if cmpI a.i b.i ≠ 0 then cmpI a.i b.i else if cmpI a.e b.e ≠ 0 then cmpI a.e b.e else if cmpI a.g b.g ≠ 0 then cmpI a.g b.g else if cmpI a.x b.x ≠ 0 then cmpI a.x b.x else cmpI a.y b.y := by
    funext a b
    unfold cmpN firstNZ firstNZ firstNZ firstNZ firstNZ firstNZ firstNZ
    repeat' split
    all_goals first | rfl | (simp_all; done)
  rw [e]
  exact (cmpI_ord.on Nd.op).lex ((cmpI_ord.on Nd.i).lex ((cmpI_ord.on Nd.e).lex ((cmpI_ord.on Nd.g).lex ((cmpI_ord.on Nd.x).lex (cmpI_ord.on Nd.y)))))
/-- lists of one length, node by node -/
theorem cmpNs_vals : ∀ (a b : List Nd), cmpNs a b = -1 ∨ cmpNs a b = 0 ∨ cmpNs a b = 1
  | [], [] => .inr (.inl rfl)
  | [], _ :: _ => .inr (.inl rfl)
  | _ :: _, [] => .inr (.inl rfl)
  | x :: a, y :: b => by
    have h1 := cmpN_ord.vals x y
    have h2 := cmpNs_vals a b
    have e : cmpNs (x :: a) (y :: b) = if cmpN x y ≠ 0 then cmpN x y else cmpNs a b := rfl
    rw [e]
    split <;> assumption
theorem cmpNs_anti : ∀ (a b : List Nd), cmpNs b a = -cmpNs a b
  | [], [] => rfl
  | [], _ :: _ => rfl
  | _ :: _, [] => rfl
  | x :: a, y :: b => by
    have h1 := cmpN_ord.anti x y
    have h2 := cmpNs_anti a b
    have e : cmpNs (x :: a) (y :: b) = if cmpN x y ≠ 0 then cmpN x y else cmpNs a b := rfl
    have e' : cmpNs (y :: b) (x :: a) = if cmpN y x ≠ 0 then cmpN y x else cmpNs b a := rfl
    rw [e, e', h1, h2]
    split <;> split <;> omega
theorem cmpNs_trans : ∀ (a b d : List Nd), a.length = b.length → b.length = d.length → cmpNs a b ≤ 0 → cmpNs b d ≤ 0 → cmpNs a d = min (cmpNs a b) (cmpNs b d)
  | [], [], [], _, _ => fun _ _ => rfl
  | x :: a, y :: b, z :: d, h1, h2 => by
    have ih := cmpNs_trans a b d (by simpa using h1) (by simpa using h2)
    exact lex_trans _ _ _ _ _ _ (cmpN_ord.vals x y) (cmpN_ord.vals y z) (cmpNs_vals a b) (cmpNs_vals b d) (cmpN_ord.trans x y z) (fun _ _ => ih)
/-- Compare is an order -/
theorem cmpF_ord : Ord3 cmpF := by
  refine ⟨fun a b => ?_, fun a b => ?_, fun a b d => ?_⟩
  · unfold cmpF
    have h1 := cmpI_ord.vals (compF a).length (compF b).length
    have h2 := cmpNs_vals (compF a) (compF b)
    split <;> assumption
  · unfold cmpF
    rw [cmpI_ord.anti (compF a).length (compF b).length, cmpNs_anti (compF a) (compF b)]
    split <;> split <;> omega
  · unfold cmpF
    generalize compF a = p
    generalize compF b = q
    generalize compF d = r
    have e1 : ∀ m n : Nat, cmpI (m : Int) (n : Int) = 0 → m = n := fun m n h => by
      unfold cmpI at h
      repeat' split at h
      all_goals omega
    exact lex_trans _ _ _ _ _ _ (cmpI_ord.vals _ _) (cmpI_ord.vals _ _) (cmpNs_vals p q) (cmpNs_vals q r) (cmpI_ord.trans _ _ _)
      (fun z1 z2 => cmpNs_trans p q r (e1 _ _ z1) (e1 _ _ z2))
end Go.Proofs.Ws
