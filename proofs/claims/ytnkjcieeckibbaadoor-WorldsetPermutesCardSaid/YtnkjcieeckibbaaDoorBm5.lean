/- Splitting at spaces, and reading numbers one by one (no program in sight). -/
import Derived.Lib.Split
import Derived.Lib.IndexBytes
namespace Go.Proofs.Ws
open Go

/-- the pieces between the spaces -/
def sp : List UInt8 → List (List UInt8)
  | [] => [[]]
  | c :: r => if c = 32 then [] :: sp r else match sp r with
    | [] => [[c]]
    | p :: ps => (c :: p) :: ps

theorem sp_ne (l : List UInt8) : sp l ≠ [] := by
  cases l with
  | nil => simp [sp]
  | cons c r =>
    unfold sp
    split
    · simp
    · split <;> simp

theorem sp_none (l : List UInt8) (h : ∀ c ∈ l, c ≠ 32) : sp l = [l] := by
  induction l with
  | nil => rfl
  | cons c r ih =>
    rw [sp, if_neg (h c (by simp)), ih (fun x hx => h x (by simp [hx]))]

theorem sp_cut (a r : List UInt8) (h : ∀ c ∈ a, c ≠ 32) : sp (a ++ 32 :: r) = a :: sp r := by
  induction a with
  | nil => simp [sp]
  | cons c a ih =>
    rw [List.cons_append, sp, if_neg (h c (by simp)), ih (fun x hx => h x (by simp [hx]))]

theorem index_cut (a r : List UInt8) (h : ∀ c ∈ a, c ≠ 32) : Lib.index (a ++ 32 :: r) [32] = a.length := by
  rw [Lib.index_one]
  induction a with
  | nil => simp [Lib.indexByte]
  | cons c a ih =>
    have hc : c ≠ 32 := h c (by simp)
    rw [List.cons_append, Lib.indexByte, ih (fun x hx => h x (by simp [hx]))]
    have h1 : (c == 32) = false := by simpa using hc
    have h2 : (((a.length : Nat) : Int) == -1) = false := by simp
    rw [h1, h2]
    simp

theorem index_none (a : List UInt8) (h : ∀ c ∈ a, c ≠ 32) : Lib.index a [32] = -1 := by
  rw [Lib.index_one]
  induction a with
  | nil => rfl
  | cons c a ih =>
    have hc : c ≠ 32 := h c (by simp)
    rw [Lib.indexByte, ih (fun x hx => h x (by simp [hx]))]
    have h1 : (c == 32) = false := by simpa using hc
    rw [h1]
    rfl

/-- a text has no space, or one that comes first -/
theorem first_space (l : List UInt8) : (∀ c ∈ l, c ≠ 32) ∨ ∃ a r, l = a ++ 32 :: r ∧ ∀ c ∈ a, c ≠ 32 := by
  induction l with
  | nil => exact .inl (by simp)
  | cons c l ih =>
    by_cases hc : c = 32
    · exact .inr ⟨[], l, by rw [hc]; rfl, by simp⟩
    · rcases ih with h | ⟨a, r, he, ha⟩
      · exact .inl (by intro x hx; rcases List.mem_cons.1 hx with rfl | hx; exact hc; exact h x hx)
      · exact .inr ⟨c :: a, r, by rw [he]; rfl, by intro x hx; rcases List.mem_cons.1 hx with rfl | hx; exact hc; exact ha x hx⟩

theorem splitK_sp : ∀ (n : Nat) (s : List UInt8), s.length ≤ n → Lib.splitK [32] 0 (Lib.count s [32]) s = sp s := by
  intro n
  induction n with
  | zero =>
    intro s hs
    have : s = [] := List.eq_nil_of_length_eq_zero (by omega)
    subst this
    rw [Lib.count_miss (by decide)]
    rfl
  | succ n ih =>
    intro s hs
    rcases first_space s with h | ⟨a, r, rfl, ha⟩
    · rw [Lib.count_miss (index_none s h), sp_none s h]
      rfl
    · have hi := index_cut a r ha
      have hd : (a ++ 32 :: r).drop (a.length + ([32] : List UInt8).length) = r := by
        simp [List.drop_append]
      rw [Lib.count_hit (by simp) hi, hd, Nat.add_comm, Lib.splitK, hi, sp_cut a r ha]
      have h2 : (((a.length : Nat) : Int) == -1) = false := by simp
      rw [h2]
      simp only [Bool.false_eq_true, if_false, Int.toNat_natCast, Nat.add_zero]
      rw [hd, ih r (by simp at hs; omega)]
      simp

theorem sp_len (l : List UInt8) : ∀ p ∈ sp l, p.length ≤ l.length := by
  induction l with
  | nil => intro p hp; simp [sp] at hp; subst hp; simp
  | cons c r ih =>
    intro p hp
    unfold sp at hp
    split at hp
    · rcases List.mem_cons.1 hp with rfl | hp
      · simp
      · have := ih p hp; simp; omega
    · split at hp
      · rcases List.mem_cons.1 hp with rfl | hp
        · simp
        · cases hp
      · rename_i q qs hq
        rcases List.mem_cons.1 hp with rfl | hp
        · have := ih q (by rw [hq]; simp); simp; omega
        · have := ih p (by rw [hq]; simp [hp]); simp; omega
/-- what strings.Split hands back at a space -/
theorem split_data (s : ByteArray) : (Lib.splitB ⟨#[32]⟩ 0 (Lib.countB s ⟨#[32]⟩) s).map (·.data.toList) = sp s.data.toList := by
  rw [Lib.splitB_data]
  exact splitK_sp _ _ (Nat.le_refl _)
end Go.Proofs.Ws
