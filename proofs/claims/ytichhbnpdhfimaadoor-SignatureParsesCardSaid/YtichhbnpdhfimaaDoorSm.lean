/- Layer 4 as plain mathematics: names, the error of a signature, groups, texts of groups (no program in sight). -/
import Derived.Lib.SlicesS
import Derived.Lib.Split
import Derived.Lib.Join
import Derived.Lib.IndexBytes
import Derived.Lib.Hide
namespace Go.Proofs.Ws
open Go
/-- small letters, digits, what a name is made of -/
def lowN (m : Nat) : Bool := decide (97 ≤ m) && decide (m ≤ 122)
def digN (m : Nat) : Bool := decide (48 ≤ m) && decide (m ≤ 57)
def chN (m : Nat) : Bool := lowN m || digN m || decide (m = 95)
def nameL (l : List UInt8) : Bool := decide (1 ≤ l.length) && decide (l.length ≤ 8) && lowN (l.getD 0 0).toNat && l.all (fun c => chN c.toNat)
def nameV (x : ByteArray) : Bool := nameL x.data.toList
/-- the reserved words -/
def resW : List ByteArray := [⟨#[116, 114, 117, 101]⟩, ⟨#[102, 97, 108, 115, 101]⟩, ⟨#[110, 101, 120, 116]⟩, ⟨#[112, 114, 101, 118]⟩, ⟨#[117, 110, 116, 105, 108]⟩, ⟨#[115, 105, 110, 99, 101]⟩, ⟨#[100, 111]⟩]
def resV (x : ByteArray) : Bool := Lib.containsS resW x
/-- the first fault of a row of names, behind those that were seen -/
def ckFrom (seen : List ByteArray) : List ByteArray → Int
  | [] => 0
  | x :: xs => if nameV x = false then 3 else if resV x = true ∨ Lib.containsS seen x = true then 5 else ckFrom (seen ++ [x]) xs
/-- the error of a signature -/
def sigErr (A F X : List ByteArray) : Int := if A.length ≤ 4 ∧ F.length ≤ 8 ∧ X.length ≤ 8 then ckFrom [] (A ++ (F ++ X)) else 8
theorem ckFrom_ok (xs : List ByteArray) : ∀ seen, ckFrom seen xs = 0 → (∀ x ∈ xs, nameV x = true ∧ resV x = false ∧ x ∉ seen) ∧ xs.Nodup := by
  induction xs with
  | nil => intro seen _; exact ⟨by simp, List.nodup_nil⟩
  | cons x xs ih =>
    intro seen h
    rw [ckFrom] at h
    by_cases h1 : nameV x = false
    · rw [if_pos h1] at h; cases h
    · rw [if_neg h1] at h
      by_cases h2 : resV x = true ∨ Lib.containsS seen x = true
      · rw [if_pos h2] at h; cases h
      · rw [if_neg h2] at h
        obtain ⟨h3, h4⟩ := ih _ h
        refine ⟨fun y hy => ?_, List.nodup_cons.2 ⟨fun hx => (h3 x hx).2.2 (by simp), h4⟩⟩
        rcases List.mem_cons.1 hy with rfl | hy
        · exact ⟨by simpa using h1, by simpa using fun e => h2 (.inl e), fun hs => h2 (.inr ((Lib.containsS_iff _ _).2 hs))⟩
        · exact ⟨(h3 y hy).1, (h3 y hy).2.1, fun hs => (h3 y hy).2.2 (by simp [hs])⟩
theorem sigErr_ok {A F X : List ByteArray} (h : sigErr A F X = 0) : A.length ≤ 4 ∧ F.length ≤ 8 ∧ X.length ≤ 8 ∧ (∀ x ∈ A ++ (F ++ X), nameV x = true ∧ resV x = false) ∧ (A ++ (F ++ X)).Nodup := by
  unfold sigErr at h
  split at h
  · rename_i h1
    obtain ⟨h2, h3⟩ := ckFrom_ok _ _ h
    exact ⟨h1.1, h1.2.1, h1.2.2, fun x hx => ⟨(h2 x hx).1, (h2 x hx).2.1⟩, h3⟩
  · cases h
/-- the number of a name -/
def numV (A F X l : List ByteArray) (x : ByteArray) : Int := if sigErr A F X = 0 then Lib.idxOfS l x else -1
theorem idx_miss {l : List ByteArray} {x : ByteArray} (h : x ∉ l) : Lib.idxOfS l x = -1 := by
  have := Lib.idxOfS_miss l l.length x (fun j hj e => h (by
    rw [List.getD_eq_getElem?_getD, List.getElem?_eq_getElem hj] at e
    exact e ▸ List.getElem_mem hj))
  rwa [List.take_length] at this
theorem idx_at {l : List ByteArray} (hn : l.Nodup) {k : Nat} (hk : k < l.length) : Lib.idxOfS l (l.getD k ByteArray.empty) = k := by
  have := Lib.idxOfS_hit l l.length k _ hk (Nat.le_refl _) rfl (fun j hj e => by
    rw [List.getD_eq_getElem?_getD, List.getD_eq_getElem?_getD, List.getElem?_eq_getElem hk, List.getElem?_eq_getElem (by omega)] at e
    simp only [Option.getD_some] at e
    have := (List.getElem_inj hn).1 e
    omega)
  rwa [List.take_length] at this
theorem idx_mem {l : List ByteArray} {x : ByteArray} (h : x ∈ l) : ∃ k, k < l.length ∧ Lib.idxOfS l x = (k : Nat) ∧ l.getD k ByteArray.empty = x := by
  induction l with
  | nil => cases h
  | cons z l ih =>
    by_cases hz : z = x
    · exact ⟨0, by simp, by simp [Lib.idxOfS, Lib.idxFromS, hz], by simpa using hz⟩
    · rcases List.mem_cons.1 h with rfl | h
      · exact absurd rfl hz
      · obtain ⟨k, h1, h2, h3⟩ := ih h
        refine ⟨k + 1, by simpa using h1, ?_, by simpa using h3⟩
        have hl : ∀ j, j < k → l.getD j ByteArray.empty ≠ x := fun j hj e => by
          have hit : Lib.idxOfS l x = (j : Int) ∨ ∃ i, i < j ∧ Lib.idxOfS l x = (i : Int) := by
            induction j using Nat.strongRecOn with
            | _ j ihj =>
              by_cases hex : ∃ i, i < j ∧ l.getD i ByteArray.empty = x
              · obtain ⟨i, hi, he⟩ := hex
                rcases ihj i hi (by omega) he with h4 | ⟨q, h4, h5⟩
                · exact .inr ⟨i, hi, h4⟩
                · exact .inr ⟨q, by omega, h5⟩
              · have := Lib.idxOfS_hit l l.length j x (by omega) (Nat.le_refl _) e (fun i hi he => hex ⟨i, hi, he⟩)
                rw [List.take_length] at this
                exact .inl this
          rcases hit with h4 | ⟨i, h4, h5⟩ <;> omega
        have := Lib.idxFromS_hit x (z :: l) (k + 1) 0 (by simpa using h1) (by simpa using h3) (fun j hj => by
          cases j with
          | zero => simpa using hz
          | succ j => simpa using hl j (by omega))
        simpa [Lib.idxOfS] using this
theorem idx_lt_take {l : List ByteArray} {k : Nat} (hk : k < l.length) : (Lib.idxOfS l (l.getD k ByteArray.empty) < (k : Int)) ↔ l.getD k ByteArray.empty ∈ l.take k := by
  constructor
  · intro h
    by_cases hm : l.getD k ByteArray.empty ∈ l
    · obtain ⟨j, h1, h2, h3⟩ := idx_mem hm
      have hj : j < k := by omega
      rw [← h3, List.getD_eq_getElem?_getD, List.getElem?_eq_getElem h1]
      simp only [Option.getD_some]
      exact List.mem_take_iff_getElem.2 ⟨j, by omega, rfl⟩
    · exact absurd (by rw [List.getD_eq_getElem?_getD, List.getElem?_eq_getElem hk]; exact List.getElem_mem hk) hm
  · intro h
    obtain ⟨j, h1, h2⟩ := List.mem_take_iff_getElem.1 h
    have hjk : j < k := by omega
    -- a first place at or before j
    have : ∃ i, i ≤ j ∧ l.getD i ByteArray.empty = l.getD k ByteArray.empty ∧ ∀ q, q < i → l.getD q ByteArray.empty ≠ l.getD k ByteArray.empty := by
      have he : l.getD j ByteArray.empty = l.getD k ByteArray.empty := by
        rw [← h2, List.getD_eq_getElem?_getD, List.getElem?_eq_getElem (by omega)]; rfl
      clear h1 h2 hjk
      induction j using Nat.strongRecOn with
      | _ j ihj =>
        by_cases hex : ∃ i, i < j ∧ l.getD i ByteArray.empty = l.getD k ByteArray.empty
        · obtain ⟨i, hi, he'⟩ := hex
          obtain ⟨q, h4, h5, h6⟩ := ihj i hi he'
          exact ⟨q, by omega, h5, h6⟩
        · exact ⟨j, Nat.le_refl _, he, fun q hq e => hex ⟨q, hq, e⟩⟩
    obtain ⟨i, hi, he, hne⟩ := this
    have := Lib.idxOfS_hit l l.length i _ (by omega) (Nat.le_refl _) he hne
    rw [List.take_length] at this
    omega
/-- the mask of some names, or what is wrong -/
def grp (A : List ByteArray) : List ByteArray → Nat → Nat × Int
  | [], m => (m, 0)
  | x :: xs, m => if 0 ≤ Lib.idxOfS A x then (if m.testBit (Lib.idxOfS A x).toNat then (0, 7) else grp A xs (m ||| 2 ^ (Lib.idxOfS A x).toNat)) else (0, 6)
def groupV (A F X l : List ByteArray) : Nat × Int := if sigErr A F X = 0 then (if l = [] then (0, 1) else grp A l 0) else (0, sigErr A F X)
/-- the names of a mask among the first k -/
def selK (A : List ByteArray) (g k : Nat) : List ByteArray := ((List.range k).filter (fun i => g.testBit i)).map (fun i => A.getD i ByteArray.empty)
theorem selK_succ (A : List ByteArray) (g k : Nat) : selK A g (k + 1) = if g.testBit k then selK A g k ++ [A.getD k ByteArray.empty] else selK A g k := by
  unfold selK
  rw [List.range_succ, List.filter_append, List.map_append]
  by_cases h : g.testBit k <;> simp [h]
/-- the count of the bits below k -/
def popK (g k : Nat) : Nat := ((List.range k).filter (fun i => g.testBit i)).length
theorem popK_succ (g k : Nat) : popK g (k + 1) = popK g k + (if g.testBit k then 1 else 0) := by
  unfold popK
  rw [List.range_succ, List.filter_append, List.length_append]
  by_cases h : g.testBit k <;> simp [h]
theorem selK_length (A : List ByteArray) (g k : Nat) : (selK A g k).length = popK g k := by simp [selK, popK]
/-- the text of a row of names -/
def joinV (l : List ByteArray) : ByteArray := ⟨(Lib.join (l.map (·.data.toList)) [44]).toArray⟩
def textV (A F X : List ByteArray) (g : Int) : ByteArray × Int :=
  if sigErr A F X = 0 then (if 1 ≤ g ∧ g < 2 ^ A.length then (joinV (selK A g.toNat A.length), 0) else (ByteArray.empty, 2)) else (ByteArray.empty, sigErr A F X)
/-- the pieces between the commas -/
def sp (l : List UInt8) : List (List UInt8) := match l with
  | [] => [[]]
  | c :: r => if c = 44 then [] :: sp r else match sp r with
    | [] => [[c]]
    | p :: ps => (c :: p) :: ps
theorem sp_ne (l : List UInt8) : sp l ≠ [] := by
  cases l with
  | nil => simp [sp]
  | cons c r =>
    unfold sp
    split
    · simp
    · split <;> simp
theorem sp_none (l : List UInt8) (h : ∀ c ∈ l, c ≠ 44) : sp l = [l] := by
  induction l with
  | nil => rfl
  | cons c r ih =>
    rw [sp, if_neg (h c (by simp)), ih (fun x hx => h x (by simp [hx]))]
theorem sp_cut (a r : List UInt8) (h : ∀ c ∈ a, c ≠ 44) : sp (a ++ 44 :: r) = a :: sp r := by
  induction a with
  | nil => simp [sp]
  | cons c a ih =>
    rw [List.cons_append, sp, if_neg (h c (by simp)), ih (fun x hx => h x (by simp [hx]))]
theorem index_cut (a r : List UInt8) (h : ∀ c ∈ a, c ≠ 44) : Lib.index (a ++ 44 :: r) [44] = a.length := by
  rw [Lib.index_one]
  induction a with
  | nil => simp [Lib.indexByte]
  | cons c a ih =>
    have hc : c ≠ 44 := h c (by simp)
    rw [List.cons_append, Lib.indexByte, ih (fun x hx => h x (by simp [hx]))]
    have h1 : (c == 44) = false := by simpa using hc
    have h2 : (((a.length : Nat) : Int) == -1) = false := by simp
    rw [h1, h2]
    simp
theorem index_none (a : List UInt8) (h : ∀ c ∈ a, c ≠ 44) : Lib.index a [44] = -1 := by
  rw [Lib.index_one]
  induction a with
  | nil => rfl
  | cons c a ih =>
    have hc : c ≠ 44 := h c (by simp)
    rw [Lib.indexByte, ih (fun x hx => h x (by simp [hx]))]
    have h1 : (c == 44) = false := by simpa using hc
    rw [h1]
    rfl
theorem first_comma (l : List UInt8) : (∀ c ∈ l, c ≠ 44) ∨ ∃ a r, l = a ++ 44 :: r ∧ ∀ c ∈ a, c ≠ 44 := by
  induction l with
  | nil => exact .inl (by simp)
  | cons c l ih =>
    by_cases hc : c = 44
    · exact .inr ⟨[], l, by rw [hc]; rfl, by simp⟩
    · rcases ih with h | ⟨a, r, he, ha⟩
      · exact .inl (by intro x hx; rcases List.mem_cons.1 hx with rfl | hx; exact hc; exact h x hx)
      · exact .inr ⟨c :: a, r, by rw [he]; rfl, by intro x hx; rcases List.mem_cons.1 hx with rfl | hx; exact hc; exact ha x hx⟩
theorem splitK_sp : ∀ (n : Nat) (s : List UInt8), s.length ≤ n → Lib.splitK [44] 0 (Lib.count s [44]) s = sp s := by
  intro n
  induction n with
  | zero =>
    intro s hs
    have : s = [] := List.eq_nil_of_length_eq_zero (by omega)
    subst this
    rw [Lib.count_miss (by decide)]
    rfl
  | succ n ih =>
    intro s hs
    rcases first_comma s with h | ⟨a, r, rfl, ha⟩
    · rw [Lib.count_miss (index_none s h), sp_none s h]
      rfl
    · have hi := index_cut a r ha
      have hd : (a ++ 44 :: r).drop (a.length + ([44] : List UInt8).length) = r := by
        simp [List.drop_append]
      rw [Lib.count_hit (by simp) hi, hd, Nat.add_comm, Lib.splitK, hi, sp_cut a r ha]
      have h2 : (((a.length : Nat) : Int) == -1) = false := by simp
      rw [h2]
      simp only [Bool.false_eq_true, if_false, Int.toNat_natCast, Nat.add_zero]
      rw [hd, ih r (by simp at hs; omega)]
      simp
theorem sp_len (l : List UInt8) : ∀ p ∈ sp l, p.length ≤ l.length := by
  induction l with
  | nil => intro p hp; simp [sp] at hp; subst hp; simp
  | cons c r ih =>
    intro p hp
    unfold sp at hp
    split at hp
    · rcases List.mem_cons.1 hp with rfl | hp
      · simp
      · have := ih p hp; simp; omega
    · split at hp
      · rcases List.mem_cons.1 hp with rfl | hp
        · simp
        · cases hp
      · rename_i q qs hq
        rcases List.mem_cons.1 hp with rfl | hp
        · have := ih q (by rw [hq]; simp); simp; omega
        · have := ih p (by rw [hq]; simp [hp]); simp; omega
/-- what strings.Split hands back at a comma -/
theorem split_data (s : ByteArray) : (Lib.splitB ⟨#[44]⟩ 0 (Lib.countB s ⟨#[44]⟩) s).map (·.data.toList) = sp s.data.toList := by
  rw [Lib.splitB_data]
  exact splitK_sp _ _ (Nat.le_refl _)
/-- the parts of a text as strings -/
def partsB (s : ByteArray) : List ByteArray := (sp s.data.toList).map (fun l => ⟨l.toArray⟩)
theorem split_parts (s : ByteArray) : Lib.splitB ⟨#[44]⟩ 0 (Lib.countB s ⟨#[44]⟩) s = partsB s := by
  unfold partsB
  rw [← split_data, List.map_map]
  conv => lhs; rw [← List.map_id (Lib.splitB ⟨#[44]⟩ 0 (Lib.countB s ⟨#[44]⟩) s)]
  exact List.map_congr_left (fun x _ => by simp)
/-- what a text says -/
def parseV (A F X : List ByteArray) (t : ByteArray) : Nat × Int :=
  if sigErr A F X = 0 then (if (partsB t).all nameV = true then grp A (partsB t) 0 else (0, 4)) else (0, sigErr A F X)
theorem partsB_ne (t : ByteArray) : partsB t ≠ [] := by
  unfold partsB
  intro h
  exact sp_ne _ (List.map_eq_nil_iff.1 h)
end Go.Proofs.Ws
