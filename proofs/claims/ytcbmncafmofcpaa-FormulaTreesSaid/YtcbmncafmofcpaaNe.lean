/- Layer 5: what the law of trees asks of canonical lists; a row of truth values. -/
import Derived.Test.YtcbmncafmofcpaaNd
import Derived.Test.YtcbmncafmofcpaaKzb
import Derived.Lib.SlicesS
namespace Go.Proofs.Ws
open Go
theorem firstNZ_zero : ∀ l : List Int, firstNZ l = 0 → ∀ x ∈ l, x = 0
  | [], _, x, hx => by simp at hx
  | a :: l, h, x, hx => by
    have h2 : (if a ≠ 0 then a else firstNZ l) = 0 := h
    by_cases ha : a = 0
    · rw [if_neg (by simpa using ha)] at h2
      rcases List.mem_cons.1 hx with e | e
      · rw [e]; exact ha
      · exact firstNZ_zero l h2 x e
    · rw [if_pos ha] at h2; exact absurd h2 ha
end Go.Proofs.Ws
namespace Go.Proofs.Ytcbmncafmofcpaa
open Go.RowKit Go.Proofs.Ws Go.Maps
theorem cmpI_self (a : Int) : cmpI a a = 0 := by unfold cmpI; simp
theorem cmpN_zero' {a b : Nd} (h : cmpN a b = 0) : a = b := by
  have hz := firstNZ_zero _ h
  have h1 := cmpI_zero (hz (cmpI a.op b.op) (by simp))
  have h2 := cmpI_zero (hz (cmpI a.i b.i) (by simp))
  have h3 := cmpI_zero (hz (cmpI a.e b.e) (by simp))
  have h4 := cmpI_zero (hz (cmpI a.g b.g) (by simp))
  have h5 := cmpI_zero (hz (cmpI a.x b.x) (by simp))
  have h6 := cmpI_zero (hz (cmpI a.y b.y) (by simp))
  obtain ⟨a1, a2, a3, a4, a5, a6⟩ := a
  obtain ⟨b1, b2, b3, b4, b5, b6⟩ := b
  simp only at h1 h2 h3 h4 h5 h6
  rw [h1, h2, h3, h4, h5, h6]
theorem cmpNs_zero' : ∀ a b : List Nd, a.length = b.length → cmpNs a b = 0 → a = b
  | [], [], _, _ => rfl
  | [], _ :: _, h, _ => by simp at h
  | _ :: _, [], h, _ => by simp at h
  | x :: a, y :: b, hl, h => by
    have h2 : (if cmpN x y ≠ 0 then cmpN x y else cmpNs a b) = 0 := h
    by_cases hz : cmpN x y = 0
    · rw [if_neg (by simpa using hz)] at h2
      rw [cmpN_zero' hz, cmpNs_zero' a b (by simpa using hl) h2]
    · rw [if_pos hz] at h2; exact absurd h2 hz
theorem cmpF_zero (f g : List Nd) : cmpF f g = 0 ↔ compF f = compF g := by
  constructor
  · intro h
    unfold cmpF at h
    by_cases hz : cmpI (compF f).length (compF g).length = 0
    · rw [if_neg (by simpa using hz)] at h
      exact cmpNs_zero' _ _ (by have := cmpI_zero hz; omega) h
    · rw [if_pos hz] at h; exact absurd h hz
  · intro h
    have := cmpF_self f
    unfold cmpF at this ⊢
    rw [← h]; exact this
theorem asc_at {f : List Nd} (hf : opsL f) (hF : ∀ n ∈ f, fldOk n) {i : Nat} (hi : i < f.length) : trAll ascN (treeAt f i) := treeAt_all hf (fun n hn => (fld_asc (hF n hn)).1) _ _ (Nat.lt_succ_self i) hi
theorem tree_any : ∀ (m : Nat) (f : List Nd) (A : Option Addr) (n c i : Nat) (lev : Int) (w : World), i < m → n ≤ 30 → n ≤ c → opsL f → (∀ x ∈ f, fldOk x) → i < n → (i : Int) < lev → lev ≤ 1000 → Reads w w.heap.size 6 A n (nds f) →
    Calls Try.prog 44 #[.slice A n c, .int .i64 (i : Int), .int .i64 lev] w fun e w' => e = .returned (.tuple #[.string (textB (treeAt f i)), .bool true]) ∧ Below w.heap.size w w' := by
  intro m
  induction m with
  | zero => intro f A n c i lev w h; omega
  | succ m ih =>
    intro f A n c i lev w hm hn hnc hf hF hi hl hl2 hR
    have hlen := hR.nd_len
    have hif : i < f.length := by omega
    have ho := hf i hif
    have hfld := hF _ (getD_mem hif)
    have hte := treeAt_eq hf hif
    -- the text of an operand
    have hsz : ∀ k, k < i → (textB (treeAt f k)).size ≤ 1000000000000 := by
      intro k hk
      have h1 := textB_size _ (asc_at hf hF (show k < f.length by omega))
      have h2 := szT_at hf (k + 1) k (Nat.lt_succ_self k) (by omega)
      have h3 : 2 ^ (k + 1) ≤ 2 ^ 30 := Nat.pow_le_pow_right (by decide) (by omega)
      have h4 : (2 : Nat) ^ 30 = 1073741824 := by decide
      omega
    have hrec : ∀ z : Int, 0 ≤ z → z.toNat < i → ∀ W, Below w.heap.size w W → Calls Try.prog 44 #[.slice A i c, .int .i64 z, .int .i64 (lev - 1)] W fun e w' => e = .returned (.tuple #[.string (textB (treeAt f z.toNat)), .bool true]) ∧ Below W.heap.size W w' := by
      intro z h0 h1 W hW
      have h2 := ih (f.take i) A i c z.toNat (lev - 1) W (by omega) (by omega) (by omega) (opsL_take hf i) (fun x hx => hF x (List.mem_of_mem_take hx)) h1 (by omega) (by omega) (((hR.below hW).more hW.size).takeN (by omega))
      rw [treeAt_take hf i (z.toNat + 1) z.toNat (by omega) h1 (by omega), show ((z.toNat : Nat) : Int) = z from by omega] at h2
      exact h2
    obtain ⟨x, hx⟩ : ∃ x, f.getD i nd0 = x := ⟨_, rfl⟩
    rw [hx] at ho hfld hte
    have hasc := (fld_asc hfld).2
    have hh : headB (bare x) = headB x := rfl
    by_cases hy : usesY x.op = true
    · have hux := usesY_X hy
      have h1 := opsOk_x ho hux
      have h2 := opsOk_y ho hy
      rw [if_pos hy] at hte
      have := tree_bin f A n c i lev x (textB (treeAt f x.x.toNat)) (textB (treeAt f x.y.toNat)) w hi (by omega) hnc hx hasc hfld.1 hux hy (by omega) hl2 (hsz _ h1.2) (hsz _ h2.2) hR (hrec x.x h1.1 h1.2) (hrec x.y h2.1 h2.2)
      rw [hte]
      show Calls _ _ _ _ fun e w' => e = .returned (.tuple #[.string (headB (bare x) ++ textB (treeAt f x.x.toNat) ++ textB (treeAt f x.y.toNat) ++ clB), .bool true]) ∧ _
      rw [hh]; exact this
    · rw [if_neg hy] at hte
      have hy2 : usesY x.op = false := by simpa using hy
      by_cases hux : usesX x.op = true
      · rw [if_pos hux] at hte
        have h1 := opsOk_x ho hux
        have := tree_un f A n c i lev x (textB (treeAt f x.x.toNat)) w hi (by omega) hnc hx hasc hfld.1 hux hy2 (by omega) hl2 (hsz _ h1.2) hR (hrec x.x h1.1 h1.2)
        rw [hte]
        show Calls _ _ _ _ fun e w' => e = .returned (.tuple #[.string (headB (bare x) ++ textB (treeAt f x.x.toNat) ++ clB), .bool true]) ∧ _
        rw [hh]; exact this
      · rw [if_neg hux] at hte
        have := tree_leaf f A n c i lev x w hi (by omega) hx hasc hfld.1 (by simpa using hux) (by omega) hR
        rw [hte]
        show Calls _ _ _ _ fun e w' => e = .returned (.tuple #[.string (headB (bare x) ++ clB), .bool true]) ∧ _
        rw [hh]; exact this
/-- a block holds just these truth values -/
def bs (l : List Bool) : List Value := l.map Value.bool
def BS (W : World) (g : Nat) (l : List Bool) : Prop := W.heap[g]? = some (.cells (bs l).toArray 4 (0, 0))
theorem BS.cell {W : World} {g : Nat} {l : List Bool} (h : BS W g l) {k : Nat} (hk : k < l.length) : W.cell? ⟨g, k, none⟩ = some (.bool (l.getD k false)) := by
  rw [Lib.cell_of_heap h]
  simp [bs, hk]
theorem BS.free {W : World} {g : Nat} {l : List Bool} (h : BS W g l) (k : Nat) : W.frozen? ⟨g, k, none⟩ = false := Lib.frozen_of_heap h k
theorem BS.put {W : World} {g : Nat} {l : List Bool} (h : BS W g l) (k : Nat) (x : Bool) : BS (W.setCell ⟨g, k, none⟩ (.bool x)) g (l.set k x) := by
  unfold BS at h ⊢
  have e : (bs (l.set k x)).toArray = (bs l).toArray.setIfInBounds k (.bool x) := by
    unfold bs
    rw [List.map_set]
    simp
  rw [e]
  simp [World.setCell, Array.getElem?_modify, h]
theorem BS.keep {W W' : World} {g : Nat} {l : List Bool} (h : BS W g l) (hb : W'.heap[g]? = W.heap[g]?) : BS W' g l := hb.trans h
theorem Try.infoB : (Try.prog.info? 4).map (fun i => (i.zero, i.size, i.bytes)) = some (some (.bool false), 1, 1) := by kernel_rfl
def falses (n : Nat) : Array Value := (List.replicate n (Value.bool false)).toArray
theorem made_falses (n : Nat) : madeCells (Value.bool false).cells n = falses n := by
  apply Array.ext
  · simp [madeCells, falses]
  · intro i h1 h2
    simp [madeCells, falses, Value.cells, Nat.mod_one]
theorem makeB (w : World) (n : Nat) (hn : n ≤ 1000000) : (Instr.makeSlice 42 (.int .i64 (n : Int)) (.int .i64 (n : Int))).run Try.prog w = .ok (.slice (some ⟨w.heap.size, 0, none⟩) n n) (w.alloc (.cells (falses n) 4)) := by
  obtain ⟨i0, hi, hz0, hz1, hz2⟩ := info_parts Try.infoB
  have h := run_make (P := Try.prog) w 42 4 i0 (.bool false) Try.underlying42 hi hz0 .i64 .i64 n n (by omega) (Int.le_refl _) (by rw [hz2]; omega) (by omega)
  rw [h, hz1]
  simp only [Int.toNat_natCast, Nat.mul_one]
  rw [made_falses]
theorem BS.made (w : World) (n : Nat) : BS (w.alloc (.cells (falses n) 4)) w.heap.size (List.replicate n false) := by
  have := heap_alloc_new w (.cells (falses n) 4)
  unfold BS
  rw [this]
  have e : (bs (List.replicate n false)).toArray = falses n := by simp [bs, falses]
  rw [e]
/-- the used nodes that are marked: those that a later node than i uses, and the last -/
def Marked (q : List Nd) (U : List Bool) (i : Nat) : Prop := U.length = q.length ∧ U.getD (q.length - 1) false = true ∧ ∀ j m, i ≤ j → uses q j m → m < q.length → U.getD m false = true
theorem getD_setB {U : List Bool} {i j : Nat} {v : Bool} (h : i < U.length) : (U.set i v).getD j false = if i = j then v else U.getD j false := by
  rw [List.getD_eq_getElem?_getD, List.getElem?_set]
  by_cases e : i = j
  · subst e; rw [if_pos rfl, if_pos h, if_pos rfl]; rfl
  · rw [if_neg e, if_neg e, List.getD_eq_getElem?_getD]
end Go.Proofs.Ytcbmncafmofcpaa
