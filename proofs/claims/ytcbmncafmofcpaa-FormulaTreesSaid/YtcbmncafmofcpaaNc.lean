/- Layer 5: the text of a tree, as the law builds it. -/
import Derived.Test.YtcbmncafmofcpaaMr
import Derived.Test.YtcbmncafmofcpaaKpd
namespace Go.Proofs.Ws
open Go
def opB : ByteArray := ⟨#[40]⟩
def clB : ByteArray := ⟨#[41]⟩
/-- the head of a node's text -/
def headB (n : Nd) : ByteArray := opB ++ Utf8.encode (65 + n.op) ++ Utf8.encode (48 + n.i) ++ Utf8.encode (48 + n.e) ++ Utf8.encode (48 + n.g)
def textB : Tr → ByteArray
  | .leaf n => headB n ++ clB
  | .un n a => headB n ++ textB a ++ clB
  | .bin n a b => headB n ++ textB a ++ textB b ++ clB
theorem enc_one (z : Int) (h0 : 0 ≤ z) (h1 : z < 128) : Utf8.encode z = ⟨#[UInt8.ofNat z.toNat]⟩ := by
  have hv : Utf8.valid z = true := by
    unfold Utf8.valid
    simp; omega
  unfold Utf8.encode
  simp only [hv, if_true]
  rw [if_pos (by omega)]
def asB (z : Int) : UInt8 := UInt8.ofNat z.toNat
/-- the fields of a node give small letters -/
def ascN (n : Nd) : Prop := (0 ≤ n.op ∧ n.op < 60) ∧ (0 ≤ n.i ∧ n.i < 60) ∧ (0 ≤ n.e ∧ n.e < 60) ∧ (0 ≤ n.g ∧ n.g < 60)
theorem headB_list {n : Nd} (h : ascN n) : (headB n).data.toList = (headT n).map asB := by
  obtain ⟨h1, h2, h3, h4⟩ := h
  unfold headB opB
  rw [enc_one _ (by omega) (by omega), enc_one _ (by omega) (by omega), enc_one _ (by omega) (by omega), enc_one _ (by omega) (by omega)]
  simp [headT, asB]
theorem headB_size {n : Nd} (h : ascN n) : (headB n).size = 5 := by
  have := congrArg List.length (headB_list h)
  simp [headT] at this
  exact this
theorem app_list (a b : ByteArray) : (a ++ b).data.toList = a.data.toList ++ b.data.toList := by simp
theorem textB_list : ∀ t : Tr, trAll ascN t → (textB t).data.toList = (textT t).map asB
  | .leaf n, h => by
    show (headB n ++ clB).data.toList = _
    rw [app_list, headB_list h]
    simp [textT, clB, asB]
  | .un n a, h => by
    show (headB n ++ textB a ++ clB).data.toList = _
    rw [app_list, app_list, headB_list h.1, textB_list a h.2]
    simp [textT, clB, asB]
  | .bin n a b, h => by
    show (headB n ++ textB a ++ textB b ++ clB).data.toList = _
    rw [app_list, app_list, app_list, headB_list h.1, textB_list a h.2.1, textB_list b h.2.2]
    simp [textT, clB, asB]
theorem textT_small : ∀ t : Tr, trAll ascN t → ∀ z ∈ textT t, 0 ≤ z ∧ z < 128
  | .leaf n, h => by
    obtain ⟨h1, h2, h3, h4⟩ := h
    intro z hz
    simp [textT, headT] at hz
    omega
  | .un n a, h => by
    obtain ⟨⟨h1, h2, h3, h4⟩, ha⟩ := h
    intro z hz
    simp [textT, headT] at hz
    rcases hz with hz | hz | hz | hz | hz | hz | hz
    all_goals first | omega | exact textT_small a ha z hz
  | .bin n a b, h => by
    obtain ⟨⟨h1, h2, h3, h4⟩, ha, hb⟩ := h
    intro z hz
    simp [textT, headT] at hz
    rcases hz with hz | hz | hz | hz | hz | hz | hz | hz
    all_goals first | omega | exact textT_small a ha z hz | exact textT_small b hb z hz
theorem map_inj : ∀ (l m : List Int), (∀ z ∈ l, 0 ≤ z ∧ z < 128) → (∀ z ∈ m, 0 ≤ z ∧ z < 128) → l.map asB = m.map asB → l = m
  | [], [], _, _, _ => rfl
  | [], _ :: _, _, _, h => by simp at h
  | _ :: _, [], _, _, h => by simp at h
  | a :: l, b :: m, hl, hm, h => by
    simp only [List.map_cons, List.cons.injEq] at h
    have ha := hl a (by simp)
    have hb := hm b (by simp)
    have e : a = b := by
      have := congrArg UInt8.toNat h.1
      unfold asB at this
      simp at this
      omega
    rw [e, map_inj l m (fun z hz => hl z (by simp [hz])) (fun z hz => hm z (by simp [hz])) h.2]
/-- the text tells trees apart -/
theorem textB_eq {t s : Tr} (ht : trOk t) (hs : trOk s) (at_ : trAll ascN t) (as_ : trAll ascN s) : textB t = textB s ↔ t = s := by
  constructor
  · intro h
    have e := congrArg (fun b : ByteArray => b.data.toList) h
    rw [textB_list t at_, textB_list s as_] at e
    exact (textT_eq ht hs).1 (map_inj _ _ (textT_small t at_) (textT_small s as_) e)
  · intro h; rw [h]
theorem textB_size : ∀ (t : Tr), trAll ascN t → (textB t).size ≤ 6 * szT t
  | .leaf n, h => by
    show (headB n ++ clB).size ≤ 6 * 1
    rw [ByteArray.size_append, headB_size h]
    show 5 + 1 ≤ 6
    omega
  | .un n a, h => by
    have := textB_size a h.2
    show (headB n ++ textB a ++ clB).size ≤ 6 * (szT a + 1)
    rw [ByteArray.size_append, ByteArray.size_append, headB_size h.1]
    have : clB.size = 1 := rfl
    omega
  | .bin n a b, h => by
    have := textB_size a h.2.1
    have := textB_size b h.2.2
    show (headB n ++ textB a ++ textB b ++ clB).size ≤ 6 * (szT a + szT b + 1)
    rw [ByteArray.size_append, ByteArray.size_append, ByteArray.size_append, headB_size h.1]
    have : clB.size = 1 := rfl
    omega
theorem szT_at {f : List Nd} (hf : opsL f) : ∀ (m i : Nat), i < m → i < f.length → szT (treeAt f i) < 2 ^ (i + 1) := by
  intro m
  induction m with
  | zero => intro i h; omega
  | succ m ih =>
    intro i h hi
    have ho := hf i hi
    rw [treeAt_eq hf hi]
    have hp : 2 ^ (i + 1) = 2 ^ i + 2 ^ i := by rw [Nat.pow_succ]; omega
    have h1 := Nat.two_pow_pos i
    have mono : ∀ j, j < i → 2 ^ (j + 1) ≤ 2 ^ i := fun j hj => Nat.pow_le_pow_right (by decide) hj
    split
    · rename_i hy
      have hx := opsOk_x ho (usesY_X hy)
      have hy2 := opsOk_y ho hy
      have a := ih _ (show (f.getD i nd0).x.toNat < m by omega) (by omega)
      have b := ih _ (show (f.getD i nd0).y.toNat < m by omega) (by omega)
      have c := mono _ hx.2
      have d := mono _ hy2.2
      show szT _ + szT _ + 1 < _
      omega
    · split
      · rename_i _ hx
        have hx := opsOk_x ho hx
        have a := ih _ (show (f.getD i nd0).x.toNat < m by omega) (by omega)
        have c := mono _ hx.2
        show szT _ + 1 < _
        omega
      · show 1 < _
        omega
theorem fld_asc {n : Nd} (h : fldOk n) : ascN (bare n) ∧ ascN n := by
  obtain ⟨hk, ⟨h1, h2, h3⟩, hr⟩ := h
  unfold known at hk
  unfold rangeOk shN shE shG at hr
  simp only [Bool.and_eq_true, Bool.or_eq_true, decide_eq_true_eq, beq_iff_eq] at hk hr
  obtain ⟨⟨hi, he⟩, hg⟩ := hr
  have key : ascN n := by
    refine ⟨by omega, ?_, ?_, ?_⟩
    · rcases h1 with a | a | a | a
      · rw [if_pos a] at hi; omega
      · by_cases h9 : n.op = 3
        · rw [if_pos h9] at hi; omega
        · rw [if_neg h9, if_pos a] at hi; omega
      · by_cases h9 : n.op = 3
        · rw [if_pos h9] at hi; omega
        · by_cases h8 : hasAgent n.op = true
          · rw [if_neg h9, if_pos h8] at hi; omega
          · rw [if_neg h9, if_neg h8, if_pos a] at hi; omega
      · omega
    · rcases h2 with a | a
      · rw [if_pos a] at he; omega
      · omega
    · rcases h3 with a | a
      · rw [if_pos a] at hg; omega
      · omega
  exact ⟨key, key⟩
end Go.Proofs.Ws
