/- Layer 6: texts joined: Xba Xbb. -/
import Derived.Test.YtenbhalnpiahaaaGreatDoorJb
import Derived.Test.YtenbhalnpiahaaaGreatDoorJy
/- Layer 7: parentheses of a text that was printed: each has its other one. -/
namespace Go.Proofs.Ws
open Go
def opn (c : UInt8) : Int := if c = 40 then 1 else if c = 41 then -1 else 0
def balS (l : List UInt8) : Int := (l.map opn).sum
def Bal (l : List UInt8) : Prop := balS l = 0 ∧ ∀ k, 0 ≤ balS (l.take k)
theorem balS_app (a b : List UInt8) : balS (a ++ b) = balS a + balS b := by unfold balS; rw [List.map_append, List.sum_append]
theorem balS_cons (c : UInt8) (b : List UInt8) : balS (c :: b) = opn c + balS b := by unfold balS; rw [List.map_cons, List.sum_cons]
theorem Bal.nil : Bal [] := ⟨rfl, fun k => by rw [List.take_nil]; exact Int.le_refl _⟩
theorem Bal.app {a b : List UInt8} (h : Bal a) (k : Bal b) : Bal (a ++ b) := by
  refine ⟨by rw [balS_app, h.1, k.1]; rfl, fun n => ?_⟩
  rw [List.take_append, balS_app]
  have h1 := h.2 n
  have h2 := k.2 (n - a.length)
  omega
theorem Bal.plain {l : List UInt8} (h : ∀ c ∈ l, c ≠ 40 ∧ c ≠ 41) : Bal l := by
  have hz : ∀ m : List UInt8, (∀ c ∈ m, c ≠ 40 ∧ c ≠ 41) → balS m = 0 := by
    intro m
    induction m with
    | nil => intro _; rfl
    | cons c m ih =>
      intro hm
      rw [balS_cons, ih (fun d hd => hm d (List.mem_cons_of_mem _ hd))]
      have hc := hm c (by simp)
      unfold opn
      rw [if_neg hc.1, if_neg hc.2]; rfl
  exact ⟨hz l h, fun k => by rw [hz _ (fun c hc => h c (List.mem_of_mem_take hc))]; exact Int.le_refl _⟩
theorem Bal.cons {c : UInt8} {l : List UInt8} (hc : c ≠ 40 ∧ c ≠ 41) (h : Bal l) : Bal (c :: l) := Bal.app (a := [c]) (Bal.plain (by intro d hd; rw [List.mem_singleton] at hd; rw [hd]; exact hc)) h
theorem Bal.paren {l : List UInt8} (h : Bal l) : Bal (40 :: (l ++ [41])) := by
  refine ⟨by rw [balS_cons, balS_app, h.1]; rfl, fun n => ?_⟩
  cases n with
  | zero => exact Int.le_refl _
  | succ n =>
    rw [List.take_succ_cons, balS_cons, List.take_append, balS_app]
    have h1 := h.2 n
    have h2 : -1 ≤ balS ([41].take (n - l.length)) := by
      cases n - l.length with
      | zero => rw [List.take_zero]; decide
      | succ m => rw [List.take_succ_cons, List.take_nil]; decide
    have h3 : opn 40 = 1 := rfl
    omega
theorem Bal.enc {r l : Nat} {t : List UInt8} (h : Bal t) : Bal (encB r l t) := by
  unfold encB
  split
  · exact h.paren
  · exact h
theorem name_plain {x : ByteArray} (h : nameV x = true) : ∀ c ∈ x.data.toList, c ≠ 40 ∧ c ≠ 41 := by
  intro c hc
  unfold nameV nameL at h
  simp only [Bool.and_eq_true] at h
  have h2 := List.all_eq_true.1 h.2 c hc
  refine ⟨fun e => ?_, fun e => ?_⟩ <;> (rw [e] at h2; exact absurd h2 (by decide))
structure PlN (A F X : List ByteArray) : Prop where
  a : ∀ i, i < A.length → ∀ c ∈ (A.getD i ByteArray.empty).data.toList, c ≠ 40 ∧ c ≠ 41
  f : ∀ i, i < F.length → ∀ c ∈ (F.getD i ByteArray.empty).data.toList, c ≠ 40 ∧ c ≠ 41
  x : ∀ i, i < X.length → ∀ c ∈ (X.getD i ByteArray.empty).data.toList, c ≠ 40 ∧ c ≠ 41
theorem PlN.of_sig {A F X : List ByteArray} (h : sigErr A F X = 0) : PlN A F X := by
  obtain ⟨_, _, _, h4, _⟩ := sigErr_ok h
  have hm : ∀ (l : List ByteArray) i, i < l.length → l.getD i ByteArray.empty ∈ l := fun l i hi => by rw [List.getD_eq_getElem?_getD, List.getElem?_eq_getElem hi]; exact List.getElem_mem hi
  exact ⟨fun i hi => name_plain (h4 _ (List.mem_append_left _ (hm A i hi))).1, fun i hi => name_plain (h4 _ (List.mem_append_right _ (List.mem_append_left _ (hm F i hi)))).1, fun i hi => name_plain (h4 _ (List.mem_append_right _ (List.mem_append_right _ (hm X i hi)))).1⟩
theorem more_plain {A : List ByteArray} (hA : ∀ i, i < A.length → ∀ c ∈ (A.getD i ByteArray.empty).data.toList, c ≠ 40 ∧ c ≠ 41) : ∀ js : List Nat, (∀ j ∈ js, j < A.length) → Bal (moreB A js)
  | [], _ => Bal.nil
  | j :: js, h => by
    unfold moreB
    exact Bal.cons (by decide) ((Bal.plain (hA j (h j (by simp)))).app (more_plain hA js (fun i hi => h i (List.mem_cons_of_mem _ hi))))
theorem grp_plain {A : List ByteArray} (hA : ∀ i, i < A.length → ∀ c ∈ (A.getD i ByteArray.empty).data.toList, c ≠ 40 ∧ c ≠ 41) (g : Nat) : Bal (grpB A g) := by
  have hj : ∀ j ∈ grpI A.length g, j < A.length := fun j hj => (grpI_mem.1 hj).1
  unfold grpB
  cases hq : grpI A.length g with
  | nil => exact Bal.nil
  | cons j js =>
    rw [hq] at hj
    exact (Bal.plain (hA j (hj j (by simp)))).app (more_plain hA js (fun i hi => hj i (List.mem_cons_of_mem _ hi)))
theorem cond_plain {op : Int} {t : List UInt8} (h : Bal t) : Bal (condB op t) := by
  unfold condB
  split
  · exact Bal.nil
  · exact Bal.cons (by decide) h
theorem dig_plain {e : Nat} (he : e < 8) : ∀ c ∈ (digW e).data.toList, c ≠ 40 ∧ c ≠ 41 := by
  have h : ∀ k : Fin 8, ∀ c ∈ (digW k.1).data.toList, c ≠ 40 ∧ c ≠ 41 := by decide +kernel
  exact h ⟨e, he⟩
theorem text_bal {A F X : List ByteArray} (hN : PlN A F X) {t : Tr} (h : PrT A.length F.length X.length t) : Bal (textP A F X t) := by
  induction h with
  | tt => exact (show Bal ([116, 114, 117, 101] : List UInt8) from Bal.plain (by decide))
  | ff => exact (show Bal ([102, 97, 108, 115, 101] : List UInt8) from Bal.plain (by decide))
  | fact hi => exact Bal.plain (hN.f _ hi)
  | plain hop ha ih =>
    rw [textP_un]
    refine Bal.app ?_ ih.enc
    rcases hop with rfl | rfl | rfl
    · exact (show Bal ([126] : List UInt8) from Bal.plain (by decide))
    · exact (show Bal ([110, 101, 120, 116, 32] : List UInt8) from Bal.plain (by decide))
    · exact (show Bal ([112, 114, 101, 118, 32] : List UInt8) from Bal.plain (by decide))
  | agent hop hi ha ih =>
    rw [textP_un]
    refine Bal.app ?_ ih.enc
    rcases hop with rfl | rfl | rfl
    · exact Bal.cons (by decide) (Bal.cons (by decide) ((Bal.plain (hN.a _ hi)).app (Bal.plain (by decide))))
    · exact Bal.cons (by decide) (Bal.cons (by decide) ((Bal.plain (hN.a _ hi)).app (Bal.plain (by decide))))
    · exact Bal.cons (by decide) (Bal.cons (by decide) ((Bal.plain (hN.a _ hi)).app (Bal.plain (by decide))))
  | group hop h0 hg ha ih =>
    rw [textP_un]
    refine Bal.app ?_ ih.enc
    rcases hop with rfl | rfl
    · exact Bal.cons (by decide) (Bal.cons (by decide) ((grp_plain hN.a _).app (Bal.plain (by decide))))
    · exact Bal.cons (by decide) (Bal.cons (by decide) ((grp_plain hN.a _).app (Bal.plain (by decide))))
  | act hi he ha ih =>
    rw [textP_un]
    refine Bal.app ?_ ih.enc
    exact Bal.cons (by decide) ((Bal.plain (hN.x _ hi)).app (Bal.cons (by decide) ((Bal.plain (dig_plain he)).app (Bal.plain (by decide)))))
  | mid hm ha hb iha ihb =>
    rw [textP_bin]
    unfold MidN at hm
    rcases hm with rfl | rfl | rfl | rfl | rfl | rfl
    all_goals exact Bal.app iha.enc (Bal.cons (by decide) (Bal.app (Bal.plain (by decide)) (Bal.cons (by decide) ihb.enc)))
  | announce ha hb iha ihb =>
    rw [textP_bin]
    exact Bal.cons (by decide) (Bal.cons (by decide) (iha.app (Bal.cons (by decide) ihb.enc)))
  | belief hi ha hb iha ihb =>
    rw [textP_bin]
    exact Bal.cons (by decide) (Bal.cons (by decide) ((Bal.plain (hN.a _ hi)).app ((cond_plain iha).app (Bal.cons (by decide) ihb.enc))))
  | common h0 hg ha hb iha ihb =>
    rw [textP_bin]
    exact Bal.cons (by decide) (Bal.cons (by decide) ((grp_plain hN.a _).app ((cond_plain iha).app (Bal.cons (by decide) ihb.enc))))
/-- the place of the parenthesis that closes -/
def clF : List UInt8 → Int → Option Nat
  | [], _ => none
  | c :: r, d => if d + opn c = 0 then some 0 else (clF r (d + opn c)).map (· + 1)
def clP (l : List UInt8) (i : Nat) (d : Int) : Int :=
  match clF (l.drop i) d with
  | some j => ((i + j : Nat) : Int)
  | none => -1
theorem clF_cons (c : UInt8) (r : List UInt8) (d : Int) : clF (c :: r) d = if d + opn c = 0 then some 0 else (clF r (d + opn c)).map (· + 1) := rfl
theorem clP_step {l : List UInt8} {i : Nat} (d : Int) (h : i < l.length) : clP l i d = if d + opn l[i] = 0 then (i : Int) else clP l (i + 1) (d + opn l[i]) := by
  unfold clP
  rw [List.drop_eq_getElem_cons h, clF_cons]
  by_cases h0 : d + opn l[i] = 0
  · rw [if_pos h0, if_pos h0]; rfl
  · rw [if_neg h0, if_neg h0]
    cases clF (l.drop (i + 1)) (d + opn l[i]) with
    | none => rfl
    | some j => show ((i + (j + 1) : Nat) : Int) = ((i + 1 + j : Nat) : Int); omega
theorem clP_end {l : List UInt8} {i : Nat} (d : Int) (h : l.length ≤ i) : clP l i d = -1 := by
  unfold clP
  rw [List.drop_of_length_le h]
  rfl
theorem clF_none : ∀ (l : List UInt8) (d : Int), 0 < d → clF l d = none → 0 < d + balS l
  | [], d, h, _ => by unfold balS; simpa using h
  | c :: r, d, h, hn => by
    unfold clF at hn
    by_cases h0 : d + opn c = 0
    · rw [if_pos h0] at hn; cases hn
    · rw [if_neg h0, Option.map_eq_none_iff] at hn
      have hc : -1 ≤ opn c := by unfold opn; split <;> (try split) <;> decide
      have := clF_none r (d + opn c) (by omega) hn
      rw [balS_cons]; omega
theorem clF_some : ∀ (l : List UInt8) (d : Int) (j : Nat), 0 < d → clF l d = some j → l[j]? = some 41
  | [], _, _, _, h => by cases h
  | c :: r, d, j, hd, h => by
    unfold clF at h
    by_cases h0 : d + opn c = 0
    · rw [if_pos h0] at h
      cases h
      have hc : c = 41 := by
        unfold opn at h0
        by_cases h1 : c = 40
        · rw [if_pos h1] at h0; omega
        · rw [if_neg h1] at h0
          by_cases h2 : c = 41
          · exact h2
          · rw [if_neg h2] at h0; omega
      rw [hc]; rfl
    · rw [if_neg h0, Option.map_eq_some_iff] at h
      obtain ⟨k, hk, rfl⟩ := h
      have hc : -1 ≤ opn c := by unfold opn; split <;> (try split) <;> decide
      exact clF_some r (d + opn c) k (by omega) hk
/-- in a text with balanced parentheses each that opens is closed -/
theorem bal_close {l : List UInt8} (h : Bal l) {i : Nat} (hi : l[i]? = some 40) : ∃ j, clP l i 0 = ((i + 1 + j : Nat) : Int) ∧ l[i + 1 + j]? = some 41 := by
  obtain ⟨hlt, hc⟩ := List.getElem?_eq_some_iff.1 hi
  have h1 : opn l[i] = 1 := by rw [hc]; rfl
  rw [clP_step 0 hlt, h1, if_neg (by decide)]
  unfold clP
  cases hq : clF (l.drop (i + 1)) (0 + 1) with
  | some j =>
    refine ⟨j, rfl, ?_⟩
    have := clF_some _ _ _ (by decide) hq
    rwa [List.getElem?_drop] at this
  | none =>
    have h2 := clF_none _ _ (by decide) hq
    have h3 := h.2 i
    have h4 := h.1
    have e : l = l.take i ++ (l[i] :: l.drop (i + 1)) := by rw [← List.drop_eq_getElem_cons hlt, List.take_append_drop]
    rw [e, balS_app, balS_cons, h1] at h4
    omega
/-- a text without two of its letters has fewer parentheses that open -/
theorem cut_count {l : List UInt8} {i j : Nat} (hi : l[i]? = some 40) (hj : l[i + 1 + j]? = some 41) : (l.take i ++ ((l.drop (i + 1)).take j ++ l.drop (i + 1 + j + 1))).count 40 < l.count 40 := by
  obtain ⟨hlt, hc⟩ := List.getElem?_eq_some_iff.1 hi
  obtain ⟨hlt2, hc2⟩ := List.getElem?_eq_some_iff.1 hj
  have e : l = l.take i ++ (40 :: ((l.drop (i + 1)).take j ++ (41 :: l.drop (i + 1 + j + 1)))) := by
    have h1 : l.drop i = l[i] :: l.drop (i + 1) := List.drop_eq_getElem_cons hlt
    have h2 : l.drop (i + 1 + j) = l[i + 1 + j] :: l.drop (i + 1 + j + 1) := List.drop_eq_getElem_cons hlt2
    have h3 : (l.drop (i + 1)).take j ++ (l.drop (i + 1)).drop j = l.drop (i + 1) := List.take_append_drop _ _
    rw [List.drop_drop, h2, hc2] at h3
    rw [h3]
    conv => lhs; rw [← List.take_append_drop i l, h1, hc]
  conv => rhs; rw [e]
  simp only [List.count_append, List.count_cons]
  have : (40 : UInt8) == 40 := rfl
  have : ((41 : UInt8) == 40) = false := rfl
  simp
end Go.Proofs.Ws
/- Layer 7: closing. -/
namespace Go.Proofs.YtenbhalnpiahaaaGreatDoor
open Go.RowKit Go.Proofs.Ws
theorem opn_nat (c : UInt8) : opn c = if c.toNat = 40 then 1 else if c.toNat = 41 then -1 else 0 := by
  by_cases h1 : c = 40
  · subst h1; rfl
  · by_cases h2 : c = 41
    · subst h2; rfl
    · have n1 : c.toNat ≠ 40 := fun h => h1 (UInt8.toNat_inj.1 (h.trans rfl))
      have n2 : c.toNat ≠ 41 := fun h => h2 (UInt8.toNat_inj.1 (h.trans rfl))
      unfold opn
      rw [if_neg h1, if_neg h2, if_neg n1, if_neg n2]
set_option maxRecDepth 100000 in
set_option maxHeartbeats 2000000 in
theorem kClosing_any (s : ByteArray) (a : Nat) (ha : a ≤ s.size) (hm : s.size ≤ 1000) (w : World) :
    Calls Tryz.prog 17 #[.string s, .int .i64 (a : Int)] w fun e w' => e = .returned (.int .i64 (clP s.data.toList a 0)) ∧ w = w' := by
  have hsz := ba_len s
  have HST : Hid (∀ k d (h : k < s.size), clP s.data.toList k d = if d + opn s[k] = 0 then (k : Int) else clP s.data.toList (k + 1) (d + opn s[k])) := Lib.hid (fun k d h => clP_step (l := s.data.toList) (i := k) d (by rw [hsz]; exact h))
  have HEN : Hid (∀ d, clP s.data.toList s.size d = -1) := Lib.hid (fun d => clP_end d (by rw [hsz]; exact Nat.le_refl _))
  clear hsz
  generalize hl : s.data.toList = l at *
  clear hl
  go_enter Tryz.func17, Tryz.ntmps17
  go_wp2
  go_loopw [5, 6] (fun v i wr => ∃ (k : Nat) (d : Int), k ≤ s.size ∧ a ≤ k ∧ i = .int .i64 k ∧ v = .int .i64 d ∧ -(k : Int) ≤ d ∧ d ≤ (k : Int) ∧ Hid (clP l k d = clP l a 0) ∧ w = wr) (fun _ i _ => s.size - (intOf i).toNat)
  case atStart => exact ⟨a, 0, ha, Nat.le_refl _, rfl, rfl, by omega, by omega, Lib.hid rfl, rfl⟩
  case round =>
    obtain ⟨k, d, hk, hak, rfl, rfl, hd1, hd2, HI, rfl⟩ := hrel
    by_cases hlt : k < s.size
    · have HS := Lib.hid (HST.out k d hlt)
      have HOP : Hid (opn s[k] = if s[k].toNat = 40 then 1 else if s[k].toNat = 41 then -1 else 0) := Lib.hid (opn_nat _)
      by_cases h40 : s[k].toNat = 40
      · have b1 : ((s[k].toNat : Int) == 40) = true := by rw [h40]; rfl
        have b2 : ((s[k].toNat : Int) == 41) = false := by rw [h40]; rfl
        by_cases h0 : d + 1 = 0
        · have hd : d = -1 := by omega
          subst hd
          have HF : Hid (clP l a 0 = (k : Int)) := Lib.hid (by rw [← HI.out, HS.out, HOP.out, if_pos h40, if_pos (by decide)])
          clear HS HOP HI h0
          go_wp2
          go_ret
          exact ⟨by rw [HF.out]; rfl, rfl⟩
        · have hb0 : ((d + 1) == 0) = false := by rw [beq_eq_false_iff_ne]; exact h0
          have HI2 : Hid (clP l (k + 1) (d + 1) = clP l a 0) := Lib.hid (by rw [← HI.out, HS.out, HOP.out, if_pos h40, if_neg h0])
          clear HS HOP HI h0
          go_wp2
          go_roundw
          case rel => exact ⟨k + 1, d + 1, by omega, by omega, by go_num, rfl, by omega, by omega, HI2, by first | rfl | trivial⟩
          case measure => simp [intOf]; omega
      · have b1 : ((s[k].toNat : Int) == 40) = false := by rw [beq_eq_false_iff_ne]; omega
        by_cases h41 : s[k].toNat = 41
        · have b2 : ((s[k].toNat : Int) == 41) = true := by rw [h41]; rfl
          by_cases h0 : d - 1 = 0
          · have hd : d = 1 := by omega
            subst hd
            have HF : Hid (clP l a 0 = (k : Int)) := Lib.hid (by rw [← HI.out, HS.out, HOP.out, if_neg h40, if_pos h41, if_pos (by decide)])
            clear HS HOP HI h0
            go_wp2
            go_ret
            exact ⟨by rw [HF.out]; rfl, rfl⟩
          · have hb0 : ((d - 1) == 0) = false := by rw [beq_eq_false_iff_ne]; exact h0
            have HI2 : Hid (clP l (k + 1) (d - 1) = clP l a 0) := Lib.hid (by rw [← HI.out, HS.out, HOP.out, if_neg h40, if_pos h41, if_neg (by omega)]; congr 1)
            clear HS HOP HI h0
            go_wp2
            go_roundw
            case rel => exact ⟨k + 1, d - 1, by omega, by omega, by go_num, rfl, by omega, by omega, HI2, by first | rfl | trivial⟩
            case measure => simp [intOf]; omega
        · have b2 : ((s[k].toNat : Int) == 41) = false := by rw [beq_eq_false_iff_ne]; omega
          by_cases h0 : d = 0
          · subst h0
            have HF : Hid (clP l a 0 = (k : Int)) := Lib.hid (by rw [← HI.out, HS.out, HOP.out, if_neg h40, if_neg h41, if_pos (by decide)])
            clear HS HOP HI
            go_wp2
            go_ret
            exact ⟨by rw [HF.out]; rfl, rfl⟩
          · have hb0 : (d == 0) = false := by rw [beq_eq_false_iff_ne]; exact h0
            have HI2 : Hid (clP l (k + 1) d = clP l a 0) := Lib.hid (by rw [← HI.out, HS.out, HOP.out, if_neg h40, if_neg h41, if_neg (by omega), Int.add_zero])
            clear HS HOP HI h0
            go_wp2
            go_roundw
            case rel => exact ⟨k + 1, d, by omega, by omega, by go_num, rfl, by omega, by omega, HI2, by first | rfl | trivial⟩
            case measure => simp [intOf]; omega
    · have hkn : k = s.size := by omega
      subst hkn
      have HF : Hid (clP l a 0 = -1) := Lib.hid (by rw [← HI.out, HEN.out])
      clear HI
      go_wp2
      go_ret
      exact ⟨by rw [HF.out]; rfl, rfl⟩
end Go.Proofs.YtenbhalnpiahaaaGreatDoor
