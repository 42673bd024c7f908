/- Layer 5: conjunctions and disjunctions of lists of formulas. -/
import Derived.Test.YtcbmncafmofcpaaMw
namespace Go.Proofs.Ws
open Go
/-- the formulas joined from the left by an operator, or the one for no formula -/
def foldF (op e : Int) (ls : List (List Nd)) : List Nd :=
  match ls with
  | [] => buildF ⟨e, 0, 0, 0, 0, 0⟩ []
  | f :: fs => fs.foldl (fun a g => buildF ⟨op, 0, 0, 0, 0, 0⟩ [a, g]) (compF f)
def accF (op : Int) (ls : List (List Nd)) (k : Nat) : List Nd := ((ls.drop 1).take k).foldl (fun a g => buildF ⟨op, 0, 0, 0, 0, 0⟩ [a, g]) (compF (ls.getD 0 []))
theorem accF_succ (op : Int) (ls : List (List Nd)) (k : Nat) (h : k + 1 < ls.length) : accF op ls (k + 1) = buildF ⟨op, 0, 0, 0, 0, 0⟩ [accF op ls k, ls.getD (k + 1) []] := by
  unfold accF
  have hk : k < (ls.drop 1).length := by rw [List.length_drop]; omega
  rw [List.take_succ_eq_append_getElem hk, List.foldl_append]
  have e : (ls.drop 1)[k] = ls.getD (k + 1) [] := by
    rw [List.getElem_drop]
    simp [show 1 + k = k + 1 from by omega, h]
  rw [e]
  rfl
theorem accF_all (op e : Int) (ls : List (List Nd)) (h : ls ≠ []) : accF op ls (ls.length - 1) = foldF op e ls := by
  match ls, h with
  | f :: fs, _ =>
    unfold accF foldF
    simp
theorem buildF_len (n : Nd) (fs : List (List Nd)) : (buildF n fs).length ≤ 200 := by
  unfold buildF
  repeat' split
  all_goals first | omega | exact Nat.zero_le _
end Go.Proofs.Ws
namespace Go.Proofs.Ytcbmncafmofcpaa
open Go.RowKit Go.Proofs.Ws Go.Maps
/-- a slice of lists of nodes -/
structure LsR (W : World) (B : Nat) (A : Option Addr) (n : Nat) (ls : List (List Nd)) : Prop where
  len : ls.length = n
  ex : ∃ vs, Reads W B 1 A n vs ∧ ∀ j, j < n → ∃ Aj cj, vs[j]? = some (.slice Aj (ls.getD j []).length cj) ∧ Reads W B 6 Aj (ls.getD j []).length (nds (ls.getD j [])) ∧ (ls.getD j []).length ≤ maxLen
theorem LsR.below {W W' : World} {B B2 : Nat} {A : Option Addr} {n : Nat} {ls : List (List Nd)} (h : LsR W B A n ls) (hb : Below B W W') (h2 : B ≤ B2) : LsR W' B2 A n ls := by
  obtain ⟨vs, h1, h3⟩ := h.ex
  refine ⟨h.len, vs, (h1.below hb).more h2, fun j hj => ?_⟩
  obtain ⟨Aj, cj, e1, e2, e3⟩ := h3 j hj
  exact ⟨Aj, cj, e1, (e2.below hb).more h2, e3⟩
theorem LsR.at_ {W : World} {B : Nat} {A : Option Addr} {n k : Nat} {ls : List (List Nd)} (h : LsR W B A n ls) (hk : k < n) :
    ∃ ad Aj cj, A = some ad ∧ ad.block < B ∧ W.cell? (ad.add k) = some (.slice Aj (ls.getD k []).length cj) ∧ Reads W B 6 Aj (ls.getD k []).length (nds (ls.getD k [])) ∧ (ls.getD k []).length ≤ maxLen := by
  obtain ⟨vs, h1, h3⟩ := h.ex
  obtain ⟨Aj, cj, e1, e2, e3⟩ := h3 k hk
  obtain ⟨ad, rfl, hb, hc⟩ := h1.2 (by omega)
  exact ⟨ad, Aj, cj, rfl, hb, hc k _ e1, e2, e3⟩
theorem add_one (ad : Addr) (k : Nat) : ad.add (k + 1) = ⟨ad.block, ad.off + 1 + k, none⟩ := by
  simp only [Addr.add, Nat.succ_ne_zero, if_false]
  simp
set_option maxRecDepth 100000 in
theorem rAnd_any (f h : List Nd) (Af Ah : Option Addr) (nf cf nh ch : Nat) (w : World) (hRf : Reads w w.heap.size 6 Af nf (nds f)) (hmf : nf ≤ maxLen) (hRh : Reads w w.heap.size 6 Ah nh (nds h)) (hmh : nh ≤ maxLen) :
    Calls Try.prog 83 #[.slice Af nf cf, .slice Ah nh ch] w fun e w' => ∃ A' c', e = .returned (.slice A' (buildF ⟨5, 0, 0, 0, 0, 0⟩ [f, h]).length c') ∧ Reads w' w'.heap.size 6 A' (buildF ⟨5, 0, 0, 0, 0, 0⟩ [f, h]).length (nds (buildF ⟨5, 0, 0, 0, 0, 0⟩ [f, h])) ∧ Below w.heap.size w w' := by
  have HC := Lib.hid (rBinary_any ⟨5, 0, 0, 0, 0, 0⟩ f h Af Ah nf cf nh ch w hRf hmf hRh hmh)
  rw [← buildF_bin (n := ⟨5, 0, 0, 0, 0, 0⟩) rfl ⟨Or.inr (Or.inr (Or.inr rfl)), Or.inr rfl, Or.inr rfl⟩ rfl rfl] at HC
  unfold nv at HC
  generalize buildF ⟨5, 0, 0, 0, 0, 0⟩ [f, h] = q at *
  dsimp only at HC
  go_enter Try.func83, Try.ntmps83
  go_wp2_with fail
  refine (HC.out).mono ?_
  rintro e w2 ⟨A', c', rfl, hR2, hb2⟩
  have HR2 := Lib.hid hR2
  have HB2 := Lib.hid hb2
  clear hR2 hb2
  go_wp2
  go_ret
  exact ⟨A', c', rfl, HR2.out, HB2.out⟩
set_option maxRecDepth 100000 in
theorem rOr_any (f h : List Nd) (Af Ah : Option Addr) (nf cf nh ch : Nat) (w : World) (hRf : Reads w w.heap.size 6 Af nf (nds f)) (hmf : nf ≤ maxLen) (hRh : Reads w w.heap.size 6 Ah nh (nds h)) (hmh : nh ≤ maxLen) :
    Calls Try.prog 85 #[.slice Af nf cf, .slice Ah nh ch] w fun e w' => ∃ A' c', e = .returned (.slice A' (buildF ⟨6, 0, 0, 0, 0, 0⟩ [f, h]).length c') ∧ Reads w' w'.heap.size 6 A' (buildF ⟨6, 0, 0, 0, 0, 0⟩ [f, h]).length (nds (buildF ⟨6, 0, 0, 0, 0, 0⟩ [f, h])) ∧ Below w.heap.size w w' := by
  have HC := Lib.hid (rBinary_any ⟨6, 0, 0, 0, 0, 0⟩ f h Af Ah nf cf nh ch w hRf hmf hRh hmh)
  rw [← buildF_bin (n := ⟨6, 0, 0, 0, 0, 0⟩) rfl ⟨Or.inr (Or.inr (Or.inr rfl)), Or.inr rfl, Or.inr rfl⟩ rfl rfl] at HC
  unfold nv at HC
  generalize buildF ⟨6, 0, 0, 0, 0, 0⟩ [f, h] = q at *
  dsimp only at HC
  go_enter Try.func85, Try.ntmps85
  go_wp2_with fail
  refine (HC.out).mono ?_
  rintro e w2 ⟨A', c', rfl, hR2, hb2⟩
  have HR2 := Lib.hid hR2
  have HB2 := Lib.hid hb2
  clear hR2 hb2
  go_wp2
  go_ret
  exact ⟨A', c', rfl, HR2.out, HB2.out⟩
set_option maxRecDepth 100000 in
theorem rTrue_any (w : World) :
    Calls Try.prog 82 #[] w fun e w' => ∃ A' c', e = .returned (.slice A' (buildF ⟨1, 0, 0, 0, 0, 0⟩ []).length c') ∧ Reads w' w'.heap.size 6 A' (buildF ⟨1, 0, 0, 0, 0, 0⟩ []).length (nds (buildF ⟨1, 0, 0, 0, 0, 0⟩ [])) ∧ Below w.heap.size w w' := by
  have HC := Lib.hid (rOne_any ⟨1, 0, 0, 0, 0, 0⟩ w)
  rw [← buildF_one (n := ⟨1, 0, 0, 0, 0, 0⟩) rfl ⟨Or.inr (Or.inr (Or.inr rfl)), Or.inr rfl, Or.inr rfl⟩ rfl rfl rfl] at HC
  unfold nv at HC
  generalize buildF ⟨1, 0, 0, 0, 0, 0⟩ [] = q at *
  dsimp only at HC
  go_enter Try.func82, Try.ntmps82
  go_wp2_with fail
  refine (HC.out).mono ?_
  rintro e w2 ⟨A', c', rfl, hR2, hb2⟩
  have HR2 := Lib.hid hR2
  have HB2 := Lib.hid hb2
  clear hR2 hb2
  go_wp2
  go_ret
  exact ⟨A', c', rfl, HR2.out, HB2.out⟩
set_option maxRecDepth 100000 in
theorem rFalse_any (w : World) :
    Calls Try.prog 84 #[] w fun e w' => ∃ A' c', e = .returned (.slice A' (buildF ⟨2, 0, 0, 0, 0, 0⟩ []).length c') ∧ Reads w' w'.heap.size 6 A' (buildF ⟨2, 0, 0, 0, 0, 0⟩ []).length (nds (buildF ⟨2, 0, 0, 0, 0, 0⟩ [])) ∧ Below w.heap.size w w' := by
  have HC := Lib.hid (rOne_any ⟨2, 0, 0, 0, 0, 0⟩ w)
  rw [← buildF_one (n := ⟨2, 0, 0, 0, 0, 0⟩) rfl ⟨Or.inr (Or.inr (Or.inr rfl)), Or.inr rfl, Or.inr rfl⟩ rfl rfl rfl] at HC
  unfold nv at HC
  generalize buildF ⟨2, 0, 0, 0, 0, 0⟩ [] = q at *
  dsimp only at HC
  go_enter Try.func84, Try.ntmps84
  go_wp2_with fail
  refine (HC.out).mono ?_
  rintro e w2 ⟨A', c', rfl, hR2, hb2⟩
  have HR2 := Lib.hid hR2
  have HB2 := Lib.hid hb2
  clear hR2 hb2
  go_wp2
  go_ret
  exact ⟨A', c', rfl, HR2.out, HB2.out⟩
set_option maxRecDepth 100000 in
set_option maxHeartbeats 4000000 in
theorem foldAll_any (ls : List (List Nd)) (A A1 : Option Addr) (n c c1 : Nat) (w : World) (hL : LsR w w.heap.size A n ls) (hn : n ≤ c) (hm : n ≤ maxLen) (hE : Reads w w.heap.size 6 A1 (buildF ⟨1, 0, 0, 0, 0, 0⟩ []).length (nds (buildF ⟨1, 0, 0, 0, 0, 0⟩ []))) :
    Calls Try.prog 81 #[.slice A n c, .slice A1 (buildF ⟨1, 0, 0, 0, 0, 0⟩ []).length c1, .func (Fn.func 49) #[] #[]] w fun e w' => ∃ A' c', e = .returned (.slice A' (foldF 5 1 ls).length c') ∧ Reads w' w'.heap.size 6 A' (foldF 5 1 ls).length (nds (foldF 5 1 ls)) ∧ Below w.heap.size w w' := by
  have HLEN : Hid (∀ k, (accF 5 ls k).length ≤ maxLen) := Lib.hid (fun k => by
    have h0 : ∀ (l : List (List Nd)) (a : List Nd), a.length ≤ maxLen → (l.foldl (fun a g => buildF ⟨5, 0, 0, 0, 0, 0⟩ [a, g]) a).length ≤ maxLen := by
      intro l
      induction l with
      | nil => intro a h; exact h
      | cons g l ih => intro a _; exact ih _ (Nat.le_trans (buildF_len _ _) (by unfold maxLen; omega))
    unfold accF
    refine h0 _ _ (Nat.le_trans (compF_le _) ?_)
    by_cases hn : 0 < n
    · obtain ⟨_, _, _, _, _, _, _, h9⟩ := hL.at_ hn
      exact h9
    · have : ls = [] := List.length_eq_zero_iff.1 (by rw [hL.len]; omega)
      rw [this]; exact Nat.zero_le _)
  have HJ : Hid (∀ W g Ag cg k, Below w.heap.size w W → k + 1 < n → Reads W W.heap.size 6 Ag (accF 5 ls k).length (nds (accF 5 ls k)) → Reads W W.heap.size 6 g (ls.getD (k + 1) []).length (nds (ls.getD (k + 1) [])) → (ls.getD (k + 1) []).length ≤ maxLen → ∀ ca, Calls Try.prog 49 #[.slice Ag (accF 5 ls k).length ca, .slice g (ls.getD (k + 1) []).length cg] W fun e w' => ∃ A' c', e = .returned (.slice A' (accF 5 ls (k + 1)).length c') ∧ Reads w' w'.heap.size 6 A' (accF 5 ls (k + 1)).length (nds (accF 5 ls (k + 1))) ∧ Below W.heap.size W w') := Lib.hid (fun W g Ag cg k _ hk h1 h2 h3 ca => by
    rw [accF_succ 5 ls k (by rw [hL.len]; exact hk)]
    exact pAnd_any (accF 5 ls k) Ag _ ca (ls.getD (k + 1) []) g _ cg W h1 (HLEN.out k) h2 h3)
  have HL := Lib.hid hL
  unfold maxLen at hm
  by_cases h0 : n = 0
  · have hls : ls = [] := List.length_eq_zero_iff.1 (by rw [hL.len]; exact h0)
    subst hls
    subst h0
    have HE := Lib.hid hE
    have HQ : Hid (foldF 5 1 [] = buildF ⟨1, 0, 0, 0, 0, 0⟩ []) := Lib.hid rfl
    rw [← HQ.out] at HE
    rw [← HQ.out]
    generalize foldF 5 1 [] = q at *
    clear hE HQ hL
    go_enter Try.func81, Try.ntmps81
    go_wp2
    go_ret
    exact ⟨A1, c1, rfl, HE.out, Below.refl _ _⟩
  · have hne : ls ≠ [] := fun e => h0 (by rw [← hL.len, e]; rfl)
    have HQ := Lib.hid (accF_all 5 1 ls hne)
    have HZ : Hid (compF (ls.getD 0 []) = accF 5 ls 0) := Lib.hid rfl
    obtain ⟨ad, A0, c0, rfl, hb0, hc0, hr0, hm0⟩ := hL.at_ (k := 0) (by omega)
    have hlen := hL.len
    have HC := Lib.hid (pCompact_any (ls.getD 0 []) A0 _ c0 w hr0 hm0)
    rw [HZ.out] at HC
    have e0 : ad.add 0 = ad := by cases ad; simp [Addr.add]
    rw [e0] at hc0
    clear e0
    have hn0 : ((n : Int) == 0) = false := by rw [beq_eq_false_iff_ne]; omega
    rw [hlen] at HQ
    generalize foldF 5 1 ls = q at *
    generalize buildF ⟨1, 0, 0, 0, 0, 0⟩ [] = qe at *
    clear hE hr0 hL
    go_enter Try.func81, Try.ntmps81
    go_wp2_with fail
    refine (HC.out).mono ?_
    rintro e w1 ⟨A3, c3, rfl, hR3, hb3⟩
    have HR3 := Lib.hid hR3
    have HB3 := Lib.hid hb3
    clear hR3 hb3 hc0
    go_wp2
    have HL1 := Lib.hid (HL.out.below HB3.out HB3.out.size)
    case inl =>
      go_loopw [7, 9, 21] (fun u7 _ i wr => ∃ k A' c', k ≤ n - 1 ∧ i = .int .i64 (k : Nat) ∧ u7 = .slice A' (accF 5 ls k).length c' ∧ Hid (Reads wr wr.heap.size 6 A' (accF 5 ls k).length (nds (accF 5 ls k))) ∧ Hid (Below w.heap.size w wr)) (fun _ _ i _ => n - 1 - (intOf i).toNat)
      case atStart => exact ⟨0, A3, c3, Nat.zero_le _, rfl, rfl, HR3, HB3⟩
      case round =>
        obtain ⟨k, A', c', hk, rfl, rfl, HR, HB⟩ := hrel
        have hk0 : k = n - 1 := by omega
        have hd : decide ((k : Int) < ((n - 1 : Nat) : Int)) = false := decide_eq_false (by omega)
        have HK : Hid (accF 5 ls k = q) := Lib.hid (by rw [hk0]; exact HQ.out)
        clear HQ hk0
        go_wp2
        go_ret
        exact ⟨A', c', by rw [HK.out]; rfl, by rw [← HK.out]; exact HR.out, HB.out⟩
    case inr =>
      go_loopw [7, 9, 21] (fun u7 _ i wr => ∃ k A' c', k ≤ n - 1 ∧ i = .int .i64 (k : Nat) ∧ u7 = .slice A' (accF 5 ls k).length c' ∧ Hid (Reads wr wr.heap.size 6 A' (accF 5 ls k).length (nds (accF 5 ls k))) ∧ Hid (Below w.heap.size w wr)) (fun _ _ i _ => n - 1 - (intOf i).toNat)
      case atStart => exact ⟨0, A3, c3, Nat.zero_le _, rfl, rfl, HR3, HB3⟩
      case round =>
        obtain ⟨k, A', c', hk, rfl, rfl, HR, HB⟩ := hrel
        by_cases hlt : k < n - 1
        · obtain ⟨ad', Aj, cj, he, hbj, hcj, hrj, hmj⟩ := HL.out.at_ (k := k + 1) (by omega)
          injection he with he
          subst he
          have hcell : wr.cell? ⟨ad.block, ad.off + 1 + k, none⟩ = some (.slice Aj (ls.getD (k + 1) []).length cj) := by
            rw [← add_one]
            exact (HB.out.cell (p := ad.add (k + 1)) (by rw [block_of_add]; exact hbj)).trans hcj
          have HJk := Lib.hid (HJ.out wr Aj A' cj k HB.out (by omega) HR.out ((hrj.below HB.out).more HB.out.size) hmj c')
          generalize hq2 : accF 5 ls (k + 1) = q2 at *
          have HQ2 := Lib.hid hq2
          clear hq2
          clear hrj hmj hbj hcj
          go_wp2_with fail
          refine (HJk.out).mono ?_
          rintro e w4 ⟨A4, c4, rfl, hR4, hb4⟩
          have HR4 := Lib.hid hR4
          have HB4 := Lib.hid (HB.out.trans (hb4.mono HB.out.size))
          clear hR4 hb4
          go_wp2
          go_roundw
          case rel => exact ⟨k + 1, A4, c4, by omega, by go_num, by rw [HQ2.out], by rw [HQ2.out]; exact HR4, HB4⟩
          case measure => simp [intOf]; omega
        · have hk0 : k = n - 1 := by omega
          have hd : decide ((k : Int) < ((n - 1 : Nat) : Int)) = false := decide_eq_false (by omega)
          have HK : Hid (accF 5 ls k = q) := Lib.hid (by rw [hk0]; exact HQ.out)
          clear HQ hk0
          go_wp2
          go_ret
          exact ⟨A', c', by rw [HK.out]; rfl, by rw [← HK.out]; exact HR.out, HB.out⟩
set_option maxRecDepth 100000 in
theorem pAll_any (ls : List (List Nd)) (A : Option Addr) (n c : Nat) (w : World) (hL : LsR w w.heap.size A n ls) (hn : n ≤ c) (hm : n ≤ maxLen) :
    Calls Try.prog 40 #[.slice A n c] w fun e w' => ∃ A' c', e = .returned (.slice A' (foldF 5 1 ls).length c') ∧ Reads w' w'.heap.size 6 A' (foldF 5 1 ls).length (nds (foldF 5 1 ls)) ∧ Below w.heap.size w w' := by
  have HT := Lib.hid (pTrue_any w)
  have HF : Hid (∀ W A1 c1, Below w.heap.size w W → Reads W W.heap.size 6 A1 (buildF ⟨1, 0, 0, 0, 0, 0⟩ []).length (nds (buildF ⟨1, 0, 0, 0, 0, 0⟩ [])) → Calls Try.prog 81 #[.slice A n c, .slice A1 (buildF ⟨1, 0, 0, 0, 0, 0⟩ []).length c1, .func (Fn.func 49) #[] #[]] W fun e w' => ∃ A' c', e = .returned (.slice A' (foldF 5 1 ls).length c') ∧ Reads w' w'.heap.size 6 A' (foldF 5 1 ls).length (nds (foldF 5 1 ls)) ∧ Below W.heap.size W w') := Lib.hid (fun W A1 c1 hb hr => foldAll_any ls A A1 n c c1 W (hL.below hb hb.size) hn hm hr)
  generalize foldF 5 1 ls = q at *
  generalize buildF ⟨1, 0, 0, 0, 0, 0⟩ [] = qe at *
  clear hL
  go_enter Try.func40, Try.ntmps40
  go_wp2_with fail
  refine (HT.out).mono ?_
  rintro e w1 ⟨A1, c1, rfl, hR1, hb1⟩
  have HR1 := Lib.hid hR1
  have HB1 := Lib.hid hb1
  clear hR1 hb1
  go_wp2_with fail
  refine (HF.out _ _ _ HB1.out HR1.out).mono ?_
  rintro e w2 ⟨A', c', rfl, hR2, hb2⟩
  have HR2 := Lib.hid hR2
  have HB2 := Lib.hid (HB1.out.trans (hb2.mono HB1.out.size))
  clear hR2 hb2
  go_wp2
  go_ret
  exact ⟨A', c', rfl, HR2.out, HB2.out⟩
set_option maxRecDepth 100000 in
set_option maxHeartbeats 4000000 in
theorem rAll_any (ls : List (List Nd)) (A : Option Addr) (n c : Nat) (w : World) (hL : LsR w w.heap.size A n ls) (hm : n ≤ maxLen) :
    Calls Try.prog 41 #[.slice A n c] w fun e w' => ∃ A' c', e = .returned (.slice A' (foldF 5 1 ls).length c') ∧ Reads w' w'.heap.size 6 A' (foldF 5 1 ls).length (nds (foldF 5 1 ls)) ∧ Below w.heap.size w w' := by
  have HLEN : Hid (∀ k, (accF 5 ls k).length ≤ maxLen) := Lib.hid (fun k => by
    have h0 : ∀ (l : List (List Nd)) (a : List Nd), a.length ≤ maxLen → (l.foldl (fun a g => buildF ⟨5, 0, 0, 0, 0, 0⟩ [a, g]) a).length ≤ maxLen := by
      intro l
      induction l with
      | nil => intro a h; exact h
      | cons g l ih => intro a _; exact ih _ (Nat.le_trans (buildF_len _ _) (by unfold maxLen; omega))
    unfold accF
    refine h0 _ _ (Nat.le_trans (compF_le _) ?_)
    by_cases hn : 0 < n
    · obtain ⟨_, _, _, _, _, _, _, h9⟩ := hL.at_ hn
      exact h9
    · have : ls = [] := List.length_eq_zero_iff.1 (by rw [hL.len]; omega)
      rw [this]; exact Nat.zero_le _)
  have HJ : Hid (∀ W g Ag cg k, Below w.heap.size w W → k + 1 < n → Reads W W.heap.size 6 Ag (accF 5 ls k).length (nds (accF 5 ls k)) → Reads W W.heap.size 6 g (ls.getD (k + 1) []).length (nds (ls.getD (k + 1) [])) → (ls.getD (k + 1) []).length ≤ maxLen → ∀ ca, Calls Try.prog 83 #[.slice Ag (accF 5 ls k).length ca, .slice g (ls.getD (k + 1) []).length cg] W fun e w' => ∃ A' c', e = .returned (.slice A' (accF 5 ls (k + 1)).length c') ∧ Reads w' w'.heap.size 6 A' (accF 5 ls (k + 1)).length (nds (accF 5 ls (k + 1))) ∧ Below W.heap.size W w') := Lib.hid (fun W g Ag cg k _ hk h1 h2 h3 ca => by
    rw [accF_succ 5 ls k (by rw [hL.len]; exact hk)]
    exact rAnd_any (accF 5 ls k) (ls.getD (k + 1) []) Ag g _ ca _ cg W h1 (HLEN.out k) h2 h3)
  have HL := Lib.hid hL
  unfold maxLen at hm
  by_cases h0 : n = 0
  · have hls : ls = [] := List.length_eq_zero_iff.1 (by rw [hL.len]; exact h0)
    subst hls
    subst h0
    have HE := Lib.hid (rTrue_any w)
    have HQ : Hid (foldF 5 1 [] = buildF ⟨1, 0, 0, 0, 0, 0⟩ []) := Lib.hid rfl
    rw [← HQ.out] at HE
    generalize foldF 5 1 [] = q at *
    clear HQ hL
    go_enter Try.func41, Try.ntmps41
    go_wp2_with fail
    refine (HE.out).mono ?_
    rintro e w2 ⟨A', c', rfl, hR2, hb2⟩
    have HR2 := Lib.hid hR2
    have HB2 := Lib.hid hb2
    clear hR2 hb2
    go_wp2
    go_ret
    exact ⟨A', c', rfl, HR2.out, HB2.out⟩
  · have hne : ls ≠ [] := fun e => h0 (by rw [← hL.len, e]; rfl)
    have HQ := Lib.hid (accF_all 5 1 ls hne)
    have HZ : Hid (compF (ls.getD 0 []) = accF 5 ls 0) := Lib.hid rfl
    obtain ⟨ad, A0, c0, rfl, hb0, hc0, hr0, hm0⟩ := hL.at_ (k := 0) (by omega)
    have hlen := hL.len
    have HC := Lib.hid (rCompact_any (ls.getD 0 []) A0 _ c0 w hr0 hm0)
    rw [HZ.out] at HC
    have e0 : ad.add 0 = ad := by cases ad; simp [Addr.add]
    rw [e0] at hc0
    clear e0
    have hn0 : ((n : Int) == 0) = false := by rw [beq_eq_false_iff_ne]; omega
    rw [hlen] at HQ
    generalize foldF 5 1 ls = q at *
    clear hr0 hL
    go_enter Try.func41, Try.ntmps41
    go_wp2_with fail
    refine (HC.out).mono ?_
    rintro e w1 ⟨A3, c3, rfl, hR3, hb3⟩
    have HR3 := Lib.hid hR3
    have HB3 := Lib.hid hb3
    clear hR3 hb3 hc0
    go_wp2
    go_loopw [3, 4] (fun u3 i wr => ∃ k A' c', k + 1 ≤ n ∧ i = .int .i64 ((k + 1 : Nat) : Int) ∧ u3 = .slice A' (accF 5 ls k).length c' ∧ Hid (Reads wr wr.heap.size 6 A' (accF 5 ls k).length (nds (accF 5 ls k))) ∧ Hid (Below w.heap.size w wr)) (fun _ i _ => n - (intOf i).toNat)
    case atStart => exact ⟨0, A3, c3, by omega, rfl, rfl, HR3, HB3⟩
    case round =>
      obtain ⟨k, A', c', hk, rfl, rfl, HR, HB⟩ := hrel
      by_cases hlt : k + 1 < n
      · obtain ⟨ad', Aj, cj, he, hbj, hcj, hrj, hmj⟩ := HL.out.at_ (k := k + 1) hlt
        injection he with he
        subst he
        have hcell : wr.cell? (ad.add (k + 1)) = some (.slice Aj (ls.getD (k + 1) []).length cj) := (HB.out.cell (p := ad.add (k + 1)) (by rw [block_of_add]; exact hbj)).trans hcj
        have HJk := Lib.hid (HJ.out wr Aj A' cj k HB.out hlt HR.out ((hrj.below HB.out).more HB.out.size) hmj c')
        generalize hq2 : accF 5 ls (k + 1) = q2 at *
        have HQ2 := Lib.hid hq2
        generalize ls.getD (k + 1) [] = gk at *
        generalize hk1 : k + 1 = k1 at *
        have HK1 := Lib.hid hk1
        clear hq2 hrj hmj hbj hcj hk1
        go_wp2_with fail
        refine (HJk.out).mono ?_
        rintro e w4 ⟨A4, c4, rfl, hR4, hb4⟩
        have HR4 := Lib.hid hR4
        have HB4 := Lib.hid (HB.out.trans (hb4.mono HB.out.size))
        clear hR4 hb4
        go_wp2
        go_roundw
        case rel => exact ⟨k1, A4, c4, by omega, by go_num, by rw [HQ2.out], by rw [HQ2.out]; exact HR4, HB4⟩
        case measure => simp [intOf]; omega
      · have hk0 : k = n - 1 := by omega
        have HK : Hid (accF 5 ls k = q) := Lib.hid (by rw [hk0]; exact HQ.out)
        have hd : decide (((k + 1 : Nat) : Int) < (n : Int)) = false := decide_eq_false (by omega)
        clear HQ hk0
        go_wp2
        go_ret
        exact ⟨A', c', by rw [HK.out]; rfl, by rw [← HK.out]; exact HR.out, HB.out⟩
set_option maxRecDepth 100000 in
set_option maxHeartbeats 4000000 in
theorem foldAny_any (ls : List (List Nd)) (A A1 : Option Addr) (n c c1 : Nat) (w : World) (hL : LsR w w.heap.size A n ls) (hn : n ≤ c) (hm : n ≤ maxLen) (hE : Reads w w.heap.size 6 A1 (buildF ⟨2, 0, 0, 0, 0, 0⟩ []).length (nds (buildF ⟨2, 0, 0, 0, 0, 0⟩ []))) :
    Calls Try.prog 81 #[.slice A n c, .slice A1 (buildF ⟨2, 0, 0, 0, 0, 0⟩ []).length c1, .func (Fn.func 47) #[] #[]] w fun e w' => ∃ A' c', e = .returned (.slice A' (foldF 6 2 ls).length c') ∧ Reads w' w'.heap.size 6 A' (foldF 6 2 ls).length (nds (foldF 6 2 ls)) ∧ Below w.heap.size w w' := by
  have HLEN : Hid (∀ k, (accF 6 ls k).length ≤ maxLen) := Lib.hid (fun k => by
    have h0 : ∀ (l : List (List Nd)) (a : List Nd), a.length ≤ maxLen → (l.foldl (fun a g => buildF ⟨6, 0, 0, 0, 0, 0⟩ [a, g]) a).length ≤ maxLen := by
      intro l
      induction l with
      | nil => intro a h; exact h
      | cons g l ih => intro a _; exact ih _ (Nat.le_trans (buildF_len _ _) (by unfold maxLen; omega))
    unfold accF
    refine h0 _ _ (Nat.le_trans (compF_le _) ?_)
    by_cases hn : 0 < n
    · obtain ⟨_, _, _, _, _, _, _, h9⟩ := hL.at_ hn
      exact h9
    · have : ls = [] := List.length_eq_zero_iff.1 (by rw [hL.len]; omega)
      rw [this]; exact Nat.zero_le _)
  have HJ : Hid (∀ W g Ag cg k, Below w.heap.size w W → k + 1 < n → Reads W W.heap.size 6 Ag (accF 6 ls k).length (nds (accF 6 ls k)) → Reads W W.heap.size 6 g (ls.getD (k + 1) []).length (nds (ls.getD (k + 1) [])) → (ls.getD (k + 1) []).length ≤ maxLen → ∀ ca, Calls Try.prog 47 #[.slice Ag (accF 6 ls k).length ca, .slice g (ls.getD (k + 1) []).length cg] W fun e w' => ∃ A' c', e = .returned (.slice A' (accF 6 ls (k + 1)).length c') ∧ Reads w' w'.heap.size 6 A' (accF 6 ls (k + 1)).length (nds (accF 6 ls (k + 1))) ∧ Below W.heap.size W w') := Lib.hid (fun W g Ag cg k _ hk h1 h2 h3 ca => by
    rw [accF_succ 6 ls k (by rw [hL.len]; exact hk)]
    exact pOr_any (accF 6 ls k) Ag _ ca (ls.getD (k + 1) []) g _ cg W h1 (HLEN.out k) h2 h3)
  have HL := Lib.hid hL
  unfold maxLen at hm
  by_cases h0 : n = 0
  · have hls : ls = [] := List.length_eq_zero_iff.1 (by rw [hL.len]; exact h0)
    subst hls
    subst h0
    have HE := Lib.hid hE
    have HQ : Hid (foldF 6 2 [] = buildF ⟨2, 0, 0, 0, 0, 0⟩ []) := Lib.hid rfl
    rw [← HQ.out] at HE
    rw [← HQ.out]
    generalize foldF 6 2 [] = q at *
    clear hE HQ hL
    go_enter Try.func81, Try.ntmps81
    go_wp2
    go_ret
    exact ⟨A1, c1, rfl, HE.out, Below.refl _ _⟩
  · have hne : ls ≠ [] := fun e => h0 (by rw [← hL.len, e]; rfl)
    have HQ := Lib.hid (accF_all 6 2 ls hne)
    have HZ : Hid (compF (ls.getD 0 []) = accF 6 ls 0) := Lib.hid rfl
    obtain ⟨ad, A0, c0, rfl, hb0, hc0, hr0, hm0⟩ := hL.at_ (k := 0) (by omega)
    have hlen := hL.len
    have HC := Lib.hid (pCompact_any (ls.getD 0 []) A0 _ c0 w hr0 hm0)
    rw [HZ.out] at HC
    have e0 : ad.add 0 = ad := by cases ad; simp [Addr.add]
    rw [e0] at hc0
    clear e0
    have hn0 : ((n : Int) == 0) = false := by rw [beq_eq_false_iff_ne]; omega
    rw [hlen] at HQ
    generalize foldF 6 2 ls = q at *
    generalize buildF ⟨2, 0, 0, 0, 0, 0⟩ [] = qe at *
    clear hE hr0 hL
    go_enter Try.func81, Try.ntmps81
    go_wp2_with fail
    refine (HC.out).mono ?_
    rintro e w1 ⟨A3, c3, rfl, hR3, hb3⟩
    have HR3 := Lib.hid hR3
    have HB3 := Lib.hid hb3
    clear hR3 hb3 hc0
    go_wp2
    have HL1 := Lib.hid (HL.out.below HB3.out HB3.out.size)
    case inl =>
      go_loopw [7, 9, 21] (fun u7 _ i wr => ∃ k A' c', k ≤ n - 1 ∧ i = .int .i64 (k : Nat) ∧ u7 = .slice A' (accF 6 ls k).length c' ∧ Hid (Reads wr wr.heap.size 6 A' (accF 6 ls k).length (nds (accF 6 ls k))) ∧ Hid (Below w.heap.size w wr)) (fun _ _ i _ => n - 1 - (intOf i).toNat)
      case atStart => exact ⟨0, A3, c3, Nat.zero_le _, rfl, rfl, HR3, HB3⟩
      case round =>
        obtain ⟨k, A', c', hk, rfl, rfl, HR, HB⟩ := hrel
        have hk0 : k = n - 1 := by omega
        have hd : decide ((k : Int) < ((n - 1 : Nat) : Int)) = false := decide_eq_false (by omega)
        have HK : Hid (accF 6 ls k = q) := Lib.hid (by rw [hk0]; exact HQ.out)
        clear HQ hk0
        go_wp2
        go_ret
        exact ⟨A', c', by rw [HK.out]; rfl, by rw [← HK.out]; exact HR.out, HB.out⟩
    case inr =>
      go_loopw [7, 9, 21] (fun u7 _ i wr => ∃ k A' c', k ≤ n - 1 ∧ i = .int .i64 (k : Nat) ∧ u7 = .slice A' (accF 6 ls k).length c' ∧ Hid (Reads wr wr.heap.size 6 A' (accF 6 ls k).length (nds (accF 6 ls k))) ∧ Hid (Below w.heap.size w wr)) (fun _ _ i _ => n - 1 - (intOf i).toNat)
      case atStart => exact ⟨0, A3, c3, Nat.zero_le _, rfl, rfl, HR3, HB3⟩
      case round =>
        obtain ⟨k, A', c', hk, rfl, rfl, HR, HB⟩ := hrel
        by_cases hlt : k < n - 1
        · obtain ⟨ad', Aj, cj, he, hbj, hcj, hrj, hmj⟩ := HL.out.at_ (k := k + 1) (by omega)
          injection he with he
          subst he
          have hcell : wr.cell? ⟨ad.block, ad.off + 1 + k, none⟩ = some (.slice Aj (ls.getD (k + 1) []).length cj) := by
            rw [← add_one]
            exact (HB.out.cell (p := ad.add (k + 1)) (by rw [block_of_add]; exact hbj)).trans hcj
          have HJk := Lib.hid (HJ.out wr Aj A' cj k HB.out (by omega) HR.out ((hrj.below HB.out).more HB.out.size) hmj c')
          generalize hq2 : accF 6 ls (k + 1) = q2 at *
          have HQ2 := Lib.hid hq2
          clear hq2
          clear hrj hmj hbj hcj
          go_wp2_with fail
          refine (HJk.out).mono ?_
          rintro e w4 ⟨A4, c4, rfl, hR4, hb4⟩
          have HR4 := Lib.hid hR4
          have HB4 := Lib.hid (HB.out.trans (hb4.mono HB.out.size))
          clear hR4 hb4
          go_wp2
          go_roundw
          case rel => exact ⟨k + 1, A4, c4, by omega, by go_num, by rw [HQ2.out], by rw [HQ2.out]; exact HR4, HB4⟩
          case measure => simp [intOf]; omega
        · have hk0 : k = n - 1 := by omega
          have hd : decide ((k : Int) < ((n - 1 : Nat) : Int)) = false := decide_eq_false (by omega)
          have HK : Hid (accF 6 ls k = q) := Lib.hid (by rw [hk0]; exact HQ.out)
          clear HQ hk0
          go_wp2
          go_ret
          exact ⟨A', c', by rw [HK.out]; rfl, by rw [← HK.out]; exact HR.out, HB.out⟩
set_option maxRecDepth 100000 in
theorem pAny_any (ls : List (List Nd)) (A : Option Addr) (n c : Nat) (w : World) (hL : LsR w w.heap.size A n ls) (hn : n ≤ c) (hm : n ≤ maxLen) :
    Calls Try.prog 42 #[.slice A n c] w fun e w' => ∃ A' c', e = .returned (.slice A' (foldF 6 2 ls).length c') ∧ Reads w' w'.heap.size 6 A' (foldF 6 2 ls).length (nds (foldF 6 2 ls)) ∧ Below w.heap.size w w' := by
  have HT := Lib.hid (pFalse_any w)
  have HF : Hid (∀ W A1 c1, Below w.heap.size w W → Reads W W.heap.size 6 A1 (buildF ⟨2, 0, 0, 0, 0, 0⟩ []).length (nds (buildF ⟨2, 0, 0, 0, 0, 0⟩ [])) → Calls Try.prog 81 #[.slice A n c, .slice A1 (buildF ⟨2, 0, 0, 0, 0, 0⟩ []).length c1, .func (Fn.func 47) #[] #[]] W fun e w' => ∃ A' c', e = .returned (.slice A' (foldF 6 2 ls).length c') ∧ Reads w' w'.heap.size 6 A' (foldF 6 2 ls).length (nds (foldF 6 2 ls)) ∧ Below W.heap.size W w') := Lib.hid (fun W A1 c1 hb hr => foldAny_any ls A A1 n c c1 W (hL.below hb hb.size) hn hm hr)
  generalize foldF 6 2 ls = q at *
  generalize buildF ⟨2, 0, 0, 0, 0, 0⟩ [] = qe at *
  clear hL
  go_enter Try.func42, Try.ntmps42
  go_wp2_with fail
  refine (HT.out).mono ?_
  rintro e w1 ⟨A1, c1, rfl, hR1, hb1⟩
  have HR1 := Lib.hid hR1
  have HB1 := Lib.hid hb1
  clear hR1 hb1
  go_wp2_with fail
  refine (HF.out _ _ _ HB1.out HR1.out).mono ?_
  rintro e w2 ⟨A', c', rfl, hR2, hb2⟩
  have HR2 := Lib.hid hR2
  have HB2 := Lib.hid (HB1.out.trans (hb2.mono HB1.out.size))
  clear hR2 hb2
  go_wp2
  go_ret
  exact ⟨A', c', rfl, HR2.out, HB2.out⟩
set_option maxRecDepth 100000 in
set_option maxHeartbeats 4000000 in
theorem rAny_any (ls : List (List Nd)) (A : Option Addr) (n c : Nat) (w : World) (hL : LsR w w.heap.size A n ls) (hm : n ≤ maxLen) :
    Calls Try.prog 43 #[.slice A n c] w fun e w' => ∃ A' c', e = .returned (.slice A' (foldF 6 2 ls).length c') ∧ Reads w' w'.heap.size 6 A' (foldF 6 2 ls).length (nds (foldF 6 2 ls)) ∧ Below w.heap.size w w' := by
  have HLEN : Hid (∀ k, (accF 6 ls k).length ≤ maxLen) := Lib.hid (fun k => by
    have h0 : ∀ (l : List (List Nd)) (a : List Nd), a.length ≤ maxLen → (l.foldl (fun a g => buildF ⟨6, 0, 0, 0, 0, 0⟩ [a, g]) a).length ≤ maxLen := by
      intro l
      induction l with
      | nil => intro a h; exact h
      | cons g l ih => intro a _; exact ih _ (Nat.le_trans (buildF_len _ _) (by unfold maxLen; omega))
    unfold accF
    refine h0 _ _ (Nat.le_trans (compF_le _) ?_)
    by_cases hn : 0 < n
    · obtain ⟨_, _, _, _, _, _, _, h9⟩ := hL.at_ hn
      exact h9
    · have : ls = [] := List.length_eq_zero_iff.1 (by rw [hL.len]; omega)
      rw [this]; exact Nat.zero_le _)
  have HJ : Hid (∀ W g Ag cg k, Below w.heap.size w W → k + 1 < n → Reads W W.heap.size 6 Ag (accF 6 ls k).length (nds (accF 6 ls k)) → Reads W W.heap.size 6 g (ls.getD (k + 1) []).length (nds (ls.getD (k + 1) [])) → (ls.getD (k + 1) []).length ≤ maxLen → ∀ ca, Calls Try.prog 85 #[.slice Ag (accF 6 ls k).length ca, .slice g (ls.getD (k + 1) []).length cg] W fun e w' => ∃ A' c', e = .returned (.slice A' (accF 6 ls (k + 1)).length c') ∧ Reads w' w'.heap.size 6 A' (accF 6 ls (k + 1)).length (nds (accF 6 ls (k + 1))) ∧ Below W.heap.size W w') := Lib.hid (fun W g Ag cg k _ hk h1 h2 h3 ca => by
    rw [accF_succ 6 ls k (by rw [hL.len]; exact hk)]
    exact rOr_any (accF 6 ls k) (ls.getD (k + 1) []) Ag g _ ca _ cg W h1 (HLEN.out k) h2 h3)
  have HL := Lib.hid hL
  unfold maxLen at hm
  by_cases h0 : n = 0
  · have hls : ls = [] := List.length_eq_zero_iff.1 (by rw [hL.len]; exact h0)
    subst hls
    subst h0
    have HE := Lib.hid (rFalse_any w)
    have HQ : Hid (foldF 6 2 [] = buildF ⟨2, 0, 0, 0, 0, 0⟩ []) := Lib.hid rfl
    rw [← HQ.out] at HE
    generalize foldF 6 2 [] = q at *
    clear HQ hL
    go_enter Try.func43, Try.ntmps43
    go_wp2_with fail
    refine (HE.out).mono ?_
    rintro e w2 ⟨A', c', rfl, hR2, hb2⟩
    have HR2 := Lib.hid hR2
    have HB2 := Lib.hid hb2
    clear hR2 hb2
    go_wp2
    go_ret
    exact ⟨A', c', rfl, HR2.out, HB2.out⟩
  · have hne : ls ≠ [] := fun e => h0 (by rw [← hL.len, e]; rfl)
    have HQ := Lib.hid (accF_all 6 2 ls hne)
    have HZ : Hid (compF (ls.getD 0 []) = accF 6 ls 0) := Lib.hid rfl
    obtain ⟨ad, A0, c0, rfl, hb0, hc0, hr0, hm0⟩ := hL.at_ (k := 0) (by omega)
    have hlen := hL.len
    have HC := Lib.hid (rCompact_any (ls.getD 0 []) A0 _ c0 w hr0 hm0)
    rw [HZ.out] at HC
    have e0 : ad.add 0 = ad := by cases ad; simp [Addr.add]
    rw [e0] at hc0
    clear e0
    have hn0 : ((n : Int) == 0) = false := by rw [beq_eq_false_iff_ne]; omega
    rw [hlen] at HQ
    generalize foldF 6 2 ls = q at *
    clear hr0 hL
    go_enter Try.func43, Try.ntmps43
    go_wp2_with fail
    refine (HC.out).mono ?_
    rintro e w1 ⟨A3, c3, rfl, hR3, hb3⟩
    have HR3 := Lib.hid hR3
    have HB3 := Lib.hid hb3
    clear hR3 hb3 hc0
    go_wp2
    go_loopw [3, 4] (fun u3 i wr => ∃ k A' c', k + 1 ≤ n ∧ i = .int .i64 ((k + 1 : Nat) : Int) ∧ u3 = .slice A' (accF 6 ls k).length c' ∧ Hid (Reads wr wr.heap.size 6 A' (accF 6 ls k).length (nds (accF 6 ls k))) ∧ Hid (Below w.heap.size w wr)) (fun _ i _ => n - (intOf i).toNat)
    case atStart => exact ⟨0, A3, c3, by omega, rfl, rfl, HR3, HB3⟩
    case round =>
      obtain ⟨k, A', c', hk, rfl, rfl, HR, HB⟩ := hrel
      by_cases hlt : k + 1 < n
      · obtain ⟨ad', Aj, cj, he, hbj, hcj, hrj, hmj⟩ := HL.out.at_ (k := k + 1) hlt
        injection he with he
        subst he
        have hcell : wr.cell? (ad.add (k + 1)) = some (.slice Aj (ls.getD (k + 1) []).length cj) := (HB.out.cell (p := ad.add (k + 1)) (by rw [block_of_add]; exact hbj)).trans hcj
        have HJk := Lib.hid (HJ.out wr Aj A' cj k HB.out hlt HR.out ((hrj.below HB.out).more HB.out.size) hmj c')
        generalize hq2 : accF 6 ls (k + 1) = q2 at *
        have HQ2 := Lib.hid hq2
        generalize ls.getD (k + 1) [] = gk at *
        generalize hk1 : k + 1 = k1 at *
        have HK1 := Lib.hid hk1
        clear hq2 hrj hmj hbj hcj hk1
        go_wp2_with fail
        refine (HJk.out).mono ?_
        rintro e w4 ⟨A4, c4, rfl, hR4, hb4⟩
        have HR4 := Lib.hid hR4
        have HB4 := Lib.hid (HB.out.trans (hb4.mono HB.out.size))
        clear hR4 hb4
        go_wp2
        go_roundw
        case rel => exact ⟨k1, A4, c4, by omega, by go_num, by rw [HQ2.out], by rw [HQ2.out]; exact HR4, HB4⟩
        case measure => simp [intOf]; omega
      · have hk0 : k = n - 1 := by omega
        have HK : Hid (accF 6 ls k = q) := Lib.hid (by rw [hk0]; exact HQ.out)
        have hd : decide (((k + 1 : Nat) : Int) < (n : Int)) = false := decide_eq_false (by omega)
        clear HQ hk0
        go_wp2
        go_ret
        exact ⟨A', c', by rw [HK.out]; rfl, by rw [← HK.out]; exact HR.out, HB.out⟩
end Go.Proofs.Ytcbmncafmofcpaa
