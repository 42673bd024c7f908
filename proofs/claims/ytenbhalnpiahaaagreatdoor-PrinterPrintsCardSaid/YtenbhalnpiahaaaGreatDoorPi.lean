/- Layer 6: texts joined: Xaa Xab. -/
import Derived.Test.YtenbhalnpiahaaaGreatDoorMt
import Derived.Test.YtenbhalnpiahaaaGreatDoorPe
import Derived.Test.YtenbhalnpiahaaaGreatDoorPh
import Derived.Test.YtenbhalnpiahaaaGreatDoorXx
import Derived.Test.YtenbhalnpiahaaaGreatDoorXy
import Derived.Test.YtenbhalnpiahaaaGreatDoorXz
/- Layer 7: text of the reference, at every node; named. -/
namespace Go.Proofs.YtenbhalnpiahaaaGreatDoor
open Go.RowKit Go.Proofs.Ws
theorem sig_lens {w : World} {a0 : Option Addr} {n0 c0 : Nat} {a1 : Option Addr} {n1 c1 : Nat} {a2 : Option Addr} {n2 c2 : Nat} {A F X : List ByteArray} (hS : SigR w w.heap.size (sv a0 n0 c0 a1 n1 c1 a2 n2 c2) A F X) : A.length = n0 ∧ F.length = n1 ∧ X.length = n2 ∧ n0 ≤ 20 ∧ n1 ≤ 20 ∧ n2 ≤ 20 := by
  obtain ⟨_, _, _, _, _, _, _, _, _, esv, s0, s1, s2⟩ := hS
  injection esv with esv
  have esv := congrArg Array.toList esv
  simp only [List.cons.injEq, Value.slice.injEq, and_true] at esv
  obtain ⟨⟨rfl, rfl, rfl⟩, ⟨rfl, rfl, rfl⟩, ⟨rfl, rfl, rfl⟩⟩ := esv
  exact ⟨s0.1.str_len, s1.1.str_len, s2.1.str_len, s0.2.2.1, s1.2.2.1, s2.2.2.1⟩
set_option maxRecDepth 100000 in
theorem rText_any {w : World} {A F X : List ByteArray} {l : List Nd} {T : List ByteArray} {a0 : Option Addr} {n0 c0 : Nat} {a1 : Option Addr} {n1 c1 : Nat} {a2 : Option Addr} {n2 c2 : Nat} {al at_ : Option Addr} {i : Nat} (cl ct : Nat) (h : RT w A F X l T a0 n0 c0 a1 n1 c1 a2 n2 c2 al at_ i) : TextRun w A F X l a0 n0 c0 a1 n1 c1 a2 n2 c2 al cl at_ ct i := by
  obtain ⟨n, hn⟩ : ∃ n, l.getD i nd0 = n := ⟨_, rfl⟩
  have hx := h.nd n (by rw [← hn]; exact getD_mem h.il)
  have hk : known n.op = true := hx.1.1.1
  obtain ⟨z0, z1, z2, _⟩ := sig_lens h.sig
  have hfi := fld_i hx.1.1
  have hag : hasAgent n.op = true → ∃ k : Nat, n.i = (k : Int) ∧ k < n0 := fun ha => by
    have h1 := hfi.2.1 ha
    have h2 := hx.1.2.2.1 ha
    exact ⟨n.i.toNat, by omega, by dsimp only at h2; omega⟩
  have hgr : hasGroup n.op = true → ∃ m : Nat, n.g = (m : Int) ∧ 1 ≤ m ∧ m < 2 ^ A.length := fun hg => by
    have h1 := hfi.2.2.1 hg
    have h2 := hx.1.2.2.2
    exact ⟨n.g.toNat, by omega, by omega, by dsimp only at h2; omega⟩
  have hs := h.ok
  rcases kinds hk with hq | hq | hq | hq | hq | hq | hq | hq
  · rcases hq with hq | hq
    · exact text_1 cl ct h hn hq
    · exact text_2 cl ct h hn hq
  · exact text_3 cl ct h hn hq
  · refine text_un cl ct h hn (by omega) (fun W hS => ?_)
    obtain ⟨op, ii, ee, gg, xx, yy⟩ := n
    dsimp only at hq ⊢
    rcases hq with rfl | rfl | rfl
    · exact head_4 a0 n0 c0 a1 n1 c1 a2 n2 c2 A F X W hS hs ii ee gg xx yy
    · exact head_18 a0 n0 c0 a1 n1 c1 a2 n2 c2 A F X W hS hs ii ee gg xx yy
    · exact head_20 a0 n0 c0 a1 n1 c1 a2 n2 c2 A F X W hS hs ii ee gg xx yy
  · unfold MidN at hq
    rcases hq with hq | hq | hq | hq | hq | hq
    · exact text_m5 cl ct h hn hq
    · exact text_m6 cl ct h hn hq
    · exact text_m7 cl ct h hn hq
    · exact text_m8 cl ct h hn hq
    · exact text_m19 cl ct h hn hq
    · exact text_m21 cl ct h hn hq
  · refine text_un cl ct h hn (by omega) (fun W hS => ?_)
    obtain ⟨op, ii, ee, gg, xx, yy⟩ := n
    dsimp only at hq hag hgr ⊢
    rcases hq with rfl | rfl | rfl | rfl | rfl
    · obtain ⟨k, rfl, hk0⟩ := hag rfl
      exact head_9 a0 n0 c0 a1 n1 c1 a2 n2 c2 A F X W hS hs k ee gg xx yy hk0
    · obtain ⟨k, rfl, hk0⟩ := hag rfl
      exact head_10 a0 n0 c0 a1 n1 c1 a2 n2 c2 A F X W hS hs k ee gg xx yy hk0
    · obtain ⟨m, rfl, h1, h2⟩ := hgr rfl
      exact head_11 a0 n0 c0 a1 n1 c1 a2 n2 c2 A F X W hS hs m ii ee xx yy h1 h2
    · obtain ⟨m, rfl, h1, h2⟩ := hgr rfl
      exact head_12 a0 n0 c0 a1 n1 c1 a2 n2 c2 A F X W hS hs m ii ee xx yy h1 h2
    · obtain ⟨k, rfl, hk0⟩ := hag rfl
      exact head_15 a0 n0 c0 a1 n1 c1 a2 n2 c2 A F X W hS hs k ee gg xx yy hk0
  · have huy : usesY (opA l i) = true := by unfold opA; rw [hn]; rcases hq with h9 | h9 <;> rw [h9] <;> rfl
    have htx := tx_bin (A := A) (F := F) (X := X) h.ops h.il huy
    rw [show opA l i = n.op by unfold opA; rw [hn], hn] at htx
    rcases hq with hq | hq
    · rw [hq] at htx hag hgr
      obtain ⟨m, hm, h1, h2⟩ := hgr rfl
      refine text_iff cl ct h hn (.inl hq) (67 :: 91 :: grpB A m) (fun W c hc hS => ?_) (by rw [htx, hm]; rfl)
      obtain ⟨op, ii, ee, gg, xx, yy⟩ := n
      dsimp only at hq hm ⊢
      subst hq hm
      exact head_13 a0 n0 c0 a1 n1 c1 a2 n2 c2 A F X W hS hs m ii ee xx yy c h1 h2 hc
    · rw [hq] at htx hag hgr
      obtain ⟨k, hk0, hk1⟩ := hag rfl
      refine text_iff cl ct h hn (.inr hq) (66 :: 91 :: (A.getD k ByteArray.empty).data.toList) (fun W c hc hS => ?_) (by rw [htx, hk0]; rfl)
      obtain ⟨op, ii, ee, gg, xx, yy⟩ := n
      dsimp only at hq hk0 ⊢
      subst hq hk0
      exact head_14 a0 n0 c0 a1 n1 c1 a2 n2 c2 A F X W hS hs k ee gg xx yy c hk1 hc
  · exact text_ann cl ct h hn hq
  · have h2 := hx.2 hq
    have hf17 := hx.1.1
    refine text_un cl ct h hn (by omega) (fun W hS => ?_)
    obtain ⟨op, ii, ee, gg, xx, yy⟩ := n
    dsimp only at hq h2 ⊢
    subst hq
    have h3 := hf17.2.2
    simp [rangeOk, shN, shE, shG, hasAgent, hasGroup] at h3
    obtain ⟨k, rfl⟩ : ∃ k : Nat, ii = (k : Int) := ⟨ii.toNat, by omega⟩
    obtain ⟨d, rfl⟩ : ∃ d : Nat, ee = (d : Int) := ⟨ee.toNat, by omega⟩
    exact head_17 a0 n0 c0 a1 n1 c1 a2 n2 c2 A F X W hS hs k d gg xx yy (by omega) (by omega)
set_option maxRecDepth 100000 in
set_option maxHeartbeats 4000000 in
theorem rNamed_any (a0 : Option Addr) (n0 c0 : Nat) (a1 : Option Addr) (n1 c1 : Nat) (a2 : Option Addr) (n2 c2 : Nat) (A F X : List ByteArray) (l : List Nd) (al : Option Addr) (L c : Nat) (w : World)
    (hS : SigR w w.heap.size (sv a0 n0 c0 a1 n1 c1 a2 n2 c2) A F X) (hR : Reads w w.heap.size 6 al L (nds l)) (hl : L ≤ 200) :
    Calls Tryz.prog 35 #[.agg #[.slice a0 n0 c0, .slice a1 n1 c1, .slice a2 n2 c2], .slice al L c] w fun e w' => e = .returned (.bool (l.all (actB X.length) && fitsF l (A.length : Int) (F.length : Int))) ∧ Below w.heap.size w w' := by
  have hlen := hR.nd_len
  obtain ⟨e0, e1, e2, _, _, hn2⟩ := sig_lens hS
  rw [e0, e1, e2]
  have HXB := Lib.hid (@boxed w a0 a1 a2 n0 c0 n1 c1 n2 c2 24)
  have HB0 : Hid (∀ W, Below (w.heap.size + 1) (w.alloc (.cells #[.slice a0 n0 c0, .slice a1 n1 c1, .slice a2 n2 c2] 24)) W → Below w.heap.size w W ∧ w.heap.size + 1 ≤ W.heap.size) := Lib.hid (fun W hW => ⟨((Below.refl _ w).alloc (Nat.le_refl _) _).trans (hW.mono (by omega)), by have := hW.size; simpa using this⟩)
  have HR := Lib.hid hR
  have HFT : Hid (∀ W, Below w.heap.size w W → Calls Tryz.prog 67 #[.slice al L c, .int .i64 (n0 : Int), .int .i64 (n1 : Int)] W fun e w' => e = .returned (.bool (fitsF l n0 n1)) ∧ Below W.heap.size W w') := Lib.hid (fun W hW => rFits_any l n0 n1 al L c W ((hR.below hW).more hW.size) (by unfold maxLen; omega))
  have HBR := Lib.hid (Below.refl (w.heap.size + 1) (w.alloc (.cells #[.slice a0 n0 c0, .slice a1 n1 c1, .slice a2 n2 c2] 24)))
  clear hS hR e0 e1 e2
  obtain ⟨bf, hbf⟩ : ∃ b, fitsF l (n0 : Int) (n1 : Int) = b := ⟨_, rfl⟩
  rw [hbf] at HFT ⊢
  clear hbf
  go_enter Tryz.func35, Tryz.ntmps35
  obtain ⟨q0, q1, q2⟩ := HXB.out _ HBR.out
  go_wp2_with fail
  refine (HFT.out _ (HB0.out _ HBR.out).1).mono ?_
  rintro e w1 ⟨rfl, hb⟩
  have HB1 : Hid (Below (w.heap.size + 1) (w.alloc (.cells #[.slice a0 n0 c0, .slice a1 n1 c1, .slice a2 n2 c2] 24)) w1) := Lib.hid (HBR.out.trans (hb.mono (HB0.out _ HBR.out).2))
  clear hb q0 q1 q2
  generalize hw0 : w.alloc (.cells #[.slice a0 n0 c0, .slice a1 n1 c1, .slice a2 n2 c2] 24) = w0 at *
  clear hw0
  cases bf with
  | false =>
    have HV : Hid ((l.all (actB n2) && false) = false) := Lib.hid (Bool.and_false _)
    go_wp2
    go_ret
    exact ⟨by rw [HV.out]; rfl, (HB0.out _ HB1.out).1⟩
  | true =>
    go_wp2
    go_loopw [5] (fun i wr => ∃ k : Nat, k ≤ L ∧ i = .int .i64 k ∧ Hid ((l.take k).all (actB n2) = true) ∧ Hid (Below (w.heap.size + 1) w0 wr)) (fun i _ => L - (intOf i).toNat)
    case atStart => exact ⟨0, Nat.zero_le _, rfl, Lib.hid rfl, HB1⟩
    case round =>
      obtain ⟨k, hk, rfl, HT, HB⟩ := hrel
      by_cases hlt : k < L
      · obtain ⟨ad, rfl, hb, m0, m1, _⟩ := (HR.out.below (HB0.out _ HB.out).1).nd_at hlt
        have HS := Lib.hid (act_take (nx := n2) (l := l) (k := k) (by omega))
        have HBD := Lib.hid (act_bad (nx := n2) (l := l) (k := k) (by omega))
        obtain ⟨x, hx⟩ : ∃ x, l.getD k nd0 = x := ⟨_, rfl⟩
        rw [hx] at m0 m1 HS HBD
        have l1 := add_cell m1
        obtain ⟨_, _, q2⟩ := HXB.out wr HB.out
        have b0 : (0 : Int) ≤ (k : Int) := by omega
        have b1 : (k : Int) < (L : Int) := by omega
        clear m1 hb hx
        by_cases h17 : x.op = 17
        · by_cases hi : x.i < (n2 : Int)
          · have d1 : decide ((n2 : Int) ≤ x.i) = false := decide_eq_false (by omega)
            have HT1 : Hid ((l.take (k + 1)).all (actB n2) = true) := Lib.hid (by rw [HS.out, HT.out]; unfold actB; rw [decide_eq_true (fun _ => hi)]; rfl)
            rw [h17] at m0
            clear hi HS HBD HT
            go_wp2_with fail
            go_quiet (fail)
            go_wp2
            go_roundw
            case rel => exact ⟨k + 1, by omega, by go_num, HT1, Lib.hid (below_drewN HB.out _)⟩
            case measure => simp [intOf]; omega
          · have d1 : decide ((n2 : Int) ≤ x.i) = true := decide_eq_true (by omega)
            have HV : Hid ((l.all (actB n2) && true) = false) := Lib.hid (by rw [HBD.out (by unfold actB; exact decide_eq_false (fun hh => hi (hh h17)))]; rfl)
            rw [h17] at m0
            clear hi HS HBD HT HFT
            go_wp2_with fail
            go_quiet (fail)
            go_wp2
            go_ret
            exact ⟨by rw [HV.out]; rfl, below_drewN (HB0.out _ HB.out).1 _⟩
        · have d1 : (x.op == 17) = false := by rw [beq_eq_false_iff_ne]; exact h17
          have HT1 : Hid ((l.take (k + 1)).all (actB n2) = true) := Lib.hid (by rw [HS.out, HT.out]; unfold actB; rw [decide_eq_true (fun hh => absurd hh h17)]; rfl)
          clear h17 HS HBD HT
          go_wp2_with fail
          go_quiet (fail)
          go_wp2
          go_roundw
          case rel => exact ⟨k + 1, by omega, by go_num, HT1, Lib.hid (below_drewN HB.out _)⟩
          case measure => simp [intOf]; omega
      · have hkn : L = k := by omega
        subst hkn
        have HV : Hid ((l.all (actB n2) && true) = true) := Lib.hid (by have := HT.out; rw [List.take_of_length_le (by omega)] at this; rw [this]; rfl)
        clear HT HR hlt
        go_wp2
        go_ret
        exact ⟨by rw [HV.out]; rfl, (HB0.out _ HB.out).1⟩
end Go.Proofs.YtenbhalnpiahaaaGreatDoor
/- Layer 7: Print of the reference. -/
namespace Go.Proofs.YtenbhalnpiahaaaGreatDoor
open Go.RowKit Go.Proofs.Ws
theorem print_part {A F X : List ByteArray} {f : List Nd} (h : sigErr A F X = 0) (h2 : fErr f = 0) (h3 : namedB A F X f = true) {k : Nat} (hk : k < (compF f).length) (h4 : 4000 < (tx A F X (compF f) k).length) : printV A F X f = (⟨#[]⟩, 8) := by
  refine print_l h h2 h3 ?_
  rw [tx_whole h2 h3]
  by_cases hl : (textP A F X (treeAt f (f.length - 1))).length ≤ 4000
  · have := part_len h2 h3 hl k hk
    unfold tx at h4
    omega
  · omega
theorem ss_snoc (T : List ByteArray) (s : ByteArray) : ss T ++ [.string s] = ss (T ++ [s]) := by unfold ss; simp
theorem getD_snoc {T : List ByteArray} {s : ByteArray} {j : Nat} : (T ++ [s]).getD j ByteArray.empty = if j < T.length then T.getD j ByteArray.empty else if j = T.length then s else ByteArray.empty := by
  rw [List.getD_eq_getElem?_getD, List.getD_eq_getElem?_getD]
  by_cases h : j < T.length
  · rw [if_pos h, List.getElem?_append_left h]
  · rw [if_neg h, List.getElem?_append_right (by omega)]
    by_cases h2 : j = T.length
    · rw [if_pos h2, h2, Nat.sub_self]; rfl
    · rw [if_neg h2, List.getElem?_eq_none (by simp; omega)]; rfl
set_option maxRecDepth 100000 in
set_option maxHeartbeats 8000000 in
theorem rPrint_any (a0 : Option Addr) (n0 c0 : Nat) (a1 : Option Addr) (n1 c1 : Nat) (a2 : Option Addr) (n2 c2 : Nat) (A F X : List ByteArray) (f : List Nd) (af : Option Addr) (nf cf : Nat) (w : World)
    (hS : SigR w w.heap.size (sv a0 n0 c0 a1 n1 c1 a2 n2 c2) A F X) (hR : Reads w w.heap.size 6 af nf (nds f)) (hm : nf ≤ maxLen) :
    Calls Tryz.prog 13 #[.agg #[.slice a0 n0 c0, .slice a1 n1 c1, .slice a2 n2 c2], .slice af nf cf] w fun e w' => e = .returned (.tuple #[.string (printV A F X f).1, .int .i64 (printV A F X f).2]) ∧ Below w.heap.size w w' := by
  have HX := Lib.hid (@boxed w a0 a1 a2 n0 c0 n1 c1 n2 c2 24)
  have HG : Hid (∀ W, Below (w.heap.size + 1) (w.alloc (.cells #[.slice a0 n0 c0, .slice a1 n1 c1, .slice a2 n2 c2] 24)) W → SigR W W.heap.size (.agg #[.slice a0 n0 c0, .slice a1 n1 c1, .slice a2 n2 c2]) A F X ∧ Below w.heap.size w W ∧ w.heap.size + 1 ≤ W.heap.size ∧ Reads W W.heap.size 6 af nf (nds f)) := Lib.hid (fun W hW => by
    have h1 : Below w.heap.size w W := ((Below.refl _ w).alloc (Nat.le_refl _) _).trans (hW.mono (by omega))
    exact ⟨hS.on h1, h1, by have := hW.size; simpa using this, (hR.below h1).more h1.size⟩)
  have HB0 := Lib.hid (Below.refl (w.heap.size + 1) (w.alloc (.cells #[.slice a0 n0 c0, .slice a1 n1 c1, .slice a2 n2 c2] 24)))
  have HCK := Lib.hid (pRefSigCheck_any _ A F X _ (HG.out _ HB0.out).1)
  have HFC : Hid (∀ W, Below (w.heap.size + 1) (w.alloc (.cells #[.slice a0 n0 c0, .slice a1 n1 c1, .slice a2 n2 c2] 24)) W → Calls Tryz.prog 33 #[.slice af nf cf] W fun e w' => e = .returned (.int .i64 (fErr f)) ∧ Below W.heap.size W w') := Lib.hid (fun W hW => rCheck_any f af nf cf W (HG.out W hW).2.2.2 hm)
  clear hS hR
  by_cases hs : sigErr A F X = 0
  · rw [hs] at HCK
    by_cases hf : fErr f = 0
    · rw [hf] at HFC
      have HS0 := Lib.hid hs
      have HF0 := Lib.hid hf
      have HCO : Hid (∀ W, Below (w.heap.size + 1) (w.alloc (.cells #[.slice a0 n0 c0, .slice a1 n1 c1, .slice a2 n2 c2] 24)) W → Calls Tryz.prog 34 #[.slice af nf cf] W fun e W' => ∃ A' c', e = .returned (.slice A' (compF f).length c') ∧ Reads W' W'.heap.size 6 A' (compF f).length (nds (compF f)) ∧ Below W.heap.size W W') := Lib.hid (fun W hW => rCompact_any f af nf cf W (HG.out W hW).2.2.2 hm)
      have hcf := fErr_ok (compF_ok hf)
      have hops := fErr_ops (compF_ok hf)
      obtain ⟨l, hl⟩ : ∃ l, compF f = l := ⟨_, rfl⟩
      have HPP : Hid (namedB A F X f = true → ∀ k, k < l.length → 4000 < (tx A F X l k).length → printV A F X f = (⟨#[]⟩, 8)) := Lib.hid (fun h3 k hk h4 => by rw [← hl] at hk h4; exact print_part hs hf h3 hk h4)
      have HPO : Hid (namedB A F X f = true → ¬ 4000 < (tx A F X l (l.length - 1)).length → printV A F X f = (⟨(tx A F X l (l.length - 1)).toArray⟩, 0)) := Lib.hid (fun h3 h4 => by rw [← hl] at h4 ⊢; exact print_ok hs hf h3 h4)
      have HPN : Hid (namedB A F X f = false → printV A F X f = (⟨#[]⟩, 2)) := Lib.hid (fun h3 => print_n hs hf h3)
      have HNC : Hid ((l.all (actB X.length) && fitsF l (A.length : Int) (F.length : Int)) = namedB A F X f) := Lib.hid (by rw [← hl]; exact names_comp hf)
      have HND : Hid (namedB A F X f = true → ∀ n ∈ l, okX ⟨A, F, X, []⟩ n) := Lib.hid (fun h3 => by rw [← hl]; exact comp_okX h3)
      rw [hl] at hcf hops HCO
      have hL200 : l.length ≤ 200 := hcf.2.1
      have hL1 : 1 ≤ l.length := List.length_pos_iff.2 hcf.1
      have HOP := Lib.hid hops
      clear hs hf hcf hl hops
      go_enter Tryz.func13, Tryz.ntmps13
      go_wp2_with fail
      refine (HCK.out).mono ?_
      rintro e w1 ⟨rfl, hb⟩
      have HB1 : Hid (Below (w.heap.size + 1) (w.alloc (.cells #[.slice a0 n0 c0, .slice a1 n1 c1, .slice a2 n2 c2] 24)) w1) := Lib.hid (HB0.out.trans (hb.mono (HG.out _ HB0.out).2.2.1))
      clear hb HCK
      go_wp2_with fail
      refine (HFC.out _ HB1.out).mono ?_
      rintro e w2 ⟨rfl, hb⟩
      have HB2 : Hid (Below (w.heap.size + 1) (w.alloc (.cells #[.slice a0 n0 c0, .slice a1 n1 c1, .slice a2 n2 c2] 24)) w2) := Lib.hid (HB1.out.trans (hb.mono (HG.out _ HB1.out).2.2.1))
      clear hb HFC HB1
      go_wp2_with fail
      refine (HCO.out _ HB2.out).mono ?_
      rintro e w3 ⟨A', c', rfl, hR3, hb⟩
      have HB3 : Hid (Below (w.heap.size + 1) (w.alloc (.cells #[.slice a0 n0 c0, .slice a1 n1 c1, .slice a2 n2 c2] 24)) w3) := Lib.hid (HB2.out.trans (hb.mono (HG.out _ HB2.out).2.2.1))
      have HR3 := Lib.hid hR3
      clear hb hR3 HCO HB2
      obtain ⟨q0, q1, q2⟩ := HX.out w3 HB3.out
      have HNM := Lib.hid (rNamed_any a0 n0 c0 a1 n1 c1 a2 n2 c2 A F X l A' l.length c' w3 (HG.out _ HB3.out).1 HR3.out hL200)
      rw [HNC.out] at HNM
      generalize hw0 : w.alloc (.cells #[.slice a0 n0 c0, .slice a1 n1 c1, .slice a2 n2 c2] 24) = wz at *
      clear hw0
      obtain ⟨bN, hbN⟩ : ∃ b, namedB A F X f = b := ⟨_, rfl⟩
      rw [hbN] at HNM HPP HPO HPN HND
      clear hbN HNC
      go_wp2_with fail
      refine (HNM.out).mono ?_
      rintro e w4 ⟨rfl, hb⟩
      have HB4 : Hid (Below (w.heap.size + 1) wz w4) := Lib.hid (HB3.out.trans (hb.mono (HG.out _ HB3.out).2.2.1))
      have HR4 : Hid (Reads w4 w4.heap.size 6 A' l.length (nds l)) := Lib.hid ((HR3.out.below hb).more hb.size)
      clear hb HNM HR3 HB3 q0 q1 q2
      cases bN with
      | false =>
        have HV := Lib.hid (HPN.out rfl)
        go_wp2
        go_ret2
        exact ⟨ret_pair HV.out, (HG.out _ HB4.out).2.1⟩
      | true =>
        have HPP2 := Lib.hid (HPP.out rfl)
        have HPO2 := Lib.hid (HPO.out rfl)
        have HND2 := Lib.hid (HND.out rfl)
        obtain ⟨i0, hi, hz0, hz1, hz2⟩ := info_parts Tryz.infoS
        clear HPP HPO HPN HND
        go_wp2
        go_loopw [8, 9, 10] (fun v i _ wr => ∃ (k : Nat) (T : List ByteArray), k ≤ l.length ∧ i = .int .i64 k ∧ Hid (T.length = k) ∧ Hid (∀ j, j < k → (T.getD j ByteArray.empty).data.toList = tx A F X l j ∧ (T.getD j ByteArray.empty).size ≤ 4000) ∧ wr.ownsRow w4.heap.size 9 1 v k (ss T) ∧ Hid (Below w4.heap.size w4 wr)) (fun _ i _ _ => l.length - (intOf i).toNat)
        case atStart => exact ⟨0, [], Nat.zero_le _, rfl, Lib.hid rfl, Lib.hid (fun j hj => absurd hj (Nat.not_lt_zero _)), World.ownsRow_nil _ _ _ _, Lib.hid (Below.refl _ _)⟩
        case round =>
          obtain ⟨k, T, hk, rfl, HTL, HTT, hown, HB⟩ := hrel
          have HBW : Hid (Below (w.heap.size + 1) wz wr) := Lib.hid (HB4.out.trans (HB.out.mono (HG.out _ HB4.out).2.2.1))
          obtain ⟨at_, ct, rfl, hnc, _, _, hRT⟩ := own_reads2 hown
          by_cases hlt : k < l.length
          · have HTX := Lib.hid (rText_any c' ct (i := k) (T := T) ⟨(HG.out _ HBW.out).1, HS0.out, (HR4.out.below HB.out).more HB.out.size, hL200, hlt, HOP.out, HND2.out, hRT, HTT.out⟩)
            obtain ⟨q0, q1, q2⟩ := HX.out wr HBW.out
            have HOWN := Lib.hid hown
            have hsz := HB.out.size
            unfold TextRun at HTX
            clear hRT hown
            go_wp2_with fail
            refine (HTX.out).mono ?_
            rintro e w5 ⟨⟨s, rfl, hs, hss⟩, hb5⟩
            have HS := Lib.hid hs
            have HBW5 : Hid (Below (w.heap.size + 1) wz w5) := Lib.hid (HBW.out.trans (hb5.mono (HG.out _ HBW.out).2.2.1))
            have HB5 : Hid (Below w4.heap.size w4 w5) := Lib.hid (HB.out.trans (hb5.mono hsz))
            have hown5 : w5.ownsRow w4.heap.size 9 1 (.slice at_ k ct) k (ss T) := own_keepQ HOWN.out (fun g hg => hb5.block g ((HOWN.out.lt g hg).2))
            have hsz5 := HB5.out.size
            have hse : s.size = (tx A F X l k).length := by rw [← hs]; exact size_list s
            clear HTX hb5 hs q0 q1 q2 HOWN
            by_cases h4 : 4000 < s.size
            · have d1 : decide ((4000 : Int) < (s.size : Int)) = true := decide_eq_true (by omega)
              have d2 : decide (4000 < s.size) = true := decide_eq_true h4
              have HV := Lib.hid (HPP2.out k hlt (by omega))
              clear h4 hown5 hse
              go_wp2
              go_ret2
              exact ⟨ret_pair HV.out, (HG.out _ HBW5.out).2.1⟩
            · have d1 : decide ((4000 : Int) < (s.size : Int)) = false := decide_eq_false (by omega)
              have d2 : decide (4000 < s.size) = false := decide_eq_false h4
              have hs4 : s.size ≤ 4000 := by omega
              have HT1 : Hid ((T ++ [s]).length = k + 1) := Lib.hid (by rw [List.length_append, HTL.out]; rfl)
              have HT2 : Hid (∀ j, j < k + 1 → ((T ++ [s]).getD j ByteArray.empty).data.toList = tx A F X l j ∧ ((T ++ [s]).getD j ByteArray.empty).size ≤ 4000) := Lib.hid (fun j hj => by
                rw [getD_snoc, HTL.out]
                by_cases hjk : j < k
                · rw [if_pos hjk]; exact HTT.out j hjk
                · have : j = k := by omega
                  subst this
                  rw [if_neg hjk, if_pos rfl]
                  exact ⟨HS.out, hs4⟩)
              clear h4 hse HTT HTL HS
              go_wp2_with (at_builtin; refine wpList_append_own _ rfl _ _ 22 rfl w4.heap.size 9 i0 (.string ByteArray.empty) 1 16 Tryz.underlying22 hi hz0 hz1 hz2 rfl (by decide) _ _ _ rfl (hown5.alloc _) ⟨w5.heap.size, 0, none⟩ 1 1 [.string s] rfl rfl ?c1 ?c2 ?c3 ?c4 ?c5 ?_)
              case c1 =>
                intro j u hj
                match j, hj with
                | 0, hj => simp at hj; subst hj; simp [Addr.add]
              case c2 => intro u hu; simp at hu; subst hu; rfl
              case c3 => unfold maxLen; omega
              case c4 => omega
              case c5 => simp; omega
              intro v' w6 hown' hgrow _
              have HB6 : Hid (Below w4.heap.size w4 w6) := Lib.hid ((HB5.out.alloc hsz5 _).grown hgrow (by simp; omega) (fun j hj => ((hown5.alloc (.cells #[.string s] 9)).lt j hj).1))
              rw [ss_snoc] at hown'
              clear hgrow hown5
              go_wp2
              go_roundw
              case rel => exact ⟨k + 1, T ++ [s], by omega, by go_num, HT1, HT2, hown', HB6⟩
              case measure => simp [intOf]; omega
          · have hkn : l.length = k := by omega
            obtain ⟨ad, hA, hb, hc⟩ := hRT.str_at (k := k - 1) (by omega)
            obtain ⟨ht1, ht2⟩ := HTT.out (k - 1) (by omega)
            have hse : (T.getD (k - 1) ByteArray.empty).size = (tx A F X l (k - 1)).length := by rw [← ht1]; exact size_list _
            have HV : Hid (printV A F X f = (T.getD (k - 1) ByteArray.empty, 0)) := Lib.hid (by
              have h5 := HPO2.out (by rw [hkn]; omega)
              rw [hkn, ← ht1] at h5
              rw [h5])
            subst hA
            rw [hkn]
            generalize T.getD (k - 1) ByteArray.empty = z at *
            have b0 : (0 : Int) ≤ (k : Int) - 1 := by omega
            have b1 : (k : Int) - 1 < (k : Int) := by omega
            clear hown HTT HTL hRT hb ht1 ht2 hse
            go_wp2
            go_ret2
            exact ⟨ret_pair HV.out, (HG.out _ HBW.out).2.1⟩
    · have hne : (fErr f != 0) = true := by rw [bne_iff_ne]; exact hf
      have HV := Lib.hid (print_f (X := X) hs hf)
      generalize fErr f = z at *
      clear hs hf
      go_enter Tryz.func13, Tryz.ntmps13
      go_wp2_with fail
      refine (HCK.out).mono ?_
      rintro e w1 ⟨rfl, hb⟩
      have HB1 : Hid (Below (w.heap.size + 1) (w.alloc (.cells #[.slice a0 n0 c0, .slice a1 n1 c1, .slice a2 n2 c2] 24)) w1) := Lib.hid (HB0.out.trans (hb.mono (HG.out _ HB0.out).2.2.1))
      clear hb HCK
      go_wp2_with fail
      refine (HFC.out _ HB1.out).mono ?_
      rintro e w2 ⟨rfl, hb⟩
      have HB2 : Hid (Below w.heap.size w w2) := Lib.hid ((HG.out _ HB1.out).2.1.trans (hb.mono (by have := (HG.out _ HB1.out).2.2.1; omega)))
      clear hb HFC HB1
      go_wp2
      go_ret2
      exact ⟨ret_pair HV.out, HB2.out⟩
  · have hne : (sigErr A F X != 0) = true := by rw [bne_iff_ne]; exact hs
    have HV := Lib.hid (print_s (f := f) hs)
    generalize sigErr A F X = z at *
    clear hs HFC
    go_enter Tryz.func13, Tryz.ntmps13
    go_wp2_with fail
    refine (HCK.out).mono ?_
    rintro e w1 ⟨rfl, hb⟩
    have HB1 : Hid (Below w.heap.size w w1) := Lib.hid ((HG.out _ HB0.out).2.1.trans (hb.mono (by have := (HG.out _ HB0.out).2.2.1; omega)))
    clear hb HCK
    go_wp2
    go_ret2
    exact ⟨ret_pair HV.out, HB1.out⟩
end Go.Proofs.YtenbhalnpiahaaaGreatDoor
