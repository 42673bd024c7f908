/- Contracts of layer 2's reference: the closures. -/
import Derived.Test.YtogjbghieoifjaaDoorRn
import Derived.Laws.AppendOwnNone
namespace Go.Proofs.YtogjbghieoifjaaDoor
open Go.RowKit Go.Proofs.Ws
/-- append of a list of words to an empty row of the call's own: a copy -/
theorem wp_copy {ops : Array Oper} {rest : List Oper} {o : Oper} {a : Act} {Q : Exit → Act → World → Prop} {l : List Nat} {A : Option Addr} {n c : Nat} (W : World) (hgd : o.guard = none) (s x : Operand)
    (ho : o.op = .call { callee := .builtin .append, args := #[s, x], argTypes := #[22, 22] }) (base g : Nat) (hg : base ≤ g)
    (hown : W.ownsRow base 34 1 (.slice (some ⟨g, 0, none⟩) 0 0) 0 []) (hbase : base ≤ W.heap.size) (hs : a.eval s = .slice (some ⟨g, 0, none⟩) 0 0) (hx : a.eval x = .slice A n c) (hA : A = none → c = 0)
    (hR : Reads W W.heap.size 1 A n (us l)) (hn : n ≤ 64)
    (h : ∀ A' c' w', (0 < n → ∃ g, A' = some ⟨g, 0, none⟩ ∧ base ≤ g ∧ HoldsP w' g l) → Below base W w' → wpList Tryd.prog ops Q rest (a.put o.dst (.slice A' n c')) w') : wpList Tryd.prog ops Q (o :: rest) a W := by
  have e1 := hR.word_len
  obtain ⟨i0, hi, hz0, hz1, hz2⟩ := info_parts Tryd.infoU
  cases A with
  | none =>
    have h0 : n = 0 := by
      apply Classical.byContradiction
      intro h
      obtain ⟨ad, u, hA, _⟩ := hR.at_ (show 0 < n by omega)
      cases hA
    subst h0
    rw [hA rfl] at hx
    exact wpList_append_own_none hgd s x 22 ho base 34 i0 1 Tryd.underlying22 hi _ 0 [] hs hown hx (h _ _ W (fun h => absurd h (by omega)) (Below.refl _ _))
  | some ad =>
    refine wpList_append_own W hgd s x 22 ho base 34 i0 (.int .u64 0) 1 8 Tryd.underlying22 hi hz0 hz1 hz2 rfl (by decide) _ 0 [] hs hown ad n c (us l) hx (by rw [us_length]; omega) ?_ ?_ (by unfold maxLen; omega) (by omega) hbase ?_
    · intro j u hj
      obtain ⟨_, hh⟩ := hR
      have hjn : j < n := by
        unfold us at hj
        rw [List.getElem?_map] at hj
        obtain ⟨k, hk, _⟩ := Option.map_eq_some_iff.1 hj
        have := (List.getElem?_eq_some_iff.1 hk).1
        omega
      obtain ⟨ad', hA', hb, hc⟩ := hh (by omega)
      cases hA'
      exact hc j u hj
    · intro u hu
      unfold us at hu
      obtain ⟨k, _, rfl⟩ := List.mem_map.1 hu
      rfl
    · intro v' w1 hown' hgrow hnil
      have hv : v' ≠ .slice none 0 0 := fun e => by have := (hnil.1 e).1; cases this
      have hown2 : w1.ownsRow base 34 1 v' l.length (us l) := by
        have : 0 + n = l.length := by omega
        rw [← this]; simpa using hown'
      obtain ⟨g', c', rfl, hg', hH, _⟩ := HoldsP.of_own hown2 hv
      have hb : Below base W w1 := (Below.refl _ _).grown hgrow hbase (by intro k hk; simp [Value.ownBlock] at hk; omega)
      rw [e1]
      exact h _ c' w1 (fun _ => ⟨g', rfl, hg', hH⟩) hb
set_option maxRecDepth 100000 in
theorem refReflexive_any (l : List Nat) (A : Option Addr) (n c : Nat) (w : World) (hR : Reads w w.heap.size 1 A n (us l)) (hw : Words l) (hm : n ≤ maxLen) (hA : A = none → c = 0) :
    Calls Tryd.prog 27 #[.slice A n c] w fun e w' => (relErr l.length l = 0 ∧ ∃ C, IsClo n (PRefl n) l C ∧ GivesR C w e w') ∨ (relErr l.length l ≠ 0 ∧ GivesE (relErr l.length l) w e w') := by
  have e1 := hR.word_len
  have HK := Lib.hid (ref2Check_any n l A n c _ w hR hw hm)
  have E1 := Lib.hid e1
  have HR := Lib.hid hR
  rw [e1]
  clear hR hw hm e1
  by_cases h0 : relErr n l = 0
  · have hn : n ≤ 64 := relErr_zero h0
    have HS : Hid (Sh n l) := Lib.hid ⟨E1.out, relErr_rows h0⟩
    rw [h0] at HK
    have H0 := Lib.hid h0
    clear h0
    go_enter Tryd.func27, Tryd.ntmps27
    go_wp2_with fail
    refine (HK.out).mono ?_
    rintro e w0 ⟨rfl, q0, rfl⟩
    go_wp2_with (at_builtin; refine wp_copy _ rfl _ _ rfl (w.drewN q0).heap.size (w.drewN q0).heap.size (Nat.le_refl _) (World.ownsRow_made (w.drewN q0) #[] 0 (Nat.le_refl _) (Nat.zero_le _) (by simp)) (by simp) rfl rfl hA (((HR.out.drewN q0).alloc (Nat.le_refl _) _).more (by simp)) hn ?_)
    intro A1 c1 w1 hg hb
    have HG := Lib.hid hg
    have HB : Hid (Below w.heap.size w w1) := Lib.hid (((below_drewN (Below.refl _ w) q0).alloc (Nat.le_refl _) _).trans hb)
    clear hg hb
    by_cases hn0 : n = 0
    · subst hn0
      go_wp2
      go_loopw [6] (fun i wr => i = .int .i64 ((0 : Nat) : Int) ∧ wr = w1) (fun i _ => 0 - (intOf i).toNat)
      case atStart => exact ⟨rfl, rfl⟩
      case round =>
        obtain ⟨rfl, rfl⟩ := hrel
        go_wp2
        go_ret2
        have hl := List.length_eq_zero_iff.1 E1.out
        refine Or.inl ⟨H0.out, run reflL l 0, reflV_clo l HS.out, A1, c1, ?_, ?_, HB.out⟩
        · rw [hl]; rfl
        · rw [hl]; exact ⟨by simp [run, us], fun h => absurd h (by simp [run])⟩
    · obtain ⟨g, rfl, hg1, hH1⟩ := HG.out (by omega)
      have HG1 := Lib.hid hg1
      have HH1 := Lib.hid hH1
      clear hg1 hH1 HG
      go_wp2
      go_loopw [6] (fun i wr => ∃ k q : Nat, k ≤ n ∧ i = .int .i64 k ∧ Hid (HoldsP wr g (run reflL l k) ∧ BelowBut w1.heap.size g w1 wr)) (fun i _ => n - (intOf i).toNat)
      case atStart => exact ⟨0, 0, Nat.zero_le _, rfl, Lib.hid ⟨HH1.out, BelowBut.refl _ _ _⟩⟩
      case round =>
        obtain ⟨k, q, hk, rfl, HI⟩ := hrel
        by_cases hlt : k < n
        · have hS := ((reflL_steps n).run_sh HS.out k (by omega)).1
          have hcz := HI.out.1.cell k (by rw [hS.1]; exact hlt)
          have hf := HI.out.1.free k
          have hwd : (run reflL l k).getD k 0 < 18446744073709551616 := words_getD (sh_words hn hS) k
          have hor := (or_pow ((run reflL l k).getD k 0) k hwd (by omega)).1
          have hpw := wrap_pow k (show k < 64 by omega)
          have H2 : ∀ W, BelowBut w1.heap.size g wr W → True := fun _ _ => trivial
          have HP : Hid (HoldsP (wr.setCell ⟨g, k, none⟩ (.int .u64 (((run reflL l k).getD k 0 ||| p2 k : Nat) : Int))) g (run reflL l (k + 1)) ∧ BelowBut w1.heap.size g w1 (wr.setCell ⟨g, k, none⟩ (.int .u64 (((run reflL l k).getD k 0 ||| p2 k : Nat) : Int)))) := Lib.hid ⟨by rw [run_succ]; exact HI.out.1.put k _, HI.out.2.setCell k _⟩
          generalize (run reflL l k).getD k 0 = x at *
          clear hS hwd H2
          go_wp2
          try simp only [hpw, hor]
          go_wp2
          go_roundw
          case rel => exact ⟨k + 1, q, by omega, by go_num, HP⟩
          case measure => simp [intOf]; omega
        · have hkn : n = k := by omega
          subst hkn
          go_wp2
          go_ret2
          have hl : (run reflL l n).length = n := ((reflL_steps n).run_sh HS.out n (Nat.le_refl _)).1.1
          refine Or.inl ⟨H0.out, run reflL l n, reflV_clo l HS.out, _, c1, ?_, HI.out.1.reads, HB.out.trans ((HI.out.2.mono HB.out.size).below HG1.out)⟩
          rw [hl]; rfl
  · have hne : (relErr n l != 0) = true := by simp [h0]
    have H0 := Lib.hid h0
    clear h0
    go_enter Tryd.func27, Tryd.ntmps27
    go_wp2_with fail
    refine (HK.out).mono ?_
    rintro e w0 ⟨rfl, q0, rfl⟩
    go_wp2
    go_ret2
    exact Or.inr ⟨H0.out, rfl, below_drewN (Below.refl _ _) _⟩
end Go.Proofs.YtogjbghieoifjaaDoor
