/- Layer 5: Subs of the program. -/
import Derived.Test.YtcbmncafmofcpaaMa
namespace Go.Proofs.Ytcbmncafmofcpaa
open Go.RowKit Go.Proofs.Ws Go.Maps
theorem Try.infoSl : (Try.prog.info? 22).map (fun i => (i.zero, i.size, i.bytes)) = some (some (.slice none 0 0), 1, 24) := by kernel_rfl
theorem LL.base {W : World} {b b2 : Nat} {v : Value} {ls : List (List Nd)} (h : LL W b v ls) (hb : b2 ≤ b) : LL W b2 v ls := by
  obtain ⟨vs, h1, h2⟩ := h.row
  exact ⟨vs, own_base h1 hb, h2⟩
set_option maxRecDepth 100000 in
set_option maxHeartbeats 4000000 in
theorem pSubs_any (f : List Nd) (A : Option Addr) (n c : Nat) (w : World) (hR : Reads w w.heap.size 6 A n (nds f)) (hm : n ≤ maxLen) :
    Calls Try.prog 32 #[.slice A n c] w fun e w' => ∃ v, e = .returned v ∧ LL w' w.heap.size v (subsF f) ∧ Below w.heap.size w w' := by
  have HC := Lib.hid (pCompact_own f A n c w hR hm)
  have HQ : Hid (∀ k, k < (compF f).length → OkL ((compF f).take (k + 1)) ∧ (compF f).length ≤ 200) := Lib.hid (fun k hk => by
    have hz : fErr f = 0 := by
      cases Decidable.em (fErr f = 0) with
      | inl h => exact h
      | inr h => unfold compF at hk; rw [if_neg h] at hk; simp at hk
    have := compF_ok hz
    exact ⟨(OkL_of this).take hk, (fErr_ok this).2.1⟩)
  unfold subsF
  generalize compF f = q at *
  have HCC : Hid (∀ (k : Nat) (A3 : Option Addr) (c3 : Nat) (W : World), k < q.length → Reads W W.heap.size 6 A3 q.length (nds q) → Calls Try.prog 54 #[.slice A3 (k + 1) c3] W fun e w' => ∃ A' c', e = .returned (.slice A' (canonF (q.take (k + 1))).length c') ∧ w'.ownsRow W.heap.size 44 6 (.slice A' (canonF (q.take (k + 1))).length c') (canonF (q.take (k + 1))).length (nds (canonF (q.take (k + 1)))) ∧ Below W.heap.size W w') :=
    Lib.hid (fun k A3 c3 W hk h => pCanon_own (q.take (k + 1)) (HQ.out k hk).1 A3 (k + 1) c3 W (h.takeN (by omega)) (by have := (HQ.out k hk).2; omega))
  have HQL : Hid (∀ k, k < q.length → q.length ≤ 200) := Lib.hid (fun k hk => (HQ.out k hk).2)
  obtain ⟨i0, hi, hz0, hz1, hz2⟩ := info_parts Try.infoSl
  have hq63 : q.length ≤ 200 := by
    by_cases h : 0 < q.length
    · exact HQL.out 0 h
    · omega
  clear hR HQ HQL
  go_enter Try.func32, Try.ntmps32
  go_wp2_with fail
  refine (HC.out).mono ?_
  rintro e w1 ⟨A3, c3, rfl, hO3, hb1⟩
  have hcap := own_cap hO3
  have hR3 := Reads.of_own hO3
  have HR3 := Lib.hid hR3
  clear hO3
  have HB1 := Lib.hid hb1
  clear hR3 hb1
  go_wp2
  go_loopw [3, 5, 10] (fun v u i wr => ∃ k : Nat, k ≤ q.length ∧ i = .int .i64 k ∧ Hid (LL wr w1.heap.size v ((List.range k).map (fun i => canonF (q.take (i + 1))))) ∧ Hid (Below w1.heap.size w1 wr)) (fun _ _ i _ => q.length - (intOf i).toNat)
  case atStart => exact ⟨0, Nat.zero_le _, rfl, Lib.hid (LL.nil _ _), Lib.hid (Below.refl _ _)⟩
  case round =>
    obtain ⟨k, hk, rfl, HL, HB⟩ := hrel
    by_cases hlt : k < q.length
    · have HRk := Lib.hid ((HR3.out.below HB.out).more HB.out.size)
      have HK := Lib.hid (HCC.out k A3 c3 _ hlt HRk.out)
      have hk64 : IntKind.i64.wrap ((k : Int) + 1) = ((k + 1 : Nat) : Int) := by rw [IntKind.wrap_i64]; omega
      have hk65 : wrap64 ((k : Int) + 1) = ((k + 1 : Nat) : Int) := by unfold wrap64; omega
      generalize hl : canonF (q.take (k + 1)) = l at *
      have HLL := Lib.hid hl
      clear hl
      go_wp2_with fail
      refine (HK.out).mono ?_
      rintro e w4 ⟨A4, c4, rfl, hO4, hb4⟩
      have HL4 := Lib.hid (HL.out.below hb4)
      have HB4 := Lib.hid (HB.out.trans (hb4.mono HB.out.size))
      have HI := Lib.hid (own_base hO4 (Nat.zero_le _))
      have hsz := (HB4.out).size
      have hsz0 := HB1.out.size
      clear hO4 hb4 HK HL
      have HLS := Lib.hid (show ((List.range k).map (fun i => canonF (q.take (i + 1)))) ++ [l] = (List.range (k + 1)).map (fun i => canonF (q.take (i + 1))) from by rw [List.range_succ, List.map_append, ← HLL.out]; rfl)
      have hlen : ((List.range k).map (fun i => canonF (q.take (i + 1)))).length = k := by simp
      generalize (List.range k).map (fun i => canonF (q.take (i + 1))) = ls at *
      obtain ⟨vs, hown, hit⟩ := HL4.out.row
      have HIT := Lib.hid hit
      have HOW := Lib.hid hown
      clear hit
      go_wp2_with (at_builtin; refine wpList_append_own _ rfl _ _ 30 rfl w1.heap.size 22 i0 (.slice none 0 0) 1 24 Try.underlying30 hi hz0 hz1 hz2 rfl (by decide) _ _ _ rfl (hown.alloc _) ⟨w4.heap.size, 0, none⟩ 1 1 [.slice A4 l.length c4] rfl rfl ?k1 ?k2 ?k3 ?k4 ?k5 ?_)
      case k2 => intro u hu; simp at hu; subst hu; rfl
      case k3 => unfold maxLen; omega
      case k4 => omega
      case k5 => simp; omega
      case k1 =>
        intro j u hj
        match j, hj with
        | 0, hj => simp at hj; subst hj; simp [Addr.add]
      · intro v' w5 hown' hgrow _
        have HL5 : Hid (LL w5 w1.heap.size v' ((List.range (k + 1)).map (fun i => canonF (q.take (i + 1))))) := Lib.hid (by rw [← HLS.out]; exact LL.app HOW.out HIT.out HI.out (by rw [hlen]; exact hown') hgrow)
        have HB5 : Hid (Below w1.heap.size w1 w5) := Lib.hid ((HB4.out.alloc hsz _).grown hgrow (by simp; omega) (fun g hg => (HOW.out.lt g hg).1))
        clear hown' hgrow hown
        go_wp2
        go_roundw
        case rel => exact ⟨k + 1, by omega, by go_num, HL5, HB5⟩
        case measure => simp [intOf]; omega
    · have hkq : k = q.length := by omega
      subst hkq
      go_wp2
      go_ret
      exact ⟨_, rfl, HL.out.base HB1.out.size, HB1.out.trans (HB.out.mono HB1.out.size)⟩
end Go.Proofs.Ytcbmncafmofcpaa
