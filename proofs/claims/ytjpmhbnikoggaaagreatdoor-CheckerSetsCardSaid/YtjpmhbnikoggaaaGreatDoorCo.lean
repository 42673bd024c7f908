/- Layer 17: whether a node fits a model, by the reference. -/
import Derived.Test.YtjpmhbnikoggaaaGreatDoorCf
import Derived.Test.YtjpmhbnikoggaaaGreatDoorCj
import Derived.Test.YtjpmhbnikoggaaaGreatDoorNJh
namespace Go.Proofs.YtjpmhbnikoggaaaGreatDoor
open Go.RowKit Go.Proofs.Ws
set_option maxRecDepth 100000
theorem take_okC {f : List Nd} (hz : fErr f = 0) {i : Nat} (hi : i < f.length) : fErr (f.take (i + 1)) = 0 := by
  have hl : (f.take (i + 1)).length = i + 1 := by rw [List.length_take]; omega
  have h200 := (fErr_ok hz).2.1
  refine fErr_zero (fun e => by rw [e] at hl; simp at hl) (by omega) (fun j hj => ?_)
  rw [hl] at hj
  have e : (f.take (i + 1)).getD j nd0 = f.getD j nd0 := by
    rw [List.getD_eq_getElem?_getD, List.getD_eq_getElem?_getD, List.getElem?_take, if_pos (by omega)]
  rw [e]
  exact ⟨fErr_ops hz j (by omega), fErr_fld hz _ (Ws.getD_mem (by omega))⟩
theorem sub_okC {f : List Nd} (hz : fErr f = 0) {i : Nat} (hi : i < f.length) : fErr (subF f i) = 0 ∧ treeAt (subF f i) ((subF f i).length - 1) = treeAt f i := by
  have ht := take_okC hz hi
  have hle := compF_le (f.take (i + 1))
  have hl : (f.take (i + 1)).length = i + 1 := by rw [List.length_take]; omega
  have h200 := (fErr_ok hz).2.1
  have hc : compF (f.take (i + 1)) = canT (treeAt f i) := by
    unfold compF
    rw [if_pos ht, canon_take (fErr_ops hz) hi]
  rw [hc] at hle
  rw [subF_tree hz hi]
  exact ⟨canT_ok (fErr_ops hz) (fErr_fld hz) hi (by omega), canT_tree (treeAt_ok (fErr_ops hz) (i + 1) i (by omega) hi)⟩
set_option maxHeartbeats 8000000 in
theorem rFitsC_any (m : Mo) (v : Value) (f : List Nd) (i : Nat) (A : Option Addr) (n c : Nat) (w : World) (hM : MoR w w.heap.size v m) (hR : Reads w w.heap.size 6 A n (nds f)) (hn : n ≤ maxLen) (hm : chkM m = 0) (hz : fErr f = 0) (hi : i < f.length) :
    Calls Tryz.prog 72 #[v, .slice A n c, .int .i64 (i : Int)] w fun e w' => e = .returned (.bool (hasT m.rel.length m.val.length (treeAt f i))) ∧ Below w.heap.size w w' := by
  obtain ⟨A1, c1, A2, c2, rfl, hv, hr⟩ := hM.ex
  have HB0 := Lib.hid ((Below.refl w.heap.size w).alloc (Nat.le_refl _) (.cells #[.int .i64 m.n, .slice A1 m.val.length c1, .slice A2 m.rel.length c2] 25))
  have KB0 := Lib.hid (MBox.made w m.n (.slice A1 m.val.length c1) (.slice A2 m.rel.length c2))
  have HS := Lib.hid (fun W (hb : Below w.heap.size w W) => rSub_any f (i : Int) A n c W ((hR.below hb).more hb.size) hn)
  have hs := sub_okC hz hi
  have hsl : (subF f i).length ≤ maxLen := by have := (fErr_ok hs.1).2.1; unfold maxLen; omega
  have hag := (chkM_ok hm).agents
  have hfa := (chkM_ok hm).facts
  have hch := chk_has hs.1 (nr := m.rel.length) (nv := m.val.length) (by omega) hfa
  rw [hs.2] at hch
  have HFR := Lib.hid (fun W A' c' (h : Reads W W.heap.size 6 A' (subF f i).length (nds (subF f i))) => rFrags_any (subF f i) A' (subF f i).length c' W h hsl)
  have HFI := Lib.hid (fun W A' c' (h : Reads W W.heap.size 6 A' (subF f i).length (nds (subF f i))) => rFits_any (subF f i) (m.rel.length : Int) (m.val.length : Int) A' (subF f i).length c' W h hsl)
  have hfb := frag_bits _ (frag_lt (subF f i))
  generalize hasT m.rel.length m.val.length (treeAt f i) = b at *
  generalize maskL fragD (compF (subF f i)) = q at *
  generalize fitsF (subF f i) m.rel.length m.val.length = fi at *
  clear hM hR hn hm hz hi hs hsl hag hfa hv hr
  generalize subF f i = g at *
  have HCH := Lib.hid hch
  clear hch
  by_cases hq : q &&& 496 = 0
  case neg =>
    have hB : Hid (b = false) := Lib.hid (by
      cases e : b with
      | false => rfl
      | true => exact absurd (HCH.out.2 e).1 hq)
    have hz1 : (((q &&& 496 : Nat) : Int) == 0) = false := by rw [beq_eq_false_iff_ne]; omega
    clear hq HCH
    generalize q &&& 496 = q2 at *
    go_enter Tryz.func72, Tryz.ntmps72
    go_wp2_with fail
    refine (HS.out _ HB0.out).mono ?_
    rintro e w1 ⟨A', c', rfl, hrd, hb⟩
    have HB1 := Lib.hid (HB0.out.trans (hb.mono HB0.out.size))
    have HF := Lib.hid (HFR.out w1 A' c' hrd)
    clear hb hrd
    go_wp2_with fail
    refine (HF.out).mono ?_
    rintro e w2 ⟨rfl, hb⟩
    have HB2 := Lib.hid (HB1.out.trans (hb.mono HB1.out.size))
    clear hb HF
    go_wp2
    go_ret
    exact ⟨ret_bool hB.out.symm, HB2.out⟩
  have hB : Hid (b = fi) := Lib.hid (by
    have h := HCH.out
    cases fi with
    | true => exact h.1 ⟨hq, rfl⟩
    | false =>
      cases e : b with
      | false => rfl
      | true => exact absurd (h.2 e).2 (by decide))
  rw [hq] at hfb
  clear hq HCH
  generalize m.val.length = vl at *
  generalize m.rel.length = rl at *
  go_enter Tryz.func72, Tryz.ntmps72
  go_wp2_with fail
  refine (HS.out _ HB0.out).mono ?_
  rintro e w1 ⟨A', c', rfl, hrd, hb⟩
  have HB1 := Lib.hid (HB0.out.trans (hb.mono HB0.out.size))
  have KB1 := Lib.hid (KB0.out.below hb KB0.out.lt)
  have HF := Lib.hid (HFR.out w1 A' c' hrd)
  have HRD := Lib.hid hrd
  clear hb hrd
  go_wp2_with fail
  refine (HF.out).mono ?_
  rintro e w2 ⟨rfl, hb⟩
  have HB2 := Lib.hid (HB1.out.trans (hb.mono HB1.out.size))
  have KB2 := Lib.hid (KB1.out.below hb KB1.out.lt)
  have HF2 := Lib.hid (HFI.out w2 A' c' ((HRD.out.below hb).more hb.size))
  clear hb HF
  have b0 := KB2.out.c0
  have b1 := KB2.out.c1
  have b2 := KB2.out.c2
  go_wp2_with fail
  refine (HF2.out).mono ?_
  rintro e w3 ⟨rfl, hb⟩
  have HB3 := Lib.hid (HB2.out.trans (hb.mono HB2.out.size))
  clear hb HF2 b0 b1 b2
  go_wp2
  go_ret
  exact ⟨ret_bool hB.out.symm, HB3.out⟩
end Go.Proofs.YtjpmhbnikoggaaaGreatDoor
