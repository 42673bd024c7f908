/- Layer 6: texts joined: Cl Cm Cn. -/
import Derived.Test.YtjpmhbnikoggaaaDoorNLk
import Derived.Deep.RegionLaw
/- Layer 17: the sets of all nodes, by the program. -/
namespace Go.Proofs.YtjpmhbnikoggaaaDoor
open Go.RowKit Go.Proofs.Ws
set_option maxRecDepth 100000
theorem wIs_anyC (k : Nat) (w : World) (h : k < 64) : Calls Tryd.prog 55 #[.int .i64 (k : Int)] w fun e w' => e = .returned (.bool true) ∧ w = w' := by
  have d : decide ((k : Int) < 64) = true := decide_eq_true (by omega)
  go_enter Tryd.func55, Tryd.ntmps55
  go_wp2
  go_ret
  exact ⟨rfl, rfl⟩
theorem wOnly_anyC (k : Nat) (w : World) (h : k < 64) : Calls Tryd.prog 56 #[.int .i64 (k : Int)] w fun e w' => e = .returned (.int .u64 (p2 k : Int)) ∧ w = w' := by
  go_enter Tryd.func56, Tryd.ntmps56
  go_wp2
  go_ret
  exact ⟨ret_u64 (wrap_pow k h), rfl⟩
theorem wHas_anyC (x k : Nat) (w : World) (hx : x < 18446744073709551616) (h : k < 64) : Calls Tryd.prog 45 #[.int .u64 (x : Int), .int .i64 (k : Int)] w fun e w' => e = .returned (.bool (x.testBit k)) ∧ w = w' := by
  have HI := Lib.hid (fun W => wIs_anyC k W h)
  have HO := Lib.hid (fun W => wOnly_anyC k W h)
  have ha := and_pow x k hx h
  generalize x.testBit k = b at *
  generalize p2 k = pk at *
  clear hx
  go_enter Tryd.func45, Tryd.ntmps45
  go_wp2_with fail
  refine (HI.out _).mono ?_
  rintro e w1 ⟨rfl, rfl⟩
  go_wp2_with fail
  refine (HO.out _).mono ?_
  rintro e w1 ⟨rfl, rfl⟩
  go_wp2
  go_ret
  exact ⟨rfl, rfl⟩
theorem wAll_anyC (n : Nat) (w : World) (h : n ≤ 64) :
    Calls Tryd.prog 44 #[.int .i64 (n : Int)] w fun e w' => e = .returned (.int .u64 (allV n : Int)) ∧ w = w' := by
  have hv := wrap_allV n h
  by_cases h64 : n = 64
  · subst h64
    clear hv
    go_enter Tryd.func44, Tryd.ntmps44
    go_wp2
    go_ret
    exact ⟨ret_u64 (by decide), rfl⟩
  · have hd := decide_eq_false (show ¬ ((64 : Int) < (n : Int)) by omega)
    go_enter Tryd.func44, Tryd.ntmps44
    go_wp2
    go_ret
    exact ⟨ret_u64 (by rw [← hv]), rfl⟩
/-- what the nodes so far give: their sets, and which of them have a meaning -/
def valsL (m : Mo) (f : List Nd) (k : Nat) : List Nat := (List.range k).map (fun i => valT m (treeAt f i))
def hasL (m : Mo) (f : List Nd) (k : Nat) : List Bool := (List.range k).map (fun i => hasT m.rel.length m.val.length (treeAt f i))
theorem valsL_len (m : Mo) (f : List Nd) (k : Nat) : (valsL m f k).length = k := by simp [valsL]
theorem hasL_len (m : Mo) (f : List Nd) (k : Nat) : (hasL m f k).length = k := by simp [hasL]
theorem valsL_at (m : Mo) (f : List Nd) {k i : Nat} (h : i < k) : (valsL m f k).getD i 0 = valT m (treeAt f i) := by
  unfold valsL
  rw [List.getD_eq_getElem?_getD, List.getElem?_map, List.getElem?_range h]
  rfl
theorem hasL_at (m : Mo) (f : List Nd) {k i : Nat} (h : i < k) : (hasL m f k).getD i false = hasT m.rel.length m.val.length (treeAt f i) := by
  unfold hasL
  rw [List.getD_eq_getElem?_getD, List.getElem?_map, List.getElem?_range h]
  rfl
theorem valsL_succ (m : Mo) (f : List Nd) (k : Nat) : valsL m f (k + 1) = valsL m f k ++ [valT m (treeAt f k)] := by
  unfold valsL
  rw [List.range_succ, List.map_append]
  rfl
theorem hasL_succ (m : Mo) (f : List Nd) (k : Nat) : hasL m f (k + 1) = hasL m f k ++ [hasT m.rel.length m.val.length (treeAt f k)] := by
  unfold hasL
  rw [List.range_succ, List.map_append]
  rfl
section
variable {m : Mo} {f : List Nd} (hf : opsL f) {k : Nat} (hk : k < f.length)
include hf hk
theorem ops_x (hx : usesX (f.getD k nd0).op = true) : (f.getD k nd0).x.toNat < k := by
  have h := (hf k hk).1
  rw [if_pos hx] at h
  omega
theorem ops_y (hy : usesY (f.getD k nd0).op = true) : (f.getD k nd0).y.toNat < k := by
  have h := (hf k hk).2
  rw [if_pos hy] at h
  omega
theorem hasN_acc : hasN m.rel.length m.val.length (f.getD k nd0) ((hasL m f k).getD (f.getD k nd0).x.toNat false) ((hasL m f k).getD (f.getD k nd0).y.toNat false) = hasT m.rel.length m.val.length (treeAt f k) := by
  rw [hasT_at hf hk]
  by_cases hx : usesX (f.getD k nd0).op = true
  · rw [hasL_at m f (ops_x hf hk hx)]
    by_cases hy : usesY (f.getD k nd0).op = true
    · rw [hasL_at m f (ops_y hf hk hy)]
    · have hy : usesY (f.getD k nd0).op = false := by simpa using hy
      rw [hasN_un hy]
      conv => rhs; rw [hasN_un hy]
  · have hx : usesX (f.getD k nd0).op = false := by simpa using hx
    rw [hasN_leaf hx]
    conv => rhs; rw [hasN_leaf hx]
theorem setN_acc (hh : hasT m.rel.length m.val.length (treeAt f k) = true) : setN m (f.getD k nd0) ((valsL m f k).getD (f.getD k nd0).x.toNat 0) ((valsL m f k).getD (f.getD k nd0).y.toNat 0) = setT m (treeAt f k) := by
  rw [setT_at hf hk]
  rw [hasT_at hf hk] at hh
  by_cases hx : usesX (f.getD k nd0).op = true
  · rw [valsL_at m f (ops_x hf hk hx), valT, if_pos (hasN_x hh hx)]
    by_cases hy : usesY (f.getD k nd0).op = true
    · rw [valsL_at m f (ops_y hf hk hy), valT, if_pos (hasN_y hh hy)]
    · have hy : usesY (f.getD k nd0).op = false := by simpa using hy
      rw [setN_un hy]
      conv => rhs; rw [setN_un hy]
  · have hx : usesX (f.getD k nd0).op = false := by simpa using hx
    rw [setN_leaf hx]
    conv => rhs; rw [setN_leaf hx]
theorem val_acc : (if hasN m.rel.length m.val.length (f.getD k nd0) ((hasL m f k).getD (f.getD k nd0).x.toNat false) ((hasL m f k).getD (f.getD k nd0).y.toNat false) = true then setN m (f.getD k nd0) ((valsL m f k).getD (f.getD k nd0).x.toNat 0) ((valsL m f k).getD (f.getD k nd0).y.toNat 0) else 0) = valT m (treeAt f k) := by
  rw [hasN_acc hf hk]
  unfold valT
  split
  · rename_i h
    exact setN_acc hf hk h
  · rfl
end
theorem anN_lt' {a b : Nat} (ha : a < 18446744073709551616) : anN a b < 18446744073709551616 := Nat.lt_of_le_of_lt Nat.and_le_left ha
theorem whV_lt {R : List Nat} (p : Nat → Bool) : whV p R < 18446744073709551616 := by
  unfold whV
  split
  · rename_i h
    exact whU_lt p R _ (relErr_zero h)
  · decide
theorem ite_ltC {p : Prop} [Decidable p] {a b c : Nat} (ha : a < c) (hb : b < c) : (if p then a else b) < c := by split <;> assumption
theorem setN_word {m : Mo} (hw : Words m.val) (n : Nd) {x y : Nat} (hx : x < 18446744073709551616) (hy : y < 18446744073709551616) : setN m n x y < 18446744073709551616 := by
  have ha : allV m.n < 18446744073709551616 := allV_lt _
  unfold setN
  exact ite_ltC ha (ite_ltC (words_getD hw _) (ite_ltC (anN_lt' ha) (ite_ltC (Nat.lt_of_le_of_lt Nat.and_le_left hx) (ite_ltC (Nat.or_lt_two_pow (n := 64) hx hy) (ite_ltC (Nat.or_lt_two_pow (n := 64) (anN_lt' ha) hy) (ite_ltC (anN_lt' ha) (ite_ltC (whV_lt _) (ite_ltC (whV_lt _) (ite_ltC (whV_lt _) (ite_ltC (whV_lt _) (ite_ltC (anN_lt' ha) (by decide))))))))))))
theorem setT_word {m : Mo} (hw : Words m.val) : ∀ t, setT m t < 18446744073709551616
  | .leaf n => setN_word hw n (by decide) (by decide)
  | .un n a => setN_word hw n (setT_word hw a) (by decide)
  | .bin n a b => setN_word hw n (setT_word hw a) (setT_word hw b)
theorem valT_word {m : Mo} (hw : Words m.val) (t : Tr) : valT m t < 18446744073709551616 := by
  unfold valT
  split
  · exact setT_word hw t
  · decide
theorem valsL_words {m : Mo} (hw : Words m.val) (f : List Nd) (k : Nat) : Words (valsL m f k) := fun x hx => by
  unfold valsL at hx
  obtain ⟨i, _, rfl⟩ := List.mem_map.1 hx
  exact valT_word hw _
/-- what Sets returns -/
noncomputable def setsR (m : Mo) (f : List Nd) : List Nat := if chkF m f = 0 then valsL m f f.length else []
theorem chkF_zero {m : Mo} {f : List Nd} (h : chkF m f = 0) : chkM m = 0 ∧ fErr f = 0 ∧ maskL fragD (compF f) &&& 496 = 0 ∧ fitsF f m.rel.length m.val.length = true := by
  unfold chkF at h
  by_cases h1 : chkM m = 0
  · rw [if_neg (fun k => k h1)] at h
    by_cases h2 : fErr f = 0
    · rw [if_neg (fun k => k h2)] at h
      by_cases h3 : maskL fragD (compF f) &&& 496 = 0
      · rw [if_neg (fun k => k h3)] at h
        refine ⟨h1, h2, h3, ?_⟩
        cases e : fitsF f m.rel.length m.val.length with
        | true => rfl
        | false => rw [if_pos e] at h; cases h
      · rw [if_pos h3] at h; cases h
    · rw [if_pos h2] at h; exact absurd h h2
  · rw [if_pos h1] at h; exact absurd h h1
/-- what Sets gives back -/
def GivesT (m : Mo) (f : List Nd) (w : World) (e : Ending) (w' : World) : Prop :=
  ∃ A' c', e = .returned (.tuple #[.slice A' (setsR m f).length c', .int .i64 (chkF m f)]) ∧ Reads w' w'.heap.size 1 A' (setsR m f).length (us (setsR m f)) ∧ Below w.heap.size w w'
theorem GivesT.none {m : Mo} {f : List Nd} {w w' : World} {e : Ending} (hz : chkF m f ≠ 0) (he : e = .returned (.tuple #[.slice none 0 0, .int .i64 (chkF m f)])) (hb : Below w.heap.size w w') : GivesT m f w e w' := by
  have hR : setsR m f = [] := by unfold setsR; rw [if_neg hz]
  refine ⟨Option.none, 0, ?_, ?_, hb⟩
  · rw [hR]; exact he
  · rw [hR]; unfold us; exact Reads.none_
theorem GivesT.some {m : Mo} {f : List Nd} {w w' : World} {e : Ending} {A : Option Addr} {c k : Nat} (hz : chkF m f = 0) (hk : f.length = k) (he : e = .returned (.tuple #[.slice A k c, .int .i64 0])) (hr : Reads w' w'.heap.size 1 A k (us (valsL m f k))) (hb : Below w.heap.size w w') : GivesT m f w e w' := by
  have hR : setsR m f = valsL m f k := by unfold setsR; rw [if_pos hz, hk]
  refine ⟨A, c, ?_, ?_, hb⟩
  · rw [hR, valsL_len, hz]; exact he
  · rw [hR, valsL_len]; exact hr
set_option maxHeartbeats 8000000 in
theorem pSetsBad_any (m : Mo) (v : Value) (f : List Nd) (A : Option Addr) (n c : Nat) (w : World) (hM : MoR w w.heap.size v m) (hR : Reads w w.heap.size 6 A n (nds f)) (hn : n ≤ maxLen) (hz : chkF m f ≠ 0) :
    Calls Tryd.prog 46 #[v, .slice A n c] w (GivesT m f w) := by
  obtain ⟨A1, c1, A2, c2, rfl, hv, hr⟩ := hM.ex
  have HB0 := Lib.hid ((Below.refl w.heap.size w).alloc (Nat.le_refl _) (.cells #[.int .i64 m.n, .slice A1 m.val.length c1, .slice A2 m.rel.length c2] 25))
  have HC := Lib.hid (fun W (hb : Below w.heap.size w W) => pChkC_any m _ f A n c W (hM.below hb hb.size) ((hR.below hb).more hb.size) hn)
  have HG := Lib.hid (fun (e : Ending) (w' : World) => GivesT.none (m := m) (f := f) (w := w) (w' := w') (e := e) hz)
  have hz1 : (chkF m f != 0) = true := by rw [bne_iff_ne]; exact hz
  clear hM hR hn hz hv hr
  generalize GivesT m f w = G at *
  generalize chkF m f = z at *
  change Calls _ _ _ _ (fun e w' => G e w')
  go_enter Tryd.func46, Tryd.ntmps46
  go_wp2_with fail
  refine (HC.out _ HB0.out).mono ?_
  rintro e w1 ⟨rfl, hb⟩
  have HB1 := Lib.hid (HB0.out.trans (hb.mono HB0.out.size))
  clear hb
  go_wp2
  exact HG.out _ _ rfl HB1.out
end Go.Proofs.YtjpmhbnikoggaaaDoor
/- Layer 17: Sets by the program, for what passes the check. -/
namespace Go.Proofs.YtjpmhbnikoggaaaDoor
open Go.RowKit Go.Proofs.Ws
set_option maxRecDepth 100000
theorem TS.new (W : World) (m : Mo) (A1 : Option Addr) (c1 : Nat) (A2 : Option Addr) (c2 : Nat) : TS (W.alloc (.cells #[.int .i64 m.n, .slice A1 m.val.length c1, .slice A2 m.rel.length c2, .int .u64 (allV m.n : Int), .slice none 0 0, .slice none 0 0] 88)) W.heap.size m A1 c1 A2 c2 [] [] :=
  ⟨.slice none 0 0, .slice none 0 0, heap_alloc_new W _, World.ownsRow_nil _ _ _ _, World.ownsRow_nil _ _ _ _⟩
set_option maxHeartbeats 16000000 in
theorem pSetsOk_any (m : Mo) (v : Value) (f : List Nd) (A : Option Addr) (n c : Nat) (w : World) (hM : MoR w w.heap.size v m) (hR : Reads w w.heap.size 6 A n (nds f)) (hn : n ≤ maxLen) (hz : chkF m f = 0) (hTab : Tab w) :
    Calls Tryd.prog 46 #[v, .slice A n c] w (GivesT m f w) := by
  obtain ⟨A1, c1, A2, c2, rfl, hv, hr⟩ := hM.ex
  have hlen := hR.nd_len
  have hcz := chkF_zero hz
  have hf0 := hcz.2.1
  have hn200 : n ≤ 200 := by rw [← hlen]; exact (fErr_ok hf0).2.1
  have ok0 := chkM_ok hcz.1
  have HB0 := Lib.hid ((Below.refl w.heap.size w).alloc (Nat.le_refl _) (.cells #[.int .i64 m.n, .slice A1 m.val.length c1, .slice A2 m.rel.length c2] 25))
  have KB0 := Lib.hid (MBox.made w m.n (.slice A1 m.val.length c1) (.slice A2 m.rel.length c2))
  have HC := Lib.hid (fun W (hb : Below w.heap.size w W) => pChkC_any m _ f A n c W (hM.below hb hb.size) ((hR.below hb).more hb.size) hn)
  have HG := Lib.hid (fun (e : Ending) (w' : World) (A' : Option Addr) (c' k : Nat) (hk : f.length = k) => GivesT.some (m := m) (f := f) (w := w) (w' := w') (e := e) (A := A') (c := c') hz hk)
  have HAL : Hid (∀ W, Calls Tryd.prog 44 #[.int .i64 m.n] W fun e w' => e = .returned (.int .u64 (allV m.n : Int)) ∧ W = w') := Lib.hid (fun W => by
    have h := wAll_anyC m.n.toNat W ok0.le
    rw [← ok0.num] at h
    exact h)
  have HADD := Lib.hid (fun (W : World) (g k : Nat) (hb : Below w.heap.size w W) (hg : w.heap.size ≤ g) (hk : k < n) (hT : TS W g m A1 c1 A2 c2 (valsL m f k) (hasL m f k)) => pAdd_anyC m A1 c1 A2 c2 (valsL m f k) (hasL m f k) g w.heap.size W hT hg (hM.below hb (Nat.le_refl _)) hcz.1 (hTab.below hb) (valsL_words hM.wval f k) (f.getD k nd0) (fErr_fld hf0 _ (Ws.getD_mem (by omega))) k (valsL_len m f k) (hasL_len m f k) (by omega) (fErr_ops hf0 k (by omega)))
  have HVA := Lib.hid (fun (k : Nat) (hk : k < n) => val_acc (m := m) (fErr_ops hf0) (k := k) (by omega))
  have HHA := Lib.hid (fun (k : Nat) (hk : k < n) => hasN_acc (m := m) (fErr_ops hf0) (k := k) (by omega))
  have HVS := Lib.hid (fun k => valsL_succ m f k)
  have HHS := Lib.hid (fun k => hasL_succ m f k)
  have HR := Lib.hid hR
  have HLEN := Lib.hid hlen
  clear hM hR hTab hv hr hcz hf0 ok0 hlen hn
  rw [hz] at HC
  clear hz
  generalize GivesT m f w = G at *
  change Calls _ _ _ _ (fun e w' => G e w')
  go_enter Tryd.func46, Tryd.ntmps46
  go_wp2_with fail
  refine (HC.out _ HB0.out).mono ?_
  rintro e w1 ⟨rfl, hb⟩
  have HB1 := Lib.hid (HB0.out.trans (hb.mono HB0.out.size))
  have KB1 := Lib.hid (KB0.out.below hb KB0.out.lt)
  clear hb HC HB0 KB0
  have b0 : w1.drew.cell? _ = _ := KB1.out.c0
  have b1 : w1.drew.cell? _ = _ := KB1.out.c1
  have b2 : w1.drew.cell? _ = _ := KB1.out.c2
  have HBd := Lib.hid HB1.out.drew
  have HTS := Lib.hid ((TS.new w1 m A1 c1 A2 c2).below (Below.refl _ _).drew)
  obtain ⟨w2, hW2⟩ : ∃ W, (w1.alloc (.cells #[.int .i64 m.n, .slice A1 m.val.length c1, .slice A2 m.rel.length c2, .int .u64 (allV m.n : Int), .slice none 0 0, .slice none 0 0] 88)).drew = W := ⟨_, rfl⟩
  rw [hW2] at HTS
  have HB2 : Hid (Below w.heap.size w w2) := Lib.hid (hW2 ▸ (HB1.out.alloc HB1.out.size _).drew)
  have HW2 := Lib.hid hW2
  have HTS2 : Hid (TS w2 w1.heap.size m A1 c1 A2 c2 (valsL m f 0) (hasL m f 0)) := HTS
  have HGL := Lib.hid HB1.out.size
  clear hW2 HTS HBd
  generalize allV m.n = al at *
  go_wp2
  go_region_with (go_at_call 44; refine (HAL.out _).mono ?_; rintro e w3 ⟨rfl, rfl⟩)
  all_goals
    rw [HW2.out]
    clear b0 b1 b2 HW2
    generalize w1.heap.size = g at *
    go_wp2
    go_loopw [9, 24] (fun _ i wr => ∃ k : Nat, k ≤ n ∧ i = .int .i64 k ∧ Hid (TS wr g m A1 c1 A2 c2 (valsL m f k) (hasL m f k)) ∧ Hid (Below w.heap.size w wr)) (fun _ i _ => n - (intOf i).toNat)
    case atStart => exact ⟨0, Nat.zero_le _, rfl, HTS2, HB2⟩
    case round =>
      obtain ⟨k, hk, rfl, HTk, HBk⟩ := hrel
      by_cases hlt : k < n
      · obtain ⟨ad, rfl, hbl, m0, m1, m2, m3, m4, m5⟩ := ((HR.out.below HBk.out).more HBk.out.size).nd_at hlt
        have HV := Lib.hid (HVA.out k hlt)
        have HH := Lib.hid (HHA.out k hlt)
        have l1 := add_cell m1
        have l2 := add_cell m2
        have l3 := add_cell m3
        have l4 := add_cell m4
        have l5 := add_cell m5
        have HBa := Lib.hid (HBk.out.alloc HBk.out.size (.cells #[.int .i64 (f.getD k nd0).op, .int .i64 (f.getD k nd0).i, .int .i64 (f.getD k nd0).e, .int .i64 (f.getD k nd0).g, .int .i64 (f.getD k nd0).x, .int .i64 (f.getD k nd0).y] 62))
        have HTa := Lib.hid (HTk.out.below ((Below.refl wr.heap.size wr).alloc (Nat.le_refl _) (.cells #[.int .i64 (f.getD k nd0).op, .int .i64 (f.getD k nd0).i, .int .i64 (f.getD k nd0).e, .int .i64 (f.getD k nd0).g, .int .i64 (f.getD k nd0).x, .int .i64 (f.getD k nd0).y] 62)))
        have HCA := Lib.hid (HADD.out _ g k HBa.out HGL.out hlt HTa.out)
        rw [HV.out, HH.out, ← HVS.out, ← HHS.out] at HCA
        generalize f.getD k nd0 = y at *
        clear HV HH
        go_wp2_with fail
        refine (HCA.out).mono ?_
        rintro e w5 ⟨rfl, hT5, hb5⟩
        have HT5 := Lib.hid hT5
        have HB5 := Lib.hid (HBa.out.trans (hb5.mono HGL.out))
        clear hT5 hb5 m0 m1 m2 m3 m4 m5 l1 l2 l3 l4 l5 HCA
        go_wp2
        go_roundw
        case rel => exact ⟨k + 1, by omega, by go_num, HT5, HB5⟩
        case measure => simp [intOf]; omega
      · obtain rfl : n = k := by omega
        obtain ⟨_, _, _, _, ⟨A3, c3, t4, hr3⟩, _⟩ := HTk.out.cells
        rw [valsL_len] at t4 hr3
        have HR3 := Lib.hid hr3
        clear hlt hr3
        go_wp2
        exact HG.out _ _ A3 c3 n HLEN.out rfl HR3.out HBk.out
end Go.Proofs.YtjpmhbnikoggaaaDoor
/- Layer 17: Holds, At and Valid by the program. -/
namespace Go.Proofs.YtjpmhbnikoggaaaDoor
open Go.RowKit Go.Proofs.Ws
set_option maxRecDepth 100000
theorem pSets_anyC (m : Mo) (v : Value) (f : List Nd) (A : Option Addr) (n c : Nat) (w : World) (hM : MoR w w.heap.size v m) (hR : Reads w w.heap.size 6 A n (nds f)) (hn : n ≤ maxLen) (hTab : Tab w) :
    Calls Tryd.prog 46 #[v, .slice A n c] w (GivesT m f w) := by
  by_cases hz : chkF m f = 0
  · exact pSetsOk_any m v f A n c w hM hR hn hz hTab
  · exact pSetsBad_any m v f A n c w hM hR hn hz
/-- where a formula holds -/
noncomputable def holdV (m : Mo) (f : List Nd) : Nat := if chkF m f = 0 then valT m (treeAt f (f.length - 1)) else 0
theorem holdV_lt {m : Mo} (hw : Words m.val) (f : List Nd) : holdV m f < 18446744073709551616 := by
  unfold holdV
  split
  · exact valT_word hw _
  · decide
set_option maxHeartbeats 8000000 in
theorem pHolds_anyC (m : Mo) (v : Value) (f : List Nd) (A : Option Addr) (n c : Nat) (w : World) (hM : MoR w w.heap.size v m) (hR : Reads w w.heap.size 6 A n (nds f)) (hn : n ≤ maxLen) (hTab : Tab w) :
    Calls Tryd.prog 33 #[v, .slice A n c] w fun e w' => e = .returned (.tuple #[.int .u64 ((holdV m f : Nat) : Int), .int .i64 (chkF m f)]) ∧ Below w.heap.size w w' := by
  obtain ⟨A1, c1, A2, c2, rfl, hv, hr⟩ := hM.ex
  have HB0 := Lib.hid ((Below.refl w.heap.size w).alloc (Nat.le_refl _) (.cells #[.int .i64 m.n, .slice A1 m.val.length c1, .slice A2 m.rel.length c2] 25))
  have HS := Lib.hid (fun W (hb : Below w.heap.size w W) => pSets_anyC m _ f A n c W (hM.below hb hb.size) ((hR.below hb).more hb.size) hn (hTab.below hb))
  unfold GivesT at HS
  by_cases hz : chkF m f = 0
  case neg =>
    have HV : Hid (holdV m f = 0) := Lib.hid (by unfold holdV; rw [if_neg hz])
    have hz1 : (chkF m f != 0) = true := by rw [bne_iff_ne]; exact hz
    rw [HV.out]
    clear hM hR hn hTab hv hr hz HV
    generalize chkF m f = z at *
    generalize (setsR m f).length = L at *
    go_enter Tryd.func33, Tryd.ntmps33
    go_wp2_with fail
    refine (HS.out _ HB0.out).mono ?_
    rintro e w1 ⟨A', c', rfl, _, hb⟩
    have HB1 := Lib.hid (HB0.out.trans (hb.mono HB0.out.size))
    clear hb
    go_wp2
    go_ret2
    exact ⟨rfl, HB1.out⟩
  have hne := List.length_pos_iff.2 (fErr_ok (chkF_zero hz).2.1).1
  have hl2 := (fErr_ok (chkF_zero hz).2.1).2.1
  obtain ⟨X, hX⟩ : ∃ X, f.length = X + 1 := ⟨f.length - 1, by omega⟩
  have HV : Hid (holdV m f = valT m (treeAt f X)) := Lib.hid (by unfold holdV; rw [if_pos hz, hX]; rfl)
  have hsr : setsR m f = valsL m f (X + 1) := by unfold setsR; rw [if_pos hz, hX]
  rw [hsr, valsL_len, hz] at HS
  rw [HV.out, hz]
  have HVA := Lib.hid (valsL_at m f (show X < X + 1 by omega))
  have hx1 : wrap64 (X : Int) = (X : Int) := IntWalk.wrap64_in _ ⟨by omega, by omega⟩
  clear hM hR hn hTab hv hr hz HV hsr hne hl2 hX
  generalize valT m (treeAt f X) = z at *
  generalize valsL m f (X + 1) = L at *
  go_enter Tryd.func33, Tryd.ntmps33
  go_wp2_with fail
  refine (HS.out _ HB0.out).mono ?_
  rintro e w1 ⟨A', c', rfl, hrd, hb⟩
  have HB1 := Lib.hid (HB0.out.trans (hb.mono HB0.out.size))
  obtain ⟨ad, rfl, _, hc⟩ := hrd.word_k (show X < X + 1 by omega)
  rw [HVA.out] at hc
  clear hb hrd
  go_wp2
  go_ret2
  exact ⟨rfl, HB1.out⟩
/-- what At answers -/
noncomputable def atE (m : Mo) (f : List Nd) (i : Int) : Int := if chkF m f ≠ 0 then chkF m f else if i < 0 ∨ m.n ≤ i then 2 else 0
noncomputable def atV (m : Mo) (f : List Nd) (i : Int) : Bool := decide (atE m f i = 0) && (holdV m f).testBit i.toNat
noncomputable def validV (m : Mo) (f : List Nd) : Bool := decide (chkF m f = 0) && decide (holdV m f = allV m.n)
set_option maxHeartbeats 8000000 in
theorem pAt_anyC (m : Mo) (v : Value) (i : Int) (f : List Nd) (A : Option Addr) (n c : Nat) (w : World) (hM : MoR w w.heap.size v m) (hR : Reads w w.heap.size 6 A n (nds f)) (hn : n ≤ maxLen) (hTab : Tab w) :
    Calls Tryd.prog 31 #[v, .int .i64 i, .slice A n c] w fun e w' => e = .returned (.tuple #[.bool (atV m f i), .int .i64 (atE m f i)]) ∧ Below w.heap.size w w' := by
  obtain ⟨A1, c1, A2, c2, rfl, hv, hr⟩ := hM.ex
  have HB0 := Lib.hid ((Below.refl w.heap.size w).alloc (Nat.le_refl _) (.cells #[.int .i64 m.n, .slice A1 m.val.length c1, .slice A2 m.rel.length c2] 25))
  have KB0 := Lib.hid (MBox.made w m.n (.slice A1 m.val.length c1) (.slice A2 m.rel.length c2))
  have HS := Lib.hid (fun W (hb : Below w.heap.size w W) => pHolds_anyC m _ f A n c W (hM.below hb hb.size) ((hR.below hb).more hb.size) hn (hTab.below hb))
  have hhl := holdV_lt hM.wval f
  have hok : chkF m f = 0 → m.n ≤ 64 := fun h => by have := (chkM_ok (chkF_zero h).1).le; have h2 := (chkM_ok (chkF_zero h).1).num; omega
  unfold atV atE
  clear hM hR hn hTab hv hr
  generalize holdV m f = hd at *
  generalize chkF m f = z at *
  generalize m.n = nn at *
  by_cases hz : z = 0
  case neg =>
    have hz1 : (z != 0) = true := by rw [bne_iff_ne]; exact hz
    rw [if_pos hz, decide_eq_false hz]
    clear hz hok
    go_enter Tryd.func31, Tryd.ntmps31
    go_wp2_with fail
    refine (HS.out _ HB0.out).mono ?_
    rintro e w1 ⟨rfl, hb⟩
    have HB1 := Lib.hid (HB0.out.trans (hb.mono HB0.out.size))
    clear hb
    go_wp2
    go_ret2
    exact ⟨rfl, HB1.out⟩
  have h64 := hok hz
  subst hz
  rw [if_neg (fun h => h rfl)]
  clear hok
  by_cases hi : i < 0
  · have d1 : decide (i < 0) = true := decide_eq_true hi
    rw [if_pos (.inl hi)]
    clear hi
    go_enter Tryd.func31, Tryd.ntmps31
    go_wp2_with fail
    refine (HS.out _ HB0.out).mono ?_
    rintro e w1 ⟨rfl, hb⟩
    have HB1 := Lib.hid (HB0.out.trans (hb.mono HB0.out.size))
    have KB1 := Lib.hid (KB0.out.below hb KB0.out.lt)
    clear hb
    have b0 := KB1.out.c0
    go_wp2
    go_ret2
    exact ⟨rfl, HB1.out⟩
  have d1 : decide (i < 0) = false := decide_eq_false hi
  by_cases hi2 : nn ≤ i
  · have d2 : decide (nn ≤ i) = true := decide_eq_true hi2
    rw [if_pos (.inr hi2)]
    clear hi hi2
    go_enter Tryd.func31, Tryd.ntmps31
    go_wp2_with fail
    refine (HS.out _ HB0.out).mono ?_
    rintro e w1 ⟨rfl, hb⟩
    have HB1 := Lib.hid (HB0.out.trans (hb.mono HB0.out.size))
    have KB1 := Lib.hid (KB0.out.below hb KB0.out.lt)
    clear hb
    have b0 := KB1.out.c0
    go_wp2
    go_ret2
    exact ⟨rfl, HB1.out⟩
  have d2 : decide (nn ≤ i) = false := decide_eq_false hi2
  rw [if_neg (fun h => h.elim hi hi2)]
  obtain ⟨k, rfl⟩ : ∃ k : Nat, i = (k : Int) := ⟨i.toNat, by omega⟩
  have HH := Lib.hid (fun W => wHas_anyC hd k W hhl (by omega))
  rw [show (decide ((0 : Int) = 0) && hd.testBit ((k : Int)).toNat) = hd.testBit k from rfl]
  clear hi hi2 hhl
  generalize hd.testBit k = b at *
  go_enter Tryd.func31, Tryd.ntmps31
  go_wp2_with fail
  refine (HS.out _ HB0.out).mono ?_
  rintro e w1 ⟨rfl, hb⟩
  have HB1 := Lib.hid (HB0.out.trans (hb.mono HB0.out.size))
  have KB1 := Lib.hid (KB0.out.below hb KB0.out.lt)
  clear hb
  have b0 := KB1.out.c0
  go_wp2_with fail
  refine (HH.out _).mono ?_
  rintro e w2 ⟨rfl, rfl⟩
  go_wp2
  go_ret2
  exact ⟨rfl, HB1.out⟩
set_option maxHeartbeats 8000000 in
theorem pValid_anyC (m : Mo) (v : Value) (f : List Nd) (A : Option Addr) (n c : Nat) (w : World) (hM : MoR w w.heap.size v m) (hR : Reads w w.heap.size 6 A n (nds f)) (hn : n ≤ maxLen) (hTab : Tab w) :
    Calls Tryd.prog 23 #[v, .slice A n c] w fun e w' => e = .returned (.tuple #[.bool (validV m f), .int .i64 (chkF m f)]) ∧ Below w.heap.size w w' := by
  obtain ⟨A1, c1, A2, c2, rfl, hv, hr⟩ := hM.ex
  have HB0 := Lib.hid ((Below.refl w.heap.size w).alloc (Nat.le_refl _) (.cells #[.int .i64 m.n, .slice A1 m.val.length c1, .slice A2 m.rel.length c2] 25))
  have KB0 := Lib.hid (MBox.made w m.n (.slice A1 m.val.length c1) (.slice A2 m.rel.length c2))
  have HS := Lib.hid (fun W (hb : Below w.heap.size w W) => pHolds_anyC m _ f A n c W (hM.below hb hb.size) ((hR.below hb).more hb.size) hn (hTab.below hb))
  have hok : chkF m f = 0 → OkM m.n.toNat m := fun h => chkM_ok (chkF_zero h).1
  unfold validV
  clear hM hR hn hTab hv hr
  by_cases hz : chkF m f = 0
  case neg =>
    have hz1 : (chkF m f == 0) = false := by rw [beq_eq_false_iff_ne]; exact hz
    rw [decide_eq_false hz]
    clear hz hok
    generalize holdV m f = hd at *
    generalize chkF m f = z at *
    go_enter Tryd.func23, Tryd.ntmps23
    go_wp2_with fail
    refine (HS.out _ HB0.out).mono ?_
    rintro e w1 ⟨rfl, hb⟩
    have HB1 := Lib.hid (HB0.out.trans (hb.mono HB0.out.size))
    clear hb
    go_wp2
    go_ret2
    exact ⟨rfl, HB1.out⟩
  have ok := hok hz
  have HAL : Hid (∀ W, Calls Tryd.prog 44 #[.int .i64 m.n] W fun e w' => e = .returned (.int .u64 (allV m.n : Int)) ∧ W = w') := Lib.hid (fun W => by
    have h := wAll_anyC m.n.toNat W ok.le
    rw [← ok.num] at h
    exact h)
  rw [hz] at HS
  rw [hz, decide_eq_true rfl]
  clear hok hz ok
  rw [Bool.true_and]
  generalize holdV m f = hd at *
  have he : (((hd : Nat) : Int) == ((allV m.n : Nat) : Int)) = decide (hd = allV m.n) := by
    rw [Bool.eq_iff_iff, beq_iff_eq, decide_eq_true_eq]
    omega
  generalize allV m.n = al at *
  go_enter Tryd.func23, Tryd.ntmps23
  go_wp2_with fail
  refine (HS.out _ HB0.out).mono ?_
  rintro e w1 ⟨rfl, hb⟩
  have HB1 := Lib.hid (HB0.out.trans (hb.mono HB0.out.size))
  have KB1 := Lib.hid (KB0.out.below hb KB0.out.lt)
  clear hb
  have b0 := KB1.out.c0
  go_wp2_with fail
  refine (HAL.out _).mono ?_
  rintro e w2 ⟨rfl, rfl⟩
  go_wp2
  go_ret2
  exact ⟨by first | rfl | rw [he], HB1.out⟩
end Go.Proofs.YtjpmhbnikoggaaaDoor
