/- Layer 6: texts joined: Fr36 Fr37. -/
import Derived.Test.YtjpmhbnikoggaaaGreatDoorNIs
import Derived.Test.YtjpmhbnikoggaaaGreatDoorNJk
/- Layer 15: the axioms by the program. -/
namespace Go.Proofs.YtjpmhbnikoggaaaGreatDoor
open Go.RowKit Go.Proofs.Ws
set_option maxRecDepth 100000
def knowF (a : Int) (f : List Nd) : List Nd := buildF ⟨9, a, 0, 0, 0, 0⟩ [f]
def possF (a : Int) (f : List Nd) : List Nd := buildF ⟨10, a, 0, 0, 0, 0⟩ [f]
def impF (f h : List Nd) : List Nd := buildF ⟨7, 0, 0, 0, 0, 0⟩ [f, h]
/-- the axiom of a property -/
def axL (p a : Int) (f : List Nd) : List Nd :=
 if p = 1 then impF (knowF a f) (possF a f) else if p = 2 then impF (knowF a f) f else if p = 3 then impF f (knowF a (possF a f)) else if p = 4 then impF (knowF a f) (knowF a (knowF a f)) else impF (possF a f) (knowF a (possF a f))
theorem buildF_len (n : Nd) (fs : List (List Nd)) : (buildF n fs).length ≤ 200 := by
 unfold buildF
 split
 ·simp
 ·split
  ·simp
  ·split
   ·simp
   ·omega
/-- the constructors in their cells -/
def Cs (B : Nat) (W : World) : Prop := W.heap[B + 1]? = some (.cells #[.func (.func 55) #[] #[]] 69) ∧ W.heap[B + 1 + 1]? = some (.cells #[.func (.func 60) #[] #[]] 69) ∧ W.heap[B + 1 + 1 + 1]? = some (.cells #[.func (.func 90) #[] #[]] 87)
theorem Cs.below {B : Nat} {W W' : World} (h : Cs B W) (hb : Below W.heap.size W W') : Cs B W' := by
 have keep : ∀ (k : Nat) (x : Obj), W.heap[k]? = some x → W'.heap[k]? = some x := fun k x h => (hb.block k (Array.getElem?_eq_some_iff.1 h).1).trans h
 exact ⟨keep _ _ h.1, keep _ _ h.2.1, keep _ _ h.2.2⟩
theorem Cs.cells {B : Nat} {W : World} (h : Cs B W) : W.cell? ⟨B + 1, 0, none⟩ = some (.func (.func 55) #[] #[]) ∧ W.cell? ⟨B + 1 + 1, 0, none⟩ = some (.func (.func 60) #[] #[]) ∧ W.cell? ⟨B + 1 + 1 + 1, 0, none⟩ = some (.func (.func 90) #[] #[]) :=
 ⟨by rw [Lib.cell_of_heap h.1]; rfl, by rw [Lib.cell_of_heap h.2.1]; rfl, by rw [Lib.cell_of_heap h.2.2]; rfl⟩
/-- what is known of the formulas that the calls give -/
def vAx (q : Nat → List Nd) (i : Nat) (v : Value) (W : World) : Prop := ∃ A c, v = .slice A (q i).length c ∧ Reads W W.heap.size 6 A (q i).length (nds (q i))
theorem vAx_up {q : Nat → List Nd} : ∀ i v W W', vAx q i v W → Below W.heap.size W W' → vAx q i v W' := fun i v W W' h hb => by
 obtain ⟨A, c, e, h⟩ := h
 exact ⟨A, c, e, (h.below hb).more hb.size⟩
set_option maxHeartbeats 4000000 in
theorem ax1_any (a : Int) (f : List Nd) (A : Option Addr) (n c B : Nat) (w : World) (hR : Reads w w.heap.size 6 A n (nds f)) (hn : n ≤ maxLen) (hC : Cs B w) :
  Calls Tryz.prog 91 #[.int .i64 a, .slice A n c, .pointer (some ⟨B + 1 + 1 + 1, 0, none⟩), .pointer (some ⟨B + 1, 0, none⟩), .pointer (some ⟨B + 1 + 1, 0, none⟩)] w fun e w' => ∃ A' c', e = .returned (.slice A' (axL 1 a f).length c') ∧ Reads w' w'.heap.size 6 A' (axL 1 a f).length (nds (axL 1 a f)) ∧ Below w.heap.size w w' := by
 have HR := Lib.hid (fun W (hb : Below w.heap.size w W) => (hR.below hb).more hb.size)
 have HC := Lib.hid (fun W (hb : Below w.heap.size w W) => (hC.below hb).cells)
 have HX : Hid (axL 1 a f = (impF (knowF a f) (possF a f))) := Lib.hid (by unfold axL; simp)
 have HN := Lib.hid hn
 clear hR hC hn
 generalize axL 1 a f = ax at *
 go_enter Tryz.func91, Tryz.ntmps91
 go_wp2
 refine wp_region_wild [.func (.func 90) #[] #[], .func (.func 55) #[] #[], .int .i64 a, .slice A n c, undef, .func (.func 60) #[] #[], .int .i64 a, .slice A n c, undef, undef, undef] [8, 9, 10, 11, 12, 13, 14, 15, 16, 17, 7] [0, 1, 4, 5, 8, 9, 10] [4, 8, 9, 10] (vAx (fun i => if i = 4 then (knowF a f) else if i = 8 then (possF a f) else if i = 9 then (impF (knowF a f) (possF a f)) else if i = 10 then (impF (knowF a f) (possF a f)) else [])) (fun W => Below w.heap.size w W) (fun W W' => Below W.heap.size W W') 11 18 rfl rfl rfl (by decide) (by decide) (by kernel_rfl) (by kernel_rfl) (by kernel_rfl) (by kernel_rfl) (fun W => Below.refl _ W) (fun W1 W2 W3 h1 h2 => h1.trans (h2.mono h1.size)) (fun W W' h h2 => h.trans (h2.mono h.size)) vAx_up (Below.refl w.heap.size w).drew (by kernel_rfl) [] rfl ?hop ?fin
 case hop =>
  refine (And.intro ?s0 (And.intro ?s1 (And.intro ?s4 (And.intro ?s5 (And.intro ?s8 (And.intro ?s9 (And.intro ?s10 trivial)))))))
  case s0 =>
   refine And.intro (by rfl) (fun tm W hS hsz hfr hdep K hK => ?_)
   change tm.size = 18 at hsz
   have t2 : tm.getD 2 undef = .pointer (some ⟨B + 1 + 1 + 1, 0, none⟩) := hfr 2 (by rfl)
   obtain ⟨z1, z2, z3⟩ := HC.out W hS
   clear hdep hfr
   go_simp
   exact hK _ W (Below.refl _ W) (wildV_of (by rfl))
  case s1 =>
   refine And.intro (by rfl) (fun tm W hS hsz hfr hdep K hK => ?_)
   change tm.size = 18 at hsz
   have t3 : tm.getD 3 undef = .pointer (some ⟨B + 1, 0, none⟩) := hfr 3 (by rfl)
   obtain ⟨z1, z2, z3⟩ := HC.out W hS
   clear hdep hfr
   go_simp
   exact hK _ W (Below.refl _ W) (wildV_of (by rfl))
  case s4 =>
   refine And.intro (by rfl) (fun tm W hS hsz hfr hdep K hK => ?_)
   change tm.size = 18 at hsz
   have t9 : tm.getD 9 undef = .func (.func 55) #[] #[] := wildV_known (by rfl) (hdep 1 (by rfl) (by decide))
   have t10 : tm.getD 10 undef = .int .i64 a := wildV_known (by rfl) (hdep 2 (by rfl) (by decide))
   have t11 : tm.getD 11 undef = .slice A n c := wildV_known (by rfl) (hdep 3 (by rfl) (by decide))
   clear hdep hfr
   refine wp_call _ _ _ _ _ rfl t9 (by simp [Act.eval, t10, t11]) (by kernel_rfl) (pKnow_any a f A n c W (HR.out W hS) HN.out) (fun e W9 h9 => ?_)
   obtain ⟨A9, c9, rfl, hr9, hb9⟩ := h9
   exact ⟨_, rfl, hK _ W9 hb9 (show vAx (fun i => if i = 4 then (knowF a f) else if i = 8 then (possF a f) else if i = 9 then (impF (knowF a f) (possF a f)) else if i = 10 then (impF (knowF a f) (possF a f)) else []) 4 (.slice A9 (knowF a f).length c9) W9 from ⟨A9, c9, rfl, hr9⟩)⟩
  case s5 =>
   refine And.intro (by rfl) (fun tm W hS hsz hfr hdep K hK => ?_)
   change tm.size = 18 at hsz
   have t4 : tm.getD 4 undef = .pointer (some ⟨B + 1 + 1, 0, none⟩) := hfr 4 (by rfl)
   obtain ⟨z1, z2, z3⟩ := HC.out W hS
   clear hdep hfr
   go_simp
   exact hK _ W (Below.refl _ W) (wildV_of (by rfl))
  case s8 =>
   refine And.intro (by rfl) (fun tm W hS hsz hfr hdep K hK => ?_)
   change tm.size = 18 at hsz
   have t13 : tm.getD 13 undef = .func (.func 60) #[] #[] := wildV_known (by rfl) (hdep 5 (by rfl) (by decide))
   have t14 : tm.getD 14 undef = .int .i64 a := wildV_known (by rfl) (hdep 6 (by rfl) (by decide))
   have t15 : tm.getD 15 undef = .slice A n c := wildV_known (by rfl) (hdep 7 (by rfl) (by decide))
   clear hdep hfr
   refine wp_call _ _ _ _ _ rfl t13 (by simp [Act.eval, t14, t15]) (by kernel_rfl) (pPoss_any a f A n c W (HR.out W hS) HN.out) (fun e W9 h9 => ?_)
   obtain ⟨A9, c9, rfl, hr9, hb9⟩ := h9
   exact ⟨_, rfl, hK _ W9 hb9 (show vAx (fun i => if i = 4 then (knowF a f) else if i = 8 then (possF a f) else if i = 9 then (impF (knowF a f) (possF a f)) else if i = 10 then (impF (knowF a f) (possF a f)) else []) 8 (.slice A9 (possF a f).length c9) W9 from ⟨A9, c9, rfl, hr9⟩)⟩
  case s9 =>
   refine And.intro (by rfl) (fun tm W hS hsz hfr hdep K hK => ?_)
   change tm.size = 18 at hsz
   have t8 : tm.getD 8 undef = .func (.func 90) #[] #[] := wildV_known (by rfl) (hdep 0 (by rfl) (by decide))
   have h4 : (vAx (fun i => if i = 4 then (knowF a f) else if i = 8 then (possF a f) else if i = 9 then (impF (knowF a f) (possF a f)) else if i = 10 then (impF (knowF a f) (possF a f)) else [])) 4 (tm.getD 12 undef) W := wildV_wild (by rfl) (hdep 4 (by rfl) (by decide))
   have h8 : (vAx (fun i => if i = 4 then (knowF a f) else if i = 8 then (possF a f) else if i = 9 then (impF (knowF a f) (possF a f)) else if i = 10 then (impF (knowF a f) (possF a f)) else [])) 8 (tm.getD 16 undef) W := wildV_wild (by rfl) (hdep 8 (by rfl) (by decide))
   clear hdep hfr
   obtain ⟨A4, c4, t12, hR4⟩ := h4
   change tm.getD 12 undef = .slice A4 (knowF a f).length c4 at t12
   change Reads W W.heap.size 6 A4 (knowF a f).length (nds (knowF a f)) at hR4
   obtain ⟨A8, c8, t16, hR8⟩ := h8
   change tm.getD 16 undef = .slice A8 (possF a f).length c8 at t16
   change Reads W W.heap.size 6 A8 (possF a f).length (nds (possF a f)) at hR8
   refine wp_call _ _ _ _ _ rfl t8 (by simp [Act.eval, t12, t16]) (by kernel_rfl) (pImp_any (knowF a f) A4 (knowF a f).length c4 (possF a f) A8 (possF a f).length c8 W hR4 (Nat.le_trans (buildF_len _ _) (by unfold maxLen; omega)) hR8 (Nat.le_trans (buildF_len _ _) (by unfold maxLen; omega))) (fun e W9 h9 => ?_)
   obtain ⟨A9, c9, rfl, hr9, hb9⟩ := h9
   exact ⟨_, rfl, hK _ W9 hb9 (show vAx (fun i => if i = 4 then (knowF a f) else if i = 8 then (possF a f) else if i = 9 then (impF (knowF a f) (possF a f)) else if i = 10 then (impF (knowF a f) (possF a f)) else []) 9 (.slice A9 (impF (knowF a f) (possF a f)).length c9) W9 from ⟨A9, c9, rfl, hr9⟩)⟩
  case s10 =>
   refine And.intro (by rfl) (fun tm W hS hsz hfr hdep K hK => ?_)
   change tm.size = 18 at hsz
   have h9 : (vAx (fun i => if i = 4 then (knowF a f) else if i = 8 then (possF a f) else if i = 9 then (impF (knowF a f) (possF a f)) else if i = 10 then (impF (knowF a f) (possF a f)) else [])) 9 (tm.getD 17 undef) W := wildV_wild (by rfl) (hdep 9 (by rfl) (by decide))
   clear hdep hfr
   go_simp
   have e17 : tm[17]'(by omega) = tm.getD 17 undef := getq rfl (by omega)
   exact hK _ W (Below.refl _ W) (by first | exact h9 | (rw [e17]; exact h9))
 case fin =>
  intro fv W hS hV
  have y4 : (vAx (fun i => if i = 4 then (knowF a f) else if i = 8 then (possF a f) else if i = 9 then (impF (knowF a f) (possF a f)) else if i = 10 then (impF (knowF a f) (possF a f)) else [])) 4 (fv 4) W := hV 4 (by decide) (by rfl)
  have y8 : (vAx (fun i => if i = 4 then (knowF a f) else if i = 8 then (possF a f) else if i = 9 then (impF (knowF a f) (possF a f)) else if i = 10 then (impF (knowF a f) (possF a f)) else [])) 8 (fv 8) W := hV 8 (by decide) (by rfl)
  have y9 : (vAx (fun i => if i = 4 then (knowF a f) else if i = 8 then (possF a f) else if i = 9 then (impF (knowF a f) (possF a f)) else if i = 10 then (impF (knowF a f) (possF a f)) else [])) 9 (fv 9) W := hV 9 (by decide) (by rfl)
  have y10 : (vAx (fun i => if i = 4 then (knowF a f) else if i = 8 then (possF a f) else if i = 9 then (impF (knowF a f) (possF a f)) else if i = 10 then (impF (knowF a f) (possF a f)) else [])) 10 (fv 10) W := hV 10 (by decide) (by rfl)
  clear hV
  have hvl : ((List.range 11).map (fun i => if [4, 8, 9, 10].contains i then fv i else ([.func (.func 90) #[] #[], .func (.func 55) #[] #[], .int .i64 a, .slice A n c, undef, .func (.func 60) #[] #[], .int .i64 a, .slice A n c, undef, undef, undef] : List Value).getD i undef)) = [.func (.func 90) #[] #[], .func (.func 55) #[] #[], .int .i64 a, .slice A n c, fv 4, .func (.func 60) #[] #[], .int .i64 a, .slice A n c, fv 8, fv 9, fv 10] := by rfl
  rw [hvl]
  clear hvl
  have HS := Lib.hid hS
  clear y4
  clear y8
  clear y9
  obtain ⟨A8, c8, e8, hr8⟩ := y10
  change fv 10 = .slice A8 (impF (knowF a f) (possF a f)).length c8 at e8
  change Reads W W.heap.size 6 A8 (impF (knowF a f) (possF a f)).length (nds (impF (knowF a f) (possF a f))) at hr8
  have HR8 := Lib.hid hr8
  clear hr8 hS
  rw [e8]
  clear e8
  generalize fv 4 = z4 at *
  generalize fv 8 = z8 at *
  generalize fv 9 = z9 at *
  simp only [fillD]
  rw [← HX.out] at HR8
  rw [← HX.out]
  go_simp
  go_wp2
  go_ret
  exact ⟨A8, c8, rfl, HR8.out, HS.out⟩
set_option maxHeartbeats 4000000 in
theorem ax2_any (a : Int) (f : List Nd) (A : Option Addr) (n c B : Nat) (w : World) (hR : Reads w w.heap.size 6 A n (nds f)) (hn : n ≤ maxLen) (hC : Cs B w) :
  Calls Tryz.prog 94 #[.int .i64 a, .slice A n c, .pointer (some ⟨B + 1 + 1 + 1, 0, none⟩), .pointer (some ⟨B + 1, 0, none⟩)] w fun e w' => ∃ A' c', e = .returned (.slice A' (axL 2 a f).length c') ∧ Reads w' w'.heap.size 6 A' (axL 2 a f).length (nds (axL 2 a f)) ∧ Below w.heap.size w w' := by
 have HR := Lib.hid (fun W (hb : Below w.heap.size w W) => (hR.below hb).more hb.size)
 have HC := Lib.hid (fun W (hb : Below w.heap.size w W) => (hC.below hb).cells)
 have HX : Hid (axL 2 a f = (impF (knowF a f) f)) := Lib.hid (by unfold axL; simp)
 have HN := Lib.hid hn
 clear hR hC hn
 generalize axL 2 a f = ax at *
 go_enter Tryz.func94, Tryz.ntmps94
 go_wp2
 refine wp_region_wild [.func (.func 90) #[] #[], .func (.func 55) #[] #[], .int .i64 a, .slice A n c, undef, .slice A n c, undef, undef] [7, 8, 9, 10, 11, 12, 13, 6] [0, 1, 4, 6, 7] [4, 6, 7] (vAx (fun i => if i = 4 then (knowF a f) else if i = 6 then (impF (knowF a f) f) else if i = 7 then (impF (knowF a f) f) else [])) (fun W => Below w.heap.size w W) (fun W W' => Below W.heap.size W W') 8 14 rfl rfl rfl (by decide) (by decide) (by kernel_rfl) (by kernel_rfl) (by kernel_rfl) (by kernel_rfl) (fun W => Below.refl _ W) (fun W1 W2 W3 h1 h2 => h1.trans (h2.mono h1.size)) (fun W W' h h2 => h.trans (h2.mono h.size)) vAx_up (Below.refl w.heap.size w).drew (by kernel_rfl) [] rfl ?hop ?fin
 case hop =>
  refine (And.intro ?s0 (And.intro ?s1 (And.intro ?s4 (And.intro ?s6 (And.intro ?s7 trivial)))))
  case s0 =>
   refine And.intro (by rfl) (fun tm W hS hsz hfr hdep K hK => ?_)
   change tm.size = 14 at hsz
   have t2 : tm.getD 2 undef = .pointer (some ⟨B + 1 + 1 + 1, 0, none⟩) := hfr 2 (by rfl)
   obtain ⟨z1, z2, z3⟩ := HC.out W hS
   clear hdep hfr
   go_simp
   exact hK _ W (Below.refl _ W) (wildV_of (by rfl))
  case s1 =>
   refine And.intro (by rfl) (fun tm W hS hsz hfr hdep K hK => ?_)
   change tm.size = 14 at hsz
   have t3 : tm.getD 3 undef = .pointer (some ⟨B + 1, 0, none⟩) := hfr 3 (by rfl)
   obtain ⟨z1, z2, z3⟩ := HC.out W hS
   clear hdep hfr
   go_simp
   exact hK _ W (Below.refl _ W) (wildV_of (by rfl))
  case s4 =>
   refine And.intro (by rfl) (fun tm W hS hsz hfr hdep K hK => ?_)
   change tm.size = 14 at hsz
   have t8 : tm.getD 8 undef = .func (.func 55) #[] #[] := wildV_known (by rfl) (hdep 1 (by rfl) (by decide))
   have t9 : tm.getD 9 undef = .int .i64 a := wildV_known (by rfl) (hdep 2 (by rfl) (by decide))
   have t10 : tm.getD 10 undef = .slice A n c := wildV_known (by rfl) (hdep 3 (by rfl) (by decide))
   clear hdep hfr
   refine wp_call _ _ _ _ _ rfl t8 (by simp [Act.eval, t9, t10]) (by kernel_rfl) (pKnow_any a f A n c W (HR.out W hS) HN.out) (fun e W9 h9 => ?_)
   obtain ⟨A9, c9, rfl, hr9, hb9⟩ := h9
   exact ⟨_, rfl, hK _ W9 hb9 (show vAx (fun i => if i = 4 then (knowF a f) else if i = 6 then (impF (knowF a f) f) else if i = 7 then (impF (knowF a f) f) else []) 4 (.slice A9 (knowF a f).length c9) W9 from ⟨A9, c9, rfl, hr9⟩)⟩
  case s6 =>
   refine And.intro (by rfl) (fun tm W hS hsz hfr hdep K hK => ?_)
   change tm.size = 14 at hsz
   have t7 : tm.getD 7 undef = .func (.func 90) #[] #[] := wildV_known (by rfl) (hdep 0 (by rfl) (by decide))
   have h4 : (vAx (fun i => if i = 4 then (knowF a f) else if i = 6 then (impF (knowF a f) f) else if i = 7 then (impF (knowF a f) f) else [])) 4 (tm.getD 11 undef) W := wildV_wild (by rfl) (hdep 4 (by rfl) (by decide))
   have t12 : tm.getD 12 undef = .slice A n c := wildV_known (by rfl) (hdep 5 (by rfl) (by decide))
   clear hdep hfr
   obtain ⟨A4, c4, t11, hR4⟩ := h4
   change tm.getD 11 undef = .slice A4 (knowF a f).length c4 at t11
   change Reads W W.heap.size 6 A4 (knowF a f).length (nds (knowF a f)) at hR4
   refine wp_call _ _ _ _ _ rfl t7 (by simp [Act.eval, t11, t12]) (by kernel_rfl) (pImp_any (knowF a f) A4 (knowF a f).length c4 f A n c W hR4 (Nat.le_trans (buildF_len _ _) (by unfold maxLen; omega)) (HR.out W hS) HN.out) (fun e W9 h9 => ?_)
   obtain ⟨A9, c9, rfl, hr9, hb9⟩ := h9
   exact ⟨_, rfl, hK _ W9 hb9 (show vAx (fun i => if i = 4 then (knowF a f) else if i = 6 then (impF (knowF a f) f) else if i = 7 then (impF (knowF a f) f) else []) 6 (.slice A9 (impF (knowF a f) f).length c9) W9 from ⟨A9, c9, rfl, hr9⟩)⟩
  case s7 =>
   refine And.intro (by rfl) (fun tm W hS hsz hfr hdep K hK => ?_)
   change tm.size = 14 at hsz
   have h6 : (vAx (fun i => if i = 4 then (knowF a f) else if i = 6 then (impF (knowF a f) f) else if i = 7 then (impF (knowF a f) f) else [])) 6 (tm.getD 13 undef) W := wildV_wild (by rfl) (hdep 6 (by rfl) (by decide))
   clear hdep hfr
   go_simp
   have e13 : tm[13]'(by omega) = tm.getD 13 undef := getq rfl (by omega)
   exact hK _ W (Below.refl _ W) (by first | exact h6 | (rw [e13]; exact h6))
 case fin =>
  intro fv W hS hV
  have y4 : (vAx (fun i => if i = 4 then (knowF a f) else if i = 6 then (impF (knowF a f) f) else if i = 7 then (impF (knowF a f) f) else [])) 4 (fv 4) W := hV 4 (by decide) (by rfl)
  have y6 : (vAx (fun i => if i = 4 then (knowF a f) else if i = 6 then (impF (knowF a f) f) else if i = 7 then (impF (knowF a f) f) else [])) 6 (fv 6) W := hV 6 (by decide) (by rfl)
  have y7 : (vAx (fun i => if i = 4 then (knowF a f) else if i = 6 then (impF (knowF a f) f) else if i = 7 then (impF (knowF a f) f) else [])) 7 (fv 7) W := hV 7 (by decide) (by rfl)
  clear hV
  have hvl : ((List.range 8).map (fun i => if [4, 6, 7].contains i then fv i else ([.func (.func 90) #[] #[], .func (.func 55) #[] #[], .int .i64 a, .slice A n c, undef, .slice A n c, undef, undef] : List Value).getD i undef)) = [.func (.func 90) #[] #[], .func (.func 55) #[] #[], .int .i64 a, .slice A n c, fv 4, .slice A n c, fv 6, fv 7] := by rfl
  rw [hvl]
  clear hvl
  have HS := Lib.hid hS
  clear y4
  clear y6
  obtain ⟨A8, c8, e8, hr8⟩ := y7
  change fv 7 = .slice A8 (impF (knowF a f) f).length c8 at e8
  change Reads W W.heap.size 6 A8 (impF (knowF a f) f).length (nds (impF (knowF a f) f)) at hr8
  have HR8 := Lib.hid hr8
  clear hr8 hS
  rw [e8]
  clear e8
  generalize fv 4 = z4 at *
  generalize fv 6 = z6 at *
  simp only [fillD]
  rw [← HX.out] at HR8
  rw [← HX.out]
  go_simp
  go_wp2
  go_ret
  exact ⟨A8, c8, rfl, HR8.out, HS.out⟩
set_option maxHeartbeats 4000000 in
theorem ax3_any (a : Int) (f : List Nd) (A : Option Addr) (n c B : Nat) (w : World) (hR : Reads w w.heap.size 6 A n (nds f)) (hn : n ≤ maxLen) (hC : Cs B w) :
  Calls Tryz.prog 98 #[.int .i64 a, .slice A n c, .pointer (some ⟨B + 1 + 1 + 1, 0, none⟩), .pointer (some ⟨B + 1, 0, none⟩), .pointer (some ⟨B + 1 + 1, 0, none⟩)] w fun e w' => ∃ A' c', e = .returned (.slice A' (axL 3 a f).length c') ∧ Reads w' w'.heap.size 6 A' (axL 3 a f).length (nds (axL 3 a f)) ∧ Below w.heap.size w w' := by
 have HR := Lib.hid (fun W (hb : Below w.heap.size w W) => (hR.below hb).more hb.size)
 have HC := Lib.hid (fun W (hb : Below w.heap.size w W) => (hC.below hb).cells)
 have HX : Hid (axL 3 a f = (impF f (knowF a (possF a f)))) := Lib.hid (by unfold axL; simp)
 have HN := Lib.hid hn
 clear hR hC hn
 generalize axL 3 a f = ax at *
 go_enter Tryz.func98, Tryz.ntmps98
 go_wp2
 refine wp_region_wild [.func (.func 90) #[] #[], .slice A n c, .func (.func 55) #[] #[], .int .i64 a, .func (.func 60) #[] #[], .int .i64 a, .slice A n c, undef, undef, undef, undef] [8, 9, 10, 11, 12, 13, 14, 15, 16, 17, 7] [0, 2, 4, 7, 8, 9, 10] [7, 8, 9, 10] (vAx (fun i => if i = 7 then (possF a f) else if i = 8 then (knowF a (possF a f)) else if i = 9 then (impF f (knowF a (possF a f))) else if i = 10 then (impF f (knowF a (possF a f))) else [])) (fun W => Below w.heap.size w W) (fun W W' => Below W.heap.size W W') 11 18 rfl rfl rfl (by decide) (by decide) (by kernel_rfl) (by kernel_rfl) (by kernel_rfl) (by kernel_rfl) (fun W => Below.refl _ W) (fun W1 W2 W3 h1 h2 => h1.trans (h2.mono h1.size)) (fun W W' h h2 => h.trans (h2.mono h.size)) vAx_up (Below.refl w.heap.size w).drew (by kernel_rfl) [] rfl ?hop ?fin
 case hop =>
  refine (And.intro ?s0 (And.intro ?s2 (And.intro ?s4 (And.intro ?s7 (And.intro ?s8 (And.intro ?s9 (And.intro ?s10 trivial)))))))
  case s0 =>
   refine And.intro (by rfl) (fun tm W hS hsz hfr hdep K hK => ?_)
   change tm.size = 18 at hsz
   have t2 : tm.getD 2 undef = .pointer (some ⟨B + 1 + 1 + 1, 0, none⟩) := hfr 2 (by rfl)
   obtain ⟨z1, z2, z3⟩ := HC.out W hS
   clear hdep hfr
   go_simp
   exact hK _ W (Below.refl _ W) (wildV_of (by rfl))
  case s2 =>
   refine And.intro (by rfl) (fun tm W hS hsz hfr hdep K hK => ?_)
   change tm.size = 18 at hsz
   have t3 : tm.getD 3 undef = .pointer (some ⟨B + 1, 0, none⟩) := hfr 3 (by rfl)
   obtain ⟨z1, z2, z3⟩ := HC.out W hS
   clear hdep hfr
   go_simp
   exact hK _ W (Below.refl _ W) (wildV_of (by rfl))
  case s4 =>
   refine And.intro (by rfl) (fun tm W hS hsz hfr hdep K hK => ?_)
   change tm.size = 18 at hsz
   have t4 : tm.getD 4 undef = .pointer (some ⟨B + 1 + 1, 0, none⟩) := hfr 4 (by rfl)
   obtain ⟨z1, z2, z3⟩ := HC.out W hS
   clear hdep hfr
   go_simp
   exact hK _ W (Below.refl _ W) (wildV_of (by rfl))
  case s7 =>
   refine And.intro (by rfl) (fun tm W hS hsz hfr hdep K hK => ?_)
   change tm.size = 18 at hsz
   have t12 : tm.getD 12 undef = .func (.func 60) #[] #[] := wildV_known (by rfl) (hdep 4 (by rfl) (by decide))
   have t13 : tm.getD 13 undef = .int .i64 a := wildV_known (by rfl) (hdep 5 (by rfl) (by decide))
   have t14 : tm.getD 14 undef = .slice A n c := wildV_known (by rfl) (hdep 6 (by rfl) (by decide))
   clear hdep hfr
   refine wp_call _ _ _ _ _ rfl t12 (by simp [Act.eval, t13, t14]) (by kernel_rfl) (pPoss_any a f A n c W (HR.out W hS) HN.out) (fun e W9 h9 => ?_)
   obtain ⟨A9, c9, rfl, hr9, hb9⟩ := h9
   exact ⟨_, rfl, hK _ W9 hb9 (show vAx (fun i => if i = 7 then (possF a f) else if i = 8 then (knowF a (possF a f)) else if i = 9 then (impF f (knowF a (possF a f))) else if i = 10 then (impF f (knowF a (possF a f))) else []) 7 (.slice A9 (possF a f).length c9) W9 from ⟨A9, c9, rfl, hr9⟩)⟩
  case s8 =>
   refine And.intro (by rfl) (fun tm W hS hsz hfr hdep K hK => ?_)
   change tm.size = 18 at hsz
   have t10 : tm.getD 10 undef = .func (.func 55) #[] #[] := wildV_known (by rfl) (hdep 2 (by rfl) (by decide))
   have t11 : tm.getD 11 undef = .int .i64 a := wildV_known (by rfl) (hdep 3 (by rfl) (by decide))
   have h7 : (vAx (fun i => if i = 7 then (possF a f) else if i = 8 then (knowF a (possF a f)) else if i = 9 then (impF f (knowF a (possF a f))) else if i = 10 then (impF f (knowF a (possF a f))) else [])) 7 (tm.getD 15 undef) W := wildV_wild (by rfl) (hdep 7 (by rfl) (by decide))
   clear hdep hfr
   obtain ⟨A7, c7, t15, hR7⟩ := h7
   change tm.getD 15 undef = .slice A7 (possF a f).length c7 at t15
   change Reads W W.heap.size 6 A7 (possF a f).length (nds (possF a f)) at hR7
   refine wp_call _ _ _ _ _ rfl t10 (by simp [Act.eval, t11, t15]) (by kernel_rfl) (pKnow_any a (possF a f) A7 (possF a f).length c7 W hR7 (Nat.le_trans (buildF_len _ _) (by unfold maxLen; omega))) (fun e W9 h9 => ?_)
   obtain ⟨A9, c9, rfl, hr9, hb9⟩ := h9
   exact ⟨_, rfl, hK _ W9 hb9 (show vAx (fun i => if i = 7 then (possF a f) else if i = 8 then (knowF a (possF a f)) else if i = 9 then (impF f (knowF a (possF a f))) else if i = 10 then (impF f (knowF a (possF a f))) else []) 8 (.slice A9 (knowF a (possF a f)).length c9) W9 from ⟨A9, c9, rfl, hr9⟩)⟩
  case s9 =>
   refine And.intro (by rfl) (fun tm W hS hsz hfr hdep K hK => ?_)
   change tm.size = 18 at hsz
   have t8 : tm.getD 8 undef = .func (.func 90) #[] #[] := wildV_known (by rfl) (hdep 0 (by rfl) (by decide))
   have t9 : tm.getD 9 undef = .slice A n c := wildV_known (by rfl) (hdep 1 (by rfl) (by decide))
   have h8 : (vAx (fun i => if i = 7 then (possF a f) else if i = 8 then (knowF a (possF a f)) else if i = 9 then (impF f (knowF a (possF a f))) else if i = 10 then (impF f (knowF a (possF a f))) else [])) 8 (tm.getD 16 undef) W := wildV_wild (by rfl) (hdep 8 (by rfl) (by decide))
   clear hdep hfr
   obtain ⟨A8, c8, t16, hR8⟩ := h8
   change tm.getD 16 undef = .slice A8 (knowF a (possF a f)).length c8 at t16
   change Reads W W.heap.size 6 A8 (knowF a (possF a f)).length (nds (knowF a (possF a f))) at hR8
   refine wp_call _ _ _ _ _ rfl t8 (by simp [Act.eval, t9, t16]) (by kernel_rfl) (pImp_any f A n c (knowF a (possF a f)) A8 (knowF a (possF a f)).length c8 W (HR.out W hS) HN.out hR8 (Nat.le_trans (buildF_len _ _) (by unfold maxLen; omega))) (fun e W9 h9 => ?_)
   obtain ⟨A9, c9, rfl, hr9, hb9⟩ := h9
   exact ⟨_, rfl, hK _ W9 hb9 (show vAx (fun i => if i = 7 then (possF a f) else if i = 8 then (knowF a (possF a f)) else if i = 9 then (impF f (knowF a (possF a f))) else if i = 10 then (impF f (knowF a (possF a f))) else []) 9 (.slice A9 (impF f (knowF a (possF a f))).length c9) W9 from ⟨A9, c9, rfl, hr9⟩)⟩
  case s10 =>
   refine And.intro (by rfl) (fun tm W hS hsz hfr hdep K hK => ?_)
   change tm.size = 18 at hsz
   have h9 : (vAx (fun i => if i = 7 then (possF a f) else if i = 8 then (knowF a (possF a f)) else if i = 9 then (impF f (knowF a (possF a f))) else if i = 10 then (impF f (knowF a (possF a f))) else [])) 9 (tm.getD 17 undef) W := wildV_wild (by rfl) (hdep 9 (by rfl) (by decide))
   clear hdep hfr
   go_simp
   have e17 : tm[17]'(by omega) = tm.getD 17 undef := getq rfl (by omega)
   exact hK _ W (Below.refl _ W) (by first | exact h9 | (rw [e17]; exact h9))
 case fin =>
  intro fv W hS hV
  have y7 : (vAx (fun i => if i = 7 then (possF a f) else if i = 8 then (knowF a (possF a f)) else if i = 9 then (impF f (knowF a (possF a f))) else if i = 10 then (impF f (knowF a (possF a f))) else [])) 7 (fv 7) W := hV 7 (by decide) (by rfl)
  have y8 : (vAx (fun i => if i = 7 then (possF a f) else if i = 8 then (knowF a (possF a f)) else if i = 9 then (impF f (knowF a (possF a f))) else if i = 10 then (impF f (knowF a (possF a f))) else [])) 8 (fv 8) W := hV 8 (by decide) (by rfl)
  have y9 : (vAx (fun i => if i = 7 then (possF a f) else if i = 8 then (knowF a (possF a f)) else if i = 9 then (impF f (knowF a (possF a f))) else if i = 10 then (impF f (knowF a (possF a f))) else [])) 9 (fv 9) W := hV 9 (by decide) (by rfl)
  have y10 : (vAx (fun i => if i = 7 then (possF a f) else if i = 8 then (knowF a (possF a f)) else if i = 9 then (impF f (knowF a (possF a f))) else if i = 10 then (impF f (knowF a (possF a f))) else [])) 10 (fv 10) W := hV 10 (by decide) (by rfl)
  clear hV
  have hvl : ((List.range 11).map (fun i => if [7, 8, 9, 10].contains i then fv i else ([.func (.func 90) #[] #[], .slice A n c, .func (.func 55) #[] #[], .int .i64 a, .func (.func 60) #[] #[], .int .i64 a, .slice A n c, undef, undef, undef, undef] : List Value).getD i undef)) = [.func (.func 90) #[] #[], .slice A n c, .func (.func 55) #[] #[], .int .i64 a, .func (.func 60) #[] #[], .int .i64 a, .slice A n c, fv 7, fv 8, fv 9, fv 10] := by rfl
  rw [hvl]
  clear hvl
  have HS := Lib.hid hS
  clear y7
  clear y8
  clear y9
  obtain ⟨A8, c8, e8, hr8⟩ := y10
  change fv 10 = .slice A8 (impF f (knowF a (possF a f))).length c8 at e8
  change Reads W W.heap.size 6 A8 (impF f (knowF a (possF a f))).length (nds (impF f (knowF a (possF a f)))) at hr8
  have HR8 := Lib.hid hr8
  clear hr8 hS
  rw [e8]
  clear e8
  generalize fv 7 = z7 at *
  generalize fv 8 = z8 at *
  generalize fv 9 = z9 at *
  simp only [fillD]
  rw [← HX.out] at HR8
  rw [← HX.out]
  go_simp
  go_wp2
  go_ret
  exact ⟨A8, c8, rfl, HR8.out, HS.out⟩
set_option maxHeartbeats 4000000 in
theorem ax4_any (a : Int) (f : List Nd) (A : Option Addr) (n c B : Nat) (w : World) (hR : Reads w w.heap.size 6 A n (nds f)) (hn : n ≤ maxLen) (hC : Cs B w) :
  Calls Tryz.prog 101 #[.int .i64 a, .slice A n c, .pointer (some ⟨B + 1 + 1 + 1, 0, none⟩), .pointer (some ⟨B + 1, 0, none⟩)] w fun e w' => ∃ A' c', e = .returned (.slice A' (axL 4 a f).length c') ∧ Reads w' w'.heap.size 6 A' (axL 4 a f).length (nds (axL 4 a f)) ∧ Below w.heap.size w w' := by
 have HR := Lib.hid (fun W (hb : Below w.heap.size w W) => (hR.below hb).more hb.size)
 have HC := Lib.hid (fun W (hb : Below w.heap.size w W) => (hC.below hb).cells)
 have HX : Hid (axL 4 a f = (impF (knowF a f) (knowF a (knowF a f)))) := Lib.hid (by unfold axL; simp)
 have HN := Lib.hid hn
 clear hR hC hn
 generalize axL 4 a f = ax at *
 go_enter Tryz.func101, Tryz.ntmps101
 go_wp2
 refine wp_region_wild [.func (.func 90) #[] #[], .func (.func 55) #[] #[], .int .i64 a, .slice A n c, undef, .func (.func 55) #[] #[], .int .i64 a, .func (.func 55) #[] #[], .int .i64 a, .slice A n c, undef, undef, undef, undef] [7, 8, 9, 10, 11, 12, 13, 14, 15, 16, 17, 18, 19, 6] [0, 1, 4, 5, 7, 10, 11, 12, 13] [4, 10, 11, 12, 13] (vAx (fun i => if i = 4 then (knowF a f) else if i = 10 then (knowF a f) else if i = 11 then (knowF a (knowF a f)) else if i = 12 then (impF (knowF a f) (knowF a (knowF a f))) else if i = 13 then (impF (knowF a f) (knowF a (knowF a f))) else [])) (fun W => Below w.heap.size w W) (fun W W' => Below W.heap.size W W') 14 20 rfl rfl rfl (by decide) (by decide) (by kernel_rfl) (by kernel_rfl) (by kernel_rfl) (by kernel_rfl) (fun W => Below.refl _ W) (fun W1 W2 W3 h1 h2 => h1.trans (h2.mono h1.size)) (fun W W' h h2 => h.trans (h2.mono h.size)) vAx_up (Below.refl w.heap.size w).drew (by kernel_rfl) [] rfl ?hop ?fin
 case hop =>
  refine (And.intro ?s0 (And.intro ?s1 (And.intro ?s4 (And.intro ?s5 (And.intro ?s7 (And.intro ?s10 (And.intro ?s11 (And.intro ?s12 (And.intro ?s13 trivial)))))))))
  case s0 =>
   refine And.intro (by rfl) (fun tm W hS hsz hfr hdep K hK => ?_)
   change tm.size = 20 at hsz
   have t2 : tm.getD 2 undef = .pointer (some ⟨B + 1 + 1 + 1, 0, none⟩) := hfr 2 (by rfl)
   obtain ⟨z1, z2, z3⟩ := HC.out W hS
   clear hdep hfr
   go_simp
   exact hK _ W (Below.refl _ W) (wildV_of (by rfl))
  case s1 =>
   refine And.intro (by rfl) (fun tm W hS hsz hfr hdep K hK => ?_)
   change tm.size = 20 at hsz
   have t3 : tm.getD 3 undef = .pointer (some ⟨B + 1, 0, none⟩) := hfr 3 (by rfl)
   obtain ⟨z1, z2, z3⟩ := HC.out W hS
   clear hdep hfr
   go_simp
   exact hK _ W (Below.refl _ W) (wildV_of (by rfl))
  case s4 =>
   refine And.intro (by rfl) (fun tm W hS hsz hfr hdep K hK => ?_)
   change tm.size = 20 at hsz
   have t8 : tm.getD 8 undef = .func (.func 55) #[] #[] := wildV_known (by rfl) (hdep 1 (by rfl) (by decide))
   have t9 : tm.getD 9 undef = .int .i64 a := wildV_known (by rfl) (hdep 2 (by rfl) (by decide))
   have t10 : tm.getD 10 undef = .slice A n c := wildV_known (by rfl) (hdep 3 (by rfl) (by decide))
   clear hdep hfr
   refine wp_call _ _ _ _ _ rfl t8 (by simp [Act.eval, t9, t10]) (by kernel_rfl) (pKnow_any a f A n c W (HR.out W hS) HN.out) (fun e W9 h9 => ?_)
   obtain ⟨A9, c9, rfl, hr9, hb9⟩ := h9
   exact ⟨_, rfl, hK _ W9 hb9 (show vAx (fun i => if i = 4 then (knowF a f) else if i = 10 then (knowF a f) else if i = 11 then (knowF a (knowF a f)) else if i = 12 then (impF (knowF a f) (knowF a (knowF a f))) else if i = 13 then (impF (knowF a f) (knowF a (knowF a f))) else []) 4 (.slice A9 (knowF a f).length c9) W9 from ⟨A9, c9, rfl, hr9⟩)⟩
  case s5 =>
   refine And.intro (by rfl) (fun tm W hS hsz hfr hdep K hK => ?_)
   change tm.size = 20 at hsz
   have t3 : tm.getD 3 undef = .pointer (some ⟨B + 1, 0, none⟩) := hfr 3 (by rfl)
   obtain ⟨z1, z2, z3⟩ := HC.out W hS
   clear hdep hfr
   go_simp
   exact hK _ W (Below.refl _ W) (wildV_of (by rfl))
  case s7 =>
   refine And.intro (by rfl) (fun tm W hS hsz hfr hdep K hK => ?_)
   change tm.size = 20 at hsz
   have t3 : tm.getD 3 undef = .pointer (some ⟨B + 1, 0, none⟩) := hfr 3 (by rfl)
   obtain ⟨z1, z2, z3⟩ := HC.out W hS
   clear hdep hfr
   go_simp
   exact hK _ W (Below.refl _ W) (wildV_of (by rfl))
  case s10 =>
   refine And.intro (by rfl) (fun tm W hS hsz hfr hdep K hK => ?_)
   change tm.size = 20 at hsz
   have t14 : tm.getD 14 undef = .func (.func 55) #[] #[] := wildV_known (by rfl) (hdep 7 (by rfl) (by decide))
   have t15 : tm.getD 15 undef = .int .i64 a := wildV_known (by rfl) (hdep 8 (by rfl) (by decide))
   have t16 : tm.getD 16 undef = .slice A n c := wildV_known (by rfl) (hdep 9 (by rfl) (by decide))
   clear hdep hfr
   refine wp_call _ _ _ _ _ rfl t14 (by simp [Act.eval, t15, t16]) (by kernel_rfl) (pKnow_any a f A n c W (HR.out W hS) HN.out) (fun e W9 h9 => ?_)
   obtain ⟨A9, c9, rfl, hr9, hb9⟩ := h9
   exact ⟨_, rfl, hK _ W9 hb9 (show vAx (fun i => if i = 4 then (knowF a f) else if i = 10 then (knowF a f) else if i = 11 then (knowF a (knowF a f)) else if i = 12 then (impF (knowF a f) (knowF a (knowF a f))) else if i = 13 then (impF (knowF a f) (knowF a (knowF a f))) else []) 10 (.slice A9 (knowF a f).length c9) W9 from ⟨A9, c9, rfl, hr9⟩)⟩
  case s11 =>
   refine And.intro (by rfl) (fun tm W hS hsz hfr hdep K hK => ?_)
   change tm.size = 20 at hsz
   have t12 : tm.getD 12 undef = .func (.func 55) #[] #[] := wildV_known (by rfl) (hdep 5 (by rfl) (by decide))
   have t13 : tm.getD 13 undef = .int .i64 a := wildV_known (by rfl) (hdep 6 (by rfl) (by decide))
   have h10 : (vAx (fun i => if i = 4 then (knowF a f) else if i = 10 then (knowF a f) else if i = 11 then (knowF a (knowF a f)) else if i = 12 then (impF (knowF a f) (knowF a (knowF a f))) else if i = 13 then (impF (knowF a f) (knowF a (knowF a f))) else [])) 10 (tm.getD 17 undef) W := wildV_wild (by rfl) (hdep 10 (by rfl) (by decide))
   clear hdep hfr
   obtain ⟨A10, c10, t17, hR10⟩ := h10
   change tm.getD 17 undef = .slice A10 (knowF a f).length c10 at t17
   change Reads W W.heap.size 6 A10 (knowF a f).length (nds (knowF a f)) at hR10
   refine wp_call _ _ _ _ _ rfl t12 (by simp [Act.eval, t13, t17]) (by kernel_rfl) (pKnow_any a (knowF a f) A10 (knowF a f).length c10 W hR10 (Nat.le_trans (buildF_len _ _) (by unfold maxLen; omega))) (fun e W9 h9 => ?_)
   obtain ⟨A9, c9, rfl, hr9, hb9⟩ := h9
   exact ⟨_, rfl, hK _ W9 hb9 (show vAx (fun i => if i = 4 then (knowF a f) else if i = 10 then (knowF a f) else if i = 11 then (knowF a (knowF a f)) else if i = 12 then (impF (knowF a f) (knowF a (knowF a f))) else if i = 13 then (impF (knowF a f) (knowF a (knowF a f))) else []) 11 (.slice A9 (knowF a (knowF a f)).length c9) W9 from ⟨A9, c9, rfl, hr9⟩)⟩
  case s12 =>
   refine And.intro (by rfl) (fun tm W hS hsz hfr hdep K hK => ?_)
   change tm.size = 20 at hsz
   have t7 : tm.getD 7 undef = .func (.func 90) #[] #[] := wildV_known (by rfl) (hdep 0 (by rfl) (by decide))
   have h4 : (vAx (fun i => if i = 4 then (knowF a f) else if i = 10 then (knowF a f) else if i = 11 then (knowF a (knowF a f)) else if i = 12 then (impF (knowF a f) (knowF a (knowF a f))) else if i = 13 then (impF (knowF a f) (knowF a (knowF a f))) else [])) 4 (tm.getD 11 undef) W := wildV_wild (by rfl) (hdep 4 (by rfl) (by decide))
   have h11 : (vAx (fun i => if i = 4 then (knowF a f) else if i = 10 then (knowF a f) else if i = 11 then (knowF a (knowF a f)) else if i = 12 then (impF (knowF a f) (knowF a (knowF a f))) else if i = 13 then (impF (knowF a f) (knowF a (knowF a f))) else [])) 11 (tm.getD 18 undef) W := wildV_wild (by rfl) (hdep 11 (by rfl) (by decide))
   clear hdep hfr
   obtain ⟨A4, c4, t11, hR4⟩ := h4
   change tm.getD 11 undef = .slice A4 (knowF a f).length c4 at t11
   change Reads W W.heap.size 6 A4 (knowF a f).length (nds (knowF a f)) at hR4
   obtain ⟨A11, c11, t18, hR11⟩ := h11
   change tm.getD 18 undef = .slice A11 (knowF a (knowF a f)).length c11 at t18
   change Reads W W.heap.size 6 A11 (knowF a (knowF a f)).length (nds (knowF a (knowF a f))) at hR11
   refine wp_call _ _ _ _ _ rfl t7 (by simp [Act.eval, t11, t18]) (by kernel_rfl) (pImp_any (knowF a f) A4 (knowF a f).length c4 (knowF a (knowF a f)) A11 (knowF a (knowF a f)).length c11 W hR4 (Nat.le_trans (buildF_len _ _) (by unfold maxLen; omega)) hR11 (Nat.le_trans (buildF_len _ _) (by unfold maxLen; omega))) (fun e W9 h9 => ?_)
   obtain ⟨A9, c9, rfl, hr9, hb9⟩ := h9
   exact ⟨_, rfl, hK _ W9 hb9 (show vAx (fun i => if i = 4 then (knowF a f) else if i = 10 then (knowF a f) else if i = 11 then (knowF a (knowF a f)) else if i = 12 then (impF (knowF a f) (knowF a (knowF a f))) else if i = 13 then (impF (knowF a f) (knowF a (knowF a f))) else []) 12 (.slice A9 (impF (knowF a f) (knowF a (knowF a f))).length c9) W9 from ⟨A9, c9, rfl, hr9⟩)⟩
  case s13 =>
   refine And.intro (by rfl) (fun tm W hS hsz hfr hdep K hK => ?_)
   change tm.size = 20 at hsz
   have h12 : (vAx (fun i => if i = 4 then (knowF a f) else if i = 10 then (knowF a f) else if i = 11 then (knowF a (knowF a f)) else if i = 12 then (impF (knowF a f) (knowF a (knowF a f))) else if i = 13 then (impF (knowF a f) (knowF a (knowF a f))) else [])) 12 (tm.getD 19 undef) W := wildV_wild (by rfl) (hdep 12 (by rfl) (by decide))
   clear hdep hfr
   go_simp
   have e19 : tm[19]'(by omega) = tm.getD 19 undef := getq rfl (by omega)
   exact hK _ W (Below.refl _ W) (by first | exact h12 | (rw [e19]; exact h12))
 case fin =>
  intro fv W hS hV
  have y4 : (vAx (fun i => if i = 4 then (knowF a f) else if i = 10 then (knowF a f) else if i = 11 then (knowF a (knowF a f)) else if i = 12 then (impF (knowF a f) (knowF a (knowF a f))) else if i = 13 then (impF (knowF a f) (knowF a (knowF a f))) else [])) 4 (fv 4) W := hV 4 (by decide) (by rfl)
  have y10 : (vAx (fun i => if i = 4 then (knowF a f) else if i = 10 then (knowF a f) else if i = 11 then (knowF a (knowF a f)) else if i = 12 then (impF (knowF a f) (knowF a (knowF a f))) else if i = 13 then (impF (knowF a f) (knowF a (knowF a f))) else [])) 10 (fv 10) W := hV 10 (by decide) (by rfl)
  have y11 : (vAx (fun i => if i = 4 then (knowF a f) else if i = 10 then (knowF a f) else if i = 11 then (knowF a (knowF a f)) else if i = 12 then (impF (knowF a f) (knowF a (knowF a f))) else if i = 13 then (impF (knowF a f) (knowF a (knowF a f))) else [])) 11 (fv 11) W := hV 11 (by decide) (by rfl)
  have y12 : (vAx (fun i => if i = 4 then (knowF a f) else if i = 10 then (knowF a f) else if i = 11 then (knowF a (knowF a f)) else if i = 12 then (impF (knowF a f) (knowF a (knowF a f))) else if i = 13 then (impF (knowF a f) (knowF a (knowF a f))) else [])) 12 (fv 12) W := hV 12 (by decide) (by rfl)
  have y13 : (vAx (fun i => if i = 4 then (knowF a f) else if i = 10 then (knowF a f) else if i = 11 then (knowF a (knowF a f)) else if i = 12 then (impF (knowF a f) (knowF a (knowF a f))) else if i = 13 then (impF (knowF a f) (knowF a (knowF a f))) else [])) 13 (fv 13) W := hV 13 (by decide) (by rfl)
  clear hV
  have hvl : ((List.range 14).map (fun i => if [4, 10, 11, 12, 13].contains i then fv i else ([.func (.func 90) #[] #[], .func (.func 55) #[] #[], .int .i64 a, .slice A n c, undef, .func (.func 55) #[] #[], .int .i64 a, .func (.func 55) #[] #[], .int .i64 a, .slice A n c, undef, undef, undef, undef] : List Value).getD i undef)) = [.func (.func 90) #[] #[], .func (.func 55) #[] #[], .int .i64 a, .slice A n c, fv 4, .func (.func 55) #[] #[], .int .i64 a, .func (.func 55) #[] #[], .int .i64 a, .slice A n c, fv 10, fv 11, fv 12, fv 13] := by rfl
  rw [hvl]
  clear hvl
  have HS := Lib.hid hS
  clear y4
  clear y10
  clear y11
  clear y12
  obtain ⟨A8, c8, e8, hr8⟩ := y13
  change fv 13 = .slice A8 (impF (knowF a f) (knowF a (knowF a f))).length c8 at e8
  change Reads W W.heap.size 6 A8 (impF (knowF a f) (knowF a (knowF a f))).length (nds (impF (knowF a f) (knowF a (knowF a f)))) at hr8
  have HR8 := Lib.hid hr8
  clear hr8 hS
  rw [e8]
  clear e8
  generalize fv 4 = z4 at *
  generalize fv 10 = z10 at *
  generalize fv 11 = z11 at *
  generalize fv 12 = z12 at *
  simp only [fillD]
  rw [← HX.out] at HR8
  rw [← HX.out]
  go_simp
  go_wp2
  go_ret
  exact ⟨A8, c8, rfl, HR8.out, HS.out⟩
set_option maxHeartbeats 4000000 in
theorem ax5_any (a : Int) (f : List Nd) (A : Option Addr) (n c B : Nat) (w : World) (hR : Reads w w.heap.size 6 A n (nds f)) (hn : n ≤ maxLen) (hC : Cs B w) :
  Calls Tryz.prog 104 #[.int .i64 a, .slice A n c, .pointer (some ⟨B + 1 + 1 + 1, 0, none⟩), .pointer (some ⟨B + 1 + 1, 0, none⟩), .pointer (some ⟨B + 1, 0, none⟩)] w fun e w' => ∃ A' c', e = .returned (.slice A' (axL 5 a f).length c') ∧ Reads w' w'.heap.size 6 A' (axL 5 a f).length (nds (axL 5 a f)) ∧ Below w.heap.size w w' := by
 have HR := Lib.hid (fun W (hb : Below w.heap.size w W) => (hR.below hb).more hb.size)
 have HC := Lib.hid (fun W (hb : Below w.heap.size w W) => (hC.below hb).cells)
 have HX : Hid (axL 5 a f = (impF (possF a f) (knowF a (possF a f)))) := Lib.hid (by unfold axL; simp)
 have HN := Lib.hid hn
 clear hR hC hn
 generalize axL 5 a f = ax at *
 go_enter Tryz.func104, Tryz.ntmps104
 go_wp2
 refine wp_region_wild [.func (.func 90) #[] #[], .func (.func 60) #[] #[], .int .i64 a, .slice A n c, undef, .func (.func 55) #[] #[], .int .i64 a, .func (.func 60) #[] #[], .int .i64 a, .slice A n c, undef, undef, undef, undef] [8, 9, 10, 11, 12, 13, 14, 15, 16, 17, 18, 19, 20, 7] [0, 1, 4, 5, 7, 10, 11, 12, 13] [4, 10, 11, 12, 13] (vAx (fun i => if i = 4 then (possF a f) else if i = 10 then (possF a f) else if i = 11 then (knowF a (possF a f)) else if i = 12 then (impF (possF a f) (knowF a (possF a f))) else if i = 13 then (impF (possF a f) (knowF a (possF a f))) else [])) (fun W => Below w.heap.size w W) (fun W W' => Below W.heap.size W W') 14 21 rfl rfl rfl (by decide) (by decide) (by kernel_rfl) (by kernel_rfl) (by kernel_rfl) (by kernel_rfl) (fun W => Below.refl _ W) (fun W1 W2 W3 h1 h2 => h1.trans (h2.mono h1.size)) (fun W W' h h2 => h.trans (h2.mono h.size)) vAx_up (Below.refl w.heap.size w).drew (by kernel_rfl) [] rfl ?hop ?fin
 case hop =>
  refine (And.intro ?s0 (And.intro ?s1 (And.intro ?s4 (And.intro ?s5 (And.intro ?s7 (And.intro ?s10 (And.intro ?s11 (And.intro ?s12 (And.intro ?s13 trivial)))))))))
  case s0 =>
   refine And.intro (by rfl) (fun tm W hS hsz hfr hdep K hK => ?_)
   change tm.size = 21 at hsz
   have t2 : tm.getD 2 undef = .pointer (some ⟨B + 1 + 1 + 1, 0, none⟩) := hfr 2 (by rfl)
   obtain ⟨z1, z2, z3⟩ := HC.out W hS
   clear hdep hfr
   go_simp
   exact hK _ W (Below.refl _ W) (wildV_of (by rfl))
  case s1 =>
   refine And.intro (by rfl) (fun tm W hS hsz hfr hdep K hK => ?_)
   change tm.size = 21 at hsz
   have t3 : tm.getD 3 undef = .pointer (some ⟨B + 1 + 1, 0, none⟩) := hfr 3 (by rfl)
   obtain ⟨z1, z2, z3⟩ := HC.out W hS
   clear hdep hfr
   go_simp
   exact hK _ W (Below.refl _ W) (wildV_of (by rfl))
  case s4 =>
   refine And.intro (by rfl) (fun tm W hS hsz hfr hdep K hK => ?_)
   change tm.size = 21 at hsz
   have t9 : tm.getD 9 undef = .func (.func 60) #[] #[] := wildV_known (by rfl) (hdep 1 (by rfl) (by decide))
   have t10 : tm.getD 10 undef = .int .i64 a := wildV_known (by rfl) (hdep 2 (by rfl) (by decide))
   have t11 : tm.getD 11 undef = .slice A n c := wildV_known (by rfl) (hdep 3 (by rfl) (by decide))
   clear hdep hfr
   refine wp_call _ _ _ _ _ rfl t9 (by simp [Act.eval, t10, t11]) (by kernel_rfl) (pPoss_any a f A n c W (HR.out W hS) HN.out) (fun e W9 h9 => ?_)
   obtain ⟨A9, c9, rfl, hr9, hb9⟩ := h9
   exact ⟨_, rfl, hK _ W9 hb9 (show vAx (fun i => if i = 4 then (possF a f) else if i = 10 then (possF a f) else if i = 11 then (knowF a (possF a f)) else if i = 12 then (impF (possF a f) (knowF a (possF a f))) else if i = 13 then (impF (possF a f) (knowF a (possF a f))) else []) 4 (.slice A9 (possF a f).length c9) W9 from ⟨A9, c9, rfl, hr9⟩)⟩
  case s5 =>
   refine And.intro (by rfl) (fun tm W hS hsz hfr hdep K hK => ?_)
   change tm.size = 21 at hsz
   have t4 : tm.getD 4 undef = .pointer (some ⟨B + 1, 0, none⟩) := hfr 4 (by rfl)
   obtain ⟨z1, z2, z3⟩ := HC.out W hS
   clear hdep hfr
   go_simp
   exact hK _ W (Below.refl _ W) (wildV_of (by rfl))
  case s7 =>
   refine And.intro (by rfl) (fun tm W hS hsz hfr hdep K hK => ?_)
   change tm.size = 21 at hsz
   have t3 : tm.getD 3 undef = .pointer (some ⟨B + 1 + 1, 0, none⟩) := hfr 3 (by rfl)
   obtain ⟨z1, z2, z3⟩ := HC.out W hS
   clear hdep hfr
   go_simp
   exact hK _ W (Below.refl _ W) (wildV_of (by rfl))
  case s10 =>
   refine And.intro (by rfl) (fun tm W hS hsz hfr hdep K hK => ?_)
   change tm.size = 21 at hsz
   have t15 : tm.getD 15 undef = .func (.func 60) #[] #[] := wildV_known (by rfl) (hdep 7 (by rfl) (by decide))
   have t16 : tm.getD 16 undef = .int .i64 a := wildV_known (by rfl) (hdep 8 (by rfl) (by decide))
   have t17 : tm.getD 17 undef = .slice A n c := wildV_known (by rfl) (hdep 9 (by rfl) (by decide))
   clear hdep hfr
   refine wp_call _ _ _ _ _ rfl t15 (by simp [Act.eval, t16, t17]) (by kernel_rfl) (pPoss_any a f A n c W (HR.out W hS) HN.out) (fun e W9 h9 => ?_)
   obtain ⟨A9, c9, rfl, hr9, hb9⟩ := h9
   exact ⟨_, rfl, hK _ W9 hb9 (show vAx (fun i => if i = 4 then (possF a f) else if i = 10 then (possF a f) else if i = 11 then (knowF a (possF a f)) else if i = 12 then (impF (possF a f) (knowF a (possF a f))) else if i = 13 then (impF (possF a f) (knowF a (possF a f))) else []) 10 (.slice A9 (possF a f).length c9) W9 from ⟨A9, c9, rfl, hr9⟩)⟩
  case s11 =>
   refine And.intro (by rfl) (fun tm W hS hsz hfr hdep K hK => ?_)
   change tm.size = 21 at hsz
   have t13 : tm.getD 13 undef = .func (.func 55) #[] #[] := wildV_known (by rfl) (hdep 5 (by rfl) (by decide))
   have t14 : tm.getD 14 undef = .int .i64 a := wildV_known (by rfl) (hdep 6 (by rfl) (by decide))
   have h10 : (vAx (fun i => if i = 4 then (possF a f) else if i = 10 then (possF a f) else if i = 11 then (knowF a (possF a f)) else if i = 12 then (impF (possF a f) (knowF a (possF a f))) else if i = 13 then (impF (possF a f) (knowF a (possF a f))) else [])) 10 (tm.getD 18 undef) W := wildV_wild (by rfl) (hdep 10 (by rfl) (by decide))
   clear hdep hfr
   obtain ⟨A10, c10, t18, hR10⟩ := h10
   change tm.getD 18 undef = .slice A10 (possF a f).length c10 at t18
   change Reads W W.heap.size 6 A10 (possF a f).length (nds (possF a f)) at hR10
   refine wp_call _ _ _ _ _ rfl t13 (by simp [Act.eval, t14, t18]) (by kernel_rfl) (pKnow_any a (possF a f) A10 (possF a f).length c10 W hR10 (Nat.le_trans (buildF_len _ _) (by unfold maxLen; omega))) (fun e W9 h9 => ?_)
   obtain ⟨A9, c9, rfl, hr9, hb9⟩ := h9
   exact ⟨_, rfl, hK _ W9 hb9 (show vAx (fun i => if i = 4 then (possF a f) else if i = 10 then (possF a f) else if i = 11 then (knowF a (possF a f)) else if i = 12 then (impF (possF a f) (knowF a (possF a f))) else if i = 13 then (impF (possF a f) (knowF a (possF a f))) else []) 11 (.slice A9 (knowF a (possF a f)).length c9) W9 from ⟨A9, c9, rfl, hr9⟩)⟩
  case s12 =>
   refine And.intro (by rfl) (fun tm W hS hsz hfr hdep K hK => ?_)
   change tm.size = 21 at hsz
   have t8 : tm.getD 8 undef = .func (.func 90) #[] #[] := wildV_known (by rfl) (hdep 0 (by rfl) (by decide))
   have h4 : (vAx (fun i => if i = 4 then (possF a f) else if i = 10 then (possF a f) else if i = 11 then (knowF a (possF a f)) else if i = 12 then (impF (possF a f) (knowF a (possF a f))) else if i = 13 then (impF (possF a f) (knowF a (possF a f))) else [])) 4 (tm.getD 12 undef) W := wildV_wild (by rfl) (hdep 4 (by rfl) (by decide))
   have h11 : (vAx (fun i => if i = 4 then (possF a f) else if i = 10 then (possF a f) else if i = 11 then (knowF a (possF a f)) else if i = 12 then (impF (possF a f) (knowF a (possF a f))) else if i = 13 then (impF (possF a f) (knowF a (possF a f))) else [])) 11 (tm.getD 19 undef) W := wildV_wild (by rfl) (hdep 11 (by rfl) (by decide))
   clear hdep hfr
   obtain ⟨A4, c4, t12, hR4⟩ := h4
   change tm.getD 12 undef = .slice A4 (possF a f).length c4 at t12
   change Reads W W.heap.size 6 A4 (possF a f).length (nds (possF a f)) at hR4
   obtain ⟨A11, c11, t19, hR11⟩ := h11
   change tm.getD 19 undef = .slice A11 (knowF a (possF a f)).length c11 at t19
   change Reads W W.heap.size 6 A11 (knowF a (possF a f)).length (nds (knowF a (possF a f))) at hR11
   refine wp_call _ _ _ _ _ rfl t8 (by simp [Act.eval, t12, t19]) (by kernel_rfl) (pImp_any (possF a f) A4 (possF a f).length c4 (knowF a (possF a f)) A11 (knowF a (possF a f)).length c11 W hR4 (Nat.le_trans (buildF_len _ _) (by unfold maxLen; omega)) hR11 (Nat.le_trans (buildF_len _ _) (by unfold maxLen; omega))) (fun e W9 h9 => ?_)
   obtain ⟨A9, c9, rfl, hr9, hb9⟩ := h9
   exact ⟨_, rfl, hK _ W9 hb9 (show vAx (fun i => if i = 4 then (possF a f) else if i = 10 then (possF a f) else if i = 11 then (knowF a (possF a f)) else if i = 12 then (impF (possF a f) (knowF a (possF a f))) else if i = 13 then (impF (possF a f) (knowF a (possF a f))) else []) 12 (.slice A9 (impF (possF a f) (knowF a (possF a f))).length c9) W9 from ⟨A9, c9, rfl, hr9⟩)⟩
  case s13 =>
   refine And.intro (by rfl) (fun tm W hS hsz hfr hdep K hK => ?_)
   change tm.size = 21 at hsz
   have h12 : (vAx (fun i => if i = 4 then (possF a f) else if i = 10 then (possF a f) else if i = 11 then (knowF a (possF a f)) else if i = 12 then (impF (possF a f) (knowF a (possF a f))) else if i = 13 then (impF (possF a f) (knowF a (possF a f))) else [])) 12 (tm.getD 20 undef) W := wildV_wild (by rfl) (hdep 12 (by rfl) (by decide))
   clear hdep hfr
   go_simp
   have e20 : tm[20]'(by omega) = tm.getD 20 undef := getq rfl (by omega)
   exact hK _ W (Below.refl _ W) (by first | exact h12 | (rw [e20]; exact h12))
 case fin =>
  intro fv W hS hV
  have y4 : (vAx (fun i => if i = 4 then (possF a f) else if i = 10 then (possF a f) else if i = 11 then (knowF a (possF a f)) else if i = 12 then (impF (possF a f) (knowF a (possF a f))) else if i = 13 then (impF (possF a f) (knowF a (possF a f))) else [])) 4 (fv 4) W := hV 4 (by decide) (by rfl)
  have y10 : (vAx (fun i => if i = 4 then (possF a f) else if i = 10 then (possF a f) else if i = 11 then (knowF a (possF a f)) else if i = 12 then (impF (possF a f) (knowF a (possF a f))) else if i = 13 then (impF (possF a f) (knowF a (possF a f))) else [])) 10 (fv 10) W := hV 10 (by decide) (by rfl)
  have y11 : (vAx (fun i => if i = 4 then (possF a f) else if i = 10 then (possF a f) else if i = 11 then (knowF a (possF a f)) else if i = 12 then (impF (possF a f) (knowF a (possF a f))) else if i = 13 then (impF (possF a f) (knowF a (possF a f))) else [])) 11 (fv 11) W := hV 11 (by decide) (by rfl)
  have y12 : (vAx (fun i => if i = 4 then (possF a f) else if i = 10 then (possF a f) else if i = 11 then (knowF a (possF a f)) else if i = 12 then (impF (possF a f) (knowF a (possF a f))) else if i = 13 then (impF (possF a f) (knowF a (possF a f))) else [])) 12 (fv 12) W := hV 12 (by decide) (by rfl)
  have y13 : (vAx (fun i => if i = 4 then (possF a f) else if i = 10 then (possF a f) else if i = 11 then (knowF a (possF a f)) else if i = 12 then (impF (possF a f) (knowF a (possF a f))) else if i = 13 then (impF (possF a f) (knowF a (possF a f))) else [])) 13 (fv 13) W := hV 13 (by decide) (by rfl)
  clear hV
  have hvl : ((List.range 14).map (fun i => if [4, 10, 11, 12, 13].contains i then fv i else ([.func (.func 90) #[] #[], .func (.func 60) #[] #[], .int .i64 a, .slice A n c, undef, .func (.func 55) #[] #[], .int .i64 a, .func (.func 60) #[] #[], .int .i64 a, .slice A n c, undef, undef, undef, undef] : List Value).getD i undef)) = [.func (.func 90) #[] #[], .func (.func 60) #[] #[], .int .i64 a, .slice A n c, fv 4, .func (.func 55) #[] #[], .int .i64 a, .func (.func 60) #[] #[], .int .i64 a, .slice A n c, fv 10, fv 11, fv 12, fv 13] := by rfl
  rw [hvl]
  clear hvl
  have HS := Lib.hid hS
  clear y4
  clear y10
  clear y11
  clear y12
  obtain ⟨A8, c8, e8, hr8⟩ := y13
  change fv 13 = .slice A8 (impF (possF a f) (knowF a (possF a f))).length c8 at e8
  change Reads W W.heap.size 6 A8 (impF (possF a f) (knowF a (possF a f))).length (nds (impF (possF a f) (knowF a (possF a f)))) at hr8
  have HR8 := Lib.hid hr8
  clear hr8 hS
  rw [e8]
  clear e8
  generalize fv 4 = z4 at *
  generalize fv 10 = z10 at *
  generalize fv 11 = z11 at *
  generalize fv 12 = z12 at *
  simp only [fillD]
  rw [← HX.out] at HR8
  rw [← HX.out]
  go_simp
  go_wp2
  go_ret
  exact ⟨A8, c8, rfl, HR8.out, HS.out⟩
end Go.Proofs.YtjpmhbnikoggaaaGreatDoor
/- Layer 15: Axiom by the program. -/
namespace Go.Proofs.YtjpmhbnikoggaaaGreatDoor
open Go.RowKit Go.Proofs.Ws
set_option maxRecDepth 100000
/-- the error of Axiom -/
def axE (p a : Int) (f : List Nd) : Int := if fErr f ≠ 0 then fErr f else if p < 1 ∨ 5 < p then 1 else if a < 0 ∨ 4 ≤ a then 2 else if (axL p a f).length = 0 then 8 else 0
/-- the formula that Axiom returns -/
def axR (p a : Int) (f : List Nd) : List Nd := if axE p a f = 0 then axL p a f else []
/-- what Axiom returns -/
def GivesX (p a : Int) (f : List Nd) (w : World) (e : Ending) (w' : World) : Prop :=
 ∃ A' c', e = .returned (.tuple #[.slice A' (axR p a f).length c', .int .i64 (axE p a f)]) ∧ Reads w' w'.heap.size 6 A' (axR p a f).length (nds (axR p a f)) ∧ Below w.heap.size w w'
theorem GivesX.none {p a : Int} {f : List Nd} {w w' : World} {e : Ending} {z : Int} (hz : z ≠ 0) (hE : axE p a f = z) (he : e = .returned (.tuple #[.slice none 0 0, .int .i64 z])) (hb : Below w.heap.size w w') : GivesX p a f w e w' := by
 have hR : axR p a f = [] := by unfold axR; rw [hE, if_neg hz]
 refine ⟨Option.none, 0, ?_, ?_, hb⟩
 ·rw [hR, hE]; exact he
 ·rw [hR]; exact Reads.none_
theorem GivesX.some {p a : Int} {f : List Nd} {w w' : World} {e : Ending} {A : Option Addr} {c : Nat} (hE : axE p a f = 0) (he : e = .returned (.tuple #[.slice A (axL p a f).length c, .int .i64 0])) (hr : Reads w' w'.heap.size 6 A (axL p a f).length (nds (axL p a f))) (hb : Below w.heap.size w w') : GivesX p a f w e w' := by
 have hR : axR p a f = axL p a f := by unfold axR; rw [if_pos hE]
 refine ⟨A, c, ?_, ?_, hb⟩
 ·rw [hR, hE]; exact he
 ·rw [hR]; exact hr
section
variable (f : List Nd) (A : Option Addr) (n c : Nat) (w : World) (hR : Reads w w.heap.size 6 A n (nds f)) (hn : n ≤ maxLen)
include hR hn
theorem axm_bad (p a : Int) (hz : fErr f ≠ 0) : Calls Tryz.prog 15 #[.int .i64 p, .int .i64 a, .slice A n c] w (GivesX p a f w) := by
 have HC := Lib.hid (fCheck_any f A n c w hR hn)
 have HG := Lib.hid (fun (e : Ending) (w' : World) => GivesX.none (p := p) (a := a) (f := f) (w := w) (w' := w') (e := e) (z := fErr f) hz (by unfold axE; rw [if_pos hz]))
 have hz1 : (fErr f != 0) = true := by rw [bne_iff_ne]; exact hz
 clear hR hn hz
 generalize fErr f = z at *
 generalize GivesX p a f w = G at *
 change Calls _ _ _ _ (fun e w' => G e w')
 go_enter Tryz.func15, Tryz.ntmps15
 go_wp2_with fail
 refine (HC.out).mono ?_
 rintro e w1 ⟨rfl, hb⟩
 have HB := Lib.hid hb
 clear hb
 go_wp2
 exact HG.out _ _ rfl HB.out
theorem axm_arg (p a : Int) (hz : fErr f = 0) (hp : p < 1 ∨ 5 < p) : Calls Tryz.prog 15 #[.int .i64 p, .int .i64 a, .slice A n c] w (GivesX p a f w) := by
 have HC := Lib.hid (fCheck_any f A n c w hR hn)
 rw [hz] at HC
 have HG := Lib.hid (fun (e : Ending) (w' : World) => GivesX.none (p := p) (a := a) (f := f) (w := w) (w' := w') (e := e) (z := 1) (by decide) (by unfold axE; rw [if_neg (fun h => h hz), if_pos hp]))
 have HD := Lib.hid (fun W => cond0_any p hp W)
 clear hR hn hz hp
 generalize GivesX p a f w = G at *
 change Calls _ _ _ _ (fun e w' => G e w')
 go_enter Tryz.func15, Tryz.ntmps15
 go_wp2_with fail
 refine (HC.out).mono ?_
 rintro e w1 ⟨rfl, hb⟩
 have HB := Lib.hid hb
 clear hb
 go_wp2_with fail
 refine (HD.out _).mono ?_
 rintro e w2 ⟨rfl, hb⟩
 have HB2 := Lib.hid ((HB.out.trans (hb.mono HB.out.size)).alloc (HB.out.trans (hb.mono HB.out.size)).size (.cells #[.int .i64 0, .nilFunc, .int .i64 0, .nilFunc, .nilFunc] 72))
 clear hb
 go_wp2
 exact HG.out _ _ rfl HB2.out
set_option maxHeartbeats 4000000 in
theorem axm1_any (a : Int) (hz : fErr f = 0) : Calls Tryz.prog 15 #[.int .i64 1, .int .i64 a, .slice A n c] w (GivesX 1 a f w) := by
 have HC := Lib.hid (fCheck_any f A n c w hR hn)
 rw [hz] at HC
 have HX := Lib.hid (fun B W (hb : Below w.heap.size w W) (hC : Cs B W) => ax1_any a f A n c B W ((hR.below hb).more hb.size) hn hC)
 have HD := Lib.hid (fun W => cond1_all W)
 have HGR := Lib.hid (fun (h : a < 0 ∨ 4 ≤ a) (e : Ending) (w' : World) => GivesX.none (p := 1) (a := a) (f := f) (w := w) (w' := w') (e := e) (z := 2) (by decide) (by unfold axE; rw [if_neg (fun h => h hz), if_neg (by decide), if_pos h]))
 have HGL := Lib.hid (fun (h : ¬ (a < 0 ∨ 4 ≤ a)) (h0 : (axL 1 a f).length = 0) (e : Ending) (w' : World) => GivesX.none (p := 1) (a := a) (f := f) (w := w) (w' := w') (e := e) (z := 8) (by decide) (by unfold axE; rw [if_neg (fun h => h hz), if_neg (by decide), if_neg h, if_pos h0]))
 have HGO := Lib.hid (fun (h : ¬ (a < 0 ∨ 4 ≤ a)) (h0 : ¬ (axL 1 a f).length = 0) (e : Ending) (w' : World) (A' : Option Addr) (c' : Nat) => GivesX.some (p := 1) (a := a) (f := f) (w := w) (w' := w') (e := e) (A := A') (c := c') (by unfold axE; rw [if_neg (fun h => h hz), if_neg (by decide), if_neg h, if_neg h0]))
 clear hR hn hz
 generalize GivesX 1 a f w = G at *
 change Calls _ _ _ _ (fun e w' => G e w')
 generalize axL 1 a f = x at *
 go_enter Tryz.func15, Tryz.ntmps15
 go_wp2_with fail
 refine (HC.out).mono ?_
 rintro e w1 ⟨rfl, hb⟩
 have HB1 := Lib.hid hb
 clear hb
 go_wp2_with fail
 refine (HD.out _).mono ?_
 rintro e w2 ⟨rfl, hb, hcs⟩
 have hal := (Below.refl w2.heap.size w2).alloc (Nat.le_refl _) (.cells #[.int .i64 1, .func (.func 91) #[] #[.pointer (some ⟨w1.heap.size + 1 + 1 + 1, 0, none⟩), .pointer (some ⟨w1.heap.size + 1, 0, none⟩), .pointer (some ⟨w1.heap.size + 1 + 1, 0, none⟩)], .int .i64 1, .func (.func 92) #[] #[], .func (.func 93) #[] #[]] 72)
 have HB2 := Lib.hid (((HB1.out.trans (hb.mono HB1.out.size))).trans (hal.mono (HB1.out.trans (hb.mono HB1.out.size)).size))
 have HCS : Hid (Cs w1.heap.size (w2.alloc (.cells #[.int .i64 1, .func (.func 91) #[] #[.pointer (some ⟨w1.heap.size + 1 + 1 + 1, 0, none⟩), .pointer (some ⟨w1.heap.size + 1, 0, none⟩), .pointer (some ⟨w1.heap.size + 1 + 1, 0, none⟩)], .int .i64 1, .func (.func 92) #[] #[], .func (.func 93) #[] #[]] 72))) := Lib.hid (Cs.below (B := w1.heap.size) hcs hal)
 have KB := Lib.hid (heap_alloc_new w2 (.cells #[.int .i64 1, .func (.func 91) #[] #[.pointer (some ⟨w1.heap.size + 1 + 1 + 1, 0, none⟩), .pointer (some ⟨w1.heap.size + 1, 0, none⟩), .pointer (some ⟨w1.heap.size + 1 + 1, 0, none⟩)], .int .i64 1, .func (.func 92) #[] #[], .func (.func 93) #[] #[]] 72))
 clear hb hcs hal
 by_cases h1 : a < 0
 ·have HN := Lib.hid (HGR.out (.inl h1))
  go_wp2
  exact HN.out _ _ rfl HB2.out
 ·by_cases h2 : 4 ≤ a
  ·have HN := Lib.hid (HGR.out (.inr h2))
   go_wp2
   exact HN.out _ _ rfl HB2.out
  ·have HNE : Hid (¬ (a < 0 ∨ 4 ≤ a)) := Lib.hid (by omega)
   have kf := (Lib.cell_of_heap KB.out 1).trans rfl
   go_wp2_with fail
   refine (HX.out w1.heap.size _ HB2.out HCS.out).mono ?_
   rintro e w3 ⟨A3, c3, rfl, hr, hb⟩
   have HR3 := Lib.hid hr
   have HB3 := Lib.hid (HB2.out.trans (hb.mono HB2.out.size))
   clear hr hb kf
   by_cases h0 : x.length = 0
   ·have HN := Lib.hid (HGL.out HNE.out h0)
    have hx0 : (x.length : Int) = 0 := by omega
    go_wp2
    exact HN.out _ _ rfl HB3.out
   ·have HN := Lib.hid (HGO.out HNE.out h0)
    have hx0 : ((x.length : Int) == 0) = false := by rw [beq_eq_false_iff_ne]; omega
    go_wp2
    exact HN.out _ _ _ _ rfl HR3.out HB3.out
set_option maxHeartbeats 4000000 in
theorem axm2_any (a : Int) (hz : fErr f = 0) : Calls Tryz.prog 15 #[.int .i64 2, .int .i64 a, .slice A n c] w (GivesX 2 a f w) := by
 have HC := Lib.hid (fCheck_any f A n c w hR hn)
 rw [hz] at HC
 have HX := Lib.hid (fun B W (hb : Below w.heap.size w W) (hC : Cs B W) => ax2_any a f A n c B W ((hR.below hb).more hb.size) hn hC)
 have HD := Lib.hid (fun W => cond2_all W)
 have HGR := Lib.hid (fun (h : a < 0 ∨ 4 ≤ a) (e : Ending) (w' : World) => GivesX.none (p := 2) (a := a) (f := f) (w := w) (w' := w') (e := e) (z := 2) (by decide) (by unfold axE; rw [if_neg (fun h => h hz), if_neg (by decide), if_pos h]))
 have HGL := Lib.hid (fun (h : ¬ (a < 0 ∨ 4 ≤ a)) (h0 : (axL 2 a f).length = 0) (e : Ending) (w' : World) => GivesX.none (p := 2) (a := a) (f := f) (w := w) (w' := w') (e := e) (z := 8) (by decide) (by unfold axE; rw [if_neg (fun h => h hz), if_neg (by decide), if_neg h, if_pos h0]))
 have HGO := Lib.hid (fun (h : ¬ (a < 0 ∨ 4 ≤ a)) (h0 : ¬ (axL 2 a f).length = 0) (e : Ending) (w' : World) (A' : Option Addr) (c' : Nat) => GivesX.some (p := 2) (a := a) (f := f) (w := w) (w' := w') (e := e) (A := A') (c := c') (by unfold axE; rw [if_neg (fun h => h hz), if_neg (by decide), if_neg h, if_neg h0]))
 clear hR hn hz
 generalize GivesX 2 a f w = G at *
 change Calls _ _ _ _ (fun e w' => G e w')
 generalize axL 2 a f = x at *
 go_enter Tryz.func15, Tryz.ntmps15
 go_wp2_with fail
 refine (HC.out).mono ?_
 rintro e w1 ⟨rfl, hb⟩
 have HB1 := Lib.hid hb
 clear hb
 go_wp2_with fail
 refine (HD.out _).mono ?_
 rintro e w2 ⟨rfl, hb, hcs⟩
 have hal := (Below.refl w2.heap.size w2).alloc (Nat.le_refl _) (.cells #[.int .i64 2, .func (.func 94) #[] #[.pointer (some ⟨w1.heap.size + 1 + 1 + 1, 0, none⟩), .pointer (some ⟨w1.heap.size + 1, 0, none⟩)], .int .i64 1, .func (.func 95) #[] #[], .func (.func 97) #[] #[]] 72)
 have HB2 := Lib.hid (((HB1.out.trans (hb.mono HB1.out.size))).trans (hal.mono (HB1.out.trans (hb.mono HB1.out.size)).size))
 have HCS : Hid (Cs w1.heap.size (w2.alloc (.cells #[.int .i64 2, .func (.func 94) #[] #[.pointer (some ⟨w1.heap.size + 1 + 1 + 1, 0, none⟩), .pointer (some ⟨w1.heap.size + 1, 0, none⟩)], .int .i64 1, .func (.func 95) #[] #[], .func (.func 97) #[] #[]] 72))) := Lib.hid (Cs.below (B := w1.heap.size) hcs hal)
 have KB := Lib.hid (heap_alloc_new w2 (.cells #[.int .i64 2, .func (.func 94) #[] #[.pointer (some ⟨w1.heap.size + 1 + 1 + 1, 0, none⟩), .pointer (some ⟨w1.heap.size + 1, 0, none⟩)], .int .i64 1, .func (.func 95) #[] #[], .func (.func 97) #[] #[]] 72))
 clear hb hcs hal
 by_cases h1 : a < 0
 ·have HN := Lib.hid (HGR.out (.inl h1))
  go_wp2
  exact HN.out _ _ rfl HB2.out
 ·by_cases h2 : 4 ≤ a
  ·have HN := Lib.hid (HGR.out (.inr h2))
   go_wp2
   exact HN.out _ _ rfl HB2.out
  ·have HNE : Hid (¬ (a < 0 ∨ 4 ≤ a)) := Lib.hid (by omega)
   have kf := (Lib.cell_of_heap KB.out 1).trans rfl
   go_wp2_with fail
   refine (HX.out w1.heap.size _ HB2.out HCS.out).mono ?_
   rintro e w3 ⟨A3, c3, rfl, hr, hb⟩
   have HR3 := Lib.hid hr
   have HB3 := Lib.hid (HB2.out.trans (hb.mono HB2.out.size))
   clear hr hb kf
   by_cases h0 : x.length = 0
   ·have HN := Lib.hid (HGL.out HNE.out h0)
    have hx0 : (x.length : Int) = 0 := by omega
    go_wp2
    exact HN.out _ _ rfl HB3.out
   ·have HN := Lib.hid (HGO.out HNE.out h0)
    have hx0 : ((x.length : Int) == 0) = false := by rw [beq_eq_false_iff_ne]; omega
    go_wp2
    exact HN.out _ _ _ _ rfl HR3.out HB3.out
set_option maxHeartbeats 4000000 in
theorem axm3_any (a : Int) (hz : fErr f = 0) : Calls Tryz.prog 15 #[.int .i64 3, .int .i64 a, .slice A n c] w (GivesX 3 a f w) := by
 have HC := Lib.hid (fCheck_any f A n c w hR hn)
 rw [hz] at HC
 have HX := Lib.hid (fun B W (hb : Below w.heap.size w W) (hC : Cs B W) => ax3_any a f A n c B W ((hR.below hb).more hb.size) hn hC)
 have HD := Lib.hid (fun W => cond3_all W)
 have HGR := Lib.hid (fun (h : a < 0 ∨ 4 ≤ a) (e : Ending) (w' : World) => GivesX.none (p := 3) (a := a) (f := f) (w := w) (w' := w') (e := e) (z := 2) (by decide) (by unfold axE; rw [if_neg (fun h => h hz), if_neg (by decide), if_pos h]))
 have HGL := Lib.hid (fun (h : ¬ (a < 0 ∨ 4 ≤ a)) (h0 : (axL 3 a f).length = 0) (e : Ending) (w' : World) => GivesX.none (p := 3) (a := a) (f := f) (w := w) (w' := w') (e := e) (z := 8) (by decide) (by unfold axE; rw [if_neg (fun h => h hz), if_neg (by decide), if_neg h, if_pos h0]))
 have HGO := Lib.hid (fun (h : ¬ (a < 0 ∨ 4 ≤ a)) (h0 : ¬ (axL 3 a f).length = 0) (e : Ending) (w' : World) (A' : Option Addr) (c' : Nat) => GivesX.some (p := 3) (a := a) (f := f) (w := w) (w' := w') (e := e) (A := A') (c := c') (by unfold axE; rw [if_neg (fun h => h hz), if_neg (by decide), if_neg h, if_neg h0]))
 clear hR hn hz
 generalize GivesX 3 a f w = G at *
 change Calls _ _ _ _ (fun e w' => G e w')
 generalize axL 3 a f = x at *
 go_enter Tryz.func15, Tryz.ntmps15
 go_wp2_with fail
 refine (HC.out).mono ?_
 rintro e w1 ⟨rfl, hb⟩
 have HB1 := Lib.hid hb
 clear hb
 go_wp2_with fail
 refine (HD.out _).mono ?_
 rintro e w2 ⟨rfl, hb, hcs⟩
 have hal := (Below.refl w2.heap.size w2).alloc (Nat.le_refl _) (.cells #[.int .i64 3, .func (.func 98) #[] #[.pointer (some ⟨w1.heap.size + 1 + 1 + 1, 0, none⟩), .pointer (some ⟨w1.heap.size + 1, 0, none⟩), .pointer (some ⟨w1.heap.size + 1 + 1, 0, none⟩)], .int .i64 2, .func (.func 99) #[] #[], .func (.func 100) #[] #[]] 72)
 have HB2 := Lib.hid (((HB1.out.trans (hb.mono HB1.out.size))).trans (hal.mono (HB1.out.trans (hb.mono HB1.out.size)).size))
 have HCS : Hid (Cs w1.heap.size (w2.alloc (.cells #[.int .i64 3, .func (.func 98) #[] #[.pointer (some ⟨w1.heap.size + 1 + 1 + 1, 0, none⟩), .pointer (some ⟨w1.heap.size + 1, 0, none⟩), .pointer (some ⟨w1.heap.size + 1 + 1, 0, none⟩)], .int .i64 2, .func (.func 99) #[] #[], .func (.func 100) #[] #[]] 72))) := Lib.hid (Cs.below (B := w1.heap.size) hcs hal)
 have KB := Lib.hid (heap_alloc_new w2 (.cells #[.int .i64 3, .func (.func 98) #[] #[.pointer (some ⟨w1.heap.size + 1 + 1 + 1, 0, none⟩), .pointer (some ⟨w1.heap.size + 1, 0, none⟩), .pointer (some ⟨w1.heap.size + 1 + 1, 0, none⟩)], .int .i64 2, .func (.func 99) #[] #[], .func (.func 100) #[] #[]] 72))
 clear hb hcs hal
 by_cases h1 : a < 0
 ·have HN := Lib.hid (HGR.out (.inl h1))
  go_wp2
  exact HN.out _ _ rfl HB2.out
 ·by_cases h2 : 4 ≤ a
  ·have HN := Lib.hid (HGR.out (.inr h2))
   go_wp2
   exact HN.out _ _ rfl HB2.out
  ·have HNE : Hid (¬ (a < 0 ∨ 4 ≤ a)) := Lib.hid (by omega)
   have kf := (Lib.cell_of_heap KB.out 1).trans rfl
   go_wp2_with fail
   refine (HX.out w1.heap.size _ HB2.out HCS.out).mono ?_
   rintro e w3 ⟨A3, c3, rfl, hr, hb⟩
   have HR3 := Lib.hid hr
   have HB3 := Lib.hid (HB2.out.trans (hb.mono HB2.out.size))
   clear hr hb kf
   by_cases h0 : x.length = 0
   ·have HN := Lib.hid (HGL.out HNE.out h0)
    have hx0 : (x.length : Int) = 0 := by omega
    go_wp2
    exact HN.out _ _ rfl HB3.out
   ·have HN := Lib.hid (HGO.out HNE.out h0)
    have hx0 : ((x.length : Int) == 0) = false := by rw [beq_eq_false_iff_ne]; omega
    go_wp2
    exact HN.out _ _ _ _ rfl HR3.out HB3.out
set_option maxHeartbeats 4000000 in
theorem axm4_any (a : Int) (hz : fErr f = 0) : Calls Tryz.prog 15 #[.int .i64 4, .int .i64 a, .slice A n c] w (GivesX 4 a f w) := by
 have HC := Lib.hid (fCheck_any f A n c w hR hn)
 rw [hz] at HC
 have HX := Lib.hid (fun B W (hb : Below w.heap.size w W) (hC : Cs B W) => ax4_any a f A n c B W ((hR.below hb).more hb.size) hn hC)
 have HD := Lib.hid (fun W => cond4_all W)
 have HGR := Lib.hid (fun (h : a < 0 ∨ 4 ≤ a) (e : Ending) (w' : World) => GivesX.none (p := 4) (a := a) (f := f) (w := w) (w' := w') (e := e) (z := 2) (by decide) (by unfold axE; rw [if_neg (fun h => h hz), if_neg (by decide), if_pos h]))
 have HGL := Lib.hid (fun (h : ¬ (a < 0 ∨ 4 ≤ a)) (h0 : (axL 4 a f).length = 0) (e : Ending) (w' : World) => GivesX.none (p := 4) (a := a) (f := f) (w := w) (w' := w') (e := e) (z := 8) (by decide) (by unfold axE; rw [if_neg (fun h => h hz), if_neg (by decide), if_neg h, if_pos h0]))
 have HGO := Lib.hid (fun (h : ¬ (a < 0 ∨ 4 ≤ a)) (h0 : ¬ (axL 4 a f).length = 0) (e : Ending) (w' : World) (A' : Option Addr) (c' : Nat) => GivesX.some (p := 4) (a := a) (f := f) (w := w) (w' := w') (e := e) (A := A') (c := c') (by unfold axE; rw [if_neg (fun h => h hz), if_neg (by decide), if_neg h, if_neg h0]))
 clear hR hn hz
 generalize GivesX 4 a f w = G at *
 change Calls _ _ _ _ (fun e w' => G e w')
 generalize axL 4 a f = x at *
 go_enter Tryz.func15, Tryz.ntmps15
 go_wp2_with fail
 refine (HC.out).mono ?_
 rintro e w1 ⟨rfl, hb⟩
 have HB1 := Lib.hid hb
 clear hb
 go_wp2_with fail
 refine (HD.out _).mono ?_
 rintro e w2 ⟨rfl, hb, hcs⟩
 have hal := (Below.refl w2.heap.size w2).alloc (Nat.le_refl _) (.cells #[.int .i64 4, .func (.func 101) #[] #[.pointer (some ⟨w1.heap.size + 1 + 1 + 1, 0, none⟩), .pointer (some ⟨w1.heap.size + 1, 0, none⟩)], .int .i64 3, .func (.func 102) #[] #[], .func (.func 103) #[] #[]] 72)
 have HB2 := Lib.hid (((HB1.out.trans (hb.mono HB1.out.size))).trans (hal.mono (HB1.out.trans (hb.mono HB1.out.size)).size))
 have HCS : Hid (Cs w1.heap.size (w2.alloc (.cells #[.int .i64 4, .func (.func 101) #[] #[.pointer (some ⟨w1.heap.size + 1 + 1 + 1, 0, none⟩), .pointer (some ⟨w1.heap.size + 1, 0, none⟩)], .int .i64 3, .func (.func 102) #[] #[], .func (.func 103) #[] #[]] 72))) := Lib.hid (Cs.below (B := w1.heap.size) hcs hal)
 have KB := Lib.hid (heap_alloc_new w2 (.cells #[.int .i64 4, .func (.func 101) #[] #[.pointer (some ⟨w1.heap.size + 1 + 1 + 1, 0, none⟩), .pointer (some ⟨w1.heap.size + 1, 0, none⟩)], .int .i64 3, .func (.func 102) #[] #[], .func (.func 103) #[] #[]] 72))
 clear hb hcs hal
 by_cases h1 : a < 0
 ·have HN := Lib.hid (HGR.out (.inl h1))
  go_wp2
  exact HN.out _ _ rfl HB2.out
 ·by_cases h2 : 4 ≤ a
  ·have HN := Lib.hid (HGR.out (.inr h2))
   go_wp2
   exact HN.out _ _ rfl HB2.out
  ·have HNE : Hid (¬ (a < 0 ∨ 4 ≤ a)) := Lib.hid (by omega)
   have kf := (Lib.cell_of_heap KB.out 1).trans rfl
   go_wp2_with fail
   refine (HX.out w1.heap.size _ HB2.out HCS.out).mono ?_
   rintro e w3 ⟨A3, c3, rfl, hr, hb⟩
   have HR3 := Lib.hid hr
   have HB3 := Lib.hid (HB2.out.trans (hb.mono HB2.out.size))
   clear hr hb kf
   by_cases h0 : x.length = 0
   ·have HN := Lib.hid (HGL.out HNE.out h0)
    have hx0 : (x.length : Int) = 0 := by omega
    go_wp2
    exact HN.out _ _ rfl HB3.out
   ·have HN := Lib.hid (HGO.out HNE.out h0)
    have hx0 : ((x.length : Int) == 0) = false := by rw [beq_eq_false_iff_ne]; omega
    go_wp2
    exact HN.out _ _ _ _ rfl HR3.out HB3.out
set_option maxHeartbeats 4000000 in
theorem axm5_any (a : Int) (hz : fErr f = 0) : Calls Tryz.prog 15 #[.int .i64 5, .int .i64 a, .slice A n c] w (GivesX 5 a f w) := by
 have HC := Lib.hid (fCheck_any f A n c w hR hn)
 rw [hz] at HC
 have HX := Lib.hid (fun B W (hb : Below w.heap.size w W) (hC : Cs B W) => ax5_any a f A n c B W ((hR.below hb).more hb.size) hn hC)
 have HD := Lib.hid (fun W => cond5_all W)
 have HGR := Lib.hid (fun (h : a < 0 ∨ 4 ≤ a) (e : Ending) (w' : World) => GivesX.none (p := 5) (a := a) (f := f) (w := w) (w' := w') (e := e) (z := 2) (by decide) (by unfold axE; rw [if_neg (fun h => h hz), if_neg (by decide), if_pos h]))
 have HGL := Lib.hid (fun (h : ¬ (a < 0 ∨ 4 ≤ a)) (h0 : (axL 5 a f).length = 0) (e : Ending) (w' : World) => GivesX.none (p := 5) (a := a) (f := f) (w := w) (w' := w') (e := e) (z := 8) (by decide) (by unfold axE; rw [if_neg (fun h => h hz), if_neg (by decide), if_neg h, if_pos h0]))
 have HGO := Lib.hid (fun (h : ¬ (a < 0 ∨ 4 ≤ a)) (h0 : ¬ (axL 5 a f).length = 0) (e : Ending) (w' : World) (A' : Option Addr) (c' : Nat) => GivesX.some (p := 5) (a := a) (f := f) (w := w) (w' := w') (e := e) (A := A') (c := c') (by unfold axE; rw [if_neg (fun h => h hz), if_neg (by decide), if_neg h, if_neg h0]))
 clear hR hn hz
 generalize GivesX 5 a f w = G at *
 change Calls _ _ _ _ (fun e w' => G e w')
 generalize axL 5 a f = x at *
 go_enter Tryz.func15, Tryz.ntmps15
 go_wp2_with fail
 refine (HC.out).mono ?_
 rintro e w1 ⟨rfl, hb⟩
 have HB1 := Lib.hid hb
 clear hb
 go_wp2_with fail
 refine (HD.out _).mono ?_
 rintro e w2 ⟨rfl, hb, hcs⟩
 have hal := (Below.refl w2.heap.size w2).alloc (Nat.le_refl _) (.cells #[.int .i64 5, .func (.func 104) #[] #[.pointer (some ⟨w1.heap.size + 1 + 1 + 1, 0, none⟩), .pointer (some ⟨w1.heap.size + 1 + 1, 0, none⟩), .pointer (some ⟨w1.heap.size + 1, 0, none⟩)], .int .i64 3, .func (.func 105) #[] #[], .func (.func 106) #[] #[]] 72)
 have HB2 := Lib.hid (((HB1.out.trans (hb.mono HB1.out.size))).trans (hal.mono (HB1.out.trans (hb.mono HB1.out.size)).size))
 have HCS : Hid (Cs w1.heap.size (w2.alloc (.cells #[.int .i64 5, .func (.func 104) #[] #[.pointer (some ⟨w1.heap.size + 1 + 1 + 1, 0, none⟩), .pointer (some ⟨w1.heap.size + 1 + 1, 0, none⟩), .pointer (some ⟨w1.heap.size + 1, 0, none⟩)], .int .i64 3, .func (.func 105) #[] #[], .func (.func 106) #[] #[]] 72))) := Lib.hid (Cs.below (B := w1.heap.size) hcs hal)
 have KB := Lib.hid (heap_alloc_new w2 (.cells #[.int .i64 5, .func (.func 104) #[] #[.pointer (some ⟨w1.heap.size + 1 + 1 + 1, 0, none⟩), .pointer (some ⟨w1.heap.size + 1 + 1, 0, none⟩), .pointer (some ⟨w1.heap.size + 1, 0, none⟩)], .int .i64 3, .func (.func 105) #[] #[], .func (.func 106) #[] #[]] 72))
 clear hb hcs hal
 by_cases h1 : a < 0
 ·have HN := Lib.hid (HGR.out (.inl h1))
  go_wp2
  exact HN.out _ _ rfl HB2.out
 ·by_cases h2 : 4 ≤ a
  ·have HN := Lib.hid (HGR.out (.inr h2))
   go_wp2
   exact HN.out _ _ rfl HB2.out
  ·have HNE : Hid (¬ (a < 0 ∨ 4 ≤ a)) := Lib.hid (by omega)
   have kf := (Lib.cell_of_heap KB.out 1).trans rfl
   go_wp2_with fail
   refine (HX.out w1.heap.size _ HB2.out HCS.out).mono ?_
   rintro e w3 ⟨A3, c3, rfl, hr, hb⟩
   have HR3 := Lib.hid hr
   have HB3 := Lib.hid (HB2.out.trans (hb.mono HB2.out.size))
   clear hr hb kf
   by_cases h0 : x.length = 0
   ·have HN := Lib.hid (HGL.out HNE.out h0)
    have hx0 : (x.length : Int) = 0 := by omega
    go_wp2
    exact HN.out _ _ rfl HB3.out
   ·have HN := Lib.hid (HGO.out HNE.out h0)
    have hx0 : ((x.length : Int) == 0) = false := by rw [beq_eq_false_iff_ne]; omega
    go_wp2
    exact HN.out _ _ _ _ rfl HR3.out HB3.out
theorem pAxiom_any (p a : Int) : Calls Tryz.prog 15 #[.int .i64 p, .int .i64 a, .slice A n c] w (GivesX p a f w) := by
 by_cases hz : fErr f = 0
 ·by_cases hp : p < 1 ∨ 5 < p
  ·exact axm_arg f A n c w hR hn p a hz hp
  ·have h5 : p = 1 ∨ p = 2 ∨ p = 3 ∨ p = 4 ∨ p = 5 := by omega
   rcases h5 with rfl | rfl | rfl | rfl | rfl
   ·exact axm1_any f A n c w hR hn a hz
   ·exact axm2_any f A n c w hR hn a hz
   ·exact axm3_any f A n c w hR hn a hz
   ·exact axm4_any f A n c w hR hn a hz
   ·exact axm5_any f A n c w hR hn a hz
 ·exact axm_bad f A n c w hR hn p a hz
end
end Go.Proofs.YtjpmhbnikoggaaaGreatDoor
