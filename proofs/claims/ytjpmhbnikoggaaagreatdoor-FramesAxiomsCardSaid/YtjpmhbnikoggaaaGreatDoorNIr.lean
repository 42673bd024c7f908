/- Layer 6: texts joined: Fr30 Fr31 Fr32 Fr33. -/
import Derived.Test.YtjpmhbnikoggaaaGreatDoorNIi
import Derived.Test.YtjpmhbnikoggaaaGreatDoorNIp
/- Layer 15: shows by the reference. -/
namespace Go.Proofs.YtjpmhbnikoggaaaGreatDoor
open Go.RowKit Go.Proofs.Ws
set_option maxRecDepth 100000
theorem word_of {l : List Nat} (hw : Words l) (t : Nat) : l.getD t 0 < 18446744073709551616 := by
  by_cases ht : t < l.length
  · exact hw _ (getD_mem ht)
  · rw [List.getD_eq_getElem?_getD, List.getElem?_eq_none (by omega)]; decide
def shD (p : Int) (l : List Nat) (a b d : Nat) : Bool :=
  if p = 1 then decide (l.getD a 0 = 0)
  else if p = 2 then !bit l a a
  else if p = 3 then bit l a b && !bit l b a
  else if p = 4 then bit l a b && bit l b d && !bit l a d
  else bit l a b && bit l a d && !bit l b d
set_option maxHeartbeats 8000000 in
theorem shows1_any (l : List Nat) (A : Option Addr) (n c a b d : Nat) (w : World) (hR : Reads w w.heap.size 1 A n (us l)) (hw : Words l) (hn : n ≤ 64) (ha : a < n) (hb : b < n) (hd : d < n) :
    Calls Tryz.prog 110 #[.slice A n c, .int .i64 1, .int .i64 (a : Int), .int .i64 (b : Int), .int .i64 (d : Int)] w fun e w' => e = .returned (.bool (shD 1 l a b d)) ∧ Below w.heap.size w w' := by
  obtain ⟨ar, hA, hbl, hca⟩ := hR.word_k ha
  obtain ⟨ar2, hA2, _, hcb⟩ := hR.word_k hb
  subst hA
  injection hA2 with hA2
  subst hA2
  have hwa : l.getD a 0 < 18446744073709551616 := word_of hw a
  have hwb : l.getD b 0 < 18446744073709551616 := word_of hw b
  have HA := Lib.hid (fun W (h : Below w.heap.size w W) => (h.cell (p := ar.add a) (by rw [block_of_add]; exact hbl)).trans hca)
  have HB := Lib.hid (fun W (h : Below w.heap.size w W) => (h.cell (p := ar.add b) (by rw [block_of_add]; exact hbl)).trans hcb)
  have K1 := Lib.hid (fun W => (in_any (l.getD a 0) b W hwa (by omega)).mono fun e w' h => show e = _ ∧ Below W.heap.size W w' from ⟨h.1, by rw [← h.2]; exact Below.refl _ _⟩)
  have K2 := Lib.hid (fun W => (in_any (l.getD a 0) d W hwa (by omega)).mono fun e w' h => show e = _ ∧ Below W.heap.size W w' from ⟨h.1, by rw [← h.2]; exact Below.refl _ _⟩)
  have K3 := Lib.hid (fun W => (in_any (l.getD b 0) d W hwb (by omega)).mono fun e w' h => show e = _ ∧ Below W.heap.size W w' from ⟨h.1, by rw [← h.2]; exact Below.refl _ _⟩)
  have K4 := Lib.hid (fun W => (in_any (l.getD b 0) a W hwb (by omega)).mono fun e w' h => show e = _ ∧ Below W.heap.size W w' from ⟨h.1, by rw [← h.2]; exact Below.refl _ _⟩)
  have K5 := Lib.hid (fun W => (in_any (l.getD a 0) a W hwa (by omega)).mono fun e w' h => show e = _ ∧ Below W.heap.size W w' from ⟨h.1, by rw [← h.2]; exact Below.refl _ _⟩)
  have e : shD 1 l a b d = (((l.getD a 0 : Nat) : Int) == 0) := by
    show decide (l.getD a 0 = 0) = _
    rw [Bool.eq_iff_iff, decide_eq_true_eq, beq_iff_eq]
    omega
  rw [e]
  clear e hR hw hwa hwb hca hcb
  generalize (l.getD a 0).testBit b = b1 at *
  generalize (l.getD a 0).testBit d = b2 at *
  generalize (l.getD b 0).testBit d = b3 at *
  generalize (l.getD b 0).testBit a = b4 at *
  generalize (l.getD a 0).testBit a = b5 at *
  generalize l.getD a 0 = va at *
  generalize l.getD b 0 = vb at *
  go_enter Tryz.func110, Tryz.ntmps110
  go_wp2
  refine wp_region_mix [.slice (some ar) n c, .int .i64 (a : Int), .pointer (some (ar.add a)), .int .u64 (va : Int), .int .i64 (b : Int), .bool b1, .slice (some ar) n c, .int .i64 (a : Int), .pointer (some (ar.add a)), .int .u64 (va : Int), .int .i64 (d : Int), .bool b2, .slice (some ar) n c, .int .i64 (b : Int), .pointer (some (ar.add b)), .int .u64 (vb : Int), .int .i64 (d : Int), .bool b3, .slice (some ar) n c, .int .i64 (b : Int), .pointer (some (ar.add b)), .int .u64 (vb : Int), .int .i64 (a : Int), .bool b4, .bool b1, .bool b2, .bool b3, .bool b4] [15, 16, 17, 18, 19, 20, 21, 22, 23, 24, 25, 26, 27, 28, 29, 30, 31, 32, 33, 34, 35, 36, 37, 38, 11, 12, 13, 14] [2, 3, 5, 8, 9, 11, 14, 15, 17, 20, 21, 23] (fun W => Below w.heap.size w W) (fun W W' => Below W.heap.size W W') 28 83 rfl rfl rfl rfl (by decide) (by decide) (by kernel_rfl) (by kernel_rfl) (by kernel_rfl) (fun W => Below.refl _ W) (fun W1 W2 W3 h1 h2 => h1.trans (h2.mono h1.size)) (fun W W' h h2 => h.trans (h2.mono h.size)) (Below.refl w.heap.size w).drew (by kernel_rfl) [] rfl ?hop ?fin
  case hop =>
    refine (And.intro ?s2 (And.intro ?s3 (And.intro ?s5 (And.intro ?s8 (And.intro ?s9 (And.intro ?s11 (And.intro ?s14 (And.intro ?s15 (And.intro ?s17 (And.intro ?s20 (And.intro ?s21 (And.intro ?s23 trivial))))))))))))
    case s2 =>
      refine And.intro (by rfl) (fun tm W hS hsz hfr hdep K hK => ?_)
      change tm.size = 83 at hsz
      have t15 : tm.getD 15 undef = .slice (some ar) n c := hdep 0 (by rfl) (by decide)
      have t16 : tm.getD 16 undef = .int .i64 (a : Int) := hdep 1 (by rfl) (by decide)
      clear hdep hfr
      go_simp
      exact hK W (Below.refl _ W)
    case s3 =>
      refine And.intro (by rfl) (fun tm W hS hsz hfr hdep K hK => ?_)
      change tm.size = 83 at hsz
      have t17 : tm.getD 17 undef = .pointer (some (ar.add a)) := hdep 2 (by rfl) (by decide)
      have cz := HA.out W hS
      clear hdep hfr
      go_simp
      exact hK W (Below.refl _ W)
    case s5 =>
      refine And.intro (by rfl) (fun tm W hS hsz hfr hdep K hK => ?_)
      change tm.size = 83 at hsz
      have t18 : tm.getD 18 undef = .int .u64 (va : Int) := hdep 3 (by rfl) (by decide)
      have t19 : tm.getD 19 undef = .int .i64 (b : Int) := hdep 4 (by rfl) (by decide)
      clear hdep hfr
      refine wp_call _ _ _ _ _ rfl rfl (by simp [Act.eval, t18, t19]) (by kernel_rfl) (K1.out W) (fun e W9 h9 => ?_)
      obtain ⟨rfl, hb9⟩ := h9
      exact ⟨_, rfl, hK W9 hb9⟩
    case s8 =>
      refine And.intro (by rfl) (fun tm W hS hsz hfr hdep K hK => ?_)
      change tm.size = 83 at hsz
      have t21 : tm.getD 21 undef = .slice (some ar) n c := hdep 6 (by rfl) (by decide)
      have t22 : tm.getD 22 undef = .int .i64 (a : Int) := hdep 7 (by rfl) (by decide)
      clear hdep hfr
      go_simp
      exact hK W (Below.refl _ W)
    case s9 =>
      refine And.intro (by rfl) (fun tm W hS hsz hfr hdep K hK => ?_)
      change tm.size = 83 at hsz
      have t23 : tm.getD 23 undef = .pointer (some (ar.add a)) := hdep 8 (by rfl) (by decide)
      have cz := HA.out W hS
      clear hdep hfr
      go_simp
      exact hK W (Below.refl _ W)
    case s11 =>
      refine And.intro (by rfl) (fun tm W hS hsz hfr hdep K hK => ?_)
      change tm.size = 83 at hsz
      have t24 : tm.getD 24 undef = .int .u64 (va : Int) := hdep 9 (by rfl) (by decide)
      have t25 : tm.getD 25 undef = .int .i64 (d : Int) := hdep 10 (by rfl) (by decide)
      clear hdep hfr
      refine wp_call _ _ _ _ _ rfl rfl (by simp [Act.eval, t24, t25]) (by kernel_rfl) (K2.out W) (fun e W9 h9 => ?_)
      obtain ⟨rfl, hb9⟩ := h9
      exact ⟨_, rfl, hK W9 hb9⟩
    case s14 =>
      refine And.intro (by rfl) (fun tm W hS hsz hfr hdep K hK => ?_)
      change tm.size = 83 at hsz
      have t27 : tm.getD 27 undef = .slice (some ar) n c := hdep 12 (by rfl) (by decide)
      have t28 : tm.getD 28 undef = .int .i64 (b : Int) := hdep 13 (by rfl) (by decide)
      clear hdep hfr
      go_simp
      exact hK W (Below.refl _ W)
    case s15 =>
      refine And.intro (by rfl) (fun tm W hS hsz hfr hdep K hK => ?_)
      change tm.size = 83 at hsz
      have t29 : tm.getD 29 undef = .pointer (some (ar.add b)) := hdep 14 (by rfl) (by decide)
      have cz := HB.out W hS
      clear hdep hfr
      go_simp
      exact hK W (Below.refl _ W)
    case s17 =>
      refine And.intro (by rfl) (fun tm W hS hsz hfr hdep K hK => ?_)
      change tm.size = 83 at hsz
      have t30 : tm.getD 30 undef = .int .u64 (vb : Int) := hdep 15 (by rfl) (by decide)
      have t31 : tm.getD 31 undef = .int .i64 (d : Int) := hdep 16 (by rfl) (by decide)
      clear hdep hfr
      refine wp_call _ _ _ _ _ rfl rfl (by simp [Act.eval, t30, t31]) (by kernel_rfl) (K3.out W) (fun e W9 h9 => ?_)
      obtain ⟨rfl, hb9⟩ := h9
      exact ⟨_, rfl, hK W9 hb9⟩
    case s20 =>
      refine And.intro (by rfl) (fun tm W hS hsz hfr hdep K hK => ?_)
      change tm.size = 83 at hsz
      have t33 : tm.getD 33 undef = .slice (some ar) n c := hdep 18 (by rfl) (by decide)
      have t34 : tm.getD 34 undef = .int .i64 (b : Int) := hdep 19 (by rfl) (by decide)
      clear hdep hfr
      go_simp
      exact hK W (Below.refl _ W)
    case s21 =>
      refine And.intro (by rfl) (fun tm W hS hsz hfr hdep K hK => ?_)
      change tm.size = 83 at hsz
      have t35 : tm.getD 35 undef = .pointer (some (ar.add b)) := hdep 20 (by rfl) (by decide)
      have cz := HB.out W hS
      clear hdep hfr
      go_simp
      exact hK W (Below.refl _ W)
    case s23 =>
      refine And.intro (by rfl) (fun tm W hS hsz hfr hdep K hK => ?_)
      change tm.size = 83 at hsz
      have t36 : tm.getD 36 undef = .int .u64 (vb : Int) := hdep 21 (by rfl) (by decide)
      have t37 : tm.getD 37 undef = .int .i64 (a : Int) := hdep 22 (by rfl) (by decide)
      clear hdep hfr
      refine wp_call _ _ _ _ _ rfl rfl (by simp [Act.eval, t36, t37]) (by kernel_rfl) (K4.out W) (fun e W9 h9 => ?_)
      obtain ⟨rfl, hb9⟩ := h9
      exact ⟨_, rfl, hK W9 hb9⟩
  case fin =>
    intro W hS
    have HS := Lib.hid hS
    clear hS
    simp only [fillD]
    go_simp
    have cz := HA.out W HS.out
    go_wp2
    go_ret
    exact ⟨rfl, HS.out⟩
set_option maxHeartbeats 8000000 in
theorem shows2_any (l : List Nat) (A : Option Addr) (n c a b d : Nat) (w : World) (hR : Reads w w.heap.size 1 A n (us l)) (hw : Words l) (hn : n ≤ 64) (ha : a < n) (hb : b < n) (hd : d < n) :
    Calls Tryz.prog 110 #[.slice A n c, .int .i64 2, .int .i64 (a : Int), .int .i64 (b : Int), .int .i64 (d : Int)] w fun e w' => e = .returned (.bool (shD 2 l a b d)) ∧ Below w.heap.size w w' := by
  obtain ⟨ar, hA, hbl, hca⟩ := hR.word_k ha
  obtain ⟨ar2, hA2, _, hcb⟩ := hR.word_k hb
  subst hA
  injection hA2 with hA2
  subst hA2
  have hwa : l.getD a 0 < 18446744073709551616 := word_of hw a
  have hwb : l.getD b 0 < 18446744073709551616 := word_of hw b
  have HA := Lib.hid (fun W (h : Below w.heap.size w W) => (h.cell (p := ar.add a) (by rw [block_of_add]; exact hbl)).trans hca)
  have HB := Lib.hid (fun W (h : Below w.heap.size w W) => (h.cell (p := ar.add b) (by rw [block_of_add]; exact hbl)).trans hcb)
  have K1 := Lib.hid (fun W => (in_any (l.getD a 0) b W hwa (by omega)).mono fun e w' h => show e = _ ∧ Below W.heap.size W w' from ⟨h.1, by rw [← h.2]; exact Below.refl _ _⟩)
  have K2 := Lib.hid (fun W => (in_any (l.getD a 0) d W hwa (by omega)).mono fun e w' h => show e = _ ∧ Below W.heap.size W w' from ⟨h.1, by rw [← h.2]; exact Below.refl _ _⟩)
  have K3 := Lib.hid (fun W => (in_any (l.getD b 0) d W hwb (by omega)).mono fun e w' h => show e = _ ∧ Below W.heap.size W w' from ⟨h.1, by rw [← h.2]; exact Below.refl _ _⟩)
  have K4 := Lib.hid (fun W => (in_any (l.getD b 0) a W hwb (by omega)).mono fun e w' h => show e = _ ∧ Below W.heap.size W w' from ⟨h.1, by rw [← h.2]; exact Below.refl _ _⟩)
  have K5 := Lib.hid (fun W => (in_any (l.getD a 0) a W hwa (by omega)).mono fun e w' h => show e = _ ∧ Below W.heap.size W w' from ⟨h.1, by rw [← h.2]; exact Below.refl _ _⟩)
  have e : shD 2 l a b d = (!(l.getD a 0).testBit a) := rfl
  rw [e]
  clear e hR hw hwa hwb hca hcb
  generalize (l.getD a 0).testBit b = b1 at *
  generalize (l.getD a 0).testBit d = b2 at *
  generalize (l.getD b 0).testBit d = b3 at *
  generalize (l.getD b 0).testBit a = b4 at *
  generalize (l.getD a 0).testBit a = b5 at *
  generalize l.getD a 0 = va at *
  generalize l.getD b 0 = vb at *
  go_enter Tryz.func110, Tryz.ntmps110
  go_wp2
  refine wp_region_mix [.slice (some ar) n c, .int .i64 (a : Int), .pointer (some (ar.add a)), .int .u64 (va : Int), .int .i64 (b : Int), .bool b1, .slice (some ar) n c, .int .i64 (a : Int), .pointer (some (ar.add a)), .int .u64 (va : Int), .int .i64 (d : Int), .bool b2, .slice (some ar) n c, .int .i64 (b : Int), .pointer (some (ar.add b)), .int .u64 (vb : Int), .int .i64 (d : Int), .bool b3, .slice (some ar) n c, .int .i64 (b : Int), .pointer (some (ar.add b)), .int .u64 (vb : Int), .int .i64 (a : Int), .bool b4, .bool b1, .bool b2, .bool b3, .bool b4] [15, 16, 17, 18, 19, 20, 21, 22, 23, 24, 25, 26, 27, 28, 29, 30, 31, 32, 33, 34, 35, 36, 37, 38, 11, 12, 13, 14] [2, 3, 5, 8, 9, 11, 14, 15, 17, 20, 21, 23] (fun W => Below w.heap.size w W) (fun W W' => Below W.heap.size W W') 28 83 rfl rfl rfl rfl (by decide) (by decide) (by kernel_rfl) (by kernel_rfl) (by kernel_rfl) (fun W => Below.refl _ W) (fun W1 W2 W3 h1 h2 => h1.trans (h2.mono h1.size)) (fun W W' h h2 => h.trans (h2.mono h.size)) (Below.refl w.heap.size w).drew (by kernel_rfl) [] rfl ?hop ?fin
  case hop =>
    refine (And.intro ?s2 (And.intro ?s3 (And.intro ?s5 (And.intro ?s8 (And.intro ?s9 (And.intro ?s11 (And.intro ?s14 (And.intro ?s15 (And.intro ?s17 (And.intro ?s20 (And.intro ?s21 (And.intro ?s23 trivial))))))))))))
    case s2 =>
      refine And.intro (by rfl) (fun tm W hS hsz hfr hdep K hK => ?_)
      change tm.size = 83 at hsz
      have t15 : tm.getD 15 undef = .slice (some ar) n c := hdep 0 (by rfl) (by decide)
      have t16 : tm.getD 16 undef = .int .i64 (a : Int) := hdep 1 (by rfl) (by decide)
      clear hdep hfr
      go_simp
      exact hK W (Below.refl _ W)
    case s3 =>
      refine And.intro (by rfl) (fun tm W hS hsz hfr hdep K hK => ?_)
      change tm.size = 83 at hsz
      have t17 : tm.getD 17 undef = .pointer (some (ar.add a)) := hdep 2 (by rfl) (by decide)
      have cz := HA.out W hS
      clear hdep hfr
      go_simp
      exact hK W (Below.refl _ W)
    case s5 =>
      refine And.intro (by rfl) (fun tm W hS hsz hfr hdep K hK => ?_)
      change tm.size = 83 at hsz
      have t18 : tm.getD 18 undef = .int .u64 (va : Int) := hdep 3 (by rfl) (by decide)
      have t19 : tm.getD 19 undef = .int .i64 (b : Int) := hdep 4 (by rfl) (by decide)
      clear hdep hfr
      refine wp_call _ _ _ _ _ rfl rfl (by simp [Act.eval, t18, t19]) (by kernel_rfl) (K1.out W) (fun e W9 h9 => ?_)
      obtain ⟨rfl, hb9⟩ := h9
      exact ⟨_, rfl, hK W9 hb9⟩
    case s8 =>
      refine And.intro (by rfl) (fun tm W hS hsz hfr hdep K hK => ?_)
      change tm.size = 83 at hsz
      have t21 : tm.getD 21 undef = .slice (some ar) n c := hdep 6 (by rfl) (by decide)
      have t22 : tm.getD 22 undef = .int .i64 (a : Int) := hdep 7 (by rfl) (by decide)
      clear hdep hfr
      go_simp
      exact hK W (Below.refl _ W)
    case s9 =>
      refine And.intro (by rfl) (fun tm W hS hsz hfr hdep K hK => ?_)
      change tm.size = 83 at hsz
      have t23 : tm.getD 23 undef = .pointer (some (ar.add a)) := hdep 8 (by rfl) (by decide)
      have cz := HA.out W hS
      clear hdep hfr
      go_simp
      exact hK W (Below.refl _ W)
    case s11 =>
      refine And.intro (by rfl) (fun tm W hS hsz hfr hdep K hK => ?_)
      change tm.size = 83 at hsz
      have t24 : tm.getD 24 undef = .int .u64 (va : Int) := hdep 9 (by rfl) (by decide)
      have t25 : tm.getD 25 undef = .int .i64 (d : Int) := hdep 10 (by rfl) (by decide)
      clear hdep hfr
      refine wp_call _ _ _ _ _ rfl rfl (by simp [Act.eval, t24, t25]) (by kernel_rfl) (K2.out W) (fun e W9 h9 => ?_)
      obtain ⟨rfl, hb9⟩ := h9
      exact ⟨_, rfl, hK W9 hb9⟩
    case s14 =>
      refine And.intro (by rfl) (fun tm W hS hsz hfr hdep K hK => ?_)
      change tm.size = 83 at hsz
      have t27 : tm.getD 27 undef = .slice (some ar) n c := hdep 12 (by rfl) (by decide)
      have t28 : tm.getD 28 undef = .int .i64 (b : Int) := hdep 13 (by rfl) (by decide)
      clear hdep hfr
      go_simp
      exact hK W (Below.refl _ W)
    case s15 =>
      refine And.intro (by rfl) (fun tm W hS hsz hfr hdep K hK => ?_)
      change tm.size = 83 at hsz
      have t29 : tm.getD 29 undef = .pointer (some (ar.add b)) := hdep 14 (by rfl) (by decide)
      have cz := HB.out W hS
      clear hdep hfr
      go_simp
      exact hK W (Below.refl _ W)
    case s17 =>
      refine And.intro (by rfl) (fun tm W hS hsz hfr hdep K hK => ?_)
      change tm.size = 83 at hsz
      have t30 : tm.getD 30 undef = .int .u64 (vb : Int) := hdep 15 (by rfl) (by decide)
      have t31 : tm.getD 31 undef = .int .i64 (d : Int) := hdep 16 (by rfl) (by decide)
      clear hdep hfr
      refine wp_call _ _ _ _ _ rfl rfl (by simp [Act.eval, t30, t31]) (by kernel_rfl) (K3.out W) (fun e W9 h9 => ?_)
      obtain ⟨rfl, hb9⟩ := h9
      exact ⟨_, rfl, hK W9 hb9⟩
    case s20 =>
      refine And.intro (by rfl) (fun tm W hS hsz hfr hdep K hK => ?_)
      change tm.size = 83 at hsz
      have t33 : tm.getD 33 undef = .slice (some ar) n c := hdep 18 (by rfl) (by decide)
      have t34 : tm.getD 34 undef = .int .i64 (b : Int) := hdep 19 (by rfl) (by decide)
      clear hdep hfr
      go_simp
      exact hK W (Below.refl _ W)
    case s21 =>
      refine And.intro (by rfl) (fun tm W hS hsz hfr hdep K hK => ?_)
      change tm.size = 83 at hsz
      have t35 : tm.getD 35 undef = .pointer (some (ar.add b)) := hdep 20 (by rfl) (by decide)
      have cz := HB.out W hS
      clear hdep hfr
      go_simp
      exact hK W (Below.refl _ W)
    case s23 =>
      refine And.intro (by rfl) (fun tm W hS hsz hfr hdep K hK => ?_)
      change tm.size = 83 at hsz
      have t36 : tm.getD 36 undef = .int .u64 (vb : Int) := hdep 21 (by rfl) (by decide)
      have t37 : tm.getD 37 undef = .int .i64 (a : Int) := hdep 22 (by rfl) (by decide)
      clear hdep hfr
      refine wp_call _ _ _ _ _ rfl rfl (by simp [Act.eval, t36, t37]) (by kernel_rfl) (K4.out W) (fun e W9 h9 => ?_)
      obtain ⟨rfl, hb9⟩ := h9
      exact ⟨_, rfl, hK W9 hb9⟩
  case fin =>
    intro W hS
    have HS := Lib.hid hS
    clear hS
    simp only [fillD]
    go_simp
    have cz := HA.out W HS.out
    go_wp2_with fail
    refine (K5.out W).mono ?_
    rintro e W2 ⟨rfl, hb9⟩
    have HS2 := Lib.hid (HS.out.trans (hb9.mono HS.out.size))
    clear hb9
    go_wp2
    go_ret
    exact ⟨rfl, HS2.out⟩
set_option maxHeartbeats 8000000 in
theorem shows3_any (l : List Nat) (A : Option Addr) (n c a b d : Nat) (w : World) (hR : Reads w w.heap.size 1 A n (us l)) (hw : Words l) (hn : n ≤ 64) (ha : a < n) (hb : b < n) (hd : d < n) :
    Calls Tryz.prog 110 #[.slice A n c, .int .i64 3, .int .i64 (a : Int), .int .i64 (b : Int), .int .i64 (d : Int)] w fun e w' => e = .returned (.bool (shD 3 l a b d)) ∧ Below w.heap.size w w' := by
  obtain ⟨ar, hA, hbl, hca⟩ := hR.word_k ha
  obtain ⟨ar2, hA2, _, hcb⟩ := hR.word_k hb
  subst hA
  injection hA2 with hA2
  subst hA2
  have hwa : l.getD a 0 < 18446744073709551616 := word_of hw a
  have hwb : l.getD b 0 < 18446744073709551616 := word_of hw b
  have HA := Lib.hid (fun W (h : Below w.heap.size w W) => (h.cell (p := ar.add a) (by rw [block_of_add]; exact hbl)).trans hca)
  have HB := Lib.hid (fun W (h : Below w.heap.size w W) => (h.cell (p := ar.add b) (by rw [block_of_add]; exact hbl)).trans hcb)
  have K1 := Lib.hid (fun W => (in_any (l.getD a 0) b W hwa (by omega)).mono fun e w' h => show e = _ ∧ Below W.heap.size W w' from ⟨h.1, by rw [← h.2]; exact Below.refl _ _⟩)
  have K2 := Lib.hid (fun W => (in_any (l.getD a 0) d W hwa (by omega)).mono fun e w' h => show e = _ ∧ Below W.heap.size W w' from ⟨h.1, by rw [← h.2]; exact Below.refl _ _⟩)
  have K3 := Lib.hid (fun W => (in_any (l.getD b 0) d W hwb (by omega)).mono fun e w' h => show e = _ ∧ Below W.heap.size W w' from ⟨h.1, by rw [← h.2]; exact Below.refl _ _⟩)
  have K4 := Lib.hid (fun W => (in_any (l.getD b 0) a W hwb (by omega)).mono fun e w' h => show e = _ ∧ Below W.heap.size W w' from ⟨h.1, by rw [← h.2]; exact Below.refl _ _⟩)
  have K5 := Lib.hid (fun W => (in_any (l.getD a 0) a W hwa (by omega)).mono fun e w' h => show e = _ ∧ Below W.heap.size W w' from ⟨h.1, by rw [← h.2]; exact Below.refl _ _⟩)
  have e : shD 3 l a b d = ((l.getD a 0).testBit b && !(l.getD b 0).testBit a) := rfl
  rw [e]
  clear e hR hw hwa hwb hca hcb
  generalize (l.getD a 0).testBit b = b1 at *
  generalize (l.getD a 0).testBit d = b2 at *
  generalize (l.getD b 0).testBit d = b3 at *
  generalize (l.getD b 0).testBit a = b4 at *
  generalize (l.getD a 0).testBit a = b5 at *
  generalize l.getD a 0 = va at *
  generalize l.getD b 0 = vb at *
  go_enter Tryz.func110, Tryz.ntmps110
  go_wp2
  refine wp_region_mix [.slice (some ar) n c, .int .i64 (a : Int), .pointer (some (ar.add a)), .int .u64 (va : Int), .int .i64 (b : Int), .bool b1, .slice (some ar) n c, .int .i64 (a : Int), .pointer (some (ar.add a)), .int .u64 (va : Int), .int .i64 (d : Int), .bool b2, .slice (some ar) n c, .int .i64 (b : Int), .pointer (some (ar.add b)), .int .u64 (vb : Int), .int .i64 (d : Int), .bool b3, .slice (some ar) n c, .int .i64 (b : Int), .pointer (some (ar.add b)), .int .u64 (vb : Int), .int .i64 (a : Int), .bool b4, .bool b1, .bool b2, .bool b3, .bool b4] [15, 16, 17, 18, 19, 20, 21, 22, 23, 24, 25, 26, 27, 28, 29, 30, 31, 32, 33, 34, 35, 36, 37, 38, 11, 12, 13, 14] [2, 3, 5, 8, 9, 11, 14, 15, 17, 20, 21, 23] (fun W => Below w.heap.size w W) (fun W W' => Below W.heap.size W W') 28 83 rfl rfl rfl rfl (by decide) (by decide) (by kernel_rfl) (by kernel_rfl) (by kernel_rfl) (fun W => Below.refl _ W) (fun W1 W2 W3 h1 h2 => h1.trans (h2.mono h1.size)) (fun W W' h h2 => h.trans (h2.mono h.size)) (Below.refl w.heap.size w).drew (by kernel_rfl) [] rfl ?hop ?fin
  case hop =>
    refine (And.intro ?s2 (And.intro ?s3 (And.intro ?s5 (And.intro ?s8 (And.intro ?s9 (And.intro ?s11 (And.intro ?s14 (And.intro ?s15 (And.intro ?s17 (And.intro ?s20 (And.intro ?s21 (And.intro ?s23 trivial))))))))))))
    case s2 =>
      refine And.intro (by rfl) (fun tm W hS hsz hfr hdep K hK => ?_)
      change tm.size = 83 at hsz
      have t15 : tm.getD 15 undef = .slice (some ar) n c := hdep 0 (by rfl) (by decide)
      have t16 : tm.getD 16 undef = .int .i64 (a : Int) := hdep 1 (by rfl) (by decide)
      clear hdep hfr
      go_simp
      exact hK W (Below.refl _ W)
    case s3 =>
      refine And.intro (by rfl) (fun tm W hS hsz hfr hdep K hK => ?_)
      change tm.size = 83 at hsz
      have t17 : tm.getD 17 undef = .pointer (some (ar.add a)) := hdep 2 (by rfl) (by decide)
      have cz := HA.out W hS
      clear hdep hfr
      go_simp
      exact hK W (Below.refl _ W)
    case s5 =>
      refine And.intro (by rfl) (fun tm W hS hsz hfr hdep K hK => ?_)
      change tm.size = 83 at hsz
      have t18 : tm.getD 18 undef = .int .u64 (va : Int) := hdep 3 (by rfl) (by decide)
      have t19 : tm.getD 19 undef = .int .i64 (b : Int) := hdep 4 (by rfl) (by decide)
      clear hdep hfr
      refine wp_call _ _ _ _ _ rfl rfl (by simp [Act.eval, t18, t19]) (by kernel_rfl) (K1.out W) (fun e W9 h9 => ?_)
      obtain ⟨rfl, hb9⟩ := h9
      exact ⟨_, rfl, hK W9 hb9⟩
    case s8 =>
      refine And.intro (by rfl) (fun tm W hS hsz hfr hdep K hK => ?_)
      change tm.size = 83 at hsz
      have t21 : tm.getD 21 undef = .slice (some ar) n c := hdep 6 (by rfl) (by decide)
      have t22 : tm.getD 22 undef = .int .i64 (a : Int) := hdep 7 (by rfl) (by decide)
      clear hdep hfr
      go_simp
      exact hK W (Below.refl _ W)
    case s9 =>
      refine And.intro (by rfl) (fun tm W hS hsz hfr hdep K hK => ?_)
      change tm.size = 83 at hsz
      have t23 : tm.getD 23 undef = .pointer (some (ar.add a)) := hdep 8 (by rfl) (by decide)
      have cz := HA.out W hS
      clear hdep hfr
      go_simp
      exact hK W (Below.refl _ W)
    case s11 =>
      refine And.intro (by rfl) (fun tm W hS hsz hfr hdep K hK => ?_)
      change tm.size = 83 at hsz
      have t24 : tm.getD 24 undef = .int .u64 (va : Int) := hdep 9 (by rfl) (by decide)
      have t25 : tm.getD 25 undef = .int .i64 (d : Int) := hdep 10 (by rfl) (by decide)
      clear hdep hfr
      refine wp_call _ _ _ _ _ rfl rfl (by simp [Act.eval, t24, t25]) (by kernel_rfl) (K2.out W) (fun e W9 h9 => ?_)
      obtain ⟨rfl, hb9⟩ := h9
      exact ⟨_, rfl, hK W9 hb9⟩
    case s14 =>
      refine And.intro (by rfl) (fun tm W hS hsz hfr hdep K hK => ?_)
      change tm.size = 83 at hsz
      have t27 : tm.getD 27 undef = .slice (some ar) n c := hdep 12 (by rfl) (by decide)
      have t28 : tm.getD 28 undef = .int .i64 (b : Int) := hdep 13 (by rfl) (by decide)
      clear hdep hfr
      go_simp
      exact hK W (Below.refl _ W)
    case s15 =>
      refine And.intro (by rfl) (fun tm W hS hsz hfr hdep K hK => ?_)
      change tm.size = 83 at hsz
      have t29 : tm.getD 29 undef = .pointer (some (ar.add b)) := hdep 14 (by rfl) (by decide)
      have cz := HB.out W hS
      clear hdep hfr
      go_simp
      exact hK W (Below.refl _ W)
    case s17 =>
      refine And.intro (by rfl) (fun tm W hS hsz hfr hdep K hK => ?_)
      change tm.size = 83 at hsz
      have t30 : tm.getD 30 undef = .int .u64 (vb : Int) := hdep 15 (by rfl) (by decide)
      have t31 : tm.getD 31 undef = .int .i64 (d : Int) := hdep 16 (by rfl) (by decide)
      clear hdep hfr
      refine wp_call _ _ _ _ _ rfl rfl (by simp [Act.eval, t30, t31]) (by kernel_rfl) (K3.out W) (fun e W9 h9 => ?_)
      obtain ⟨rfl, hb9⟩ := h9
      exact ⟨_, rfl, hK W9 hb9⟩
    case s20 =>
      refine And.intro (by rfl) (fun tm W hS hsz hfr hdep K hK => ?_)
      change tm.size = 83 at hsz
      have t33 : tm.getD 33 undef = .slice (some ar) n c := hdep 18 (by rfl) (by decide)
      have t34 : tm.getD 34 undef = .int .i64 (b : Int) := hdep 19 (by rfl) (by decide)
      clear hdep hfr
      go_simp
      exact hK W (Below.refl _ W)
    case s21 =>
      refine And.intro (by rfl) (fun tm W hS hsz hfr hdep K hK => ?_)
      change tm.size = 83 at hsz
      have t35 : tm.getD 35 undef = .pointer (some (ar.add b)) := hdep 20 (by rfl) (by decide)
      have cz := HB.out W hS
      clear hdep hfr
      go_simp
      exact hK W (Below.refl _ W)
    case s23 =>
      refine And.intro (by rfl) (fun tm W hS hsz hfr hdep K hK => ?_)
      change tm.size = 83 at hsz
      have t36 : tm.getD 36 undef = .int .u64 (vb : Int) := hdep 21 (by rfl) (by decide)
      have t37 : tm.getD 37 undef = .int .i64 (a : Int) := hdep 22 (by rfl) (by decide)
      clear hdep hfr
      refine wp_call _ _ _ _ _ rfl rfl (by simp [Act.eval, t36, t37]) (by kernel_rfl) (K4.out W) (fun e W9 h9 => ?_)
      obtain ⟨rfl, hb9⟩ := h9
      exact ⟨_, rfl, hK W9 hb9⟩
  case fin =>
    intro W hS
    have HS := Lib.hid hS
    clear hS
    simp only [fillD]
    go_simp
    cases b1 <;> (go_wp2; go_ret; exact ⟨rfl, HS.out⟩)
set_option maxHeartbeats 8000000 in
theorem shows4_any (l : List Nat) (A : Option Addr) (n c a b d : Nat) (w : World) (hR : Reads w w.heap.size 1 A n (us l)) (hw : Words l) (hn : n ≤ 64) (ha : a < n) (hb : b < n) (hd : d < n) :
    Calls Tryz.prog 110 #[.slice A n c, .int .i64 4, .int .i64 (a : Int), .int .i64 (b : Int), .int .i64 (d : Int)] w fun e w' => e = .returned (.bool (shD 4 l a b d)) ∧ Below w.heap.size w w' := by
  obtain ⟨ar, hA, hbl, hca⟩ := hR.word_k ha
  obtain ⟨ar2, hA2, _, hcb⟩ := hR.word_k hb
  subst hA
  injection hA2 with hA2
  subst hA2
  have hwa : l.getD a 0 < 18446744073709551616 := word_of hw a
  have hwb : l.getD b 0 < 18446744073709551616 := word_of hw b
  have HA := Lib.hid (fun W (h : Below w.heap.size w W) => (h.cell (p := ar.add a) (by rw [block_of_add]; exact hbl)).trans hca)
  have HB := Lib.hid (fun W (h : Below w.heap.size w W) => (h.cell (p := ar.add b) (by rw [block_of_add]; exact hbl)).trans hcb)
  have K1 := Lib.hid (fun W => (in_any (l.getD a 0) b W hwa (by omega)).mono fun e w' h => show e = _ ∧ Below W.heap.size W w' from ⟨h.1, by rw [← h.2]; exact Below.refl _ _⟩)
  have K2 := Lib.hid (fun W => (in_any (l.getD a 0) d W hwa (by omega)).mono fun e w' h => show e = _ ∧ Below W.heap.size W w' from ⟨h.1, by rw [← h.2]; exact Below.refl _ _⟩)
  have K3 := Lib.hid (fun W => (in_any (l.getD b 0) d W hwb (by omega)).mono fun e w' h => show e = _ ∧ Below W.heap.size W w' from ⟨h.1, by rw [← h.2]; exact Below.refl _ _⟩)
  have K4 := Lib.hid (fun W => (in_any (l.getD b 0) a W hwb (by omega)).mono fun e w' h => show e = _ ∧ Below W.heap.size W w' from ⟨h.1, by rw [← h.2]; exact Below.refl _ _⟩)
  have K5 := Lib.hid (fun W => (in_any (l.getD a 0) a W hwa (by omega)).mono fun e w' h => show e = _ ∧ Below W.heap.size W w' from ⟨h.1, by rw [← h.2]; exact Below.refl _ _⟩)
  have e : shD 4 l a b d = ((l.getD a 0).testBit b && (l.getD b 0).testBit d && !(l.getD a 0).testBit d) := rfl
  rw [e]
  clear e hR hw hwa hwb hca hcb
  generalize (l.getD a 0).testBit b = b1 at *
  generalize (l.getD a 0).testBit d = b2 at *
  generalize (l.getD b 0).testBit d = b3 at *
  generalize (l.getD b 0).testBit a = b4 at *
  generalize (l.getD a 0).testBit a = b5 at *
  generalize l.getD a 0 = va at *
  generalize l.getD b 0 = vb at *
  go_enter Tryz.func110, Tryz.ntmps110
  go_wp2
  refine wp_region_mix [.slice (some ar) n c, .int .i64 (a : Int), .pointer (some (ar.add a)), .int .u64 (va : Int), .int .i64 (b : Int), .bool b1, .slice (some ar) n c, .int .i64 (a : Int), .pointer (some (ar.add a)), .int .u64 (va : Int), .int .i64 (d : Int), .bool b2, .slice (some ar) n c, .int .i64 (b : Int), .pointer (some (ar.add b)), .int .u64 (vb : Int), .int .i64 (d : Int), .bool b3, .slice (some ar) n c, .int .i64 (b : Int), .pointer (some (ar.add b)), .int .u64 (vb : Int), .int .i64 (a : Int), .bool b4, .bool b1, .bool b2, .bool b3, .bool b4] [15, 16, 17, 18, 19, 20, 21, 22, 23, 24, 25, 26, 27, 28, 29, 30, 31, 32, 33, 34, 35, 36, 37, 38, 11, 12, 13, 14] [2, 3, 5, 8, 9, 11, 14, 15, 17, 20, 21, 23] (fun W => Below w.heap.size w W) (fun W W' => Below W.heap.size W W') 28 83 rfl rfl rfl rfl (by decide) (by decide) (by kernel_rfl) (by kernel_rfl) (by kernel_rfl) (fun W => Below.refl _ W) (fun W1 W2 W3 h1 h2 => h1.trans (h2.mono h1.size)) (fun W W' h h2 => h.trans (h2.mono h.size)) (Below.refl w.heap.size w).drew (by kernel_rfl) [] rfl ?hop ?fin
  case hop =>
    refine (And.intro ?s2 (And.intro ?s3 (And.intro ?s5 (And.intro ?s8 (And.intro ?s9 (And.intro ?s11 (And.intro ?s14 (And.intro ?s15 (And.intro ?s17 (And.intro ?s20 (And.intro ?s21 (And.intro ?s23 trivial))))))))))))
    case s2 =>
      refine And.intro (by rfl) (fun tm W hS hsz hfr hdep K hK => ?_)
      change tm.size = 83 at hsz
      have t15 : tm.getD 15 undef = .slice (some ar) n c := hdep 0 (by rfl) (by decide)
      have t16 : tm.getD 16 undef = .int .i64 (a : Int) := hdep 1 (by rfl) (by decide)
      clear hdep hfr
      go_simp
      exact hK W (Below.refl _ W)
    case s3 =>
      refine And.intro (by rfl) (fun tm W hS hsz hfr hdep K hK => ?_)
      change tm.size = 83 at hsz
      have t17 : tm.getD 17 undef = .pointer (some (ar.add a)) := hdep 2 (by rfl) (by decide)
      have cz := HA.out W hS
      clear hdep hfr
      go_simp
      exact hK W (Below.refl _ W)
    case s5 =>
      refine And.intro (by rfl) (fun tm W hS hsz hfr hdep K hK => ?_)
      change tm.size = 83 at hsz
      have t18 : tm.getD 18 undef = .int .u64 (va : Int) := hdep 3 (by rfl) (by decide)
      have t19 : tm.getD 19 undef = .int .i64 (b : Int) := hdep 4 (by rfl) (by decide)
      clear hdep hfr
      refine wp_call _ _ _ _ _ rfl rfl (by simp [Act.eval, t18, t19]) (by kernel_rfl) (K1.out W) (fun e W9 h9 => ?_)
      obtain ⟨rfl, hb9⟩ := h9
      exact ⟨_, rfl, hK W9 hb9⟩
    case s8 =>
      refine And.intro (by rfl) (fun tm W hS hsz hfr hdep K hK => ?_)
      change tm.size = 83 at hsz
      have t21 : tm.getD 21 undef = .slice (some ar) n c := hdep 6 (by rfl) (by decide)
      have t22 : tm.getD 22 undef = .int .i64 (a : Int) := hdep 7 (by rfl) (by decide)
      clear hdep hfr
      go_simp
      exact hK W (Below.refl _ W)
    case s9 =>
      refine And.intro (by rfl) (fun tm W hS hsz hfr hdep K hK => ?_)
      change tm.size = 83 at hsz
      have t23 : tm.getD 23 undef = .pointer (some (ar.add a)) := hdep 8 (by rfl) (by decide)
      have cz := HA.out W hS
      clear hdep hfr
      go_simp
      exact hK W (Below.refl _ W)
    case s11 =>
      refine And.intro (by rfl) (fun tm W hS hsz hfr hdep K hK => ?_)
      change tm.size = 83 at hsz
      have t24 : tm.getD 24 undef = .int .u64 (va : Int) := hdep 9 (by rfl) (by decide)
      have t25 : tm.getD 25 undef = .int .i64 (d : Int) := hdep 10 (by rfl) (by decide)
      clear hdep hfr
      refine wp_call _ _ _ _ _ rfl rfl (by simp [Act.eval, t24, t25]) (by kernel_rfl) (K2.out W) (fun e W9 h9 => ?_)
      obtain ⟨rfl, hb9⟩ := h9
      exact ⟨_, rfl, hK W9 hb9⟩
    case s14 =>
      refine And.intro (by rfl) (fun tm W hS hsz hfr hdep K hK => ?_)
      change tm.size = 83 at hsz
      have t27 : tm.getD 27 undef = .slice (some ar) n c := hdep 12 (by rfl) (by decide)
      have t28 : tm.getD 28 undef = .int .i64 (b : Int) := hdep 13 (by rfl) (by decide)
      clear hdep hfr
      go_simp
      exact hK W (Below.refl _ W)
    case s15 =>
      refine And.intro (by rfl) (fun tm W hS hsz hfr hdep K hK => ?_)
      change tm.size = 83 at hsz
      have t29 : tm.getD 29 undef = .pointer (some (ar.add b)) := hdep 14 (by rfl) (by decide)
      have cz := HB.out W hS
      clear hdep hfr
      go_simp
      exact hK W (Below.refl _ W)
    case s17 =>
      refine And.intro (by rfl) (fun tm W hS hsz hfr hdep K hK => ?_)
      change tm.size = 83 at hsz
      have t30 : tm.getD 30 undef = .int .u64 (vb : Int) := hdep 15 (by rfl) (by decide)
      have t31 : tm.getD 31 undef = .int .i64 (d : Int) := hdep 16 (by rfl) (by decide)
      clear hdep hfr
      refine wp_call _ _ _ _ _ rfl rfl (by simp [Act.eval, t30, t31]) (by kernel_rfl) (K3.out W) (fun e W9 h9 => ?_)
      obtain ⟨rfl, hb9⟩ := h9
      exact ⟨_, rfl, hK W9 hb9⟩
    case s20 =>
      refine And.intro (by rfl) (fun tm W hS hsz hfr hdep K hK => ?_)
      change tm.size = 83 at hsz
      have t33 : tm.getD 33 undef = .slice (some ar) n c := hdep 18 (by rfl) (by decide)
      have t34 : tm.getD 34 undef = .int .i64 (b : Int) := hdep 19 (by rfl) (by decide)
      clear hdep hfr
      go_simp
      exact hK W (Below.refl _ W)
    case s21 =>
      refine And.intro (by rfl) (fun tm W hS hsz hfr hdep K hK => ?_)
      change tm.size = 83 at hsz
      have t35 : tm.getD 35 undef = .pointer (some (ar.add b)) := hdep 20 (by rfl) (by decide)
      have cz := HB.out W hS
      clear hdep hfr
      go_simp
      exact hK W (Below.refl _ W)
    case s23 =>
      refine And.intro (by rfl) (fun tm W hS hsz hfr hdep K hK => ?_)
      change tm.size = 83 at hsz
      have t36 : tm.getD 36 undef = .int .u64 (vb : Int) := hdep 21 (by rfl) (by decide)
      have t37 : tm.getD 37 undef = .int .i64 (a : Int) := hdep 22 (by rfl) (by decide)
      clear hdep hfr
      refine wp_call _ _ _ _ _ rfl rfl (by simp [Act.eval, t36, t37]) (by kernel_rfl) (K4.out W) (fun e W9 h9 => ?_)
      obtain ⟨rfl, hb9⟩ := h9
      exact ⟨_, rfl, hK W9 hb9⟩
  case fin =>
    intro W hS
    have HS := Lib.hid hS
    clear hS
    simp only [fillD]
    go_simp
    cases b1 <;> cases b3 <;> (go_wp2; go_ret; exact ⟨rfl, HS.out⟩)
set_option maxHeartbeats 8000000 in
theorem shows5_any (l : List Nat) (A : Option Addr) (n c a b d : Nat) (w : World) (hR : Reads w w.heap.size 1 A n (us l)) (hw : Words l) (hn : n ≤ 64) (ha : a < n) (hb : b < n) (hd : d < n) :
    Calls Tryz.prog 110 #[.slice A n c, .int .i64 5, .int .i64 (a : Int), .int .i64 (b : Int), .int .i64 (d : Int)] w fun e w' => e = .returned (.bool (shD 5 l a b d)) ∧ Below w.heap.size w w' := by
  obtain ⟨ar, hA, hbl, hca⟩ := hR.word_k ha
  obtain ⟨ar2, hA2, _, hcb⟩ := hR.word_k hb
  subst hA
  injection hA2 with hA2
  subst hA2
  have hwa : l.getD a 0 < 18446744073709551616 := word_of hw a
  have hwb : l.getD b 0 < 18446744073709551616 := word_of hw b
  have HA := Lib.hid (fun W (h : Below w.heap.size w W) => (h.cell (p := ar.add a) (by rw [block_of_add]; exact hbl)).trans hca)
  have HB := Lib.hid (fun W (h : Below w.heap.size w W) => (h.cell (p := ar.add b) (by rw [block_of_add]; exact hbl)).trans hcb)
  have K1 := Lib.hid (fun W => (in_any (l.getD a 0) b W hwa (by omega)).mono fun e w' h => show e = _ ∧ Below W.heap.size W w' from ⟨h.1, by rw [← h.2]; exact Below.refl _ _⟩)
  have K2 := Lib.hid (fun W => (in_any (l.getD a 0) d W hwa (by omega)).mono fun e w' h => show e = _ ∧ Below W.heap.size W w' from ⟨h.1, by rw [← h.2]; exact Below.refl _ _⟩)
  have K3 := Lib.hid (fun W => (in_any (l.getD b 0) d W hwb (by omega)).mono fun e w' h => show e = _ ∧ Below W.heap.size W w' from ⟨h.1, by rw [← h.2]; exact Below.refl _ _⟩)
  have K4 := Lib.hid (fun W => (in_any (l.getD b 0) a W hwb (by omega)).mono fun e w' h => show e = _ ∧ Below W.heap.size W w' from ⟨h.1, by rw [← h.2]; exact Below.refl _ _⟩)
  have K5 := Lib.hid (fun W => (in_any (l.getD a 0) a W hwa (by omega)).mono fun e w' h => show e = _ ∧ Below W.heap.size W w' from ⟨h.1, by rw [← h.2]; exact Below.refl _ _⟩)
  have e : shD 5 l a b d = ((l.getD a 0).testBit b && (l.getD a 0).testBit d && !(l.getD b 0).testBit d) := rfl
  rw [e]
  clear e hR hw hwa hwb hca hcb
  generalize (l.getD a 0).testBit b = b1 at *
  generalize (l.getD a 0).testBit d = b2 at *
  generalize (l.getD b 0).testBit d = b3 at *
  generalize (l.getD b 0).testBit a = b4 at *
  generalize (l.getD a 0).testBit a = b5 at *
  generalize l.getD a 0 = va at *
  generalize l.getD b 0 = vb at *
  go_enter Tryz.func110, Tryz.ntmps110
  go_wp2
  refine wp_region_mix [.slice (some ar) n c, .int .i64 (a : Int), .pointer (some (ar.add a)), .int .u64 (va : Int), .int .i64 (b : Int), .bool b1, .slice (some ar) n c, .int .i64 (a : Int), .pointer (some (ar.add a)), .int .u64 (va : Int), .int .i64 (d : Int), .bool b2, .slice (some ar) n c, .int .i64 (b : Int), .pointer (some (ar.add b)), .int .u64 (vb : Int), .int .i64 (d : Int), .bool b3, .slice (some ar) n c, .int .i64 (b : Int), .pointer (some (ar.add b)), .int .u64 (vb : Int), .int .i64 (a : Int), .bool b4, .bool b1, .bool b2, .bool b3, .bool b4] [15, 16, 17, 18, 19, 20, 21, 22, 23, 24, 25, 26, 27, 28, 29, 30, 31, 32, 33, 34, 35, 36, 37, 38, 11, 12, 13, 14] [2, 3, 5, 8, 9, 11, 14, 15, 17, 20, 21, 23] (fun W => Below w.heap.size w W) (fun W W' => Below W.heap.size W W') 28 83 rfl rfl rfl rfl (by decide) (by decide) (by kernel_rfl) (by kernel_rfl) (by kernel_rfl) (fun W => Below.refl _ W) (fun W1 W2 W3 h1 h2 => h1.trans (h2.mono h1.size)) (fun W W' h h2 => h.trans (h2.mono h.size)) (Below.refl w.heap.size w).drew (by kernel_rfl) [] rfl ?hop ?fin
  case hop =>
    refine (And.intro ?s2 (And.intro ?s3 (And.intro ?s5 (And.intro ?s8 (And.intro ?s9 (And.intro ?s11 (And.intro ?s14 (And.intro ?s15 (And.intro ?s17 (And.intro ?s20 (And.intro ?s21 (And.intro ?s23 trivial))))))))))))
    case s2 =>
      refine And.intro (by rfl) (fun tm W hS hsz hfr hdep K hK => ?_)
      change tm.size = 83 at hsz
      have t15 : tm.getD 15 undef = .slice (some ar) n c := hdep 0 (by rfl) (by decide)
      have t16 : tm.getD 16 undef = .int .i64 (a : Int) := hdep 1 (by rfl) (by decide)
      clear hdep hfr
      go_simp
      exact hK W (Below.refl _ W)
    case s3 =>
      refine And.intro (by rfl) (fun tm W hS hsz hfr hdep K hK => ?_)
      change tm.size = 83 at hsz
      have t17 : tm.getD 17 undef = .pointer (some (ar.add a)) := hdep 2 (by rfl) (by decide)
      have cz := HA.out W hS
      clear hdep hfr
      go_simp
      exact hK W (Below.refl _ W)
    case s5 =>
      refine And.intro (by rfl) (fun tm W hS hsz hfr hdep K hK => ?_)
      change tm.size = 83 at hsz
      have t18 : tm.getD 18 undef = .int .u64 (va : Int) := hdep 3 (by rfl) (by decide)
      have t19 : tm.getD 19 undef = .int .i64 (b : Int) := hdep 4 (by rfl) (by decide)
      clear hdep hfr
      refine wp_call _ _ _ _ _ rfl rfl (by simp [Act.eval, t18, t19]) (by kernel_rfl) (K1.out W) (fun e W9 h9 => ?_)
      obtain ⟨rfl, hb9⟩ := h9
      exact ⟨_, rfl, hK W9 hb9⟩
    case s8 =>
      refine And.intro (by rfl) (fun tm W hS hsz hfr hdep K hK => ?_)
      change tm.size = 83 at hsz
      have t21 : tm.getD 21 undef = .slice (some ar) n c := hdep 6 (by rfl) (by decide)
      have t22 : tm.getD 22 undef = .int .i64 (a : Int) := hdep 7 (by rfl) (by decide)
      clear hdep hfr
      go_simp
      exact hK W (Below.refl _ W)
    case s9 =>
      refine And.intro (by rfl) (fun tm W hS hsz hfr hdep K hK => ?_)
      change tm.size = 83 at hsz
      have t23 : tm.getD 23 undef = .pointer (some (ar.add a)) := hdep 8 (by rfl) (by decide)
      have cz := HA.out W hS
      clear hdep hfr
      go_simp
      exact hK W (Below.refl _ W)
    case s11 =>
      refine And.intro (by rfl) (fun tm W hS hsz hfr hdep K hK => ?_)
      change tm.size = 83 at hsz
      have t24 : tm.getD 24 undef = .int .u64 (va : Int) := hdep 9 (by rfl) (by decide)
      have t25 : tm.getD 25 undef = .int .i64 (d : Int) := hdep 10 (by rfl) (by decide)
      clear hdep hfr
      refine wp_call _ _ _ _ _ rfl rfl (by simp [Act.eval, t24, t25]) (by kernel_rfl) (K2.out W) (fun e W9 h9 => ?_)
      obtain ⟨rfl, hb9⟩ := h9
      exact ⟨_, rfl, hK W9 hb9⟩
    case s14 =>
      refine And.intro (by rfl) (fun tm W hS hsz hfr hdep K hK => ?_)
      change tm.size = 83 at hsz
      have t27 : tm.getD 27 undef = .slice (some ar) n c := hdep 12 (by rfl) (by decide)
      have t28 : tm.getD 28 undef = .int .i64 (b : Int) := hdep 13 (by rfl) (by decide)
      clear hdep hfr
      go_simp
      exact hK W (Below.refl _ W)
    case s15 =>
      refine And.intro (by rfl) (fun tm W hS hsz hfr hdep K hK => ?_)
      change tm.size = 83 at hsz
      have t29 : tm.getD 29 undef = .pointer (some (ar.add b)) := hdep 14 (by rfl) (by decide)
      have cz := HB.out W hS
      clear hdep hfr
      go_simp
      exact hK W (Below.refl _ W)
    case s17 =>
      refine And.intro (by rfl) (fun tm W hS hsz hfr hdep K hK => ?_)
      change tm.size = 83 at hsz
      have t30 : tm.getD 30 undef = .int .u64 (vb : Int) := hdep 15 (by rfl) (by decide)
      have t31 : tm.getD 31 undef = .int .i64 (d : Int) := hdep 16 (by rfl) (by decide)
      clear hdep hfr
      refine wp_call _ _ _ _ _ rfl rfl (by simp [Act.eval, t30, t31]) (by kernel_rfl) (K3.out W) (fun e W9 h9 => ?_)
      obtain ⟨rfl, hb9⟩ := h9
      exact ⟨_, rfl, hK W9 hb9⟩
    case s20 =>
      refine And.intro (by rfl) (fun tm W hS hsz hfr hdep K hK => ?_)
      change tm.size = 83 at hsz
      have t33 : tm.getD 33 undef = .slice (some ar) n c := hdep 18 (by rfl) (by decide)
      have t34 : tm.getD 34 undef = .int .i64 (b : Int) := hdep 19 (by rfl) (by decide)
      clear hdep hfr
      go_simp
      exact hK W (Below.refl _ W)
    case s21 =>
      refine And.intro (by rfl) (fun tm W hS hsz hfr hdep K hK => ?_)
      change tm.size = 83 at hsz
      have t35 : tm.getD 35 undef = .pointer (some (ar.add b)) := hdep 20 (by rfl) (by decide)
      have cz := HB.out W hS
      clear hdep hfr
      go_simp
      exact hK W (Below.refl _ W)
    case s23 =>
      refine And.intro (by rfl) (fun tm W hS hsz hfr hdep K hK => ?_)
      change tm.size = 83 at hsz
      have t36 : tm.getD 36 undef = .int .u64 (vb : Int) := hdep 21 (by rfl) (by decide)
      have t37 : tm.getD 37 undef = .int .i64 (a : Int) := hdep 22 (by rfl) (by decide)
      clear hdep hfr
      refine wp_call _ _ _ _ _ rfl rfl (by simp [Act.eval, t36, t37]) (by kernel_rfl) (K4.out W) (fun e W9 h9 => ?_)
      obtain ⟨rfl, hb9⟩ := h9
      exact ⟨_, rfl, hK W9 hb9⟩
  case fin =>
    intro W hS
    have HS := Lib.hid hS
    clear hS
    simp only [fillD]
    go_simp
    cases b1 <;> cases b2 <;> (go_wp2; go_ret; exact ⟨rfl, HS.out⟩)
theorem rShows_any (p : Int) (hp : 1 ≤ p ∧ p ≤ 5) (l : List Nat) (A : Option Addr) (n c a b d : Nat) (w : World) (hR : Reads w w.heap.size 1 A n (us l)) (hw : Words l) (hn : n ≤ 64) (ha : a < n) (hb : b < n) (hd : d < n) :
    Calls Tryz.prog 110 #[.slice A n c, .int .i64 p, .int .i64 (a : Int), .int .i64 (b : Int), .int .i64 (d : Int)] w fun e w' => e = .returned (.bool (shD p l a b d)) ∧ Below w.heap.size w w' := by
  have hc : p = 1 ∨ p = 2 ∨ p = 3 ∨ p = 4 ∨ p = 5 := by omega
  rcases hc with rfl | rfl | rfl | rfl | rfl
  · exact shows1_any l A n c a b d w hR hw hn ha hb hd
  · exact shows2_any l A n c a b d w hR hw hn ha hb hd
  · exact shows3_any l A n c a b d w hR hw hn ha hb hd
  · exact shows4_any l A n c a b d w hR hw hn ha hb hd
  · exact shows5_any l A n c a b d w hR hw hn ha hb hd
end Go.Proofs.YtjpmhbnikoggaaaGreatDoor
/- Layer 15: Witness by the reference. -/
namespace Go.Proofs.YtjpmhbnikoggaaaGreatDoor
open Go.RowKit Go.Proofs.Ws
set_option maxRecDepth 100000
/-- all lists of worlds that are less than a number have been tried -/
def TriedN (n : Nat) (p : Int) (l : List Nat) (N : Nat) : Prop := ∀ y, DigL n (lenP p) y → numV n y < N → shB p l y = false
theorem TriedN.zero (n : Nat) (p : Int) (l : List Nat) : TriedN n p l 0 := fun y _ h => absurd h (by omega)
theorem TriedN.step {n : Nat} {p : Int} {l x : List Nat} {N : Nat} (h : TriedN n p l N) (hx : DigL n (lenP p) x) (e : numV n x = N) (hs : shB p l x = false) : TriedN n p l (N + 1) := fun y hy hl => by
  by_cases k : numV n y = N
  · rw [numV_inj y x (by rw [hy.1, hx.1]) hy.2 hx.2 (by omega)]; exact hs
  · exact h y hy (by omega)
theorem TriedN.hit {n : Nat} {p : Int} {l x : List Nat} {N : Nat} (h : TriedN n p l N) (hx : DigL n (lenP p) x) (e : numV n x = N) (hs : shB p l x = true) : WitP n p l x := ⟨hx, hs, fun y hy hys => by
  rcases Nat.lt_or_ge (numV n y) (numV n x) with k | k
  · rw [h y hy (by omega)] at hys; cases hys
  · exact k⟩
theorem TriedN.all {n : Nat} {p : Int} {l : List Nat} {N : Nat} (h : TriedN n p l N) (hN : n ^ lenP p ≤ N) : ∀ y, DigL n (lenP p) y → shB p l y = false := fun y hy => by
  have := numV_lt y hy.2
  rw [hy.1] at this
  exact h y hy (by omega)
def val3 (n a b d : Nat) : Nat := a * (n * n) + b * n + d
def val2 (n a b d : Nat) : Nat := a * n + b + d
def val1 (_n a b d : Nat) : Nat := a + b + d
theorem val3_in (n a b : Nat) : val3 n a b n = val3 n a (b + 1) 0 := by unfold val3; rw [Nat.add_mul, Nat.one_mul]; omega
theorem val3_out (n a : Nat) : val3 n a n 0 = val3 n (a + 1) 0 0 := by unfold val3; rw [Nat.add_mul, Nat.one_mul]; omega
theorem val3_num (n a b d : Nat) : numV n [a, b, d] = val3 n a b d := by
  show a * n ^ 2 + (b * n ^ 1 + (d * n ^ 0 + 0)) = a * (n * n) + b * n + d
  rw [Nat.pow_two, Nat.pow_one, Nat.pow_zero]; omega
theorem val2_in (n a b : Nat) : val2 n a b 1 = val2 n a (b + 1) 0 := by unfold val2; first | done | omega
theorem val2_out (n a : Nat) : val2 n a n 0 = val2 n (a + 1) 0 0 := by unfold val2; rw [Nat.add_mul, Nat.one_mul]
theorem val2_num (n a b : Nat) : numV n [a, b] = val2 n a b 0 := by
  show a * n ^ 1 + (b * n ^ 0 + 0) = a * n + b + 0
  rw [Nat.pow_one, Nat.pow_zero]; omega
theorem val1_in (n a b : Nat) : val1 n a b 1 = val1 n a (b + 1) 0 := by unfold val1; omega
theorem val1_out (n a : Nat) : val1 n a 1 0 = val1 n (a + 1) 0 0 := by unfold val1; omega
theorem val1_num (n a : Nat) : numV n [a] = val1 n a 0 0 := by simp [numV, val1]
/-- what Witness returns -/
def GivesW (p : Int) (l : List Nat) (w : World) (e : Ending) (w' : World) : Prop :=
  ((witO p l = none ∧ e = .returned (.slice none 0 0)) ∨ ∃ g x, witO p l = some x ∧ x.length = lenP p ∧ e = .returned (.slice (some ⟨g, 0, none⟩) (lenP p) 3) ∧ w.heap.size ≤ g ∧ IntB w' g x) ∧ Below w.heap.size w w'
theorem worlds1_any (w : World) : Calls Tryz.prog 47 #[.int .i64 1] w fun e w' => e = .returned (.int .i64 1) ∧ w = w' := by
  go_enter Tryz.func47, Tryz.ntmps47
  go_wp2
  go_ret
  exact ⟨rfl, rfl⟩
set_option maxHeartbeats 16000000 in
theorem witR1_any (l : List Nat) (A : Option Addr) (n c : Nat) (w : World) (hR : Reads w w.heap.size 1 A n (us l)) (hw : Words l) (hn : n ≤ 64) : Calls Tryz.prog 52 #[.slice A n c, .int .i64 1] w (GivesW 1 l w) := by
  unfold GivesW
  have hl := hR.word_len
  have HWO := Lib.hid (fun W => worlds1_any W)
  have HS := Lib.hid (fun W (h : Below w.heap.size w W) (a b d : Nat) (ha : a < n) (hb : b < n) (hd : d < n) => rShows_any 1 (by decide) l A n c a b d W ((hR.below h).more h.size) hw hn ha hb hd)
  have HHIT : Hid (∀ x, WitP n 1 l x → witO 1 l = some x) := Lib.hid (fun x hx => witO_some (by rw [hl]; exact hx))
  have HALL : Hid (TriedN n 1 l (val1 n n 0 0) → witO 1 l = none) := Lib.hid (fun h => witO_none (by
    rw [hl]
    refine h.all ?_
    show n ^ 1 ≤ val1 n n 0 0
    unfold val1
    rw [Nat.pow_one]; omega))
  clear hR hw hl
  go_enter Tryz.func52, Tryz.ntmps52
  go_wp2_with fail
  refine (HWO.out _).mono ?_
  rintro e w1 ⟨rfl, rfl⟩
  go_wp2
  go_loopw [6, 7, 8] (fun i _ _ wr => ∃ a : Nat, a ≤ n ∧ i = .int .i64 (a : Int) ∧ Hid (TriedN n 1 l (val1 n a 0 0)) ∧ Hid (Below w.heap.size w wr)) (fun i _ _ _ => n - (intOf i).toNat)
  case atStart => exact ⟨0, Nat.zero_le _, rfl, Lib.hid (by have h := TriedN.zero n 1 l; have e : val1 n 0 0 0 = 0 := by unfold val1; simp
                                                            rw [e]; exact h), Lib.hid (Below.refl _ _)⟩
  case round =>
    obtain ⟨a, ha, rfl, HTa, HBa⟩ := hrel
    by_cases hla : a < n
    · go_wp2
      go_loopw [7, 8] (fun i _ wr => ∃ b : Nat, b ≤ 1 ∧ i = .int .i64 (b : Int) ∧ Hid (TriedN n 1 l (val1 n a b 0)) ∧ Hid (Below w.heap.size w wr)) (fun i _ _ => 1 - (intOf i).toNat)
      case atStart => exact ⟨0, Nat.zero_le _, rfl, HTa, HBa⟩
      case round =>
        obtain ⟨b, hb, rfl, HTb, HBb⟩ := hrel
        by_cases hlb2 : b < 1
        · have hlb : b < n := by omega
          have kb : decide ((b : Int) < (n : Int)) = true := decide_eq_true (by omega)
          obtain ⟨zb, hzb⟩ : ∃ z, ((b : Int) == 0) = z := ⟨_, rfl⟩
          obtain rfl : zb = true := hzb.symm.trans (by rw [beq_iff_eq]; omega)
          go_wp2
          go_loopw [8] (fun i wr => ∃ d : Nat, d ≤ 1 ∧ i = .int .i64 (d : Int) ∧ Hid (TriedN n 1 l (val1 n a b d)) ∧ Hid (Below w.heap.size w wr)) (fun i _ => 1 - (intOf i).toNat)
          case atStart => exact ⟨0, Nat.zero_le _, rfl, HTb, HBb⟩
          case round =>
            obtain ⟨d, hd, rfl, HTd, HBd⟩ := hrel
            by_cases hld2 : d < 1
            · have hld : d < n := by omega
              have kd : decide ((d : Int) < (n : Int)) = true := decide_eq_true (by omega)
              have hdg : DigL n (lenP 1) [a] := (dig1 hla)
              have hnm : numV n [a] = val1 n a b d := by rw [val1_num]; unfold val1; omega
              have HSH := Lib.hid (HS.out wr HBd.out a b d hla hlb hld)
              have HHT : Hid (shD 1 l a b d = true → witO 1 l = some [a]) := Lib.hid (fun h => HHIT.out _ (HTd.out.hit hdg hnm h))
              have HNX : Hid (shD 1 l a b d = false → TriedN n 1 l (val1 n a b (d + 1))) := Lib.hid (fun h => HTd.out.step hdg hnm h)
              clear hdg hnm
              generalize shD 1 l a b d = s at *
              obtain ⟨zd, hzd⟩ : ∃ z, ((d : Int) == 0) = z := ⟨_, rfl⟩
              obtain rfl : zd = true := hzd.symm.trans (by rw [beq_iff_eq]; omega)
              go_wp2_with fail
              refine (HSH.out).mono ?_
              rintro e w4 ⟨rfl, hb⟩
              have HB4 := Lib.hid (HBd.out.trans (hb.mono HBd.out.size))
              clear hb
              cases s with
              | true =>
                have HK := Lib.hid (heap_alloc_new w4 (.cells #[.int .i64 (a : Int), .int .i64 (b : Int), .int .i64 (d : Int)] 3))
                have HBK := Lib.hid (HB4.out.alloc HB4.out.size (.cells #[.int .i64 (a : Int), .int .i64 (b : Int), .int .i64 (d : Int)] 3))
                have HWX := Lib.hid (HHT.out rfl)
                go_wp2
                go_ret
                exact ⟨.inr ⟨w4.heap.size, [a], HWX.out, rfl, rfl, HB4.out.size, [.int .i64 (b : Int), .int .i64 (d : Int)], HK.out⟩, HBK.out⟩
              | false =>
                have HN := Lib.hid (HNX.out rfl)
                go_wp2
                go_roundw
                case rel => exact ⟨d + 1, by omega, by go_num, HN, HB4⟩
                case measure => first | (simp [intOf]; done) | (simp [intOf]; omega)
            · obtain rfl : d = 1 := by omega
              have HEB : Hid (TriedN n 1 l (val1 n a (b + 1) 0)) := Lib.hid (by have h := HTd.out; rwa [val1_in] at h)
              by_cases hn1 : 1 < n
              · have kd : decide ((1 : Int) < (n : Int)) = true := decide_eq_true (by omega)
                go_wp2
                go_roundw
                case rel => exact ⟨b + 1, by omega, by go_num, HEB, HBd⟩
                case measure => first | (simp [intOf]; done) | (simp [intOf]; omega)
              · have kd : decide ((1 : Int) < (n : Int)) = false := decide_eq_false (by omega)
                go_wp2
                go_roundw
                case rel => exact ⟨b + 1, by omega, by go_num, HEB, HBd⟩
                case measure => first | (simp [intOf]; done) | (simp [intOf]; omega)
        · obtain rfl : b = 1 := by omega
          have HEA : Hid (TriedN n 1 l (val1 n (a + 1) 0 0)) := Lib.hid (by have h := HTb.out; rwa [val1_out] at h)
          by_cases hn1 : 1 < n
          · have kb : decide ((1 : Int) < (n : Int)) = true := decide_eq_true (by omega)
            go_wp2
            go_roundw
            case rel => exact ⟨a + 1, by omega, by go_num, HEA, HBb⟩
            case measure => first | (simp [intOf]; done) | (simp [intOf]; omega)
          · have kb : decide ((1 : Int) < (n : Int)) = false := decide_eq_false (by omega)
            go_wp2
            go_roundw
            case rel => exact ⟨a + 1, by omega, by go_num, HEA, HBb⟩
            case measure => first | (simp [intOf]; done) | (simp [intOf]; omega)
    · obtain rfl : n = a := by omega
      go_wp2
      go_ret
      exact ⟨.inl ⟨HALL.out HTa.out, rfl⟩, HBa.out⟩
theorem worlds2_any (w : World) : Calls Tryz.prog 47 #[.int .i64 2] w fun e w' => e = .returned (.int .i64 1) ∧ w = w' := by
  go_enter Tryz.func47, Tryz.ntmps47
  go_wp2
  go_ret
  exact ⟨rfl, rfl⟩
set_option maxHeartbeats 16000000 in
theorem witR2_any (l : List Nat) (A : Option Addr) (n c : Nat) (w : World) (hR : Reads w w.heap.size 1 A n (us l)) (hw : Words l) (hn : n ≤ 64) : Calls Tryz.prog 52 #[.slice A n c, .int .i64 2] w (GivesW 2 l w) := by
  unfold GivesW
  have hl := hR.word_len
  have HWO := Lib.hid (fun W => worlds2_any W)
  have HS := Lib.hid (fun W (h : Below w.heap.size w W) (a b d : Nat) (ha : a < n) (hb : b < n) (hd : d < n) => rShows_any 2 (by decide) l A n c a b d W ((hR.below h).more h.size) hw hn ha hb hd)
  have HHIT : Hid (∀ x, WitP n 2 l x → witO 2 l = some x) := Lib.hid (fun x hx => witO_some (by rw [hl]; exact hx))
  have HALL : Hid (TriedN n 2 l (val1 n n 0 0) → witO 2 l = none) := Lib.hid (fun h => witO_none (by
    rw [hl]
    refine h.all ?_
    show n ^ 1 ≤ val1 n n 0 0
    unfold val1
    rw [Nat.pow_one]; omega))
  clear hR hw hl
  go_enter Tryz.func52, Tryz.ntmps52
  go_wp2_with fail
  refine (HWO.out _).mono ?_
  rintro e w1 ⟨rfl, rfl⟩
  go_wp2
  go_loopw [6, 7, 8] (fun i _ _ wr => ∃ a : Nat, a ≤ n ∧ i = .int .i64 (a : Int) ∧ Hid (TriedN n 2 l (val1 n a 0 0)) ∧ Hid (Below w.heap.size w wr)) (fun i _ _ _ => n - (intOf i).toNat)
  case atStart => exact ⟨0, Nat.zero_le _, rfl, Lib.hid (by have h := TriedN.zero n 2 l; have e : val1 n 0 0 0 = 0 := by unfold val1; simp
                                                            rw [e]; exact h), Lib.hid (Below.refl _ _)⟩
  case round =>
    obtain ⟨a, ha, rfl, HTa, HBa⟩ := hrel
    by_cases hla : a < n
    · go_wp2
      go_loopw [7, 8] (fun i _ wr => ∃ b : Nat, b ≤ 1 ∧ i = .int .i64 (b : Int) ∧ Hid (TriedN n 2 l (val1 n a b 0)) ∧ Hid (Below w.heap.size w wr)) (fun i _ _ => 1 - (intOf i).toNat)
      case atStart => exact ⟨0, Nat.zero_le _, rfl, HTa, HBa⟩
      case round =>
        obtain ⟨b, hb, rfl, HTb, HBb⟩ := hrel
        by_cases hlb2 : b < 1
        · have hlb : b < n := by omega
          have kb : decide ((b : Int) < (n : Int)) = true := decide_eq_true (by omega)
          obtain ⟨zb, hzb⟩ : ∃ z, ((b : Int) == 0) = z := ⟨_, rfl⟩
          obtain rfl : zb = true := hzb.symm.trans (by rw [beq_iff_eq]; omega)
          go_wp2
          go_loopw [8] (fun i wr => ∃ d : Nat, d ≤ 1 ∧ i = .int .i64 (d : Int) ∧ Hid (TriedN n 2 l (val1 n a b d)) ∧ Hid (Below w.heap.size w wr)) (fun i _ => 1 - (intOf i).toNat)
          case atStart => exact ⟨0, Nat.zero_le _, rfl, HTb, HBb⟩
          case round =>
            obtain ⟨d, hd, rfl, HTd, HBd⟩ := hrel
            by_cases hld2 : d < 1
            · have hld : d < n := by omega
              have kd : decide ((d : Int) < (n : Int)) = true := decide_eq_true (by omega)
              have hdg : DigL n (lenP 2) [a] := (dig1 hla)
              have hnm : numV n [a] = val1 n a b d := by rw [val1_num]; unfold val1; omega
              have HSH := Lib.hid (HS.out wr HBd.out a b d hla hlb hld)
              have HHT : Hid (shD 2 l a b d = true → witO 2 l = some [a]) := Lib.hid (fun h => HHIT.out _ (HTd.out.hit hdg hnm h))
              have HNX : Hid (shD 2 l a b d = false → TriedN n 2 l (val1 n a b (d + 1))) := Lib.hid (fun h => HTd.out.step hdg hnm h)
              clear hdg hnm
              generalize shD 2 l a b d = s at *
              obtain ⟨zd, hzd⟩ : ∃ z, ((d : Int) == 0) = z := ⟨_, rfl⟩
              obtain rfl : zd = true := hzd.symm.trans (by rw [beq_iff_eq]; omega)
              go_wp2_with fail
              refine (HSH.out).mono ?_
              rintro e w4 ⟨rfl, hb⟩
              have HB4 := Lib.hid (HBd.out.trans (hb.mono HBd.out.size))
              clear hb
              cases s with
              | true =>
                have HK := Lib.hid (heap_alloc_new w4 (.cells #[.int .i64 (a : Int), .int .i64 (b : Int), .int .i64 (d : Int)] 3))
                have HBK := Lib.hid (HB4.out.alloc HB4.out.size (.cells #[.int .i64 (a : Int), .int .i64 (b : Int), .int .i64 (d : Int)] 3))
                have HWX := Lib.hid (HHT.out rfl)
                go_wp2
                go_ret
                exact ⟨.inr ⟨w4.heap.size, [a], HWX.out, rfl, rfl, HB4.out.size, [.int .i64 (b : Int), .int .i64 (d : Int)], HK.out⟩, HBK.out⟩
              | false =>
                have HN := Lib.hid (HNX.out rfl)
                go_wp2
                go_roundw
                case rel => exact ⟨d + 1, by omega, by go_num, HN, HB4⟩
                case measure => first | (simp [intOf]; done) | (simp [intOf]; omega)
            · obtain rfl : d = 1 := by omega
              have HEB : Hid (TriedN n 2 l (val1 n a (b + 1) 0)) := Lib.hid (by have h := HTd.out; rwa [val1_in] at h)
              by_cases hn1 : 1 < n
              · have kd : decide ((1 : Int) < (n : Int)) = true := decide_eq_true (by omega)
                go_wp2
                go_roundw
                case rel => exact ⟨b + 1, by omega, by go_num, HEB, HBd⟩
                case measure => first | (simp [intOf]; done) | (simp [intOf]; omega)
              · have kd : decide ((1 : Int) < (n : Int)) = false := decide_eq_false (by omega)
                go_wp2
                go_roundw
                case rel => exact ⟨b + 1, by omega, by go_num, HEB, HBd⟩
                case measure => first | (simp [intOf]; done) | (simp [intOf]; omega)
        · obtain rfl : b = 1 := by omega
          have HEA : Hid (TriedN n 2 l (val1 n (a + 1) 0 0)) := Lib.hid (by have h := HTb.out; rwa [val1_out] at h)
          by_cases hn1 : 1 < n
          · have kb : decide ((1 : Int) < (n : Int)) = true := decide_eq_true (by omega)
            go_wp2
            go_roundw
            case rel => exact ⟨a + 1, by omega, by go_num, HEA, HBb⟩
            case measure => first | (simp [intOf]; done) | (simp [intOf]; omega)
          · have kb : decide ((1 : Int) < (n : Int)) = false := decide_eq_false (by omega)
            go_wp2
            go_roundw
            case rel => exact ⟨a + 1, by omega, by go_num, HEA, HBb⟩
            case measure => first | (simp [intOf]; done) | (simp [intOf]; omega)
    · obtain rfl : n = a := by omega
      go_wp2
      go_ret
      exact ⟨.inl ⟨HALL.out HTa.out, rfl⟩, HBa.out⟩
theorem worlds3_any (w : World) : Calls Tryz.prog 47 #[.int .i64 3] w fun e w' => e = .returned (.int .i64 2) ∧ w = w' := by
  go_enter Tryz.func47, Tryz.ntmps47
  go_wp2
  go_ret
  exact ⟨rfl, rfl⟩
set_option maxHeartbeats 16000000 in
theorem witR3_any (l : List Nat) (A : Option Addr) (n c : Nat) (w : World) (hR : Reads w w.heap.size 1 A n (us l)) (hw : Words l) (hn : n ≤ 64) : Calls Tryz.prog 52 #[.slice A n c, .int .i64 3] w (GivesW 3 l w) := by
  unfold GivesW
  have hl := hR.word_len
  have HWO := Lib.hid (fun W => worlds3_any W)
  have HS := Lib.hid (fun W (h : Below w.heap.size w W) (a b d : Nat) (ha : a < n) (hb : b < n) (hd : d < n) => rShows_any 3 (by decide) l A n c a b d W ((hR.below h).more h.size) hw hn ha hb hd)
  have HHIT : Hid (∀ x, WitP n 3 l x → witO 3 l = some x) := Lib.hid (fun x hx => witO_some (by rw [hl]; exact hx))
  have HALL : Hid (TriedN n 3 l (val2 n n 0 0) → witO 3 l = none) := Lib.hid (fun h => witO_none (by
    rw [hl]
    refine h.all ?_
    show n ^ 2 ≤ val2 n n 0 0
    unfold val2
    rw [Nat.pow_two]; omega))
  clear hR hw hl
  go_enter Tryz.func52, Tryz.ntmps52
  go_wp2_with fail
  refine (HWO.out _).mono ?_
  rintro e w1 ⟨rfl, rfl⟩
  go_wp2
  go_loopw [6, 7, 8] (fun i _ _ wr => ∃ a : Nat, a ≤ n ∧ i = .int .i64 (a : Int) ∧ Hid (TriedN n 3 l (val2 n a 0 0)) ∧ Hid (Below w.heap.size w wr)) (fun i _ _ _ => n - (intOf i).toNat)
  case atStart => exact ⟨0, Nat.zero_le _, rfl, Lib.hid (by have h := TriedN.zero n 3 l; have e : val2 n 0 0 0 = 0 := by unfold val2; simp
                                                            rw [e]; exact h), Lib.hid (Below.refl _ _)⟩
  case round =>
    obtain ⟨a, ha, rfl, HTa, HBa⟩ := hrel
    by_cases hla : a < n
    · go_wp2
      go_loopw [7, 8] (fun i _ wr => ∃ b : Nat, b ≤ n ∧ i = .int .i64 (b : Int) ∧ Hid (TriedN n 3 l (val2 n a b 0)) ∧ Hid (Below w.heap.size w wr)) (fun i _ _ => n - (intOf i).toNat)
      case atStart => exact ⟨0, Nat.zero_le _, rfl, HTa, HBa⟩
      case round =>
        obtain ⟨b, hb, rfl, HTb, HBb⟩ := hrel
        by_cases hlb2 : b < n
        · have hlb : b < n := by omega
          have kb : decide ((b : Int) < (n : Int)) = true := decide_eq_true (by omega)
          obtain ⟨zb, hzb⟩ : ∃ z, ((b : Int) == 0) = z := ⟨_, rfl⟩
          cases zb with
          | true =>
            go_wp2
            go_loopw [8] (fun i wr => ∃ d : Nat, d ≤ 1 ∧ i = .int .i64 (d : Int) ∧ Hid (TriedN n 3 l (val2 n a b d)) ∧ Hid (Below w.heap.size w wr)) (fun i _ => 1 - (intOf i).toNat)
            case atStart => exact ⟨0, Nat.zero_le _, rfl, HTb, HBb⟩
            case round =>
              obtain ⟨d, hd, rfl, HTd, HBd⟩ := hrel
              by_cases hld2 : d < 1
              · have hld : d < n := by omega
                have kd : decide ((d : Int) < (n : Int)) = true := decide_eq_true (by omega)
                have hdg : DigL n (lenP 3) [a, b] := (dig2 hla hlb)
                have hnm : numV n [a, b] = val2 n a b d := by rw [val2_num]; unfold val2; omega
                have HSH := Lib.hid (HS.out wr HBd.out a b d hla hlb hld)
                have HHT : Hid (shD 3 l a b d = true → witO 3 l = some [a, b]) := Lib.hid (fun h => HHIT.out _ (HTd.out.hit hdg hnm h))
                have HNX : Hid (shD 3 l a b d = false → TriedN n 3 l (val2 n a b (d + 1))) := Lib.hid (fun h => HTd.out.step hdg hnm h)
                clear hdg hnm
                generalize shD 3 l a b d = s at *
                obtain ⟨zd, hzd⟩ : ∃ z, ((d : Int) == 0) = z := ⟨_, rfl⟩
                obtain rfl : zd = true := hzd.symm.trans (by rw [beq_iff_eq]; omega)
                go_wp2_with fail
                refine (HSH.out).mono ?_
                rintro e w4 ⟨rfl, hb⟩
                have HB4 := Lib.hid (HBd.out.trans (hb.mono HBd.out.size))
                clear hb
                cases s with
                | true =>
                  have HK := Lib.hid (heap_alloc_new w4 (.cells #[.int .i64 (a : Int), .int .i64 (b : Int), .int .i64 (d : Int)] 3))
                  have HBK := Lib.hid (HB4.out.alloc HB4.out.size (.cells #[.int .i64 (a : Int), .int .i64 (b : Int), .int .i64 (d : Int)] 3))
                  have HWX := Lib.hid (HHT.out rfl)
                  go_wp2
                  go_ret
                  exact ⟨.inr ⟨w4.heap.size, [a, b], HWX.out, rfl, rfl, HB4.out.size, [.int .i64 (d : Int)], HK.out⟩, HBK.out⟩
                | false =>
                  have HN := Lib.hid (HNX.out rfl)
                  go_wp2
                  go_roundw
                  case rel => exact ⟨d + 1, by omega, by go_num, HN, HB4⟩
                  case measure => first | (simp [intOf]; done) | (simp [intOf]; omega)
              · obtain rfl : d = 1 := by omega
                have HEB : Hid (TriedN n 3 l (val2 n a (b + 1) 0)) := Lib.hid (by have h := HTd.out; rwa [val2_in] at h)
                by_cases hn1 : 1 < n
                · have kd : decide ((1 : Int) < (n : Int)) = true := decide_eq_true (by omega)
                  go_wp2
                  go_roundw
                  case rel => exact ⟨b + 1, by omega, by go_num, HEB, HBd⟩
                  case measure => first | (simp [intOf]; done) | (simp [intOf]; omega)
                · have kd : decide ((1 : Int) < (n : Int)) = false := decide_eq_false (by omega)
                  go_wp2
                  go_roundw
                  case rel => exact ⟨b + 1, by omega, by go_num, HEB, HBd⟩
                  case measure => first | (simp [intOf]; done) | (simp [intOf]; omega)
          | false =>
            go_wp2
            go_loopw [8] (fun i wr => ∃ d : Nat, d ≤ 1 ∧ i = .int .i64 (d : Int) ∧ Hid (TriedN n 3 l (val2 n a b d)) ∧ Hid (Below w.heap.size w wr)) (fun i _ => 1 - (intOf i).toNat)
            case atStart => exact ⟨0, Nat.zero_le _, rfl, HTb, HBb⟩
            case round =>
              obtain ⟨d, hd, rfl, HTd, HBd⟩ := hrel
              by_cases hld2 : d < 1
              · have hld : d < n := by omega
                have kd : decide ((d : Int) < (n : Int)) = true := decide_eq_true (by omega)
                have hdg : DigL n (lenP 3) [a, b] := (dig2 hla hlb)
                have hnm : numV n [a, b] = val2 n a b d := by rw [val2_num]; unfold val2; omega
                have HSH := Lib.hid (HS.out wr HBd.out a b d hla hlb hld)
                have HHT : Hid (shD 3 l a b d = true → witO 3 l = some [a, b]) := Lib.hid (fun h => HHIT.out _ (HTd.out.hit hdg hnm h))
                have HNX : Hid (shD 3 l a b d = false → TriedN n 3 l (val2 n a b (d + 1))) := Lib.hid (fun h => HTd.out.step hdg hnm h)
                clear hdg hnm
                generalize shD 3 l a b d = s at *
                obtain ⟨zd, hzd⟩ : ∃ z, ((d : Int) == 0) = z := ⟨_, rfl⟩
                obtain rfl : zd = true := hzd.symm.trans (by rw [beq_iff_eq]; omega)
                go_wp2_with fail
                refine (HSH.out).mono ?_
                rintro e w4 ⟨rfl, hb⟩
                have HB4 := Lib.hid (HBd.out.trans (hb.mono HBd.out.size))
                clear hb
                cases s with
                | true =>
                  have HK := Lib.hid (heap_alloc_new w4 (.cells #[.int .i64 (a : Int), .int .i64 (b : Int), .int .i64 (d : Int)] 3))
                  have HBK := Lib.hid (HB4.out.alloc HB4.out.size (.cells #[.int .i64 (a : Int), .int .i64 (b : Int), .int .i64 (d : Int)] 3))
                  have HWX := Lib.hid (HHT.out rfl)
                  go_wp2
                  go_ret
                  exact ⟨.inr ⟨w4.heap.size, [a, b], HWX.out, rfl, rfl, HB4.out.size, [.int .i64 (d : Int)], HK.out⟩, HBK.out⟩
                | false =>
                  have HN := Lib.hid (HNX.out rfl)
                  go_wp2
                  go_roundw
                  case rel => exact ⟨d + 1, by omega, by go_num, HN, HB4⟩
                  case measure => first | (simp [intOf]; done) | (simp [intOf]; omega)
              · obtain rfl : d = 1 := by omega
                have HEB : Hid (TriedN n 3 l (val2 n a (b + 1) 0)) := Lib.hid (by have h := HTd.out; rwa [val2_in] at h)
                by_cases hn1 : 1 < n
                · have kd : decide ((1 : Int) < (n : Int)) = true := decide_eq_true (by omega)
                  go_wp2
                  go_roundw
                  case rel => exact ⟨b + 1, by omega, by go_num, HEB, HBd⟩
                  case measure => first | (simp [intOf]; done) | (simp [intOf]; omega)
                · have kd : decide ((1 : Int) < (n : Int)) = false := decide_eq_false (by omega)
                  go_wp2
                  go_roundw
                  case rel => exact ⟨b + 1, by omega, by go_num, HEB, HBd⟩
                  case measure => first | (simp [intOf]; done) | (simp [intOf]; omega)
        · obtain rfl : n = b := by omega
          have HEA : Hid (TriedN n 3 l (val2 n (a + 1) 0 0)) := Lib.hid (by have h := HTb.out; rwa [val2_out] at h)
          have kb : decide ((n : Int) < (n : Int)) = false := decide_eq_false (by omega)
          go_wp2
          go_roundw
          case rel => exact ⟨a + 1, by omega, by go_num, HEA, HBb⟩
          case measure => first | (simp [intOf]; done) | (simp [intOf]; omega)
    · obtain rfl : n = a := by omega
      go_wp2
      go_ret
      exact ⟨.inl ⟨HALL.out HTa.out, rfl⟩, HBa.out⟩
theorem worlds4_any (w : World) : Calls Tryz.prog 47 #[.int .i64 4] w fun e w' => e = .returned (.int .i64 3) ∧ w = w' := by
  go_enter Tryz.func47, Tryz.ntmps47
  go_wp2
  go_ret
  exact ⟨rfl, rfl⟩
set_option maxHeartbeats 16000000 in
theorem witR4_any (l : List Nat) (A : Option Addr) (n c : Nat) (w : World) (hR : Reads w w.heap.size 1 A n (us l)) (hw : Words l) (hn : n ≤ 64) : Calls Tryz.prog 52 #[.slice A n c, .int .i64 4] w (GivesW 4 l w) := by
  unfold GivesW
  have hl := hR.word_len
  have HWO := Lib.hid (fun W => worlds4_any W)
  have HS := Lib.hid (fun W (h : Below w.heap.size w W) (a b d : Nat) (ha : a < n) (hb : b < n) (hd : d < n) => rShows_any 4 (by decide) l A n c a b d W ((hR.below h).more h.size) hw hn ha hb hd)
  have HHIT : Hid (∀ x, WitP n 4 l x → witO 4 l = some x) := Lib.hid (fun x hx => witO_some (by rw [hl]; exact hx))
  have HALL : Hid (TriedN n 4 l (val3 n n 0 0) → witO 4 l = none) := Lib.hid (fun h => witO_none (by
    rw [hl]
    refine h.all ?_
    show n ^ 3 ≤ val3 n n 0 0
    unfold val3
    rw [Nat.pow_succ, Nat.pow_two, Nat.mul_assoc]; omega))
  clear hR hw hl
  go_enter Tryz.func52, Tryz.ntmps52
  go_wp2_with fail
  refine (HWO.out _).mono ?_
  rintro e w1 ⟨rfl, rfl⟩
  go_wp2
  go_loopw [6, 7, 8] (fun i _ _ wr => ∃ a : Nat, a ≤ n ∧ i = .int .i64 (a : Int) ∧ Hid (TriedN n 4 l (val3 n a 0 0)) ∧ Hid (Below w.heap.size w wr)) (fun i _ _ _ => n - (intOf i).toNat)
  case atStart => exact ⟨0, Nat.zero_le _, rfl, Lib.hid (by have h := TriedN.zero n 4 l; have e : val3 n 0 0 0 = 0 := by unfold val3; simp
                                                            rw [e]; exact h), Lib.hid (Below.refl _ _)⟩
  case round =>
    obtain ⟨a, ha, rfl, HTa, HBa⟩ := hrel
    by_cases hla : a < n
    · go_wp2
      go_loopw [7, 8] (fun i _ wr => ∃ b : Nat, b ≤ n ∧ i = .int .i64 (b : Int) ∧ Hid (TriedN n 4 l (val3 n a b 0)) ∧ Hid (Below w.heap.size w wr)) (fun i _ _ => n - (intOf i).toNat)
      case atStart => exact ⟨0, Nat.zero_le _, rfl, HTa, HBa⟩
      case round =>
        obtain ⟨b, hb, rfl, HTb, HBb⟩ := hrel
        by_cases hlb2 : b < n
        · have hlb : b < n := by omega
          have kb : decide ((b : Int) < (n : Int)) = true := decide_eq_true (by omega)
          obtain ⟨zb, hzb⟩ : ∃ z, ((b : Int) == 0) = z := ⟨_, rfl⟩
          cases zb with
          | true =>
            go_wp2
            go_loopw [8] (fun i wr => ∃ d : Nat, d ≤ n ∧ i = .int .i64 (d : Int) ∧ Hid (TriedN n 4 l (val3 n a b d)) ∧ Hid (Below w.heap.size w wr)) (fun i _ => n - (intOf i).toNat)
            case atStart => exact ⟨0, Nat.zero_le _, rfl, HTb, HBb⟩
            case round =>
              obtain ⟨d, hd, rfl, HTd, HBd⟩ := hrel
              by_cases hld2 : d < n
              · have hld : d < n := by omega
                have kd : decide ((d : Int) < (n : Int)) = true := decide_eq_true (by omega)
                have hdg : DigL n (lenP 4) [a, b, d] := (dig3 hla hlb hld)
                have hnm : numV n [a, b, d] = val3 n a b d := val3_num n a b d
                have HSH := Lib.hid (HS.out wr HBd.out a b d hla hlb hld)
                have HHT : Hid (shD 4 l a b d = true → witO 4 l = some [a, b, d]) := Lib.hid (fun h => HHIT.out _ (HTd.out.hit hdg hnm h))
                have HNX : Hid (shD 4 l a b d = false → TriedN n 4 l (val3 n a b (d + 1))) := Lib.hid (fun h => HTd.out.step hdg hnm h)
                clear hdg hnm
                generalize shD 4 l a b d = s at *
                obtain ⟨zd, hzd⟩ : ∃ z, ((d : Int) == 0) = z := ⟨_, rfl⟩
                cases zd with
                | true =>
                  go_wp2_with fail
                  refine (HSH.out).mono ?_
                  rintro e w4 ⟨rfl, hb⟩
                  have HB4 := Lib.hid (HBd.out.trans (hb.mono HBd.out.size))
                  clear hb
                  cases s with
                  | true =>
                    have HK := Lib.hid (heap_alloc_new w4 (.cells #[.int .i64 (a : Int), .int .i64 (b : Int), .int .i64 (d : Int)] 3))
                    have HBK := Lib.hid (HB4.out.alloc HB4.out.size (.cells #[.int .i64 (a : Int), .int .i64 (b : Int), .int .i64 (d : Int)] 3))
                    have HWX := Lib.hid (HHT.out rfl)
                    go_wp2
                    go_ret
                    exact ⟨.inr ⟨w4.heap.size, [a, b, d], HWX.out, rfl, rfl, HB4.out.size, [], HK.out⟩, HBK.out⟩
                  | false =>
                    have HN := Lib.hid (HNX.out rfl)
                    go_wp2
                    go_roundw
                    case rel => exact ⟨d + 1, by omega, by go_num, HN, HB4⟩
                    case measure => first | (simp [intOf]; done) | (simp [intOf]; omega)
                | false =>
                  go_wp2_with fail
                  refine (HSH.out).mono ?_
                  rintro e w4 ⟨rfl, hb⟩
                  have HB4 := Lib.hid (HBd.out.trans (hb.mono HBd.out.size))
                  clear hb
                  cases s with
                  | true =>
                    have HK := Lib.hid (heap_alloc_new w4 (.cells #[.int .i64 (a : Int), .int .i64 (b : Int), .int .i64 (d : Int)] 3))
                    have HBK := Lib.hid (HB4.out.alloc HB4.out.size (.cells #[.int .i64 (a : Int), .int .i64 (b : Int), .int .i64 (d : Int)] 3))
                    have HWX := Lib.hid (HHT.out rfl)
                    go_wp2
                    go_ret
                    exact ⟨.inr ⟨w4.heap.size, [a, b, d], HWX.out, rfl, rfl, HB4.out.size, [], HK.out⟩, HBK.out⟩
                  | false =>
                    have HN := Lib.hid (HNX.out rfl)
                    go_wp2
                    go_roundw
                    case rel => exact ⟨d + 1, by omega, by go_num, HN, HB4⟩
                    case measure => first | (simp [intOf]; done) | (simp [intOf]; omega)
              · obtain rfl : n = d := by omega
                have HEB : Hid (TriedN n 4 l (val3 n a (b + 1) 0)) := Lib.hid (by have h := HTd.out; rwa [val3_in] at h)
                have kd : decide ((n : Int) < (n : Int)) = false := decide_eq_false (by omega)
                go_wp2
                go_roundw
                case rel => exact ⟨b + 1, by omega, by go_num, HEB, HBd⟩
                case measure => first | (simp [intOf]; done) | (simp [intOf]; omega)
          | false =>
            go_wp2
            go_loopw [8] (fun i wr => ∃ d : Nat, d ≤ n ∧ i = .int .i64 (d : Int) ∧ Hid (TriedN n 4 l (val3 n a b d)) ∧ Hid (Below w.heap.size w wr)) (fun i _ => n - (intOf i).toNat)
            case atStart => exact ⟨0, Nat.zero_le _, rfl, HTb, HBb⟩
            case round =>
              obtain ⟨d, hd, rfl, HTd, HBd⟩ := hrel
              by_cases hld2 : d < n
              · have hld : d < n := by omega
                have kd : decide ((d : Int) < (n : Int)) = true := decide_eq_true (by omega)
                have hdg : DigL n (lenP 4) [a, b, d] := (dig3 hla hlb hld)
                have hnm : numV n [a, b, d] = val3 n a b d := val3_num n a b d
                have HSH := Lib.hid (HS.out wr HBd.out a b d hla hlb hld)
                have HHT : Hid (shD 4 l a b d = true → witO 4 l = some [a, b, d]) := Lib.hid (fun h => HHIT.out _ (HTd.out.hit hdg hnm h))
                have HNX : Hid (shD 4 l a b d = false → TriedN n 4 l (val3 n a b (d + 1))) := Lib.hid (fun h => HTd.out.step hdg hnm h)
                clear hdg hnm
                generalize shD 4 l a b d = s at *
                obtain ⟨zd, hzd⟩ : ∃ z, ((d : Int) == 0) = z := ⟨_, rfl⟩
                cases zd with
                | true =>
                  go_wp2_with fail
                  refine (HSH.out).mono ?_
                  rintro e w4 ⟨rfl, hb⟩
                  have HB4 := Lib.hid (HBd.out.trans (hb.mono HBd.out.size))
                  clear hb
                  cases s with
                  | true =>
                    have HK := Lib.hid (heap_alloc_new w4 (.cells #[.int .i64 (a : Int), .int .i64 (b : Int), .int .i64 (d : Int)] 3))
                    have HBK := Lib.hid (HB4.out.alloc HB4.out.size (.cells #[.int .i64 (a : Int), .int .i64 (b : Int), .int .i64 (d : Int)] 3))
                    have HWX := Lib.hid (HHT.out rfl)
                    go_wp2
                    go_ret
                    exact ⟨.inr ⟨w4.heap.size, [a, b, d], HWX.out, rfl, rfl, HB4.out.size, [], HK.out⟩, HBK.out⟩
                  | false =>
                    have HN := Lib.hid (HNX.out rfl)
                    go_wp2
                    go_roundw
                    case rel => exact ⟨d + 1, by omega, by go_num, HN, HB4⟩
                    case measure => first | (simp [intOf]; done) | (simp [intOf]; omega)
                | false =>
                  go_wp2_with fail
                  refine (HSH.out).mono ?_
                  rintro e w4 ⟨rfl, hb⟩
                  have HB4 := Lib.hid (HBd.out.trans (hb.mono HBd.out.size))
                  clear hb
                  cases s with
                  | true =>
                    have HK := Lib.hid (heap_alloc_new w4 (.cells #[.int .i64 (a : Int), .int .i64 (b : Int), .int .i64 (d : Int)] 3))
                    have HBK := Lib.hid (HB4.out.alloc HB4.out.size (.cells #[.int .i64 (a : Int), .int .i64 (b : Int), .int .i64 (d : Int)] 3))
                    have HWX := Lib.hid (HHT.out rfl)
                    go_wp2
                    go_ret
                    exact ⟨.inr ⟨w4.heap.size, [a, b, d], HWX.out, rfl, rfl, HB4.out.size, [], HK.out⟩, HBK.out⟩
                  | false =>
                    have HN := Lib.hid (HNX.out rfl)
                    go_wp2
                    go_roundw
                    case rel => exact ⟨d + 1, by omega, by go_num, HN, HB4⟩
                    case measure => first | (simp [intOf]; done) | (simp [intOf]; omega)
              · obtain rfl : n = d := by omega
                have HEB : Hid (TriedN n 4 l (val3 n a (b + 1) 0)) := Lib.hid (by have h := HTd.out; rwa [val3_in] at h)
                have kd : decide ((n : Int) < (n : Int)) = false := decide_eq_false (by omega)
                go_wp2
                go_roundw
                case rel => exact ⟨b + 1, by omega, by go_num, HEB, HBd⟩
                case measure => first | (simp [intOf]; done) | (simp [intOf]; omega)
        · obtain rfl : n = b := by omega
          have HEA : Hid (TriedN n 4 l (val3 n (a + 1) 0 0)) := Lib.hid (by have h := HTb.out; rwa [val3_out] at h)
          have kb : decide ((n : Int) < (n : Int)) = false := decide_eq_false (by omega)
          go_wp2
          go_roundw
          case rel => exact ⟨a + 1, by omega, by go_num, HEA, HBb⟩
          case measure => first | (simp [intOf]; done) | (simp [intOf]; omega)
    · obtain rfl : n = a := by omega
      go_wp2
      go_ret
      exact ⟨.inl ⟨HALL.out HTa.out, rfl⟩, HBa.out⟩
theorem worlds5_any (w : World) : Calls Tryz.prog 47 #[.int .i64 5] w fun e w' => e = .returned (.int .i64 3) ∧ w = w' := by
  go_enter Tryz.func47, Tryz.ntmps47
  go_wp2
  go_ret
  exact ⟨rfl, rfl⟩
set_option maxHeartbeats 16000000 in
theorem witR5_any (l : List Nat) (A : Option Addr) (n c : Nat) (w : World) (hR : Reads w w.heap.size 1 A n (us l)) (hw : Words l) (hn : n ≤ 64) : Calls Tryz.prog 52 #[.slice A n c, .int .i64 5] w (GivesW 5 l w) := by
  unfold GivesW
  have hl := hR.word_len
  have HWO := Lib.hid (fun W => worlds5_any W)
  have HS := Lib.hid (fun W (h : Below w.heap.size w W) (a b d : Nat) (ha : a < n) (hb : b < n) (hd : d < n) => rShows_any 5 (by decide) l A n c a b d W ((hR.below h).more h.size) hw hn ha hb hd)
  have HHIT : Hid (∀ x, WitP n 5 l x → witO 5 l = some x) := Lib.hid (fun x hx => witO_some (by rw [hl]; exact hx))
  have HALL : Hid (TriedN n 5 l (val3 n n 0 0) → witO 5 l = none) := Lib.hid (fun h => witO_none (by
    rw [hl]
    refine h.all ?_
    show n ^ 3 ≤ val3 n n 0 0
    unfold val3
    rw [Nat.pow_succ, Nat.pow_two, Nat.mul_assoc]; omega))
  clear hR hw hl
  go_enter Tryz.func52, Tryz.ntmps52
  go_wp2_with fail
  refine (HWO.out _).mono ?_
  rintro e w1 ⟨rfl, rfl⟩
  go_wp2
  go_loopw [6, 7, 8] (fun i _ _ wr => ∃ a : Nat, a ≤ n ∧ i = .int .i64 (a : Int) ∧ Hid (TriedN n 5 l (val3 n a 0 0)) ∧ Hid (Below w.heap.size w wr)) (fun i _ _ _ => n - (intOf i).toNat)
  case atStart => exact ⟨0, Nat.zero_le _, rfl, Lib.hid (by have h := TriedN.zero n 5 l; have e : val3 n 0 0 0 = 0 := by unfold val3; simp
                                                            rw [e]; exact h), Lib.hid (Below.refl _ _)⟩
  case round =>
    obtain ⟨a, ha, rfl, HTa, HBa⟩ := hrel
    by_cases hla : a < n
    · go_wp2
      go_loopw [7, 8] (fun i _ wr => ∃ b : Nat, b ≤ n ∧ i = .int .i64 (b : Int) ∧ Hid (TriedN n 5 l (val3 n a b 0)) ∧ Hid (Below w.heap.size w wr)) (fun i _ _ => n - (intOf i).toNat)
      case atStart => exact ⟨0, Nat.zero_le _, rfl, HTa, HBa⟩
      case round =>
        obtain ⟨b, hb, rfl, HTb, HBb⟩ := hrel
        by_cases hlb2 : b < n
        · have hlb : b < n := by omega
          have kb : decide ((b : Int) < (n : Int)) = true := decide_eq_true (by omega)
          obtain ⟨zb, hzb⟩ : ∃ z, ((b : Int) == 0) = z := ⟨_, rfl⟩
          cases zb with
          | true =>
            go_wp2
            go_loopw [8] (fun i wr => ∃ d : Nat, d ≤ n ∧ i = .int .i64 (d : Int) ∧ Hid (TriedN n 5 l (val3 n a b d)) ∧ Hid (Below w.heap.size w wr)) (fun i _ => n - (intOf i).toNat)
            case atStart => exact ⟨0, Nat.zero_le _, rfl, HTb, HBb⟩
            case round =>
              obtain ⟨d, hd, rfl, HTd, HBd⟩ := hrel
              by_cases hld2 : d < n
              · have hld : d < n := by omega
                have kd : decide ((d : Int) < (n : Int)) = true := decide_eq_true (by omega)
                have hdg : DigL n (lenP 5) [a, b, d] := (dig3 hla hlb hld)
                have hnm : numV n [a, b, d] = val3 n a b d := val3_num n a b d
                have HSH := Lib.hid (HS.out wr HBd.out a b d hla hlb hld)
                have HHT : Hid (shD 5 l a b d = true → witO 5 l = some [a, b, d]) := Lib.hid (fun h => HHIT.out _ (HTd.out.hit hdg hnm h))
                have HNX : Hid (shD 5 l a b d = false → TriedN n 5 l (val3 n a b (d + 1))) := Lib.hid (fun h => HTd.out.step hdg hnm h)
                clear hdg hnm
                generalize shD 5 l a b d = s at *
                obtain ⟨zd, hzd⟩ : ∃ z, ((d : Int) == 0) = z := ⟨_, rfl⟩
                cases zd with
                | true =>
                  go_wp2_with fail
                  refine (HSH.out).mono ?_
                  rintro e w4 ⟨rfl, hb⟩
                  have HB4 := Lib.hid (HBd.out.trans (hb.mono HBd.out.size))
                  clear hb
                  cases s with
                  | true =>
                    have HK := Lib.hid (heap_alloc_new w4 (.cells #[.int .i64 (a : Int), .int .i64 (b : Int), .int .i64 (d : Int)] 3))
                    have HBK := Lib.hid (HB4.out.alloc HB4.out.size (.cells #[.int .i64 (a : Int), .int .i64 (b : Int), .int .i64 (d : Int)] 3))
                    have HWX := Lib.hid (HHT.out rfl)
                    go_wp2
                    go_ret
                    exact ⟨.inr ⟨w4.heap.size, [a, b, d], HWX.out, rfl, rfl, HB4.out.size, [], HK.out⟩, HBK.out⟩
                  | false =>
                    have HN := Lib.hid (HNX.out rfl)
                    go_wp2
                    go_roundw
                    case rel => exact ⟨d + 1, by omega, by go_num, HN, HB4⟩
                    case measure => first | (simp [intOf]; done) | (simp [intOf]; omega)
                | false =>
                  go_wp2_with fail
                  refine (HSH.out).mono ?_
                  rintro e w4 ⟨rfl, hb⟩
                  have HB4 := Lib.hid (HBd.out.trans (hb.mono HBd.out.size))
                  clear hb
                  cases s with
                  | true =>
                    have HK := Lib.hid (heap_alloc_new w4 (.cells #[.int .i64 (a : Int), .int .i64 (b : Int), .int .i64 (d : Int)] 3))
                    have HBK := Lib.hid (HB4.out.alloc HB4.out.size (.cells #[.int .i64 (a : Int), .int .i64 (b : Int), .int .i64 (d : Int)] 3))
                    have HWX := Lib.hid (HHT.out rfl)
                    go_wp2
                    go_ret
                    exact ⟨.inr ⟨w4.heap.size, [a, b, d], HWX.out, rfl, rfl, HB4.out.size, [], HK.out⟩, HBK.out⟩
                  | false =>
                    have HN := Lib.hid (HNX.out rfl)
                    go_wp2
                    go_roundw
                    case rel => exact ⟨d + 1, by omega, by go_num, HN, HB4⟩
                    case measure => first | (simp [intOf]; done) | (simp [intOf]; omega)
              · obtain rfl : n = d := by omega
                have HEB : Hid (TriedN n 5 l (val3 n a (b + 1) 0)) := Lib.hid (by have h := HTd.out; rwa [val3_in] at h)
                have kd : decide ((n : Int) < (n : Int)) = false := decide_eq_false (by omega)
                go_wp2
                go_roundw
                case rel => exact ⟨b + 1, by omega, by go_num, HEB, HBd⟩
                case measure => first | (simp [intOf]; done) | (simp [intOf]; omega)
          | false =>
            go_wp2
            go_loopw [8] (fun i wr => ∃ d : Nat, d ≤ n ∧ i = .int .i64 (d : Int) ∧ Hid (TriedN n 5 l (val3 n a b d)) ∧ Hid (Below w.heap.size w wr)) (fun i _ => n - (intOf i).toNat)
            case atStart => exact ⟨0, Nat.zero_le _, rfl, HTb, HBb⟩
            case round =>
              obtain ⟨d, hd, rfl, HTd, HBd⟩ := hrel
              by_cases hld2 : d < n
              · have hld : d < n := by omega
                have kd : decide ((d : Int) < (n : Int)) = true := decide_eq_true (by omega)
                have hdg : DigL n (lenP 5) [a, b, d] := (dig3 hla hlb hld)
                have hnm : numV n [a, b, d] = val3 n a b d := val3_num n a b d
                have HSH := Lib.hid (HS.out wr HBd.out a b d hla hlb hld)
                have HHT : Hid (shD 5 l a b d = true → witO 5 l = some [a, b, d]) := Lib.hid (fun h => HHIT.out _ (HTd.out.hit hdg hnm h))
                have HNX : Hid (shD 5 l a b d = false → TriedN n 5 l (val3 n a b (d + 1))) := Lib.hid (fun h => HTd.out.step hdg hnm h)
                clear hdg hnm
                generalize shD 5 l a b d = s at *
                obtain ⟨zd, hzd⟩ : ∃ z, ((d : Int) == 0) = z := ⟨_, rfl⟩
                cases zd with
                | true =>
                  go_wp2_with fail
                  refine (HSH.out).mono ?_
                  rintro e w4 ⟨rfl, hb⟩
                  have HB4 := Lib.hid (HBd.out.trans (hb.mono HBd.out.size))
                  clear hb
                  cases s with
                  | true =>
                    have HK := Lib.hid (heap_alloc_new w4 (.cells #[.int .i64 (a : Int), .int .i64 (b : Int), .int .i64 (d : Int)] 3))
                    have HBK := Lib.hid (HB4.out.alloc HB4.out.size (.cells #[.int .i64 (a : Int), .int .i64 (b : Int), .int .i64 (d : Int)] 3))
                    have HWX := Lib.hid (HHT.out rfl)
                    go_wp2
                    go_ret
                    exact ⟨.inr ⟨w4.heap.size, [a, b, d], HWX.out, rfl, rfl, HB4.out.size, [], HK.out⟩, HBK.out⟩
                  | false =>
                    have HN := Lib.hid (HNX.out rfl)
                    go_wp2
                    go_roundw
                    case rel => exact ⟨d + 1, by omega, by go_num, HN, HB4⟩
                    case measure => first | (simp [intOf]; done) | (simp [intOf]; omega)
                | false =>
                  go_wp2_with fail
                  refine (HSH.out).mono ?_
                  rintro e w4 ⟨rfl, hb⟩
                  have HB4 := Lib.hid (HBd.out.trans (hb.mono HBd.out.size))
                  clear hb
                  cases s with
                  | true =>
                    have HK := Lib.hid (heap_alloc_new w4 (.cells #[.int .i64 (a : Int), .int .i64 (b : Int), .int .i64 (d : Int)] 3))
                    have HBK := Lib.hid (HB4.out.alloc HB4.out.size (.cells #[.int .i64 (a : Int), .int .i64 (b : Int), .int .i64 (d : Int)] 3))
                    have HWX := Lib.hid (HHT.out rfl)
                    go_wp2
                    go_ret
                    exact ⟨.inr ⟨w4.heap.size, [a, b, d], HWX.out, rfl, rfl, HB4.out.size, [], HK.out⟩, HBK.out⟩
                  | false =>
                    have HN := Lib.hid (HNX.out rfl)
                    go_wp2
                    go_roundw
                    case rel => exact ⟨d + 1, by omega, by go_num, HN, HB4⟩
                    case measure => first | (simp [intOf]; done) | (simp [intOf]; omega)
              · obtain rfl : n = d := by omega
                have HEB : Hid (TriedN n 5 l (val3 n a (b + 1) 0)) := Lib.hid (by have h := HTd.out; rwa [val3_in] at h)
                have kd : decide ((n : Int) < (n : Int)) = false := decide_eq_false (by omega)
                go_wp2
                go_roundw
                case rel => exact ⟨b + 1, by omega, by go_num, HEB, HBd⟩
                case measure => first | (simp [intOf]; done) | (simp [intOf]; omega)
        · obtain rfl : n = b := by omega
          have HEA : Hid (TriedN n 5 l (val3 n (a + 1) 0 0)) := Lib.hid (by have h := HTb.out; rwa [val3_out] at h)
          have kb : decide ((n : Int) < (n : Int)) = false := decide_eq_false (by omega)
          go_wp2
          go_roundw
          case rel => exact ⟨a + 1, by omega, by go_num, HEA, HBb⟩
          case measure => first | (simp [intOf]; done) | (simp [intOf]; omega)
    · obtain rfl : n = a := by omega
      go_wp2
      go_ret
      exact ⟨.inl ⟨HALL.out HTa.out, rfl⟩, HBa.out⟩
theorem rWit_any (p : Int) (hp : 1 ≤ p ∧ p ≤ 5) (l : List Nat) (A : Option Addr) (n c : Nat) (w : World) (hR : Reads w w.heap.size 1 A n (us l)) (hw : Words l) (hn : n ≤ 64) : Calls Tryz.prog 52 #[.slice A n c, .int .i64 p] w (GivesW p l w) := by
  have hc : p = 1 ∨ p = 2 ∨ p = 3 ∨ p = 4 ∨ p = 5 := by omega
  rcases hc with rfl | rfl | rfl | rfl | rfl
  · exact witR1_any l A n c w hR hw hn
  · exact witR2_any l A n c w hR hw hn
  · exact witR3_any l A n c w hR hw hn
  · exact witR4_any l A n c w hR hw hn
  · exact witR5_any l A n c w hR hw hn
end Go.Proofs.YtjpmhbnikoggaaaGreatDoor
/- Layer 15: Defects by the reference. -/
namespace Go.Proofs.YtjpmhbnikoggaaaGreatDoor
open Go.RowKit Go.Proofs.Ws
set_option maxRecDepth 100000
end Go.Proofs.YtjpmhbnikoggaaaGreatDoor
/- Layer 15: the closure of a relation by the reference. -/
namespace Go.Proofs.YtjpmhbnikoggaaaGreatDoor
open Go.RowKit Go.Proofs.Ws
set_option maxRecDepth 100000
end Go.Proofs.YtjpmhbnikoggaaaGreatDoor
