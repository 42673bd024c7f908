/- Layer 5: the program's finish. -/
import Derived.Test.YtkhalapppkhopaaDoorNJv
namespace Go.Proofs.YtkhalapppkhopaaDoor
open Go.RowKit Go.Proofs.Ws Go.Maps
set_option maxRecDepth 100000 in
set_option maxHeartbeats 8000000 in
theorem pFin_new (B base bw bp bm c n i : Nat) (A : Option Addr) (f : List Nd) (s s2 : Wk) (x x' : Nd) (w : World) (hi : i < n) (hn : n ≤ 1000) (hS : PW w base bw bp bm A c n s) (hd : s.done.getD i none = none) (hR : Reads w B 6 A n (nds f))
    (hx : f.getD i nd0 = x) (hc2 : Cnt s2) (hw : NdW x')
    (HREN : ∀ W, PW W base bw bp bm A c n s → Reads W B 6 A n (nds f) → Calls Tryd.prog 129 #[nv x, .func (Fn.func 131) #[.pointer (some ⟨bw, 0, none⟩)] #[]] W fun e W' =>
      e = .returned (nv x') ∧ PW W' base bw bp bm A c n s2 ∧ Fp bw bp bm W W') :
    Calls Tryd.prog 131 #[.pointer (some ⟨bw, 0, none⟩), .int .i64 i] w fun e w' =>
      e = .returned (.int .i64 ((putNd s2.out x').1 : Nat)) ∧ PW w' base bw bp bm A c n ⟨(putNd s2.out x').2, s2.done.set i (some (putNd s2.out x').1)⟩ ∧ Fp bw bp bm w w' := by
  have h3 := hS.pl
  have h4 := hS.frm
  have hc := hS.cells i hi
  rw [hd] at hc
  replace hc : w.cell? ⟨bp, i, none⟩ = some (.int .i64 0) := hc
  obtain ⟨ad, rfl, hb, m0, m1, m2, m3, m4, m5⟩ := hR.nd_at hi
  rw [hx] at m0 m1 m2 m3 m4 m5
  have l1 := add_cell m1
  have l2 := add_cell m2
  have l3 := add_cell m3
  have l4 := add_cell m4
  have l5 := add_cell m5
  have hpl : (putNd s2.out x').1 ≤ s2.out.length + 1 := by have := (putNd_len s2.out x').1; have := (putNd_len s2.out x').2; omega
  have HADD := Lib.hid (fun W (h : PW W base bw bp bm (some ad) c n s2) => pAdd_any x' base bw bp bm c n (some ad) s2 W h hw (Nat.le_trans (hc2.le h.len) hn))
  have HLEN := Lib.hid (fun W (h : PW W base bw bp bm (some ad) c n s2) => hc2.le h.len)
  have HREN2 := Lib.hid (HREN w.drew (hS.drewN 1) hR.drew)
  have HF0 := Lib.hid ((Fp.of_below (Below.refl _ w) (Nat.lt_of_lt_of_le hS.lw hS.lb) : Fp bw bp bm w w).drewN 1)
  have hne := hS.n1
  have hne2 := hne.symm
  generalize putNd s2.out x' = p at *
  unfold nv at HADD HREN2
  clear hS hd HREN hR hx hw
  go_enter Tryd.func131, Tryd.ntmps131
  go_wp2
  go_region_with (first
    | (go_at_call 129; refine (HREN2.out).mono ?_; rintro e w5 ⟨rfl, hS5, hF5⟩; have HS5 := Lib.hid hS5; have HF5 := Lib.hid (HF0.out.trans hF5); have h35 := hS5.pl; have hL5 := HLEN.out _ hS5; clear hS5 hF5)
    | (go_at_call 135; refine (HADD.out _ HS5.out).mono ?_; rintro e w6 ⟨rfl, hS6, hF6⟩; have HS6 := Lib.hid hS6; have HF6 := Lib.hid (HF5.out.trans hF6); have h36 := hS6.pl; have hc6 := hS6.cells i hi; have hf6 := hS6.free i hi; have hwr : IntKind.i64.wrap ((p.1 : Int) + 1) = ((p.1 + 1 : Nat) : Int) := (by rw [IntKind.wrap_i64]; omega); clear hS6 hF6))
  all_goals clear hc h3 h4 h35 m0 m1 m2 m3 m4 m5 l1 l2 l3 l4 l5
  all_goals have hw3 : wrap64 (p.1 : Int) = (p.1 : Int) := (by unfold wrap64; omega)
  all_goals go_wp2
  all_goals go_ret
  all_goals exact ⟨rfl, HS6.out.set hi p.1, HF6.out.setP _ hne⟩
end Go.Proofs.YtkhalapppkhopaaDoor
