/- Layer 5: the program's canonical list. -/
import Derived.Test.YtcbmncafmofcpaaKx
namespace Go.Proofs.Ytcbmncafmofcpaa
open Go.RowKit Go.Proofs.Ws Go.Maps
theorem own_base {w : World} {b b2 size n : Nat} {e : TypeId} {v : Value} {xs : List Value} (h : w.ownsRow b e size v n xs) (hb : b2 ≤ b) : w.ownsRow b2 e size v n xs := by
  refine ⟨h.1, ?_⟩
  rcases h.2 with hn | ⟨g, cap, cur, hv, h2, rest⟩
  · exact .inl hn
  · exact .inr ⟨g, cap, cur, hv, by omega, rest⟩
theorem Try.infoI : (Try.prog.info? 3).map (fun i => (i.zero, i.size, i.bytes)) = some (some (.int .i64 0), 1, 8) := by kernel_rfl
def zeros (n : Nat) : Array Value := (List.replicate n (Value.int .i64 0)).toArray
theorem made_zeros (n : Nat) : madeCells (Value.int IntKind.i64 0).cells n = zeros n := by
  apply Array.ext
  · simp [madeCells, zeros]
  · intro i h1 h2
    simp [madeCells, zeros, Value.cells, Nat.mod_one]
theorem makeI (w : World) (n : Nat) (hn : n ≤ 1000000) : (Instr.makeSlice 52 (.int .i64 (n : Int)) (.int .i64 (n : Int))).run Try.prog w = .ok (.slice (some ⟨w.heap.size, 0, none⟩) n n) (w.alloc (.cells (zeros n) 3)) := by
  obtain ⟨i0, hi, hz0, hz1, hz2⟩ := info_parts Try.infoI
  have h := run_make (P := Try.prog) w 52 3 i0 (.int .i64 0) Try.underlying52 hi hz0 .i64 .i64 n n (by omega) (Int.le_refl _) (by rw [hz2]; omega) (by omega)
  rw [h, hz1]
  simp only [Int.toNat_natCast, Nat.mul_one]
  rw [made_zeros]
theorem zeros_at {W : World} {g n : Nat} (h : W.heap[g]? = some (.cells (zeros n) 3 (0, 0))) {j : Nat} (hj : j < n) : W.cell? ⟨g, j, none⟩ = some (.int .i64 0) := by
  rw [Lib.cell_of_heap h]
  simp [zeros, hj]
/-- what the list of a walk must be -/
structure OkL (f : List Nd) : Prop where
  ne : f ≠ []
  ops : opsL f
  rng : ∀ i, i < f.length → NdR (f.getD i nd0)
theorem replicate_none (n j : Nat) : (List.replicate n (none : Option Nat)).getD j none = none := by
  rw [List.getD_eq_getElem?_getD, List.getElem?_replicate]
  split <;> rfl
theorem cnt0 (n : Nat) : Cnt ⟨[], List.replicate n none⟩ :=
  ⟨Nat.zero_le _, fun j k h => by rw [show (Wk.mk [] (List.replicate n none)).done = List.replicate n none from rfl, replicate_none] at h; cases h⟩
theorem PW.begin {w : World} {A : Option Addr} {n c : Nat} (t : TypeId) : PW (((w.alloc (.cells (zeros n) 3)).alloc (.map #[] 0)).alloc (.cells #[.slice A n c, .slice (some ⟨w.heap.size, 0, none⟩) n n, .slice none 0 0, .map (some (w.heap.size + 1))] t)) (w.heap.size + 3) (w.heap.size + 2) w.heap.size (w.heap.size + 1) A c n ⟨[], List.replicate n none⟩ := by
  have h0 : (w.alloc (.cells (zeros n) 3)).heap[w.heap.size]? = some (.cells (zeros n) 3 (0, 0)) := heap_alloc_new w _
  have s1 : (w.alloc (.cells (zeros n) 3)).heap.size = w.heap.size + 1 := by simp
  have hmap := World.ownsMap_made (w.alloc (.cells (zeros n) 3)) Try.prog 44 (plainElem (H := Unit) Try.prog 3)
  generalize w.alloc (.cells (zeros n) 3) = wa at *
  have s2 : (wa.alloc (.map #[] 0)).heap.size = w.heap.size + 2 := by simp; omega
  have h1 : (wa.alloc (.map #[] 0)).heap[w.heap.size]? = some (.cells (zeros n) 3 (0, 0)) := (Below.heap_alloc wa _ _ (by omega)).trans h0
  rw [s1] at hmap
  generalize wa.alloc (.map #[] 0) = wb at *
  have hbx := heap_alloc_new wb (.cells #[.slice A n c, .slice (some ⟨w.heap.size, 0, none⟩) n n, .slice none 0 0, .map (some (w.heap.size + 1))] t)
  rw [s2] at hbx
  have hm := ownsMap_keep hmap (Below.heap_alloc wb (.cells #[.slice A n c, .slice (some ⟨w.heap.size, 0, none⟩) n n, .slice none 0 0, .map (some (w.heap.size + 1))] t) _ (by omega))
  have h2 : (wb.alloc (.cells #[.slice A n c, .slice (some ⟨w.heap.size, 0, none⟩) n n, .slice none 0 0, .map (some (w.heap.size + 1))] t)).heap[w.heap.size]? = _ := (Below.heap_alloc wb _ _ (by omega)).trans h1
  have s3 : (wb.alloc (.cells #[.slice A n c, .slice (some ⟨w.heap.size, 0, none⟩) n n, .slice none 0 0, .map (some (w.heap.size + 1))] t)).heap.size = w.heap.size + 3 := by simp; omega
  generalize wb.alloc (.cells #[.slice A n c, .slice (some ⟨w.heap.size, 0, none⟩) n n, .slice none 0 0, .map (some (w.heap.size + 1))] t) = wc at *
  have hc := Lib.cell_of_heap hbx
  refine ⟨by omega, by omega, by omega, by omega, by omega, by omega, by omega, hc 0, hc 1, ⟨none, 0, hc 2, World.ownsRow_nil _ _ _ _⟩, Lib.frozen_of_heap hbx 2, hc 3, ⟨_, hm, MapOf.start⟩, by simp, fun j hj => ?_, fun j _ => Lib.frozen_of_heap h2 j⟩
  show _ = some (plV ((List.replicate n none).getD j none))
  rw [replicate_none]
  exact zeros_at h2 hj
set_option maxRecDepth 100000 in
set_option maxHeartbeats 4000000 in
theorem pCanon_own (f : List Nd) (hf : OkL f) (A : Option Addr) (n c : Nat) (w : World) (hR : Reads w w.heap.size 6 A n (nds f)) (hn : n ≤ 1000) :
    Calls Try.prog 54 #[.slice A n c] w fun e w' => ∃ A' c', e = .returned (.slice A' (canonF f).length c') ∧ w'.ownsRow w.heap.size 44 6 (.slice A' (canonF f).length c') (canonF f).length (nds (canonF f)) ∧ Below w.heap.size w w' := by
  have hl := hR.nd_len
  have hne : f.length ≠ 0 := by simpa using hf.ne
  have HR := Lib.hid hR
  have hmk := fun W => makeI W n (by omega)
  have hmm := @run_makeMap Try.prog
  have HFIN : Hid (∀ W, PW W (w.heap.size + 3) (w.heap.size + 2) w.heap.size (w.heap.size + 1) A c n ⟨[], List.replicate n none⟩ → Reads W w.heap.size 6 A n (nds f) →
      Calls Try.prog 92 #[.pointer (some ⟨w.heap.size + 1 + 1, 0, none⟩), .int .i64 ((n : Int) - 1)] W fun e W' =>
        e = .returned (.int .i64 ((finW f n (n - 1) ⟨[], List.replicate n none⟩).1 : Nat)) ∧ PW W' (w.heap.size + 3) (w.heap.size + 2) w.heap.size (w.heap.size + 1) A c n (finW f n (n - 1) ⟨[], List.replicate n none⟩).2 ∧ Fp (w.heap.size + 2) w.heap.size (w.heap.size + 1) W W') :=
    Lib.hid (fun W h1 h2 => by
      rw [show (n : Int) - 1 = ((n - 1 : Nat) : Int) from by omega]
      exact pFinish_any f hf.ops hf.rng A n c w.heap.size (w.heap.size + 3) (w.heap.size + 2) w.heap.size (w.heap.size + 1) hn hl (by omega) (by omega) (by omega) (by omega) n (n - 1) _ W (by omega) (by omega) (cnt0 n) h1 h2)
  have HE : Hid ((finW f n (n - 1) ⟨[], List.replicate n none⟩).2.out = canonF f) := Lib.hid (by unfold canonF; rw [hl])
  generalize finW f n (n - 1) ⟨[], List.replicate n none⟩ = r at *
  generalize canonF f = q at *
  obtain ⟨r1, out, done⟩ := r
  have HE2 : out = q := HE.out
  subst HE2
  clear HE
  have HB := PW.begin (w := w) (A := A) (n := n) (c := c) 80
  have HBL : Hid (Below w.heap.size w (((w.alloc (.cells (zeros n) 3)).alloc (.map #[] 0)).alloc (.cells #[.slice A n c, .slice (some ⟨w.heap.size, 0, none⟩) n n, .slice none 0 0, .map (some (w.heap.size + 1))] 80))) := Lib.hid ((((Below.refl _ w).alloc (Nat.le_refl _) _).alloc (by simp) _).alloc (by simp; omega) _)
  replace HB := Lib.hid HB
  clear hR hne hf
  go_enter Try.func54, Try.ntmps54
  go_wp2_with fail
  clear hmk hmm
  generalize ((w.alloc (.cells (zeros n) 3)).alloc (.map #[] 0)).alloc (.cells #[.slice A n c, .slice (some ⟨w.heap.size, 0, none⟩) n n, .slice none 0 0, .map (some (w.heap.size + 1))] 80) = w1 at *
  refine (HFIN.out _ HB.out (HR.out.below HBL.out)).mono ?_
  rintro e w2 ⟨rfl, hS, hF⟩
  obtain ⟨A2, c2, h2, hrow⟩ := hS.out
  have HO := Lib.hid hrow
  have HW := Lib.hid (HBL.out.trans (hF.low (B := w.heap.size) HBL.out.size (by omega) (by omega) (by omega) (fun g hg => by have := (HB.out.row g hg).1; omega)))
  clear hS hF hrow
  replace h2 : w2.cell? ⟨w.heap.size + 1 + 1, 2, none⟩ = some (.slice A2 out.length c2) := h2
  go_wp2
  go_ret
  exact ⟨A2, c2, rfl, own_base HO.out (by omega), HW.out⟩
theorem pCanon_any (f : List Nd) (hf : OkL f) (A : Option Addr) (n c : Nat) (w : World) (hR : Reads w w.heap.size 6 A n (nds f)) (hn : n ≤ 1000) :
    Calls Try.prog 54 #[.slice A n c] w fun e w' => ∃ A' c', e = .returned (.slice A' (canonF f).length c') ∧ Reads w' w'.heap.size 6 A' (canonF f).length (nds (canonF f)) ∧ Below w.heap.size w w' :=
  (pCanon_own f hf A n c w hR hn).mono (by
    rintro e w' ⟨A', c', rfl, h1, h2⟩
    exact ⟨A', c', rfl, Reads.of_own h1, h2⟩)
end Go.Proofs.Ytcbmncafmofcpaa
