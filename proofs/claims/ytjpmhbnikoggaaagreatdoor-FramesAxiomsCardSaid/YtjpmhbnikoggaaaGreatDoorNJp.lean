/- Layer 6: texts joined: Fr42 Fr43. -/
import Derived.Test.YtjpmhbnikoggaaaGreatDoorNIn
import Derived.Test.YtjpmhbnikoggaaaGreatDoorNIr
import Derived.Test.YtjpmhbnikoggaaaGreatDoorNJl
import Derived.Test.YtjpmhbnikoggaaaGreatDoorNJn
/- Layer 15: Counter by the reference. -/
namespace Go.Proofs.YtjpmhbnikoggaaaGreatDoor
open Go.RowKit Go.Proofs.Ws
set_option maxRecDepth 100000
theorem worlds0_any (p : Int) (hp : p < 1 ∨ 5 < p) (w : World) : Calls Tryz.prog 47 #[.int .i64 p] w fun e w' => e = .returned (.int .i64 0) ∧ w = w' := by
  have b1 : (p == 1) = false := by rw [beq_eq_false_iff_ne]; omega
  have b2 : (p == 2) = false := by rw [beq_eq_false_iff_ne]; omega
  have b3 : (p == 3) = false := by rw [beq_eq_false_iff_ne]; omega
  have b4 : (p == 4) = false := by rw [beq_eq_false_iff_ne]; omega
  have b5 : (p == 5) = false := by rw [beq_eq_false_iff_ne]; omega
  clear hp
  go_enter Tryz.func47, Tryz.ntmps47
  go_wp2
  go_ret
  exact ⟨rfl, rfl⟩
theorem err_sh {n : Nat} {l : List Nat} (h0 : relErr n l = 0) : Sh n l ∧ n ≤ 64 := by
  have hl : l.length = n ∧ n ≤ 64 := by
    unfold relErr at h0
    split at h0
    · cases h0
    · split at h0
      · cases h0
      · exact ⟨by omega, by omega⟩
  exact ⟨rel_sh h0 hl.1, hl.2⟩
section
variable (l : List Nat) (A : Option Addr) (n c : Nat) (w : World) (hR : Reads w w.heap.size 1 A n (us l)) (hw : Words l) (hm : n ≤ maxLen)
include hR hw hm
theorem rcntBad_any (p : Int) (h0 : relErr n l ≠ 0) : Calls Tryz.prog 18 #[.slice A n c, .int .i64 p] w (GivesC n p l w) := by
  unfold GivesC
  have HC := Lib.hid (ref2Check_any n l A n c w.heap.size w hR hw hm)
  have HZ := Lib.hid h0
  have h1 : (relErr n l != 0) = true := by rw [bne_iff_ne]; exact h0
  obtain ⟨r, hr⟩ : ∃ r, relErr n l = r := ⟨_, rfl⟩
  have HE := Lib.hid hr
  rw [hr] at h1
  rw [hr] at HC
  clear hR hw hm h0 hr
  go_enter Tryz.func18, Tryz.ntmps18
  go_wp2_with fail
  refine (HC.out).mono ?_
  rintro e w1 ⟨rfl, q, rfl⟩
  go_wp2
  go_ret3
  exact ⟨⟨0, 0, r, rfl, .inl ⟨HZ.out, rfl, rfl, HE.out.symm⟩⟩, below_drewN (Below.refl _ w) q⟩
theorem rcntNo_any (p : Int) (h0 : relErr n l = 0) (hp : p < 1 ∨ 5 < p) : Calls Tryz.prog 18 #[.slice A n c, .int .i64 p] w (GivesC n p l w) := by
  unfold GivesC
  have HC := Lib.hid (ref2Check_any n l A n c w.heap.size w hR hw hm)
  have HZ := Lib.hid h0
  have HP := Lib.hid hp
  have HD := Lib.hid (fun W => worlds0_any p hp W)
  rw [h0] at HC
  clear hR hw hm h0 hp
  go_enter Tryz.func18, Tryz.ntmps18
  go_wp2_with fail
  refine (HC.out).mono ?_
  rintro e w1 ⟨rfl, q, rfl⟩
  go_wp2_with fail
  refine (HD.out _).mono ?_
  rintro e w3 ⟨rfl, rfl⟩
  go_wp2
  go_ret3
  exact ⟨⟨0, 0, 1, rfl, .inr (.inl ⟨HZ.out, HP.out, rfl, rfl, rfl⟩)⟩, below_drewN (Below.refl _ w) q⟩
set_option maxHeartbeats 8000000 in
theorem rcnt1_any (h0 : relErr n l = 0) : Calls Tryz.prog 18 #[.slice A n c, .int .i64 1] w (GivesC n 1 l w) := by
  unfold GivesC
  obtain ⟨hsh, hn⟩ := err_sh h0
  have hl : l.length = n := hsh.1
  have HC := Lib.hid (ref2Check_any n l A n c w.heap.size w hR hw hm)
  have HW := Lib.hid (fun W (hb : Below w.heap.size w W) => rWit_any 1 ⟨by decide, by decide⟩ l A n c W ((hR.below hb).more hb.size) hw hn)
  unfold GivesW at HW
  have HD := Lib.hid (fun W => worlds1_any W)
  have HRR := Lib.hid (fun W (hb : Below w.heap.size w W) => (hR.below hb).more hb.size)
  have HZ := Lib.hid h0
  have HQ := Lib.hid (witO_iff (p := 1) (hl ▸ hsh) ⟨by decide, by decide⟩)
  rw [hl] at HQ
  have HX : Hid (∀ x, witO 1 l = some x → WitP n 1 l x) := Lib.hid (fun x hx => hl ▸ witO_spec hx)
  rw [h0] at HC
  rw [show lenP 1 = 1 from rfl] at HW
  clear hR hw hm h0 hsh hl
  go_enter Tryz.func18, Tryz.ntmps18
  go_wp2_with fail
  refine (HC.out).mono ?_
  rintro e w1 ⟨rfl, q, rfl⟩
  have HB1 : Hid (Below w.heap.size w (w.drewN q)) := Lib.hid (below_drewN (Below.refl _ w) q)
  generalize w.drewN q = w1 at *
  go_wp2_with fail
  refine (HD.out _).mono ?_
  rintro e w2 ⟨rfl, rfl⟩
  go_wp2_with fail
  refine (HW.out _ HB1.out).mono ?_
  rintro e w2 ⟨hx, hb⟩
  have HB2 := Lib.hid (HB1.out.trans (hb.mono HB1.out.size))
  clear hb
  rcases hx with ⟨hno, rfl⟩ | ⟨g, x, hx, hxl, rfl, hg, hI⟩
  · have HQ1 := Lib.hid (HQ.out.1 hno)
    clear hno
    go_wp2
    go_ret3
    exact ⟨⟨0, 0, 6, rfl, .inr (.inr (.inl ⟨HZ.out, ⟨by decide, by decide⟩, HQ1.out, rfl, rfl, rfl⟩))⟩, HB2.out⟩
  · have HXW := Lib.hid (HX.out x hx)
    have HNQ : Hid (¬ HasP n 1 l) := Lib.hid (fun h => by rw [HQ.out.2 h] at hx; cases hx)
    have hx0 : x.getD 0 0 < n := HXW.out.dig.at_ (by decide)
    obtain ⟨ad, e1, _, hc0⟩ := iv_at hI.reads (k := 0) (by omega)
    injection e1 with e1
    subst e1
    have hc0 : w2.cell? ⟨g, 0, none⟩ = some (.int .i64 ((x.getD 0 0 : Nat) : Int)) := hc0
    obtain ⟨k, hk⟩ : ∃ k, x.getD 0 0 = k := ⟨_, rfl⟩
    have HX0 := Lib.hid hk
    rw [hk] at hc0 hx0
    clear hk hx hxl hg hI
    go_wp2
    go_ret3
    exact ⟨⟨_, _, _, rfl, .inr (.inr (.inr ⟨HZ.out, ⟨by decide, by decide⟩, HNQ.out, x, HXW.out, by rw [HX0.out], rfl, rfl⟩))⟩, HB2.out⟩
set_option maxHeartbeats 8000000 in
theorem rcnt2_any (h0 : relErr n l = 0) : Calls Tryz.prog 18 #[.slice A n c, .int .i64 2] w (GivesC n 2 l w) := by
  unfold GivesC
  obtain ⟨hsh, hn⟩ := err_sh h0
  have hl : l.length = n := hsh.1
  have HC := Lib.hid (ref2Check_any n l A n c w.heap.size w hR hw hm)
  have HW := Lib.hid (fun W (hb : Below w.heap.size w W) => rWit_any 2 ⟨by decide, by decide⟩ l A n c W ((hR.below hb).more hb.size) hw hn)
  unfold GivesW at HW
  have HD := Lib.hid (fun W => worlds2_any W)
  have HRR := Lib.hid (fun W (hb : Below w.heap.size w W) => (hR.below hb).more hb.size)
  have HZ := Lib.hid h0
  have HQ := Lib.hid (witO_iff (p := 2) (hl ▸ hsh) ⟨by decide, by decide⟩)
  rw [hl] at HQ
  have HX : Hid (∀ x, witO 2 l = some x → WitP n 2 l x) := Lib.hid (fun x hx => hl ▸ witO_spec hx)
  rw [h0] at HC
  rw [show lenP 2 = 1 from rfl] at HW
  clear hR hw hm h0 hsh hl
  go_enter Tryz.func18, Tryz.ntmps18
  go_wp2_with fail
  refine (HC.out).mono ?_
  rintro e w1 ⟨rfl, q, rfl⟩
  have HB1 : Hid (Below w.heap.size w (w.drewN q)) := Lib.hid (below_drewN (Below.refl _ w) q)
  generalize w.drewN q = w1 at *
  go_wp2_with fail
  refine (HD.out _).mono ?_
  rintro e w2 ⟨rfl, rfl⟩
  go_wp2_with fail
  refine (HW.out _ HB1.out).mono ?_
  rintro e w2 ⟨hx, hb⟩
  have HB2 := Lib.hid (HB1.out.trans (hb.mono HB1.out.size))
  clear hb
  rcases hx with ⟨hno, rfl⟩ | ⟨g, x, hx, hxl, rfl, hg, hI⟩
  · have HQ1 := Lib.hid (HQ.out.1 hno)
    clear hno
    go_wp2
    go_ret3
    exact ⟨⟨0, 0, 6, rfl, .inr (.inr (.inl ⟨HZ.out, ⟨by decide, by decide⟩, HQ1.out, rfl, rfl, rfl⟩))⟩, HB2.out⟩
  · have HXW := Lib.hid (HX.out x hx)
    have HNQ : Hid (¬ HasP n 2 l) := Lib.hid (fun h => by rw [HQ.out.2 h] at hx; cases hx)
    have hx0 : x.getD 0 0 < n := HXW.out.dig.at_ (by decide)
    obtain ⟨ad, e1, _, hc0⟩ := iv_at hI.reads (k := 0) (by omega)
    injection e1 with e1
    subst e1
    have hc0 : w2.cell? ⟨g, 0, none⟩ = some (.int .i64 ((x.getD 0 0 : Nat) : Int)) := hc0
    obtain ⟨aw, hA, _, hcw⟩ := (HRR.out _ HB2.out).word_k hx0
    subst hA
    obtain ⟨k, hk⟩ : ∃ k, x.getD 0 0 = k := ⟨_, rfl⟩
    have HX0 := Lib.hid hk
    have HSV : Hid (((setV 2 l x : Nat) : Int) = ((l.getD k 0 : Nat) : Int)) := Lib.hid (by rw [← hk]; rfl)
    rw [hk] at hc0 hx0 hcw
    clear hk hx hxl hg hI
    generalize l.getD k 0 = z at *
    go_wp2
    go_quiet (fail)
    go_wp2
    go_ret3
    exact ⟨⟨_, _, _, rfl, .inr (.inr (.inr ⟨HZ.out, ⟨by decide, by decide⟩, HNQ.out, x, HXW.out, by rw [HX0.out], by rw [HSV.out], rfl⟩))⟩, below_drewN HB2.out _⟩
set_option maxHeartbeats 8000000 in
theorem rcnt3_any (h0 : relErr n l = 0) : Calls Tryz.prog 18 #[.slice A n c, .int .i64 3] w (GivesC n 3 l w) := by
  unfold GivesC
  obtain ⟨hsh, hn⟩ := err_sh h0
  have hl : l.length = n := hsh.1
  have HC := Lib.hid (ref2Check_any n l A n c w.heap.size w hR hw hm)
  have HW := Lib.hid (fun W (hb : Below w.heap.size w W) => rWit_any 3 ⟨by decide, by decide⟩ l A n c W ((hR.below hb).more hb.size) hw hn)
  unfold GivesW at HW
  have HD := Lib.hid (fun W => worlds3_any W)
  have HRR := Lib.hid (fun W (hb : Below w.heap.size w W) => (hR.below hb).more hb.size)
  have HZ := Lib.hid h0
  have HQ := Lib.hid (witO_iff (p := 3) (hl ▸ hsh) ⟨by decide, by decide⟩)
  rw [hl] at HQ
  have HX : Hid (∀ x, witO 3 l = some x → WitP n 3 l x) := Lib.hid (fun x hx => hl ▸ witO_spec hx)
  rw [h0] at HC
  rw [show lenP 3 = 2 from rfl] at HW
  clear hR hw hm h0 hsh hl
  go_enter Tryz.func18, Tryz.ntmps18
  go_wp2_with fail
  refine (HC.out).mono ?_
  rintro e w1 ⟨rfl, q, rfl⟩
  have HB1 : Hid (Below w.heap.size w (w.drewN q)) := Lib.hid (below_drewN (Below.refl _ w) q)
  generalize w.drewN q = w1 at *
  go_wp2_with fail
  refine (HD.out _).mono ?_
  rintro e w2 ⟨rfl, rfl⟩
  go_wp2_with fail
  refine (HW.out _ HB1.out).mono ?_
  rintro e w2 ⟨hx, hb⟩
  have HB2 := Lib.hid (HB1.out.trans (hb.mono HB1.out.size))
  clear hb
  rcases hx with ⟨hno, rfl⟩ | ⟨g, x, hx, hxl, rfl, hg, hI⟩
  · have HQ1 := Lib.hid (HQ.out.1 hno)
    clear hno
    go_wp2
    go_ret3
    exact ⟨⟨0, 0, 6, rfl, .inr (.inr (.inl ⟨HZ.out, ⟨by decide, by decide⟩, HQ1.out, rfl, rfl, rfl⟩))⟩, HB2.out⟩
  · have HXW := Lib.hid (HX.out x hx)
    have HNQ : Hid (¬ HasP n 3 l) := Lib.hid (fun h => by rw [HQ.out.2 h] at hx; cases hx)
    have hx0 : x.getD 0 0 < n := HXW.out.dig.at_ (by decide)
    obtain ⟨ad, e1, _, hc0⟩ := iv_at hI.reads (k := 0) (by omega)
    injection e1 with e1
    subst e1
    have hc0 : w2.cell? ⟨g, 0, none⟩ = some (.int .i64 ((x.getD 0 0 : Nat) : Int)) := hc0
    obtain ⟨k, hk⟩ : ∃ k, x.getD 0 0 = k := ⟨_, rfl⟩
    have HX0 := Lib.hid hk
    rw [hk] at hc0 hx0
    have HSV : Hid (((setV 3 l x : Nat) : Int) = ((p2 k : Nat) : Int)) := Lib.hid (by rw [← hk]; rfl)
    have hk64 : k < 64 := by omega
    have HWP := Lib.hid (wrap_pow k hk64)
    clear hk hx hxl hg hI hn hx0
    go_wp2
    go_ret3
    exact ⟨⟨_, _, _, rfl, .inr (.inr (.inr ⟨HZ.out, ⟨by decide, by decide⟩, HNQ.out, x, HXW.out, by rw [HX0.out], by rw [HSV.out]; exact HWP.out, rfl⟩))⟩, HB2.out⟩
set_option maxHeartbeats 8000000 in
theorem rcnt4_any (h0 : relErr n l = 0) : Calls Tryz.prog 18 #[.slice A n c, .int .i64 4] w (GivesC n 4 l w) := by
  unfold GivesC
  obtain ⟨hsh, hn⟩ := err_sh h0
  have hl : l.length = n := hsh.1
  have HC := Lib.hid (ref2Check_any n l A n c w.heap.size w hR hw hm)
  have HW := Lib.hid (fun W (hb : Below w.heap.size w W) => rWit_any 4 ⟨by decide, by decide⟩ l A n c W ((hR.below hb).more hb.size) hw hn)
  unfold GivesW at HW
  have HD := Lib.hid (fun W => worlds4_any W)
  have HRR := Lib.hid (fun W (hb : Below w.heap.size w W) => (hR.below hb).more hb.size)
  have HZ := Lib.hid h0
  have HQ := Lib.hid (witO_iff (p := 4) (hl ▸ hsh) ⟨by decide, by decide⟩)
  rw [hl] at HQ
  have HX : Hid (∀ x, witO 4 l = some x → WitP n 4 l x) := Lib.hid (fun x hx => hl ▸ witO_spec hx)
  rw [h0] at HC
  rw [show lenP 4 = 3 from rfl] at HW
  clear hR hw hm h0 hsh hl
  go_enter Tryz.func18, Tryz.ntmps18
  go_wp2_with fail
  refine (HC.out).mono ?_
  rintro e w1 ⟨rfl, q, rfl⟩
  have HB1 : Hid (Below w.heap.size w (w.drewN q)) := Lib.hid (below_drewN (Below.refl _ w) q)
  generalize w.drewN q = w1 at *
  go_wp2_with fail
  refine (HD.out _).mono ?_
  rintro e w2 ⟨rfl, rfl⟩
  go_wp2_with fail
  refine (HW.out _ HB1.out).mono ?_
  rintro e w2 ⟨hx, hb⟩
  have HB2 := Lib.hid (HB1.out.trans (hb.mono HB1.out.size))
  clear hb
  rcases hx with ⟨hno, rfl⟩ | ⟨g, x, hx, hxl, rfl, hg, hI⟩
  · have HQ1 := Lib.hid (HQ.out.1 hno)
    clear hno
    go_wp2
    go_ret3
    exact ⟨⟨0, 0, 6, rfl, .inr (.inr (.inl ⟨HZ.out, ⟨by decide, by decide⟩, HQ1.out, rfl, rfl, rfl⟩))⟩, HB2.out⟩
  · have HXW := Lib.hid (HX.out x hx)
    have HNQ : Hid (¬ HasP n 4 l) := Lib.hid (fun h => by rw [HQ.out.2 h] at hx; cases hx)
    have hx0 : x.getD 0 0 < n := HXW.out.dig.at_ (by decide)
    obtain ⟨ad, e1, _, hc0⟩ := iv_at hI.reads (k := 0) (by omega)
    injection e1 with e1
    subst e1
    have hc0 : w2.cell? ⟨g, 0, none⟩ = some (.int .i64 ((x.getD 0 0 : Nat) : Int)) := hc0
    obtain ⟨aw, hA, _, hcw⟩ := (HRR.out _ HB2.out).word_k hx0
    subst hA
    obtain ⟨k, hk⟩ : ∃ k, x.getD 0 0 = k := ⟨_, rfl⟩
    have HX0 := Lib.hid hk
    have HSV : Hid (((setV 4 l x : Nat) : Int) = ((l.getD k 0 : Nat) : Int)) := Lib.hid (by rw [← hk]; rfl)
    rw [hk] at hc0 hx0 hcw
    clear hk hx hxl hg hI
    generalize l.getD k 0 = z at *
    go_wp2
    go_quiet (fail)
    go_wp2
    go_ret3
    exact ⟨⟨_, _, _, rfl, .inr (.inr (.inr ⟨HZ.out, ⟨by decide, by decide⟩, HNQ.out, x, HXW.out, by rw [HX0.out], by rw [HSV.out], rfl⟩))⟩, below_drewN HB2.out _⟩
set_option maxHeartbeats 8000000 in
theorem rcnt5_any (h0 : relErr n l = 0) : Calls Tryz.prog 18 #[.slice A n c, .int .i64 5] w (GivesC n 5 l w) := by
  unfold GivesC
  obtain ⟨hsh, hn⟩ := err_sh h0
  have hl : l.length = n := hsh.1
  have HC := Lib.hid (ref2Check_any n l A n c w.heap.size w hR hw hm)
  have HW := Lib.hid (fun W (hb : Below w.heap.size w W) => rWit_any 5 ⟨by decide, by decide⟩ l A n c W ((hR.below hb).more hb.size) hw hn)
  unfold GivesW at HW
  have HD := Lib.hid (fun W => worlds5_any W)
  have HRR := Lib.hid (fun W (hb : Below w.heap.size w W) => (hR.below hb).more hb.size)
  have HZ := Lib.hid h0
  have HQ := Lib.hid (witO_iff (p := 5) (hl ▸ hsh) ⟨by decide, by decide⟩)
  rw [hl] at HQ
  have HX : Hid (∀ x, witO 5 l = some x → WitP n 5 l x) := Lib.hid (fun x hx => hl ▸ witO_spec hx)
  rw [h0] at HC
  rw [show lenP 5 = 3 from rfl] at HW
  clear hR hw hm h0 hsh hl
  go_enter Tryz.func18, Tryz.ntmps18
  go_wp2_with fail
  refine (HC.out).mono ?_
  rintro e w1 ⟨rfl, q, rfl⟩
  have HB1 : Hid (Below w.heap.size w (w.drewN q)) := Lib.hid (below_drewN (Below.refl _ w) q)
  generalize w.drewN q = w1 at *
  go_wp2_with fail
  refine (HD.out _).mono ?_
  rintro e w2 ⟨rfl, rfl⟩
  go_wp2_with fail
  refine (HW.out _ HB1.out).mono ?_
  rintro e w2 ⟨hx, hb⟩
  have HB2 := Lib.hid (HB1.out.trans (hb.mono HB1.out.size))
  clear hb
  rcases hx with ⟨hno, rfl⟩ | ⟨g, x, hx, hxl, rfl, hg, hI⟩
  · have HQ1 := Lib.hid (HQ.out.1 hno)
    clear hno
    go_wp2
    go_ret3
    exact ⟨⟨0, 0, 6, rfl, .inr (.inr (.inl ⟨HZ.out, ⟨by decide, by decide⟩, HQ1.out, rfl, rfl, rfl⟩))⟩, HB2.out⟩
  · have HXW := Lib.hid (HX.out x hx)
    have HNQ : Hid (¬ HasP n 5 l) := Lib.hid (fun h => by rw [HQ.out.2 h] at hx; cases hx)
    have hx0 : x.getD 0 0 < n := HXW.out.dig.at_ (by decide)
    obtain ⟨ad, e1, _, hc0⟩ := iv_at hI.reads (k := 0) (by omega)
    injection e1 with e1
    subst e1
    have hc0 : w2.cell? ⟨g, 0, none⟩ = some (.int .i64 ((x.getD 0 0 : Nat) : Int)) := hc0
    have hx2 : x.getD 2 0 < n := HXW.out.dig.at_ (by decide)
    obtain ⟨ad, e1, _, hc2⟩ := iv_at hI.reads (k := 2) (by omega)
    injection e1 with e1
    subst e1
    have hc2 : w2.cell? ⟨g, 2, none⟩ = some (.int .i64 ((x.getD 2 0 : Nat) : Int)) := hc2
    obtain ⟨k, hk⟩ : ∃ k, x.getD 0 0 = k := ⟨_, rfl⟩
    have HX0 := Lib.hid hk
    rw [hk] at hc0 hx0
    obtain ⟨k2, hk2⟩ : ∃ k, x.getD 2 0 = k := ⟨_, rfl⟩
    have HSV : Hid (((setV 5 l x : Nat) : Int) = ((p2 k2 : Nat) : Int)) := Lib.hid (by rw [← hk2]; rfl)
    rw [hk2] at hc2 hx2
    have hk64 : k2 < 64 := by omega
    have HWP := Lib.hid (wrap_pow k2 hk64)
    clear hk hk2 hx hxl hg hI hn hx0 hx2
    go_wp2
    go_quiet (fail)
    go_wp2
    go_ret3
    exact ⟨⟨_, _, _, rfl, .inr (.inr (.inr ⟨HZ.out, ⟨by decide, by decide⟩, HNQ.out, x, HXW.out, by rw [HX0.out], by rw [HSV.out]; exact HWP.out, rfl⟩))⟩, below_drewN HB2.out _⟩
theorem pCounter_any (hT : Tab w) (p : Int) : Calls Tryz.prog 17 #[.slice A n c, .int .i64 p] w (GivesC n p l w) := by
  by_cases h0 : relErr n l = 0
  case neg => exact cntBad_any l A n c w hR hw hm p h0
  by_cases hp : p < 1 ∨ 5 < p
  · exact cntNo_any l A n c w hR hw hm p h0 hp
  · rcases (show p = 1 ∨ p = 2 ∨ p = 3 ∨ p = 4 ∨ p = 5 by omega) with rfl | rfl | rfl | rfl | rfl
    · exact cnt1_any l A n c w hR hw hm hT h0
    · exact cnt2_any l A n c w hR hw hm hT h0
    · exact cnt3_any l A n c w hR hw hm hT h0
    · exact cnt4_any l A n c w hR hw hm hT h0
    · exact cnt5_any l A n c w hR hw hm hT h0
theorem rCounter_any (p : Int) : Calls Tryz.prog 18 #[.slice A n c, .int .i64 p] w (GivesC n p l w) := by
  by_cases h0 : relErr n l = 0
  case neg => exact rcntBad_any l A n c w hR hw hm p h0
  by_cases hp : p < 1 ∨ 5 < p
  · exact rcntNo_any l A n c w hR hw hm p h0 hp
  · rcases (show p = 1 ∨ p = 2 ∨ p = 3 ∨ p = 4 ∨ p = 5 by omega) with rfl | rfl | rfl | rfl | rfl
    · exact rcnt1_any l A n c w hR hw hm h0
    · exact rcnt2_any l A n c w hR hw hm h0
    · exact rcnt3_any l A n c w hR hw hm h0
    · exact rcnt4_any l A n c w hR hw hm h0
    · exact rcnt5_any l A n c w hR hw hm h0
end
end Go.Proofs.YtjpmhbnikoggaaaGreatDoor
/- Layer 15: Axiom by the reference. -/
namespace Go.Proofs.YtjpmhbnikoggaaaGreatDoor
open Go.RowKit Go.Proofs.Ws
set_option maxRecDepth 100000
theorem rKnow_any (g : List Nd) (n : Nat) (op a x : Int) (A : Option Addr) (c base : Nat) (w : World) (hO : w.ownsRow base 79 6 (.slice A n c) n (nds g)) (hn : g.length = n) (hl : n ≤ 1000) (hb : base ≤ w.heap.size) :
    Calls Tryz.prog 49 #[.slice A n c, .int .i64 op, .int .i64 a, .int .i64 x] w fun e w' => ∃ A' c', e = .returned (.slice A' (n + 1) c') ∧ w'.ownsRow base 79 6 (.slice A' (n + 1) c') (n + 1) (nds (g ++ [⟨op, a, 0, 0, x, 0⟩])) ∧ Below base w w' := by
  subst hn
  have HO := Lib.hid hO
  have hb2 := hb
  clear hO
  go_enter Tryz.func49, Tryz.ntmps49
  go_wp2_with (at_builtin; refine wp_appN ⟨op, a, 0, 0, x, 0⟩ _ rfl _ _ rfl base _ _ rfl (HO.out.alloc _) rfl ?k1 ?k2 ?k3 ?_)
  case k1 =>
    intro j' u hj'
    have hh := heap_alloc_new w (.cells #[.int .i64 op, .int .i64 a, .int .i64 0, .int .i64 0, .int .i64 x, .int .i64 0] 79)
    rw [Lib.cell_of_heap hh j', ← hj']
    simp [ndC]
  case k2 => omega
  case k3 => simp; omega
  intro v' w5 hown5 hgrow
  have HB5 : Hid (Below base w w5) := Lib.hid (((Below.refl base w).alloc hb2 _).grown hgrow (by simp; omega) (fun g hg => (HO.out.lt g hg).1))
  obtain ⟨A', c', rfl⟩ := own_slK hown5
  have HOW := Lib.hid hown5
  clear hown5 hgrow hb2
  go_wp2
  go_ret
  exact ⟨_, _, rfl, HOW.out, HB5.out⟩
section
variable (f : List Nd) (A : Option Addr) (n c : Nat) (w : World) (hR : Reads w w.heap.size 6 A n (nds f)) (hn : n ≤ maxLen)
include hR hn
theorem rax_bad (p a : Int) (hz : fErr f ≠ 0) : Calls Tryz.prog 16 #[.int .i64 p, .int .i64 a, .slice A n c] w (GivesX p a f w) := by
  have HC := Lib.hid (rfCheck_any f A n c w hR hn)
  have HG := Lib.hid (fun (e : Ending) (w' : World) => GivesX.none (p := p) (a := a) (f := f) (w := w) (w' := w') (e := e) (z := fErr f) hz (by unfold axE; rw [if_pos hz]))
  have hz1 : (fErr f != 0) = true := by rw [bne_iff_ne]; exact hz
  clear hR hn hz
  generalize fErr f = z at *
  generalize GivesX p a f w = G at *
  change Calls _ _ _ _ (fun e w' => G e w')
  go_enter Tryz.func16, Tryz.ntmps16
  go_wp2_with fail
  refine (HC.out).mono ?_
  rintro e w1 ⟨rfl, hb⟩
  have HB := Lib.hid hb
  clear hb
  go_wp2
  exact HG.out _ _ rfl HB.out
theorem rax_arg (p a : Int) (hz : fErr f = 0) (hp : p < 1 ∨ 5 < p) : Calls Tryz.prog 16 #[.int .i64 p, .int .i64 a, .slice A n c] w (GivesX p a f w) := by
  have HC := Lib.hid (rfCheck_any f A n c w hR hn)
  rw [hz] at HC
  have HG := Lib.hid (fun (e : Ending) (w' : World) => GivesX.none (p := p) (a := a) (f := f) (w := w) (w' := w') (e := e) (z := 1) (by decide) (by unfold axE; rw [if_neg (fun h => h hz), if_pos hp]))
  have HD := Lib.hid (fun W => worlds0_any p hp W)
  clear hR hn hz hp
  generalize GivesX p a f w = G at *
  change Calls _ _ _ _ (fun e w' => G e w')
  go_enter Tryz.func16, Tryz.ntmps16
  go_wp2_with fail
  refine (HC.out).mono ?_
  rintro e w1 ⟨rfl, hb⟩
  have HB := Lib.hid hb
  clear hb
  go_wp2_with fail
  refine (HD.out _).mono ?_
  rintro e w2 ⟨rfl, rfl⟩
  go_wp2
  exact HG.out _ _ rfl HB.out
set_option maxHeartbeats 8000000 in
theorem rax1_rng (a : Int) (hz : fErr f = 0) (ha : a < 0 ∨ 4 ≤ a) : Calls Tryz.prog 16 #[.int .i64 1, .int .i64 a, .slice A n c] w (GivesX 1 a f w) := by
  have HC := Lib.hid (rfCheck_any f A n c w hR hn)
  rw [hz] at HC
  have HG := Lib.hid (fun (e : Ending) (w' : World) => GivesX.none (p := 1) (a := a) (f := f) (w := w) (w' := w') (e := e) (z := 2) (by decide) (by unfold axE; rw [if_neg (fun h => h hz), if_neg (by decide), if_pos ha]))
  have HD := Lib.hid (fun W => worlds1_any W)
  clear hR hn hz
  generalize GivesX 1 a f w = G at *
  change Calls _ _ _ _ (fun e w' => G e w')
  rcases ha with ha | ha
  · have d1 : decide (a < 0) = true := decide_eq_true ha
    clear ha
    go_enter Tryz.func16, Tryz.ntmps16
    go_wp2_with fail
    refine (HC.out).mono ?_
    rintro e w1 ⟨rfl, hb⟩
    have HB := Lib.hid hb
    clear hb
    go_wp2_with fail
    refine (HD.out _).mono ?_
    rintro e w2 ⟨rfl, rfl⟩
    go_wp2
    exact HG.out _ _ rfl HB.out
  · have d1 : decide (a < 0) = false := decide_eq_false (by omega)
    have d2 : decide (4 ≤ a) = true := decide_eq_true ha
    clear ha
    go_enter Tryz.func16, Tryz.ntmps16
    go_wp2_with fail
    refine (HC.out).mono ?_
    rintro e w1 ⟨rfl, hb⟩
    have HB := Lib.hid hb
    clear hb
    go_wp2_with fail
    refine (HD.out _).mono ?_
    rintro e w2 ⟨rfl, rfl⟩
    go_wp2
    exact HG.out _ _ rfl HB.out
set_option maxHeartbeats 16000000 in
theorem rax1_any (a : Int) (hz : fErr f = 0) (ha : 0 ≤ a ∧ a < 4) : Calls Tryz.prog 16 #[.int .i64 1, .int .i64 a, .slice A n c] w (GivesX 1 a f w) := by
  have HC := Lib.hid (rfCheck_any f A n c w hR hn)
  rw [hz] at HC
  have HD := Lib.hid (fun W => worlds1_any W)
  have HK := Lib.hid (fun W (hb : Below w.heap.size w W) => rCompact_own f A n c W ((hR.below hb).more hb.size) hn)
  have hax := axL_ref hz (p := 1) ⟨by decide, by decide⟩ ha
  have hrc := ref_comp hz (p := 1) ⟨by decide, by decide⟩ ha
  have hpos := ref_pos 1 a (compF f)
  have hcl := comp_len hz
  have hcp := (lt_comp hz).pos
  have hE : (axL 1 a f).length ≠ 0 → axE 1 a f = 0 := fun h => by unfold axE; rw [if_neg (fun h => h hz), if_neg (by decide), if_neg (by omega), if_neg h]
  have hE2 : axL 1 a f = [] → axE 1 a f = 8 := fun h => by unfold axE; rw [if_neg (fun h => h hz), if_neg (by decide), if_neg (by omega), h, if_pos (by simp)]
  have HGS := Lib.hid (fun (e : Ending) (w' : World) (A' : Option Addr) (c' : Nat) (h : (axL 1 a f).length ≠ 0) => GivesX.some (p := 1) (a := a) (f := f) (w := w) (w' := w') (e := e) (A := A') (c := c') (hE h))
  have HGN := Lib.hid (fun (e : Ending) (w' : World) (h : axL 1 a f = []) => GivesX.none (p := 1) (a := a) (f := f) (w := w) (w' := w') (e := e) (z := 8) (by decide) (hE2 h))
  clear hE hE2 hR hn hz
  generalize hgg : compF f = g at *
  generalize axL 1 a f = AL at *
  generalize GivesX 1 a f w = GG at *
  change Calls _ _ _ _ (fun e w' => GG e w')
  obtain ⟨X, hX⟩ : ∃ X, g.length = X + 1 := ⟨g.length - 1, by omega⟩
  have hL : refL 1 a g = g ++ [knx a (X)] ++ [pox a (X)] ++ [imx (X + 1) (X + 2)] := by
    unfold refL
    rw [hX]
    rfl
  rw [hL] at hax hrc hpos
  have hlen : (g ++ [knx a (X)] ++ [pox a (X)] ++ [imx (X + 1) (X + 2)]).length = X + 4 := by simp [hX]
  have d1 : decide (a < 0) = false := decide_eq_false (by omega)
  have d2 : decide (4 ≤ a) = false := decide_eq_false (by omega)
  rw [hlen] at hax hrc
  have HAX := Lib.hid hax
  have HRC := Lib.hid hrc
  have HLEN := Lib.hid hlen
  have HGL := Lib.hid hX
  rw [hX] at HK
  have hx0 : wrap64 (((X + 1 : Nat) : Int) - 1) = (X : Int) := by rw [show (((X + 1 : Nat) : Int) - 1) = (X : Int) by omega]; exact IntWalk.wrap64_in _ ⟨by omega, by omega⟩
  have hx1 : wrap64 ((X : Int) + 1) = (X : Int) + 1 := by exact IntWalk.wrap64_in _ ⟨by omega, by omega⟩
  have hx2 : wrap64 ((X : Int) + 2) = (X : Int) + 2 := by exact IntWalk.wrap64_in _ ⟨by omega, by omega⟩
  have hX200 : X < 200 := by omega
  clear hax hrc hlen hL hX hgg ha hcl hcp hpos
  go_enter Tryz.func16, Tryz.ntmps16
  go_wp2_with fail
  refine (HC.out).mono ?_
  rintro e w1 ⟨rfl, hb⟩
  have HB1 := Lib.hid hb
  clear hb
  go_wp2_with fail
  refine (HD.out _).mono ?_
  rintro e w2 ⟨rfl, rfl⟩
  go_wp2_with fail
  refine (HK.out _ HB1.out).mono ?_
  rintro e w2 ⟨A2, k2, rfl, ho, hb⟩
  have HB2 := Lib.hid (HB1.out.trans (hb.mono HB1.out.size))
  have HO2 := Lib.hid (own_baseK ho HB1.out.size)
  clear hb ho
  have HN2 := Lib.hid (rKnow_any g (X + 1) 9 a (X : Int) A2 k2 w.heap.size w2 HO2.out (by simp [HGL.out]) (by omega) HB2.out.size)
  go_wp2_with fail
  refine (HN2.out).mono ?_
  rintro e w3 ⟨A3, k3, rfl, ho, hb⟩
  have HB3 := Lib.hid (HB2.out.trans hb)
  have HO3 : Hid (w3.ownsRow w.heap.size 79 6 (.slice A3 (X + 1 + 1) k3) (X + 1 + 1) (nds (g ++ [knx a (X)]))) := Lib.hid (by have h := ho; simpa [knx, pox] using h)
  clear hb ho
  have HN3 := Lib.hid (rKnow_any (g ++ [knx a (X)]) (X + 1 + 1) 10 a (X : Int) A3 k3 w.heap.size w3 HO3.out (by simp [HGL.out]) (by omega) HB3.out.size)
  go_wp2_with fail
  refine (HN3.out).mono ?_
  rintro e w4 ⟨A4, k4, rfl, ho, hb⟩
  have HB4 := Lib.hid (HB3.out.trans hb)
  have HO4 : Hid (w4.ownsRow w.heap.size 79 6 (.slice A4 (X + 1 + 1 + 1) k4) (X + 1 + 1 + 1) (nds ((g ++ [knx a (X)]) ++ [pox a (X)]))) := Lib.hid (by have h := ho; simpa [knx, pox] using h)
  clear hb ho
  have hsz := HB4.out.size
  go_wp2_with (at_builtin; refine wp_appN ⟨7, 0, 0, 0, ((X : Int) + 1), ((X : Int) + 2)⟩ _ rfl _ _ rfl w.heap.size _ _ rfl (out := ((g ++ [knx a (X)]) ++ [pox a (X)])) (by rw [show (((g ++ [knx a (X)]) ++ [pox a (X)])).length = X + 1 + 1 + 1 by simp [HGL.out]]; exact HO4.out.alloc _) rfl ?k1 ?k2 ?k3 ?_)
  case k1 =>
    intro j' u hj'
    have hh := heap_alloc_new w4 (.cells #[.int .i64 7, .int .i64 0, .int .i64 0, .int .i64 0, .int .i64 ((X : Int) + 1), .int .i64 ((X : Int) + 2)] 79)
    rw [Lib.cell_of_heap hh j', ← hj']
    simp [ndC]
  case k2 => rw [show (((g ++ [knx a (X)]) ++ [pox a (X)])).length = X + 1 + 1 + 1 by simp [HGL.out]]; omega
  case k3 => simp; omega
  intro v' w9 hown9 hgrow
  have HB9 : Hid (Below w.heap.size w w9) := Lib.hid ((HB4.out.alloc hsz _).grown hgrow (by simp; omega) (fun g hg => (HO4.out.lt g hg).1))
  have hown9 : w9.ownsRow w.heap.size 79 6 v' (X + 4) (nds (g ++ [knx a (X)] ++ [pox a (X)] ++ [imx (X + 1) (X + 2)])) := by have h := hown9; rw [HGL.out] at h; simpa [imx] using h
  obtain ⟨A9, k9, rfl⟩ := own_slK hown9
  have HRD := Lib.hid (Reads.of_own hown9)
  clear hown9 hgrow hsz
  by_cases h200 : 200 < X + 4
  · have d3 : decide ((200 : Int) < (X : Int) + 4) = true := decide_eq_true (by omega)
    have HA0 := Lib.hid (by have h := HAX.out; rw [if_pos h200] at h; exact h)
    clear h200
    go_wp2
    exact HGN.out _ _ HA0.out rfl HB9.out
  · have d3 : decide ((200 : Int) < (X : Int) + 4) = false := decide_eq_false (by omega)
    have HA0 : Hid (AL = g ++ [knx a (X)] ++ [pox a (X)] ++ [imx (X + 1) (X + 2)]) := Lib.hid (by have h := HAX.out; rw [if_neg h200] at h; exact h)
    have HKK := Lib.hid (rCompact_any (g ++ [knx a (X)] ++ [pox a (X)] ++ [imx (X + 1) (X + 2)]) A9 (X + 4) k9 w9 HRD.out (by unfold maxLen; omega))
    rw [HRC.out (by omega), HLEN.out] at HKK
    have HAN : Hid (AL.length = X + 4) := Lib.hid (by rw [HA0.out, HLEN.out])
    clear h200
    go_wp2_with fail
    refine (HKK.out).mono ?_
    rintro e w10 ⟨A10, k10, rfl, hr10, hb⟩
    have HB10 := Lib.hid (HB9.out.trans (hb.mono HB9.out.size))
    have HR10 : Hid (Reads w10 w10.heap.size 6 A10 AL.length (nds AL)) := Lib.hid (by rw [HAN.out, HA0.out]; exact hr10)
    clear hb hr10
    go_wp2
    exact HGS.out _ _ A10 k10 (by rw [HAN.out]; omega) (by rw [HAN.out]; rfl) HR10.out HB10.out
set_option maxHeartbeats 8000000 in
theorem rax2_rng (a : Int) (hz : fErr f = 0) (ha : a < 0 ∨ 4 ≤ a) : Calls Tryz.prog 16 #[.int .i64 2, .int .i64 a, .slice A n c] w (GivesX 2 a f w) := by
  have HC := Lib.hid (rfCheck_any f A n c w hR hn)
  rw [hz] at HC
  have HG := Lib.hid (fun (e : Ending) (w' : World) => GivesX.none (p := 2) (a := a) (f := f) (w := w) (w' := w') (e := e) (z := 2) (by decide) (by unfold axE; rw [if_neg (fun h => h hz), if_neg (by decide), if_pos ha]))
  have HD := Lib.hid (fun W => worlds2_any W)
  clear hR hn hz
  generalize GivesX 2 a f w = G at *
  change Calls _ _ _ _ (fun e w' => G e w')
  rcases ha with ha | ha
  · have d1 : decide (a < 0) = true := decide_eq_true ha
    clear ha
    go_enter Tryz.func16, Tryz.ntmps16
    go_wp2_with fail
    refine (HC.out).mono ?_
    rintro e w1 ⟨rfl, hb⟩
    have HB := Lib.hid hb
    clear hb
    go_wp2_with fail
    refine (HD.out _).mono ?_
    rintro e w2 ⟨rfl, rfl⟩
    go_wp2
    exact HG.out _ _ rfl HB.out
  · have d1 : decide (a < 0) = false := decide_eq_false (by omega)
    have d2 : decide (4 ≤ a) = true := decide_eq_true ha
    clear ha
    go_enter Tryz.func16, Tryz.ntmps16
    go_wp2_with fail
    refine (HC.out).mono ?_
    rintro e w1 ⟨rfl, hb⟩
    have HB := Lib.hid hb
    clear hb
    go_wp2_with fail
    refine (HD.out _).mono ?_
    rintro e w2 ⟨rfl, rfl⟩
    go_wp2
    exact HG.out _ _ rfl HB.out
set_option maxHeartbeats 16000000 in
theorem rax2_any (a : Int) (hz : fErr f = 0) (ha : 0 ≤ a ∧ a < 4) : Calls Tryz.prog 16 #[.int .i64 2, .int .i64 a, .slice A n c] w (GivesX 2 a f w) := by
  have HC := Lib.hid (rfCheck_any f A n c w hR hn)
  rw [hz] at HC
  have HD := Lib.hid (fun W => worlds2_any W)
  have HK := Lib.hid (fun W (hb : Below w.heap.size w W) => rCompact_own f A n c W ((hR.below hb).more hb.size) hn)
  have hax := axL_ref hz (p := 2) ⟨by decide, by decide⟩ ha
  have hrc := ref_comp hz (p := 2) ⟨by decide, by decide⟩ ha
  have hpos := ref_pos 2 a (compF f)
  have hcl := comp_len hz
  have hcp := (lt_comp hz).pos
  have hE : (axL 2 a f).length ≠ 0 → axE 2 a f = 0 := fun h => by unfold axE; rw [if_neg (fun h => h hz), if_neg (by decide), if_neg (by omega), if_neg h]
  have hE2 : axL 2 a f = [] → axE 2 a f = 8 := fun h => by unfold axE; rw [if_neg (fun h => h hz), if_neg (by decide), if_neg (by omega), h, if_pos (by simp)]
  have HGS := Lib.hid (fun (e : Ending) (w' : World) (A' : Option Addr) (c' : Nat) (h : (axL 2 a f).length ≠ 0) => GivesX.some (p := 2) (a := a) (f := f) (w := w) (w' := w') (e := e) (A := A') (c := c') (hE h))
  have HGN := Lib.hid (fun (e : Ending) (w' : World) (h : axL 2 a f = []) => GivesX.none (p := 2) (a := a) (f := f) (w := w) (w' := w') (e := e) (z := 8) (by decide) (hE2 h))
  clear hE hE2 hR hn hz
  generalize hgg : compF f = g at *
  generalize axL 2 a f = AL at *
  generalize GivesX 2 a f w = GG at *
  change Calls _ _ _ _ (fun e w' => GG e w')
  obtain ⟨X, hX⟩ : ∃ X, g.length = X + 1 := ⟨g.length - 1, by omega⟩
  have hL : refL 2 a g = g ++ [knx a (X)] ++ [imx (X + 1) (X)] := by
    unfold refL
    rw [hX]
    rfl
  rw [hL] at hax hrc hpos
  have hlen : (g ++ [knx a (X)] ++ [imx (X + 1) (X)]).length = X + 3 := by simp [hX]
  have d1 : decide (a < 0) = false := decide_eq_false (by omega)
  have d2 : decide (4 ≤ a) = false := decide_eq_false (by omega)
  rw [hlen] at hax hrc
  have HAX := Lib.hid hax
  have HRC := Lib.hid hrc
  have HLEN := Lib.hid hlen
  have HGL := Lib.hid hX
  rw [hX] at HK
  have hx0 : wrap64 (((X + 1 : Nat) : Int) - 1) = (X : Int) := by rw [show (((X + 1 : Nat) : Int) - 1) = (X : Int) by omega]; exact IntWalk.wrap64_in _ ⟨by omega, by omega⟩
  have hx1 : wrap64 ((X : Int) + 1) = (X : Int) + 1 := by exact IntWalk.wrap64_in _ ⟨by omega, by omega⟩
  have hx2 : wrap64 ((X : Int) + 2) = (X : Int) + 2 := by exact IntWalk.wrap64_in _ ⟨by omega, by omega⟩
  have hX200 : X < 200 := by omega
  clear hax hrc hlen hL hX hgg ha hcl hcp hpos
  go_enter Tryz.func16, Tryz.ntmps16
  go_wp2_with fail
  refine (HC.out).mono ?_
  rintro e w1 ⟨rfl, hb⟩
  have HB1 := Lib.hid hb
  clear hb
  go_wp2_with fail
  refine (HD.out _).mono ?_
  rintro e w2 ⟨rfl, rfl⟩
  go_wp2_with fail
  refine (HK.out _ HB1.out).mono ?_
  rintro e w2 ⟨A2, k2, rfl, ho, hb⟩
  have HB2 := Lib.hid (HB1.out.trans (hb.mono HB1.out.size))
  have HO2 := Lib.hid (own_baseK ho HB1.out.size)
  clear hb ho
  have HN2 := Lib.hid (rKnow_any g (X + 1) 9 a (X : Int) A2 k2 w.heap.size w2 HO2.out (by simp [HGL.out]) (by omega) HB2.out.size)
  go_wp2_with fail
  refine (HN2.out).mono ?_
  rintro e w3 ⟨A3, k3, rfl, ho, hb⟩
  have HB3 := Lib.hid (HB2.out.trans hb)
  have HO3 : Hid (w3.ownsRow w.heap.size 79 6 (.slice A3 (X + 1 + 1) k3) (X + 1 + 1) (nds (g ++ [knx a (X)]))) := Lib.hid (by have h := ho; simpa [knx, pox] using h)
  clear hb ho
  have hsz := HB3.out.size
  go_wp2_with (at_builtin; refine wp_appN ⟨7, 0, 0, 0, ((X : Int) + 1), (X : Int)⟩ _ rfl _ _ rfl w.heap.size _ _ rfl (out := (g ++ [knx a (X)])) (by rw [show ((g ++ [knx a (X)])).length = X + 1 + 1 by simp [HGL.out]]; exact HO3.out.alloc _) rfl ?k1 ?k2 ?k3 ?_)
  case k1 =>
    intro j' u hj'
    have hh := heap_alloc_new w3 (.cells #[.int .i64 7, .int .i64 0, .int .i64 0, .int .i64 0, .int .i64 ((X : Int) + 1), .int .i64 (X : Int)] 79)
    rw [Lib.cell_of_heap hh j', ← hj']
    simp [ndC]
  case k2 => rw [show ((g ++ [knx a (X)])).length = X + 1 + 1 by simp [HGL.out]]; omega
  case k3 => simp; omega
  intro v' w9 hown9 hgrow
  have HB9 : Hid (Below w.heap.size w w9) := Lib.hid ((HB3.out.alloc hsz _).grown hgrow (by simp; omega) (fun g hg => (HO3.out.lt g hg).1))
  have hown9 : w9.ownsRow w.heap.size 79 6 v' (X + 3) (nds (g ++ [knx a (X)] ++ [imx (X + 1) (X)])) := by have h := hown9; rw [HGL.out] at h; simpa [imx] using h
  obtain ⟨A9, k9, rfl⟩ := own_slK hown9
  have HRD := Lib.hid (Reads.of_own hown9)
  clear hown9 hgrow hsz
  by_cases h200 : 200 < X + 3
  · have d3 : decide ((200 : Int) < (X : Int) + 3) = true := decide_eq_true (by omega)
    have HA0 := Lib.hid (by have h := HAX.out; rw [if_pos h200] at h; exact h)
    clear h200
    go_wp2
    exact HGN.out _ _ HA0.out rfl HB9.out
  · have d3 : decide ((200 : Int) < (X : Int) + 3) = false := decide_eq_false (by omega)
    have HA0 : Hid (AL = g ++ [knx a (X)] ++ [imx (X + 1) (X)]) := Lib.hid (by have h := HAX.out; rw [if_neg h200] at h; exact h)
    have HKK := Lib.hid (rCompact_any (g ++ [knx a (X)] ++ [imx (X + 1) (X)]) A9 (X + 3) k9 w9 HRD.out (by unfold maxLen; omega))
    rw [HRC.out (by omega), HLEN.out] at HKK
    have HAN : Hid (AL.length = X + 3) := Lib.hid (by rw [HA0.out, HLEN.out])
    clear h200
    go_wp2_with fail
    refine (HKK.out).mono ?_
    rintro e w10 ⟨A10, k10, rfl, hr10, hb⟩
    have HB10 := Lib.hid (HB9.out.trans (hb.mono HB9.out.size))
    have HR10 : Hid (Reads w10 w10.heap.size 6 A10 AL.length (nds AL)) := Lib.hid (by rw [HAN.out, HA0.out]; exact hr10)
    clear hb hr10
    go_wp2
    exact HGS.out _ _ A10 k10 (by rw [HAN.out]; omega) (by rw [HAN.out]; rfl) HR10.out HB10.out
set_option maxHeartbeats 8000000 in
theorem rax3_rng (a : Int) (hz : fErr f = 0) (ha : a < 0 ∨ 4 ≤ a) : Calls Tryz.prog 16 #[.int .i64 3, .int .i64 a, .slice A n c] w (GivesX 3 a f w) := by
  have HC := Lib.hid (rfCheck_any f A n c w hR hn)
  rw [hz] at HC
  have HG := Lib.hid (fun (e : Ending) (w' : World) => GivesX.none (p := 3) (a := a) (f := f) (w := w) (w' := w') (e := e) (z := 2) (by decide) (by unfold axE; rw [if_neg (fun h => h hz), if_neg (by decide), if_pos ha]))
  have HD := Lib.hid (fun W => worlds3_any W)
  clear hR hn hz
  generalize GivesX 3 a f w = G at *
  change Calls _ _ _ _ (fun e w' => G e w')
  rcases ha with ha | ha
  · have d1 : decide (a < 0) = true := decide_eq_true ha
    clear ha
    go_enter Tryz.func16, Tryz.ntmps16
    go_wp2_with fail
    refine (HC.out).mono ?_
    rintro e w1 ⟨rfl, hb⟩
    have HB := Lib.hid hb
    clear hb
    go_wp2_with fail
    refine (HD.out _).mono ?_
    rintro e w2 ⟨rfl, rfl⟩
    go_wp2
    exact HG.out _ _ rfl HB.out
  · have d1 : decide (a < 0) = false := decide_eq_false (by omega)
    have d2 : decide (4 ≤ a) = true := decide_eq_true ha
    clear ha
    go_enter Tryz.func16, Tryz.ntmps16
    go_wp2_with fail
    refine (HC.out).mono ?_
    rintro e w1 ⟨rfl, hb⟩
    have HB := Lib.hid hb
    clear hb
    go_wp2_with fail
    refine (HD.out _).mono ?_
    rintro e w2 ⟨rfl, rfl⟩
    go_wp2
    exact HG.out _ _ rfl HB.out
set_option maxHeartbeats 16000000 in
theorem rax3_any (a : Int) (hz : fErr f = 0) (ha : 0 ≤ a ∧ a < 4) : Calls Tryz.prog 16 #[.int .i64 3, .int .i64 a, .slice A n c] w (GivesX 3 a f w) := by
  have HC := Lib.hid (rfCheck_any f A n c w hR hn)
  rw [hz] at HC
  have HD := Lib.hid (fun W => worlds3_any W)
  have HK := Lib.hid (fun W (hb : Below w.heap.size w W) => rCompact_own f A n c W ((hR.below hb).more hb.size) hn)
  have hax := axL_ref hz (p := 3) ⟨by decide, by decide⟩ ha
  have hrc := ref_comp hz (p := 3) ⟨by decide, by decide⟩ ha
  have hpos := ref_pos 3 a (compF f)
  have hcl := comp_len hz
  have hcp := (lt_comp hz).pos
  have hE : (axL 3 a f).length ≠ 0 → axE 3 a f = 0 := fun h => by unfold axE; rw [if_neg (fun h => h hz), if_neg (by decide), if_neg (by omega), if_neg h]
  have hE2 : axL 3 a f = [] → axE 3 a f = 8 := fun h => by unfold axE; rw [if_neg (fun h => h hz), if_neg (by decide), if_neg (by omega), h, if_pos (by simp)]
  have HGS := Lib.hid (fun (e : Ending) (w' : World) (A' : Option Addr) (c' : Nat) (h : (axL 3 a f).length ≠ 0) => GivesX.some (p := 3) (a := a) (f := f) (w := w) (w' := w') (e := e) (A := A') (c := c') (hE h))
  have HGN := Lib.hid (fun (e : Ending) (w' : World) (h : axL 3 a f = []) => GivesX.none (p := 3) (a := a) (f := f) (w := w) (w' := w') (e := e) (z := 8) (by decide) (hE2 h))
  clear hE hE2 hR hn hz
  generalize hgg : compF f = g at *
  generalize axL 3 a f = AL at *
  generalize GivesX 3 a f w = GG at *
  change Calls _ _ _ _ (fun e w' => GG e w')
  obtain ⟨X, hX⟩ : ∃ X, g.length = X + 1 := ⟨g.length - 1, by omega⟩
  have hL : refL 3 a g = g ++ [pox a (X)] ++ [knx a (X + 1)] ++ [imx (X) (X + 2)] := by
    unfold refL
    rw [hX]
    rfl
  rw [hL] at hax hrc hpos
  have hlen : (g ++ [pox a (X)] ++ [knx a (X + 1)] ++ [imx (X) (X + 2)]).length = X + 4 := by simp [hX]
  have d1 : decide (a < 0) = false := decide_eq_false (by omega)
  have d2 : decide (4 ≤ a) = false := decide_eq_false (by omega)
  rw [hlen] at hax hrc
  have HAX := Lib.hid hax
  have HRC := Lib.hid hrc
  have HLEN := Lib.hid hlen
  have HGL := Lib.hid hX
  rw [hX] at HK
  have hx0 : wrap64 (((X + 1 : Nat) : Int) - 1) = (X : Int) := by rw [show (((X + 1 : Nat) : Int) - 1) = (X : Int) by omega]; exact IntWalk.wrap64_in _ ⟨by omega, by omega⟩
  have hx1 : wrap64 ((X : Int) + 1) = (X : Int) + 1 := by exact IntWalk.wrap64_in _ ⟨by omega, by omega⟩
  have hx2 : wrap64 ((X : Int) + 2) = (X : Int) + 2 := by exact IntWalk.wrap64_in _ ⟨by omega, by omega⟩
  have hX200 : X < 200 := by omega
  clear hax hrc hlen hL hX hgg ha hcl hcp hpos
  go_enter Tryz.func16, Tryz.ntmps16
  go_wp2_with fail
  refine (HC.out).mono ?_
  rintro e w1 ⟨rfl, hb⟩
  have HB1 := Lib.hid hb
  clear hb
  go_wp2_with fail
  refine (HD.out _).mono ?_
  rintro e w2 ⟨rfl, rfl⟩
  go_wp2_with fail
  refine (HK.out _ HB1.out).mono ?_
  rintro e w2 ⟨A2, k2, rfl, ho, hb⟩
  have HB2 := Lib.hid (HB1.out.trans (hb.mono HB1.out.size))
  have HO2 := Lib.hid (own_baseK ho HB1.out.size)
  clear hb ho
  have HN2 := Lib.hid (rKnow_any g (X + 1) 10 a (X : Int) A2 k2 w.heap.size w2 HO2.out (by simp [HGL.out]) (by omega) HB2.out.size)
  go_wp2_with fail
  refine (HN2.out).mono ?_
  rintro e w3 ⟨A3, k3, rfl, ho, hb⟩
  have HB3 := Lib.hid (HB2.out.trans hb)
  have HO3 : Hid (w3.ownsRow w.heap.size 79 6 (.slice A3 (X + 1 + 1) k3) (X + 1 + 1) (nds (g ++ [pox a (X)]))) := Lib.hid (by have h := ho; simpa [knx, pox] using h)
  clear hb ho
  have HN3 := Lib.hid (rKnow_any (g ++ [pox a (X)]) (X + 1 + 1) 9 a ((X : Int) + 1) A3 k3 w.heap.size w3 HO3.out (by simp [HGL.out]) (by omega) HB3.out.size)
  go_wp2_with fail
  refine (HN3.out).mono ?_
  rintro e w4 ⟨A4, k4, rfl, ho, hb⟩
  have HB4 := Lib.hid (HB3.out.trans hb)
  have HO4 : Hid (w4.ownsRow w.heap.size 79 6 (.slice A4 (X + 1 + 1 + 1) k4) (X + 1 + 1 + 1) (nds ((g ++ [pox a (X)]) ++ [knx a (X + 1)]))) := Lib.hid (by have h := ho; simpa [knx, pox] using h)
  clear hb ho
  have hsz := HB4.out.size
  go_wp2_with (at_builtin; refine wp_appN ⟨7, 0, 0, 0, (X : Int), ((X : Int) + 2)⟩ _ rfl _ _ rfl w.heap.size _ _ rfl (out := ((g ++ [pox a (X)]) ++ [knx a (X + 1)])) (by rw [show (((g ++ [pox a (X)]) ++ [knx a (X + 1)])).length = X + 1 + 1 + 1 by simp [HGL.out]]; exact HO4.out.alloc _) rfl ?k1 ?k2 ?k3 ?_)
  case k1 =>
    intro j' u hj'
    have hh := heap_alloc_new w4 (.cells #[.int .i64 7, .int .i64 0, .int .i64 0, .int .i64 0, .int .i64 (X : Int), .int .i64 ((X : Int) + 2)] 79)
    rw [Lib.cell_of_heap hh j', ← hj']
    simp [ndC]
  case k2 => rw [show (((g ++ [pox a (X)]) ++ [knx a (X + 1)])).length = X + 1 + 1 + 1 by simp [HGL.out]]; omega
  case k3 => simp; omega
  intro v' w9 hown9 hgrow
  have HB9 : Hid (Below w.heap.size w w9) := Lib.hid ((HB4.out.alloc hsz _).grown hgrow (by simp; omega) (fun g hg => (HO4.out.lt g hg).1))
  have hown9 : w9.ownsRow w.heap.size 79 6 v' (X + 4) (nds (g ++ [pox a (X)] ++ [knx a (X + 1)] ++ [imx (X) (X + 2)])) := by have h := hown9; rw [HGL.out] at h; simpa [imx] using h
  obtain ⟨A9, k9, rfl⟩ := own_slK hown9
  have HRD := Lib.hid (Reads.of_own hown9)
  clear hown9 hgrow hsz
  by_cases h200 : 200 < X + 4
  · have d3 : decide ((200 : Int) < (X : Int) + 4) = true := decide_eq_true (by omega)
    have HA0 := Lib.hid (by have h := HAX.out; rw [if_pos h200] at h; exact h)
    clear h200
    go_wp2
    exact HGN.out _ _ HA0.out rfl HB9.out
  · have d3 : decide ((200 : Int) < (X : Int) + 4) = false := decide_eq_false (by omega)
    have HA0 : Hid (AL = g ++ [pox a (X)] ++ [knx a (X + 1)] ++ [imx (X) (X + 2)]) := Lib.hid (by have h := HAX.out; rw [if_neg h200] at h; exact h)
    have HKK := Lib.hid (rCompact_any (g ++ [pox a (X)] ++ [knx a (X + 1)] ++ [imx (X) (X + 2)]) A9 (X + 4) k9 w9 HRD.out (by unfold maxLen; omega))
    rw [HRC.out (by omega), HLEN.out] at HKK
    have HAN : Hid (AL.length = X + 4) := Lib.hid (by rw [HA0.out, HLEN.out])
    clear h200
    go_wp2_with fail
    refine (HKK.out).mono ?_
    rintro e w10 ⟨A10, k10, rfl, hr10, hb⟩
    have HB10 := Lib.hid (HB9.out.trans (hb.mono HB9.out.size))
    have HR10 : Hid (Reads w10 w10.heap.size 6 A10 AL.length (nds AL)) := Lib.hid (by rw [HAN.out, HA0.out]; exact hr10)
    clear hb hr10
    go_wp2
    exact HGS.out _ _ A10 k10 (by rw [HAN.out]; omega) (by rw [HAN.out]; rfl) HR10.out HB10.out
set_option maxHeartbeats 8000000 in
theorem rax4_rng (a : Int) (hz : fErr f = 0) (ha : a < 0 ∨ 4 ≤ a) : Calls Tryz.prog 16 #[.int .i64 4, .int .i64 a, .slice A n c] w (GivesX 4 a f w) := by
  have HC := Lib.hid (rfCheck_any f A n c w hR hn)
  rw [hz] at HC
  have HG := Lib.hid (fun (e : Ending) (w' : World) => GivesX.none (p := 4) (a := a) (f := f) (w := w) (w' := w') (e := e) (z := 2) (by decide) (by unfold axE; rw [if_neg (fun h => h hz), if_neg (by decide), if_pos ha]))
  have HD := Lib.hid (fun W => worlds4_any W)
  clear hR hn hz
  generalize GivesX 4 a f w = G at *
  change Calls _ _ _ _ (fun e w' => G e w')
  rcases ha with ha | ha
  · have d1 : decide (a < 0) = true := decide_eq_true ha
    clear ha
    go_enter Tryz.func16, Tryz.ntmps16
    go_wp2_with fail
    refine (HC.out).mono ?_
    rintro e w1 ⟨rfl, hb⟩
    have HB := Lib.hid hb
    clear hb
    go_wp2_with fail
    refine (HD.out _).mono ?_
    rintro e w2 ⟨rfl, rfl⟩
    go_wp2
    exact HG.out _ _ rfl HB.out
  · have d1 : decide (a < 0) = false := decide_eq_false (by omega)
    have d2 : decide (4 ≤ a) = true := decide_eq_true ha
    clear ha
    go_enter Tryz.func16, Tryz.ntmps16
    go_wp2_with fail
    refine (HC.out).mono ?_
    rintro e w1 ⟨rfl, hb⟩
    have HB := Lib.hid hb
    clear hb
    go_wp2_with fail
    refine (HD.out _).mono ?_
    rintro e w2 ⟨rfl, rfl⟩
    go_wp2
    exact HG.out _ _ rfl HB.out
set_option maxHeartbeats 16000000 in
theorem rax4_any (a : Int) (hz : fErr f = 0) (ha : 0 ≤ a ∧ a < 4) : Calls Tryz.prog 16 #[.int .i64 4, .int .i64 a, .slice A n c] w (GivesX 4 a f w) := by
  have HC := Lib.hid (rfCheck_any f A n c w hR hn)
  rw [hz] at HC
  have HD := Lib.hid (fun W => worlds4_any W)
  have HK := Lib.hid (fun W (hb : Below w.heap.size w W) => rCompact_own f A n c W ((hR.below hb).more hb.size) hn)
  have hax := axL_ref hz (p := 4) ⟨by decide, by decide⟩ ha
  have hrc := ref_comp hz (p := 4) ⟨by decide, by decide⟩ ha
  have hpos := ref_pos 4 a (compF f)
  have hcl := comp_len hz
  have hcp := (lt_comp hz).pos
  have hE : (axL 4 a f).length ≠ 0 → axE 4 a f = 0 := fun h => by unfold axE; rw [if_neg (fun h => h hz), if_neg (by decide), if_neg (by omega), if_neg h]
  have hE2 : axL 4 a f = [] → axE 4 a f = 8 := fun h => by unfold axE; rw [if_neg (fun h => h hz), if_neg (by decide), if_neg (by omega), h, if_pos (by simp)]
  have HGS := Lib.hid (fun (e : Ending) (w' : World) (A' : Option Addr) (c' : Nat) (h : (axL 4 a f).length ≠ 0) => GivesX.some (p := 4) (a := a) (f := f) (w := w) (w' := w') (e := e) (A := A') (c := c') (hE h))
  have HGN := Lib.hid (fun (e : Ending) (w' : World) (h : axL 4 a f = []) => GivesX.none (p := 4) (a := a) (f := f) (w := w) (w' := w') (e := e) (z := 8) (by decide) (hE2 h))
  clear hE hE2 hR hn hz
  generalize hgg : compF f = g at *
  generalize axL 4 a f = AL at *
  generalize GivesX 4 a f w = GG at *
  change Calls _ _ _ _ (fun e w' => GG e w')
  obtain ⟨X, hX⟩ : ∃ X, g.length = X + 1 := ⟨g.length - 1, by omega⟩
  have hL : refL 4 a g = g ++ [knx a (X)] ++ [knx a (X + 1)] ++ [imx (X + 1) (X + 2)] := by
    unfold refL
    rw [hX]
    rfl
  rw [hL] at hax hrc hpos
  have hlen : (g ++ [knx a (X)] ++ [knx a (X + 1)] ++ [imx (X + 1) (X + 2)]).length = X + 4 := by simp [hX]
  have d1 : decide (a < 0) = false := decide_eq_false (by omega)
  have d2 : decide (4 ≤ a) = false := decide_eq_false (by omega)
  rw [hlen] at hax hrc
  have HAX := Lib.hid hax
  have HRC := Lib.hid hrc
  have HLEN := Lib.hid hlen
  have HGL := Lib.hid hX
  rw [hX] at HK
  have hx0 : wrap64 (((X + 1 : Nat) : Int) - 1) = (X : Int) := by rw [show (((X + 1 : Nat) : Int) - 1) = (X : Int) by omega]; exact IntWalk.wrap64_in _ ⟨by omega, by omega⟩
  have hx1 : wrap64 ((X : Int) + 1) = (X : Int) + 1 := by exact IntWalk.wrap64_in _ ⟨by omega, by omega⟩
  have hx2 : wrap64 ((X : Int) + 2) = (X : Int) + 2 := by exact IntWalk.wrap64_in _ ⟨by omega, by omega⟩
  have hX200 : X < 200 := by omega
  clear hax hrc hlen hL hX hgg ha hcl hcp hpos
  go_enter Tryz.func16, Tryz.ntmps16
  go_wp2_with fail
  refine (HC.out).mono ?_
  rintro e w1 ⟨rfl, hb⟩
  have HB1 := Lib.hid hb
  clear hb
  go_wp2_with fail
  refine (HD.out _).mono ?_
  rintro e w2 ⟨rfl, rfl⟩
  go_wp2_with fail
  refine (HK.out _ HB1.out).mono ?_
  rintro e w2 ⟨A2, k2, rfl, ho, hb⟩
  have HB2 := Lib.hid (HB1.out.trans (hb.mono HB1.out.size))
  have HO2 := Lib.hid (own_baseK ho HB1.out.size)
  clear hb ho
  have HN2 := Lib.hid (rKnow_any g (X + 1) 9 a (X : Int) A2 k2 w.heap.size w2 HO2.out (by simp [HGL.out]) (by omega) HB2.out.size)
  go_wp2_with fail
  refine (HN2.out).mono ?_
  rintro e w3 ⟨A3, k3, rfl, ho, hb⟩
  have HB3 := Lib.hid (HB2.out.trans hb)
  have HO3 : Hid (w3.ownsRow w.heap.size 79 6 (.slice A3 (X + 1 + 1) k3) (X + 1 + 1) (nds (g ++ [knx a (X)]))) := Lib.hid (by have h := ho; simpa [knx, pox] using h)
  clear hb ho
  have HN3 := Lib.hid (rKnow_any (g ++ [knx a (X)]) (X + 1 + 1) 9 a ((X : Int) + 1) A3 k3 w.heap.size w3 HO3.out (by simp [HGL.out]) (by omega) HB3.out.size)
  go_wp2_with fail
  refine (HN3.out).mono ?_
  rintro e w4 ⟨A4, k4, rfl, ho, hb⟩
  have HB4 := Lib.hid (HB3.out.trans hb)
  have HO4 : Hid (w4.ownsRow w.heap.size 79 6 (.slice A4 (X + 1 + 1 + 1) k4) (X + 1 + 1 + 1) (nds ((g ++ [knx a (X)]) ++ [knx a (X + 1)]))) := Lib.hid (by have h := ho; simpa [knx, pox] using h)
  clear hb ho
  have hsz := HB4.out.size
  go_wp2_with (at_builtin; refine wp_appN ⟨7, 0, 0, 0, ((X : Int) + 1), ((X : Int) + 2)⟩ _ rfl _ _ rfl w.heap.size _ _ rfl (out := ((g ++ [knx a (X)]) ++ [knx a (X + 1)])) (by rw [show (((g ++ [knx a (X)]) ++ [knx a (X + 1)])).length = X + 1 + 1 + 1 by simp [HGL.out]]; exact HO4.out.alloc _) rfl ?k1 ?k2 ?k3 ?_)
  case k1 =>
    intro j' u hj'
    have hh := heap_alloc_new w4 (.cells #[.int .i64 7, .int .i64 0, .int .i64 0, .int .i64 0, .int .i64 ((X : Int) + 1), .int .i64 ((X : Int) + 2)] 79)
    rw [Lib.cell_of_heap hh j', ← hj']
    simp [ndC]
  case k2 => rw [show (((g ++ [knx a (X)]) ++ [knx a (X + 1)])).length = X + 1 + 1 + 1 by simp [HGL.out]]; omega
  case k3 => simp; omega
  intro v' w9 hown9 hgrow
  have HB9 : Hid (Below w.heap.size w w9) := Lib.hid ((HB4.out.alloc hsz _).grown hgrow (by simp; omega) (fun g hg => (HO4.out.lt g hg).1))
  have hown9 : w9.ownsRow w.heap.size 79 6 v' (X + 4) (nds (g ++ [knx a (X)] ++ [knx a (X + 1)] ++ [imx (X + 1) (X + 2)])) := by have h := hown9; rw [HGL.out] at h; simpa [imx] using h
  obtain ⟨A9, k9, rfl⟩ := own_slK hown9
  have HRD := Lib.hid (Reads.of_own hown9)
  clear hown9 hgrow hsz
  by_cases h200 : 200 < X + 4
  · have d3 : decide ((200 : Int) < (X : Int) + 4) = true := decide_eq_true (by omega)
    have HA0 := Lib.hid (by have h := HAX.out; rw [if_pos h200] at h; exact h)
    clear h200
    go_wp2
    exact HGN.out _ _ HA0.out rfl HB9.out
  · have d3 : decide ((200 : Int) < (X : Int) + 4) = false := decide_eq_false (by omega)
    have HA0 : Hid (AL = g ++ [knx a (X)] ++ [knx a (X + 1)] ++ [imx (X + 1) (X + 2)]) := Lib.hid (by have h := HAX.out; rw [if_neg h200] at h; exact h)
    have HKK := Lib.hid (rCompact_any (g ++ [knx a (X)] ++ [knx a (X + 1)] ++ [imx (X + 1) (X + 2)]) A9 (X + 4) k9 w9 HRD.out (by unfold maxLen; omega))
    rw [HRC.out (by omega), HLEN.out] at HKK
    have HAN : Hid (AL.length = X + 4) := Lib.hid (by rw [HA0.out, HLEN.out])
    clear h200
    go_wp2_with fail
    refine (HKK.out).mono ?_
    rintro e w10 ⟨A10, k10, rfl, hr10, hb⟩
    have HB10 := Lib.hid (HB9.out.trans (hb.mono HB9.out.size))
    have HR10 : Hid (Reads w10 w10.heap.size 6 A10 AL.length (nds AL)) := Lib.hid (by rw [HAN.out, HA0.out]; exact hr10)
    clear hb hr10
    go_wp2
    exact HGS.out _ _ A10 k10 (by rw [HAN.out]; omega) (by rw [HAN.out]; rfl) HR10.out HB10.out
set_option maxHeartbeats 8000000 in
theorem rax5_rng (a : Int) (hz : fErr f = 0) (ha : a < 0 ∨ 4 ≤ a) : Calls Tryz.prog 16 #[.int .i64 5, .int .i64 a, .slice A n c] w (GivesX 5 a f w) := by
  have HC := Lib.hid (rfCheck_any f A n c w hR hn)
  rw [hz] at HC
  have HG := Lib.hid (fun (e : Ending) (w' : World) => GivesX.none (p := 5) (a := a) (f := f) (w := w) (w' := w') (e := e) (z := 2) (by decide) (by unfold axE; rw [if_neg (fun h => h hz), if_neg (by decide), if_pos ha]))
  have HD := Lib.hid (fun W => worlds5_any W)
  clear hR hn hz
  generalize GivesX 5 a f w = G at *
  change Calls _ _ _ _ (fun e w' => G e w')
  rcases ha with ha | ha
  · have d1 : decide (a < 0) = true := decide_eq_true ha
    clear ha
    go_enter Tryz.func16, Tryz.ntmps16
    go_wp2_with fail
    refine (HC.out).mono ?_
    rintro e w1 ⟨rfl, hb⟩
    have HB := Lib.hid hb
    clear hb
    go_wp2_with fail
    refine (HD.out _).mono ?_
    rintro e w2 ⟨rfl, rfl⟩
    go_wp2
    exact HG.out _ _ rfl HB.out
  · have d1 : decide (a < 0) = false := decide_eq_false (by omega)
    have d2 : decide (4 ≤ a) = true := decide_eq_true ha
    clear ha
    go_enter Tryz.func16, Tryz.ntmps16
    go_wp2_with fail
    refine (HC.out).mono ?_
    rintro e w1 ⟨rfl, hb⟩
    have HB := Lib.hid hb
    clear hb
    go_wp2_with fail
    refine (HD.out _).mono ?_
    rintro e w2 ⟨rfl, rfl⟩
    go_wp2
    exact HG.out _ _ rfl HB.out
set_option maxHeartbeats 16000000 in
theorem rax5_any (a : Int) (hz : fErr f = 0) (ha : 0 ≤ a ∧ a < 4) : Calls Tryz.prog 16 #[.int .i64 5, .int .i64 a, .slice A n c] w (GivesX 5 a f w) := by
  have HC := Lib.hid (rfCheck_any f A n c w hR hn)
  rw [hz] at HC
  have HD := Lib.hid (fun W => worlds5_any W)
  have HK := Lib.hid (fun W (hb : Below w.heap.size w W) => rCompact_own f A n c W ((hR.below hb).more hb.size) hn)
  have hax := axL_ref hz (p := 5) ⟨by decide, by decide⟩ ha
  have hrc := ref_comp hz (p := 5) ⟨by decide, by decide⟩ ha
  have hpos := ref_pos 5 a (compF f)
  have hcl := comp_len hz
  have hcp := (lt_comp hz).pos
  have hE : (axL 5 a f).length ≠ 0 → axE 5 a f = 0 := fun h => by unfold axE; rw [if_neg (fun h => h hz), if_neg (by decide), if_neg (by omega), if_neg h]
  have hE2 : axL 5 a f = [] → axE 5 a f = 8 := fun h => by unfold axE; rw [if_neg (fun h => h hz), if_neg (by decide), if_neg (by omega), h, if_pos (by simp)]
  have HGS := Lib.hid (fun (e : Ending) (w' : World) (A' : Option Addr) (c' : Nat) (h : (axL 5 a f).length ≠ 0) => GivesX.some (p := 5) (a := a) (f := f) (w := w) (w' := w') (e := e) (A := A') (c := c') (hE h))
  have HGN := Lib.hid (fun (e : Ending) (w' : World) (h : axL 5 a f = []) => GivesX.none (p := 5) (a := a) (f := f) (w := w) (w' := w') (e := e) (z := 8) (by decide) (hE2 h))
  clear hE hE2 hR hn hz
  generalize hgg : compF f = g at *
  generalize axL 5 a f = AL at *
  generalize GivesX 5 a f w = GG at *
  change Calls _ _ _ _ (fun e w' => GG e w')
  obtain ⟨X, hX⟩ : ∃ X, g.length = X + 1 := ⟨g.length - 1, by omega⟩
  have hL : refL 5 a g = g ++ [pox a (X)] ++ [knx a (X + 1)] ++ [imx (X + 1) (X + 2)] := by
    unfold refL
    rw [hX]
    rfl
  rw [hL] at hax hrc hpos
  have hlen : (g ++ [pox a (X)] ++ [knx a (X + 1)] ++ [imx (X + 1) (X + 2)]).length = X + 4 := by simp [hX]
  have d1 : decide (a < 0) = false := decide_eq_false (by omega)
  have d2 : decide (4 ≤ a) = false := decide_eq_false (by omega)
  rw [hlen] at hax hrc
  have HAX := Lib.hid hax
  have HRC := Lib.hid hrc
  have HLEN := Lib.hid hlen
  have HGL := Lib.hid hX
  rw [hX] at HK
  have hx0 : wrap64 (((X + 1 : Nat) : Int) - 1) = (X : Int) := by rw [show (((X + 1 : Nat) : Int) - 1) = (X : Int) by omega]; exact IntWalk.wrap64_in _ ⟨by omega, by omega⟩
  have hx1 : wrap64 ((X : Int) + 1) = (X : Int) + 1 := by exact IntWalk.wrap64_in _ ⟨by omega, by omega⟩
  have hx2 : wrap64 ((X : Int) + 2) = (X : Int) + 2 := by exact IntWalk.wrap64_in _ ⟨by omega, by omega⟩
  have hX200 : X < 200 := by omega
  clear hax hrc hlen hL hX hgg ha hcl hcp hpos
  go_enter Tryz.func16, Tryz.ntmps16
  go_wp2_with fail
  refine (HC.out).mono ?_
  rintro e w1 ⟨rfl, hb⟩
  have HB1 := Lib.hid hb
  clear hb
  go_wp2_with fail
  refine (HD.out _).mono ?_
  rintro e w2 ⟨rfl, rfl⟩
  go_wp2_with fail
  refine (HK.out _ HB1.out).mono ?_
  rintro e w2 ⟨A2, k2, rfl, ho, hb⟩
  have HB2 := Lib.hid (HB1.out.trans (hb.mono HB1.out.size))
  have HO2 := Lib.hid (own_baseK ho HB1.out.size)
  clear hb ho
  have HN2 := Lib.hid (rKnow_any g (X + 1) 10 a (X : Int) A2 k2 w.heap.size w2 HO2.out (by simp [HGL.out]) (by omega) HB2.out.size)
  go_wp2_with fail
  refine (HN2.out).mono ?_
  rintro e w3 ⟨A3, k3, rfl, ho, hb⟩
  have HB3 := Lib.hid (HB2.out.trans hb)
  have HO3 : Hid (w3.ownsRow w.heap.size 79 6 (.slice A3 (X + 1 + 1) k3) (X + 1 + 1) (nds (g ++ [pox a (X)]))) := Lib.hid (by have h := ho; simpa [knx, pox] using h)
  clear hb ho
  have HN3 := Lib.hid (rKnow_any (g ++ [pox a (X)]) (X + 1 + 1) 9 a ((X : Int) + 1) A3 k3 w.heap.size w3 HO3.out (by simp [HGL.out]) (by omega) HB3.out.size)
  go_wp2_with fail
  refine (HN3.out).mono ?_
  rintro e w4 ⟨A4, k4, rfl, ho, hb⟩
  have HB4 := Lib.hid (HB3.out.trans hb)
  have HO4 : Hid (w4.ownsRow w.heap.size 79 6 (.slice A4 (X + 1 + 1 + 1) k4) (X + 1 + 1 + 1) (nds ((g ++ [pox a (X)]) ++ [knx a (X + 1)]))) := Lib.hid (by have h := ho; simpa [knx, pox] using h)
  clear hb ho
  have hsz := HB4.out.size
  go_wp2_with (at_builtin; refine wp_appN ⟨7, 0, 0, 0, ((X : Int) + 1), ((X : Int) + 2)⟩ _ rfl _ _ rfl w.heap.size _ _ rfl (out := ((g ++ [pox a (X)]) ++ [knx a (X + 1)])) (by rw [show (((g ++ [pox a (X)]) ++ [knx a (X + 1)])).length = X + 1 + 1 + 1 by simp [HGL.out]]; exact HO4.out.alloc _) rfl ?k1 ?k2 ?k3 ?_)
  case k1 =>
    intro j' u hj'
    have hh := heap_alloc_new w4 (.cells #[.int .i64 7, .int .i64 0, .int .i64 0, .int .i64 0, .int .i64 ((X : Int) + 1), .int .i64 ((X : Int) + 2)] 79)
    rw [Lib.cell_of_heap hh j', ← hj']
    simp [ndC]
  case k2 => rw [show (((g ++ [pox a (X)]) ++ [knx a (X + 1)])).length = X + 1 + 1 + 1 by simp [HGL.out]]; omega
  case k3 => simp; omega
  intro v' w9 hown9 hgrow
  have HB9 : Hid (Below w.heap.size w w9) := Lib.hid ((HB4.out.alloc hsz _).grown hgrow (by simp; omega) (fun g hg => (HO4.out.lt g hg).1))
  have hown9 : w9.ownsRow w.heap.size 79 6 v' (X + 4) (nds (g ++ [pox a (X)] ++ [knx a (X + 1)] ++ [imx (X + 1) (X + 2)])) := by have h := hown9; rw [HGL.out] at h; simpa [imx] using h
  obtain ⟨A9, k9, rfl⟩ := own_slK hown9
  have HRD := Lib.hid (Reads.of_own hown9)
  clear hown9 hgrow hsz
  by_cases h200 : 200 < X + 4
  · have d3 : decide ((200 : Int) < (X : Int) + 4) = true := decide_eq_true (by omega)
    have HA0 := Lib.hid (by have h := HAX.out; rw [if_pos h200] at h; exact h)
    clear h200
    go_wp2
    exact HGN.out _ _ HA0.out rfl HB9.out
  · have d3 : decide ((200 : Int) < (X : Int) + 4) = false := decide_eq_false (by omega)
    have HA0 : Hid (AL = g ++ [pox a (X)] ++ [knx a (X + 1)] ++ [imx (X + 1) (X + 2)]) := Lib.hid (by have h := HAX.out; rw [if_neg h200] at h; exact h)
    have HKK := Lib.hid (rCompact_any (g ++ [pox a (X)] ++ [knx a (X + 1)] ++ [imx (X + 1) (X + 2)]) A9 (X + 4) k9 w9 HRD.out (by unfold maxLen; omega))
    rw [HRC.out (by omega), HLEN.out] at HKK
    have HAN : Hid (AL.length = X + 4) := Lib.hid (by rw [HA0.out, HLEN.out])
    clear h200
    go_wp2_with fail
    refine (HKK.out).mono ?_
    rintro e w10 ⟨A10, k10, rfl, hr10, hb⟩
    have HB10 := Lib.hid (HB9.out.trans (hb.mono HB9.out.size))
    have HR10 : Hid (Reads w10 w10.heap.size 6 A10 AL.length (nds AL)) := Lib.hid (by rw [HAN.out, HA0.out]; exact hr10)
    clear hb hr10
    go_wp2
    exact HGS.out _ _ A10 k10 (by rw [HAN.out]; omega) (by rw [HAN.out]; rfl) HR10.out HB10.out
theorem rAxiom_any (p a : Int) : Calls Tryz.prog 16 #[.int .i64 p, .int .i64 a, .slice A n c] w (GivesX p a f w) := by
  by_cases hz : fErr f = 0
  case neg => exact rax_bad f A n c w hR hn p a hz
  by_cases hp : p < 1 ∨ 5 < p
  · exact rax_arg f A n c w hR hn p a hz hp
  · by_cases ha : a < 0 ∨ 4 ≤ a
    · rcases (show p = 1 ∨ p = 2 ∨ p = 3 ∨ p = 4 ∨ p = 5 by omega) with rfl | rfl | rfl | rfl | rfl
      · exact rax1_rng f A n c w hR hn a hz ha
      · exact rax2_rng f A n c w hR hn a hz ha
      · exact rax3_rng f A n c w hR hn a hz ha
      · exact rax4_rng f A n c w hR hn a hz ha
      · exact rax5_rng f A n c w hR hn a hz ha
    · rcases (show p = 1 ∨ p = 2 ∨ p = 3 ∨ p = 4 ∨ p = 5 by omega) with rfl | rfl | rfl | rfl | rfl
      · exact rax1_any f A n c w hR hn a hz ⟨by omega, by omega⟩
      · exact rax2_any f A n c w hR hn a hz ⟨by omega, by omega⟩
      · exact rax3_any f A n c w hR hn a hz ⟨by omega, by omega⟩
      · exact rax4_any f A n c w hR hn a hz ⟨by omega, by omega⟩
      · exact rax5_any f A n c w hR hn a hz ⟨by omega, by omega⟩
end
end Go.Proofs.YtjpmhbnikoggaaaGreatDoor
