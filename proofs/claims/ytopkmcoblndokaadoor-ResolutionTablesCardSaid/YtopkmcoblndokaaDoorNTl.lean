/- Layer 10: a line is added to the search, by the program. -/
import Derived.Test.YtopkmcoblndokaaDoorNTk
namespace Go.Proofs.YtopkmcoblndokaaDoor.rsl
open Go.RowKit Go.Proofs.Ws.rsl Go.Maps
set_option maxRecDepth 100000
theorem addLn_eq (s : List Ln) (x : Ln) : addLn s x = match lnIx s x.cl with | some i => (i, s) | none => (s.length, s ++ [x]) := rfl
theorem Tryd.infoR : (Tryd.prog.info? 41).map (fun i => (i.zero, i.size, i.bytes)) = some (some (.agg #[.slice none 0 0, .int .i64 0, .int .i64 0, .int .i64 0]), 4, 48) := by kernel_rfl
/-- a line is appended -/
theorem step_appR {ops : Array Oper} {o : Oper} {a : Act} {K : Act → World → Prop} {Q : Exit → Act → World → Prop} {E : Prop} {cs : List Value} (n : Nat) (x : Ln) (Aj : Option Addr) (cj : Nat) (W : World) (hgd : o.guard = none) (s y : Operand)
    (ho : o.op = .call { callee := .builtin .append, args := #[s, y], argTypes := #[42, 42] }) (base b : Nat) (V : Value)
    (hs : a.eval s = V) (hown : W.ownsRow base 41 4 V n cs) (hx : a.eval y = .slice (some ⟨b, 0, none⟩) 1 1)
    (hc : W.heap[b]? = some (.cells (lnC x Aj cj) 41 (0, 0))) (hl : n ≤ 1000000) (hbase : base ≤ W.heap.size)
    (h : ∀ g cap w', w'.ownsRow base 41 4 (.slice (some ⟨g, 0, none⟩) (n + 1) cap) (n + 1) (cs ++ lnL x Aj cj) → W.grownBy w' V.ownBlock → K (a.put o.dst (.slice (some ⟨g, 0, none⟩) (n + 1) cap)) w') :
    if Region.wanted o (yielded ops a.tmps) = true then Oper.wp Tryd.prog o a W K Q else E := by
  obtain ⟨i0, hi, hz0, hz1, hz2⟩ := info_parts Tryd.infoR
  refine step_append_lies W hgd s y 42 ho base 41 i0 _ 4 48 Tryd.underlying42 hi hz0 hz1 hz2 rfl (by decide) V n cs hs hown ⟨b, 0, none⟩ 1 1 (lnL x Aj cj) hx rfl ?_ ?_ (by decide) (by unfold maxLen; omega) (by omega) hbase _ rfl ?_
  · intro j u hj
    rw [addr0, Lib.cell_of_heap hc, ← hj]
    unfold lnC lnL
    simp
  · intro u hu
    unfold lnL at hu
    simp at hu
    rcases hu with rfl | rfl | rfl | rfl <;> rfl
  · intro g cap w' h1 h2 _ _
    exact h g cap w' h1 h2
/-- the region that appends a line to the search's lines: the stages of the world -/
def aS1 (w3 : World) (x : Ln) (Aj : Option Addr) (cj : Nat) (W : World) (v : Value) : Prop := Below w3.heap.size w3 W ∧ ∃ q, v = .slice (some ⟨q, 0, none⟩) 1 1 ∧ W.heap[q]? = some (.cells (lnC x Aj cj) 41 (0, 0))
def aS2 (w3 : World) (base : Nat) (LV : Value) (n : Nat) (cs : List Value) (W : World) (v : Value) : Prop := ∃ W1, Below w3.heap.size w3 W1 ∧ W1.grownBy W LV.ownBlock ∧ W.ownsRow base 41 4 v (n + 1) cs
def aS3 (w3 : World) (base : Nat) (LV : Value) (n : Nat) (cs : List Value) (g : Nat) (W : World) : Prop := ∃ W2 v, aS2 w3 base LV n cs W2 v ∧ W = W2.setCell ⟨g, 1, none⟩ v
/-- what the other operations of the region read -/
structure aC (g p : Nat) (C LV M v : Value) (a b c : Int) (W : World) : Prop where
  sb : SBx W g C LV M
  lb : LB W p v a b c
theorem grown_set (W : World) (g k : Nat) (u : Value) : W.grownBy (W.setCell ⟨g, k, none⟩ u) (some g) :=
  ⟨rfl, rfl, rfl, by simp [World.setCell], fun j _ hne => Below.heap_setCell W ⟨g, k, none⟩ u j (fun e => hne (by rw [e]))⟩
theorem LB.noRow {W : World} {p : Nat} {v : Value} {a b c : Int} (h : LB W p v a b c) {W' : World} {row : Option Nat} (hg : W.grownBy W' row) (hne : some p ≠ row) : LB W' p v a b c := (hg.block p h.lt hne).trans h
set_option maxHeartbeats 16000000 in
theorem xAdd_any (w0 : World) (C : Value) (g b : Nat) (s : List Ln) (w : World) (x : Ln) (Aj : Option Addr) (cj : Nat) (hS : Srch w0 C g b s w) (hx : ClOk 12 x.cl) (hj : OwJ w w0.heap.size Aj x.cl) (hc : x.cl.length ≤ cj) (hlen : s.length ≤ 20000) :
    Calls Tryd.prog 55 #[.pointer (some ⟨g, 0, none⟩), .agg #[.slice Aj x.cl.length cj, .int .i64 x.left, .int .i64 x.right, .int .i64 x.on]] w fun e w' => e = .returned (.int .i64 ((addLn s x).1 : Int)) ∧ Srch w0 C g b (addLn s x).2 w' ∧ KeepT w w' := by
  obtain ⟨LV, D, hb1, hm1, hms, hl1⟩ := hS.ex
  have HS := Lib.hid hS
  have hbe : Below w.heap.size w (w.alloc (.cells #[.slice Aj x.cl.length cj, .int .i64 x.left, .int .i64 x.right, .int .i64 x.on] 41)) := (Below.refl _ w).alloc (Nat.le_refl _) _
  have HBE := Lib.hid hbe
  have HLB := Lib.hid (LB.made w (.slice Aj x.cl.length cj) x.left x.right x.on)
  have hcs := clOk_small (Nat.le_refl _) hx
  have HTO := Lib.hid (fun W (hw : Below w.heap.size w W) => xTruthsOf_any x.cl Aj x.cl.length cj W hcs.1 ((hj.below hw).reads) (by have := hcs.2; omega))
  have HX := Lib.hid hx
  have HJ := Lib.hid hj
  have HCC := Lib.hid hc
  have HKT : Hid ((tsetL t00 x.cl).length = 12) := Lib.hid (by rw [tsetL_len]; rfl)
  have HSB := Lib.hid hb1
  have HMP := Lib.hid hm1
  have HMS := Lib.hid hms
  have HLN := Lib.hid hl1
  have HLO := Lib.hid (look_line hm1 hms hx)
  have HKY := Lib.hid (key_cl hx)
  have HPN : Hid (∀ y, LV.ownBlock = some y → y < w.heap.size) := Lib.hid (fun y hy => by obtain ⟨cs, h3, _⟩ := hl1; exact (h3.lt y hy).2)
  have HGL := Lib.hid hb1.lt
  clear hS hx hj hc hbe hb1 hm1 hms hl1 hcs
  obtain ⟨kt, hkt⟩ : ∃ kt, tsetL t00 x.cl = kt := ⟨_, rfl⟩
  rw [hkt] at HKT HTO HKY
  have HLO2 : Hid (∃ z : Int, (∀ i, lnIx s x.cl = some i → z = i) ∧ ∀ W2, W2.ownsMap Tryd.prog 65 (plainElem (H := Unit) Tryd.prog 3) b s.length D → (Instr.lookup 68 (.map (some b)) (.agg (ints kt).toArray) true).run Tryd.prog W2 = .ok (.tuple #[.int .i64 z, .bool (lnIx s x.cl).isSome]) W2) := Lib.hid (by rw [← hkt]; exact HLO.out)
  obtain ⟨z, hz1, hz2⟩ := HLO2.out
  have HZ1 := Lib.hid hz1
  have HZ2 := Lib.hid hz2
  clear hkt HLO HLO2 hz1 hz2
  obtain ⟨nc, hnc⟩ : ∃ nc, x.cl.length = nc := ⟨_, rfl⟩
  have HNC := Lib.hid hnc
  rw [hnc] at HBE HLB HTO
  rw [hnc]
  clear hnc
  go_enter Tryd.func55, Tryd.ntmps55
  go_wp2_with fail
  generalize w.alloc (.cells #[.slice Aj nc cj, .int .i64 x.left, .int .i64 x.right, .int .i64 x.on] 41) = w1 at *
  refine (HTO.out _ HBE.out).mono ?_
  rintro e w2 ⟨rfl, hb2⟩
  have hp1 : w.heap.size < w1.heap.size := HLB.out.lt
  have HB2 := Lib.hid (HBE.out.trans (hb2.mono (Nat.le_of_lt hp1)))
  have HLB2 := Lib.hid (HLB.out.below hb2 hp1)
  have HP2 : Hid (w.heap.size < w2.heap.size) := Lib.hid (Nat.lt_of_lt_of_le hp1 hb2.size)
  have HTZ := Lib.hid (TB.made w2 t00)
  have HB3 : Hid (Below w2.heap.size w2 (w2.alloc (.cells (ints t00).toArray 65))) := Lib.hid ((Below.refl _ w2).alloc (Nat.le_refl _) _)
  change Hid (TB (w2.alloc (.cells #[.int .i64 0, .int .i64 0, .int .i64 0, .int .i64 0, .int .i64 0, .int .i64 0, .int .i64 0, .int .i64 0, .int .i64 0, .int .i64 0, .int .i64 0, .int .i64 0] _)) _ _) at HTZ
  change Hid (Below _ _ (w2.alloc (.cells #[.int .i64 0, .int .i64 0, .int .i64 0, .int .i64 0, .int .i64 0, .int .i64 0, .int .i64 0, .int .i64 0, .int .i64 0, .int .i64 0, .int .i64 0, .int .i64 0] _))) at HB3
  clear hb2 hp1 HBE HLB HTO
  generalize hP : w.heap.size = P at *
  have HPE := Lib.hid hP
  clear hP
  go_wp2_with (first
    | (refine wpList_store_row rfl 65 (.tmp 5) (.tmp 10) rfl w2.heap.size (ints kt).toArray rfl rfl _ _ HTZ.out (sizeT HKT.out) (by rw [ints_size, ints_size, HKT.out]; rfl) (ints_one _) ?_; go_frame))
  have HTK : Hid (TB ((w2.alloc (.cells #[.int .i64 0, .int .i64 0, .int .i64 0, .int .i64 0, .int .i64 0, .int .i64 0, .int .i64 0, .int .i64 0, .int .i64 0, .int .i64 0, .int .i64 0, .int .i64 0] 65)).setRow w2.heap.size (ints kt).toArray) w2.heap.size kt) := Lib.hid HTZ.out.setRow
  have HB4 : Hid (Below P w ((w2.alloc (.cells #[.int .i64 0, .int .i64 0, .int .i64 0, .int .i64 0, .int .i64 0, .int .i64 0, .int .i64 0, .int .i64 0, .int .i64 0, .int .i64 0, .int .i64 0, .int .i64 0] 65)).setRow w2.heap.size (ints kt).toArray)) := Lib.hid (by
    have h1 : Below w2.heap.size w2 ((w2.alloc (.cells #[.int .i64 0, .int .i64 0, .int .i64 0, .int .i64 0, .int .i64 0, .int .i64 0, .int .i64 0, .int .i64 0, .int .i64 0, .int .i64 0, .int .i64 0, .int .i64 0] 65)).setRow w2.heap.size (ints kt).toArray) := below_setRow HB3.out (Nat.le_refl _) _
    exact HB2.out.trans (h1.mono (Nat.le_of_lt HP2.out)))
  have HLB4 : Hid (LB ((w2.alloc (.cells #[.int .i64 0, .int .i64 0, .int .i64 0, .int .i64 0, .int .i64 0, .int .i64 0, .int .i64 0, .int .i64 0, .int .i64 0, .int .i64 0, .int .i64 0, .int .i64 0] 65)).setRow w2.heap.size (ints kt).toArray) P (.slice Aj nc cj) x.left x.right x.on) := Lib.hid (HLB2.out.below (below_setRow HB3.out (Nat.le_refl _) _) HP2.out)
  generalize (w2.alloc (.cells #[.int .i64 0, .int .i64 0, .int .i64 0, .int .i64 0, .int .i64 0, .int .i64 0, .int .i64 0, .int .i64 0, .int .i64 0, .int .i64 0, .int .i64 0, .int .i64 0] 65)).setRow w2.heap.size (ints kt).toArray = w3 at *
  generalize w2.heap.size = Q at *
  have HB4' : Hid (Below w.heap.size w w3) := Lib.hid (by rw [HPE.out]; exact HB4.out)
  have HS3 := Lib.hid (HS.out.keep HB4'.out)
  have HSB3 := Lib.hid (HSB.out.below HB4'.out HSB.out.lt)
  have HMP3 := Lib.hid (ownsMap_below HMP.out HB4'.out)
  have HLN3 := Lib.hid (HLN.out.below HB4'.out)
  have HJ3 := Lib.hid (HJ.out.below HB4'.out)
  have HK3 : Hid (KeepT w w3) := Lib.hid (KeepT.of HB4'.out)
  clear HS HSB HMP HLN HJ HTZ HB3 HB2 HLB2 HP2 HB4 HGL
  have HSBW := Lib.hid (fun W (hw : Below w3.heap.size w3 W) => HSB3.out.below hw HSB3.out.lt)
  have HTKW := Lib.hid (fun W (hw : Below w3.heap.size w3 W) => HTK.out.below hw HTK.out.lt)
  have HMPW := Lib.hid (fun W (hw : Below w3.heap.size w3 W) => ownsMap_below HMP3.out hw)
  generalize hfd : (lnIx s x.cl).isSome = fd at *
  have HFD := Lib.hid hfd
  clear hfd
  go_wp2
  refine wp_region_mix [.pointer (some ⟨g, 0, none⟩), .pointer (some ⟨g, 0, none⟩), .pointer (some ⟨g, 2, none⟩), .map (some b), .agg (ints kt).toArray, .tuple #[.int .i64 z, .bool fd], .tuple #[.int .i64 z, .bool fd], .int .i64 z, .bool fd, .int .i64 z, .bool fd] [12, 13, 14, 15, 16, 17, 11, 18, 19, 6, 7] [1, 2, 3, 4, 5, 7, 8] (fun W => Below w3.heap.size w3 W) (fun W W' => Below W.heap.size W W') 11 44 rfl rfl rfl rfl (by decide) (by decide) (by kernel_rfl) (by kernel_rfl) (by kernel_rfl) (fun W => Below.refl _ W) (fun W1 W2 W3 h1 h2 => h1.trans (h2.mono h1.size)) (fun W W' h h2 => h.trans (h2.mono h.size)) (Below.refl _ w3).drew (by kernel_rfl) [] rfl ?hop ?fin
  case hop =>
    refine (And.intro ?s1 (And.intro ?s2 (And.intro ?s3 (And.intro ?s4 (And.intro ?s5 (And.intro ?s7 (And.intro ?s8 trivial)))))))
    case s1 =>
      refine And.intro (by rfl) (fun tm W hS hsz hfr hdep K hK => ?_)
      change tm.size = 44 at hsz
      have t12 : tm.getD 12 undef = .pointer (some ⟨g, 0, none⟩) := hdep 0 (by rfl) (by decide)
      have u12 := getq t12 (by omega)
      clear hdep hfr
      go_simp
      exact hK W (Below.refl _ W)
    case s2 =>
      refine And.intro (by rfl) (fun tm W hS hsz hfr hdep K hK => ?_)
      change tm.size = 44 at hsz
      have t13 : tm.getD 13 undef = .pointer (some ⟨g, 0, none⟩) := hdep 1 (by rfl) (by decide)
      have u13 := getq t13 (by omega)
      clear hdep hfr
      go_simp
      exact hK W (Below.refl _ W)
    case s3 =>
      refine And.intro (by rfl) (fun tm W hS hsz hfr hdep K hK => ?_)
      change tm.size = 44 at hsz
      have t14 : tm.getD 14 undef = .pointer (some ⟨g, 2, none⟩) := hdep 2 (by rfl) (by decide)
      have u14 := getq t14 (by omega)
      have z2 := (HSBW.out W hS).c2
      clear hdep hfr
      go_simp
      exact hK W (Below.refl _ W)
    case s4 =>
      refine And.intro (by rfl) (fun tm W hS hsz hfr hdep K hK => ?_)
      change tm.size = 44 at hsz
      have t5 : tm.getD 5 undef = .pointer (some ⟨Q, 0, none⟩) := hfr 5 (by rfl)
      clear hdep hfr
      exact wp_loadT (.tmp 5) rfl Q (by simp [Act.eval, t5]) kt HKT.out (HTKW.out W hS) (hK W (Below.refl _ W))
    case s5 =>
      refine And.intro (by rfl) (fun tm W hS hsz hfr hdep K hK => ?_)
      change tm.size = 44 at hsz
      have t15 : tm.getD 15 undef = .map (some b) := hdep 3 (by rfl) (by decide)
      have t16 : tm.getD 16 undef = .agg (ints kt).toArray := hdep 4 (by rfl) (by decide)
      clear hdep hfr
      exact wp_look (.tmp 15) (.tmp 16) rfl b _ _ (by simp [Act.eval, t15]) (by simp [Act.eval, t16]) (HZ2.out W (HMPW.out W hS)) (hK W (Below.refl _ W))
    case s7 =>
      refine And.intro (by rfl) (fun tm W hS hsz hfr hdep K hK => ?_)
      change tm.size = 44 at hsz
      have t11 : tm.getD 11 undef = .tuple #[.int .i64 z, .bool fd] := hdep 6 (by rfl) (by decide)
      have u11 := getq t11 (by omega)
      clear hdep hfr
      go_simp
      exact hK W (Below.refl _ W)
    case s8 =>
      refine And.intro (by rfl) (fun tm W hS hsz hfr hdep K hK => ?_)
      change tm.size = 44 at hsz
      have t11 : tm.getD 11 undef = .tuple #[.int .i64 z, .bool fd] := hdep 6 (by rfl) (by decide)
      have u11 := getq t11 (by omega)
      clear hdep hfr
      go_simp
      exact hK W (Below.refl _ W)
  case fin =>
    intro W hS
    have HBW := Lib.hid hS
    clear hS
    simp only [fillD]
    go_simp
    have HS4 := Lib.hid (HS3.out.keep HBW.out)
    have HK4 := Lib.hid (HK3.out.trans (KeepT.of HBW.out))
    cases fd with
    | true =>
      obtain ⟨i, hi⟩ : ∃ i, lnIx s x.cl = some i := by
        have := HFD.out
        cases h : lnIx s x.cl with
        | none => rw [h] at this; cases this
        | some i => exact ⟨i, rfl⟩
      have HA : Hid (addLn s x = (i, s)) := Lib.hid (by rw [addLn_eq, hi])
      have HZI := Lib.hid (HZ1.out i hi)
      clear hi
      go_wp2
      go_ret
      exact ⟨ret_i64 (by rw [HA.out]; exact HZI.out), by rw [HA.out]; exact HS4.out, HK4.out⟩
    | false =>
      have hi : lnIx s x.cl = none := by
        have := HFD.out
        cases h : lnIx s x.cl with
        | none => rfl
        | some i => rw [h] at this; cases this
      have HA : Hid (addLn s x = (s.length, s ++ [x])) := Lib.hid (by rw [addLn_eq, hi])
      have HNI := Lib.hid hi
      have HLB5 := Lib.hid (HLB4.out.below (HBW.out.mono (Nat.le_refl _)) HLB4.out.lt)
      have HSB5 := Lib.hid (HSBW.out W HBW.out)
      have HTK5 := Lib.hid (HTKW.out W HBW.out)
      have HMP5 := Lib.hid (HMPW.out W HBW.out)
      have HLN5 := Lib.hid (HLN3.out.below HBW.out)
      have HJ5 := Lib.hid (HJ3.out.below HBW.out)
      clear hi HSBW HTKW HMPW HSB3 HTK HMP3 HLN3 HJ3 HLB4 HS3 HK3 HB4' HBW HZ1 HZ2 HFD
      obtain ⟨AL, cL, rfl⟩ := HLN5.out.slice
      obtain ⟨n, hn⟩ : ∃ n, s.length = n := ⟨_, rfl⟩
      have HN := Lib.hid hn
      rw [hn] at HSB5 HMP5 hlen
      have y1 := HSB5.out.c1
      go_wp2
      clear y1
      have HMPW := Lib.hid (fun W2 (hw : Below W.heap.size W W2) => ownsMap_below HMP5.out hw)
      have HSBW := Lib.hid (fun W2 (hw : Below W.heap.size W W2) => HSB5.out.below hw HSB5.out.lt)
      have HTKW := Lib.hid (fun W2 (hw : Below W.heap.size W W2) => HTK5.out.below hw HTK5.out.lt)
      refine wp_region_last (vAd [.pointer (some ⟨g, 0, none⟩), .pointer (some ⟨g, 0, none⟩), .pointer (some ⟨g, 2, none⟩), .map (some b), .agg (ints kt).toArray, .int .i64 (n : Int)]) [27, 28, 29, 30, 31, 32] 6 44 (fun W2 => Below W.heap.size W W2) (fun vs W2 => ∃ W4, Below W.heap.size W W4 ∧ W4.grownBy W2 (some b) ∧ W2.ownsMap Tryd.prog 65 (plainElem (H := Unit) Tryd.prog 3) b (n + 1) (D.put (keyC x.cl) (.lit (.int .i64 (n : Int))))) (fun Wa Wb => Below Wa.heap.size Wa Wb) rfl rfl rfl (by decide) (by decide) (by kernel_rfl) (by kernel_rfl) (by kernel_rfl) (by kernel_rfl) (Below.refl _ W).drew vAd_up (fun Wa Wb h h2 => h.trans (h2.mono h.size)) ?hop ?hL ?fin
      case hop =>
        refine (lt_more (lt_more (lt_more (lt_more (lt_more (lt_more (lt_none _) ?s0) ?s1) ?s2) ?s3) ?s4) ?s5)
        case s0 =>
          intro o ho a W2 hS ⟨hsz, hdf, hfr, hdep⟩ K hK
          obtain ⟨tm, df⟩ := a
          have hdf : df = [] := hdf
          subst hdf
          have ho := Option.some.inj ho
          subst ho
          have hsz : tm.size = 44 := hsz
          have t0 : tm.getD 0 undef = .pointer (some ⟨g, 0, none⟩) := hfr 0 (by decide)
          clear hdep hfr
          have hk9 := hK (.pointer (some ⟨g, 0, none⟩)) W2 ⟨Below.refl _ W2, rfl⟩
          go_simp
          exact hk9
        case s1 =>
          intro o ho a W2 hS ⟨hsz, hdf, hfr, hdep⟩ K hK
          obtain ⟨tm, df⟩ := a
          have hdf : df = [] := hdf
          subst hdf
          have ho := Option.some.inj ho
          subst ho
          have hsz : tm.size = 44 := hsz
          have t27 : tm.getD 27 undef = .pointer (some ⟨g, 0, none⟩) := hdep ⟨0, .data⟩ (by simp) (by rfl) (by decide)
          have u27 := getq t27 (by omega)
          clear hdep hfr
          have hk9 := hK (.pointer (some ⟨g, 0, none⟩)) W2 ⟨Below.refl _ W2, rfl⟩
          go_simp
          exact hk9
        case s2 =>
          intro o ho a W2 hS ⟨hsz, hdf, hfr, hdep⟩ K hK
          obtain ⟨tm, df⟩ := a
          have hdf : df = [] := hdf
          subst hdf
          have ho := Option.some.inj ho
          subst ho
          have hsz : tm.size = 44 := hsz
          have t28 : tm.getD 28 undef = .pointer (some ⟨g, 0, none⟩) := hdep ⟨1, .data⟩ (by simp) (by rfl) (by decide)
          have u28 := getq t28 (by omega)
          clear hdep hfr
          have hk9 := hK (.pointer (some ⟨g, 2, none⟩)) W2 ⟨Below.refl _ W2, rfl⟩
          go_simp
          exact hk9
        case s3 =>
          intro o ho a W2 hS ⟨hsz, hdf, hfr, hdep⟩ K hK
          obtain ⟨tm, df⟩ := a
          have hdf : df = [] := hdf
          subst hdf
          have ho := Option.some.inj ho
          subst ho
          have hsz : tm.size = 44 := hsz
          have t29 : tm.getD 29 undef = .pointer (some ⟨g, 2, none⟩) := hdep ⟨2, .data⟩ (by simp) (by rfl) (by decide)
          have u29 := getq t29 (by omega)
          have z2 := (HSBW.out W2 hS).c2
          clear hdep hfr
          have hk9 := hK (.map (some b)) W2 ⟨Below.refl _ W2, rfl⟩
          go_simp
          exact hk9
        case s4 =>
          intro o ho a W2 hS ⟨hsz, hdf, hfr, hdep⟩ K hK
          obtain ⟨tm, df⟩ := a
          have hdf : df = [] := hdf
          subst hdf
          have ho := Option.some.inj ho
          subst ho
          have hsz : tm.size = 44 := hsz
          have t5 : tm.getD 5 undef = .pointer (some ⟨Q, 0, none⟩) := hfr 5 (by decide)
          clear hdep hfr
          refine step_loadT rfl (.tmp 5) rfl Q (by simp [Act.eval, t5]) kt HKT.out (HTKW.out W2 hS) ?_
          exact hK _ W2 ⟨Below.refl _ W2, rfl⟩
        case s5 =>
          intro o ho a W2 hS ⟨hsz, hdf, hfr, hdep⟩ K hK
          obtain ⟨tm, df⟩ := a
          have hdf : df = [] := hdf
          subst hdf
          have ho := Option.some.inj ho
          subst ho
          have hsz : tm.size = 44 := hsz
          have t6 : tm.getD 6 undef = .int .i64 (n : Int) := hfr 6 (by decide)
          clear hdep hfr
          have hk9 := hK (.int .i64 (n : Int)) W2 ⟨Below.refl _ W2, rfl⟩
          go_simp
          exact hk9
      case hL =>
        intro o ho a W2 hS ⟨hsz, hdf, hfr, hdep⟩ hall K hK
        obtain ⟨tm, df⟩ := a
        have hdf : df = [] := hdf
        subst hdf
        have ho := Option.some.inj ho
        subst ho
        have hsz : tm.size = 44 := hsz
        have t30 : tm.getD 30 undef = .map (some b) := hall 3 (by decide)
        have t31 : tm.getD 31 undef = .agg (ints kt).toArray := hall 4 (by decide)
        have t32 : tm.getD 32 undef = .int .i64 (n : Int) := hall 5 (by decide)
        refine step_mapUpd rfl (.tmp 30) (.tmp 31) (.tmp 32) rfl b n D (by simp [Act.eval, t30]) (HMPW.out W2 hS) (by unfold maxLen; omega) _ _ (n : Int) (by simp [Act.eval, t31]) (by simp [Act.eval, t32]) HKY.out (WalkArith.wf_i64 (by omega)) ?_
        intro w9 hw1 hw2
        exact hK undef _ ⟨W2, hS, hw2, hw1⟩
      case fin =>
        intro vs W5 hvl hS5
        simp only [show List.range 6 = [0, 1, 2, 3, 4, 5] from rfl, List.map, fillD]
        generalize vs.getD 0 undef = q0
        generalize vs.getD 1 undef = q1
        generalize vs.getD 2 undef = q2
        generalize vs.getD 3 undef = q3
        generalize vs.getD 4 undef = q4
        generalize vs.getD 5 undef = q5
        obtain ⟨W4, hb4, hg5, hm5⟩ := hS5
        go_simp
        have hno := map_no (ownsMap_below HMP5.out hb4)
        have hsb5 := (HSB5.out.below hb4 HSB5.out.lt).grown hg5 hno.2.2.2
        have hln5 := (HLN5.out.below hb4).grown hg5 hno.1 hno.2.2.1
        have hj5 := (HJ5.out.below hb4).grown hg5 hno.1
        have hk5 := (HK4.out.trans (KeepT.of hb4)).trans (KeepT.grown hg5 hno.2.1)
        have hlb5 : LB W5 P (.slice Aj nc cj) x.left x.right x.on := (HLB5.out.below hb4 HLB5.out.lt).noRow hg5 (fun e => by
          injection e with e
          exact hno.2.2.1 P (by rw [e]) _ _ (HLB5.out.below hb4 HLB5.out.lt))
        have hbe5 : Below w0.heap.size w0 W5 := (HS4.out.below.trans (hb4.mono HS4.out.below.size)).grown hg5 (Nat.le_trans HS4.out.below.size hb4.size) (fun y hy => by injection hy with hy; rw [← hy]; exact HS4.out.gb.2)
        have HSB6 := Lib.hid hsb5
        have HLN6 := Lib.hid hln5
        have HJ6 := Lib.hid hj5
        have HK6 := Lib.hid hk5
        have HLB6 := Lib.hid hlb5
        have HBE6 := Lib.hid hbe5
        have HMP6 := Lib.hid hm5
        have HGB := Lib.hid HS4.out.gb
        have HOK := Lib.hid HS4.out.ok
        have HW0 : Hid (w0.heap.size ≤ W5.heap.size) := Lib.hid hbe5.size
        clear hno hsb5 hln5 hj5 hk5 hlb5 hbe5 hm5 hg5 hb4 HMPW HSBW HTKW HMP5 HSB5 HTK5 HLN5 HJ5 HK4 HLB5 HS4
        obtain ⟨cs, hown, hlin⟩ := HLN6.out
        rw [HN.out] at hown
        have HOWN := Lib.hid hown
        have HLIN := Lib.hid hlin
        have HNOR := Lib.hid (own_no hown)
        have HPNE : Hid (∀ W2, Below W5.heap.size W5 W2 → LB W2 P (.slice Aj nc cj) x.left x.right x.on) := Lib.hid (fun W2 hw => HLB6.out.below hw HLB6.out.lt)
        have HSBW := Lib.hid (fun W2 (hw : Below W5.heap.size W5 W2) => HSB6.out.below hw HSB6.out.lt)
        have HOWW := Lib.hid (fun W2 (hw : Below W5.heap.size W5 W2) => own_keep1 HOWN.out (fun y hy => hw.block y (HOWN.out.lt y hy).2))
        clear hown hlin
        have HC2 : Hid (∀ W2 v2, aS2 W5 w0.heap.size (.slice AL n cL) n (cs ++ lnL x Aj cj) W2 v2 → aC g P C (.slice AL n cL) (.map (some b)) (.slice Aj nc cj) x.left x.right x.on W2) := Lib.hid (fun W2 v2 h => by
          obtain ⟨W1, h1, h2, _⟩ := h
          exact ⟨(HSBW.out W1 h1).grown h2 (own_no (HOWW.out W1 h1)).2.2, (HPNE.out W1 h1).noRow h2 (fun e => by have := HPN.out P (by rw [HN.out]; exact e.symm); omega)⟩)
        go_wp2
        refine wp_region_bas [.pointer (some ⟨g, 0, none⟩), .pointer (some ⟨g, 0, none⟩), .pointer (some ⟨g, 0, none⟩), .pointer (some ⟨g, 1, none⟩), .slice AL n cL, .agg #[.slice Aj nc cj, .int .i64 x.left, .int .i64 x.right, .int .i64 x.on], undef, undef, .pointer (some ⟨g, 0, none⟩), .pointer (some ⟨g, 1, none⟩)] 33 6 7 10 44 (fun W => aC g P C (.slice AL n cL) (.map (some b)) (.slice Aj nc cj) x.left x.right x.on W) (fun W => Below W5.heap.size W5 W) (fun W => aS3 W5 w0.heap.size (.slice AL n cL) n (cs ++ lnL x Aj cj) g W) (fun W v => aS1 W5 x Aj cj W v) (fun W v => aS2 W5 w0.heap.size (.slice AL n cL) n (cs ++ lnL x Aj cj) W v) rfl rfl (by omega) (by omega) (by omega) (by omega) (by kernel_rfl) (by kernel_rfl) (by kernel_rfl) (by kernel_rfl) (by kernel_rfl) (Below.refl _ W5).drew (fun W h => ⟨HSBW.out W h, HPNE.out W h⟩) (fun W v h => ⟨HSBW.out W h.1, HPNE.out W h.1⟩) HC2.out ?hpure ?hB ?hA ?hL ?fin
        case hpure =>
          refine (lt_more (lt_more (lt_more (lt_more (lt_more (lt_more (lt_more (lt_more (lt_more (lt_more (lt_none _) (fun _ _ => ?s0)) (fun _ _ => ?s1)) (fun _ _ => ?s2)) (fun _ _ => ?s3)) (fun _ _ => ?s4)) (fun _ _ => ?s5)) (fun h _ => absurd rfl h)) (fun _ h => absurd rfl h)) (fun _ _ => ?s8)) (fun _ _ => ?s9))
          case s0 =>
            intro o ho a W hS ⟨hsz, hdf, hfr, hdep⟩ K hK
            obtain ⟨tm, df⟩ := a
            have hdf : df = [] := hdf
            subst hdf
            have ho := Option.some.inj ho
            subst ho
            have hsz : tm.size = 44 := hsz
            have t0 : tm.getD 0 undef = .pointer (some ⟨g, 0, none⟩) := hfr 0 (by intro j hj; omega)
            have u0 := getq t0 (by omega)
            clear hdep hfr
            go_simp
            exact hK
          case s1 =>
            intro o ho a W hS ⟨hsz, hdf, hfr, hdep⟩ K hK
            obtain ⟨tm, df⟩ := a
            have hdf : df = [] := hdf
            subst hdf
            have ho := Option.some.inj ho
            subst ho
            have hsz : tm.size = 44 := hsz
            have t0 : tm.getD 0 undef = .pointer (some ⟨g, 0, none⟩) := hfr 0 (by intro j hj; omega)
            have u0 := getq t0 (by omega)
            clear hdep hfr
            go_simp
            exact hK
          case s2 =>
            intro o ho a W hS ⟨hsz, hdf, hfr, hdep⟩ K hK
            obtain ⟨tm, df⟩ := a
            have hdf : df = [] := hdf
            subst hdf
            have ho := Option.some.inj ho
            subst ho
            have hsz : tm.size = 44 := hsz
            have t34 : tm.getD 34 undef = .pointer (some ⟨g, 0, none⟩) := hdep ⟨1, .data⟩ (by simp) (by rfl) (by decide) (by decide) (by decide)
            have u34 := getq t34 (by omega)
            clear hdep hfr
            go_simp
            exact hK
          case s3 =>
            intro o ho a W hS ⟨hsz, hdf, hfr, hdep⟩ K hK
            obtain ⟨tm, df⟩ := a
            have hdf : df = [] := hdf
            subst hdf
            have ho := Option.some.inj ho
            subst ho
            have hsz : tm.size = 44 := hsz
            have t35 : tm.getD 35 undef = .pointer (some ⟨g, 0, none⟩) := hdep ⟨2, .data⟩ (by simp) (by rfl) (by decide) (by decide) (by decide)
            have u35 := getq t35 (by omega)
            clear hdep hfr
            go_simp
            exact hK
          case s4 =>
            intro o ho a W hS ⟨hsz, hdf, hfr, hdep⟩ K hK
            obtain ⟨tm, df⟩ := a
            have hdf : df = [] := hdf
            subst hdf
            have ho := Option.some.inj ho
            subst ho
            have hsz : tm.size = 44 := hsz
            have t36 : tm.getD 36 undef = .pointer (some ⟨g, 1, none⟩) := hdep ⟨3, .data⟩ (by simp) (by rfl) (by decide) (by decide) (by decide)
            have u36 := getq t36 (by omega)
            have z1 := hS.sb.c1
            clear hdep hfr
            go_simp
            exact hK
          case s5 =>
            intro o ho a W hS ⟨hsz, hdf, hfr, hdep⟩ K hK
            obtain ⟨tm, df⟩ := a
            have hdf : df = [] := hdf
            subst hdf
            have ho := Option.some.inj ho
            subst ho
            have hsz : tm.size = 44 := hsz
            have t3 : tm.getD 3 undef = .pointer (some ⟨P, 0, none⟩) := hfr 3 (by intro j hj; omega)
            have u3 := getq t3 (by omega)
            have z0 := hS.lb.c0
            have z1 := hS.lb.c1
            have z2 := hS.lb.c2
            have z3 := hS.lb.c3
            clear hdep hfr
            go_simp
            exact hK
          case s8 =>
            intro o ho a W hS ⟨hsz, hdf, hfr, hdep⟩ K hK
            obtain ⟨tm, df⟩ := a
            have hdf : df = [] := hdf
            subst hdf
            have ho := Option.some.inj ho
            subst ho
            have hsz : tm.size = 44 := hsz
            have t33 : tm.getD 33 undef = .pointer (some ⟨g, 0, none⟩) := hdep ⟨0, .data⟩ (by simp) (by rfl) (by decide) (by decide) (by decide)
            have u33 := getq t33 (by omega)
            clear hdep hfr
            go_simp
            exact hK
          case s9 =>
            intro o ho a W hS ⟨hsz, hdf, hfr, hdep⟩ K hK
            obtain ⟨tm, df⟩ := a
            have hdf : df = [] := hdf
            subst hdf
            have ho := Option.some.inj ho
            subst ho
            have hsz : tm.size = 44 := hsz
            have t41 : tm.getD 41 undef = .pointer (some ⟨g, 0, none⟩) := hdep ⟨8, .data⟩ (by simp) (by rfl) (by decide) (by decide) (by decide)
            have u41 := getq t41 (by omega)
            clear hdep hfr
            go_simp
            exact hK
        case hB =>
          intro o ho a W hS ⟨hsz, hdf, hfr, hdep⟩ K hK
          obtain ⟨tm, df⟩ := a
          have hdf : df = [] := hdf
          subst hdf
          have ho := Option.some.inj ho
          subst ho
          have hsz : tm.size = 44 := hsz
          have t38 : tm.getD 38 undef = .agg #[.slice Aj nc cj, .int .i64 x.left, .int .i64 x.right, .int .i64 x.on] := hdep ⟨5, .data⟩ (by simp) (by rfl) (by decide) (by decide) (by decide)
          have u38 := getq t38 (by omega)
          clear hdep hfr
          go_simp
          exact hK _ (W.alloc (.cells #[.slice Aj nc cj, .int .i64 x.left, .int .i64 x.right, .int .i64 x.on] 41)) ⟨hS.alloc hS.size _, W.heap.size, rfl, by rw [heap_alloc_new]; unfold lnC; rw [HNC.out]⟩
        case hA =>
          intro o ho a W hS ⟨hsz, hdf, hfr, hdep⟩ K hK
          obtain ⟨tm, df⟩ := a
          have hdf : df = [] := hdf
          subst hdf
          have ho := Option.some.inj ho
          subst ho
          have hsz : tm.size = 44 := hsz
          have t37 : tm.getD 37 undef = .slice AL n cL := hdep ⟨4, .data⟩ (by simp) (by rfl) (by decide) (by decide) (by decide)
          obtain ⟨hb1, q, hv, hcq⟩ := hS
          have t39 : tm.getD 39 undef = .slice (some ⟨q, 0, none⟩) 1 1 := hv
          clear hdep hfr
          refine step_appR n x Aj cj W (by rfl) (.tmp 37) (.tmp 39) (by rfl) w0.heap.size q (.slice AL n cL) (by simp [Act.eval, t37]) (HOWW.out W hb1) (by simp [Act.eval, t39]) hcq (by omega) (Nat.le_trans HW0.out hb1.size) ?_
          intro g3 c3 w9 ho3 hg3
          exact hK _ _ ⟨W, hb1, hg3, ho3⟩
        case hL =>
          intro o ho a W hS ⟨hsz, hdf, hfr, hdep⟩ K hK
          obtain ⟨tm, df⟩ := a
          have hdf : df = [] := hdf
          subst hdf
          have ho := Option.some.inj ho
          subst ho
          have hsz : tm.size = 44 := hsz
          have t42 : tm.getD 42 undef = .pointer (some ⟨g, 1, none⟩) := hdep ⟨9, .data⟩ (by simp) (by rfl) (by decide) (by decide) (by decide)
          have hCW := HC2.out W _ hS
          obtain ⟨W1, h1, h2, h3⟩ := hS
          obtain ⟨A9, c9, hv, _⟩ := own_reads4 h3
          have hv : tm.getD 40 undef = .slice A9 (n + 1) c9 := hv
          have t40 := hv
          have u40 := getq t40 (by omega)
          have u42 := getq t42 (by omega)
          have z1 := hCW.sb.c1
          have f1 := hCW.sb.free 1
          have h3 : W.ownsRow w0.heap.size 41 4 (tm.getD 40 undef) (n + 1) (cs ++ lnL x Aj cj) := h3
          rw [hv] at h3
          clear hdep hfr
          go_simp
          exact hK undef _ ⟨W, _, ⟨W1, h1, h2, h3⟩, rfl⟩
        case fin =>
          intro vs W6 _ hS6
          simp only [show List.range 10 = [0, 1, 2, 3, 4, 5, 6, 7, 8, 9] from rfl, List.map, fillT]
          generalize vs.getD 0 undef = q0
          generalize vs.getD 1 undef = q1
          generalize vs.getD 2 undef = q2
          generalize vs.getD 3 undef = q3
          generalize vs.getD 4 undef = q4
          generalize vs.getD 5 undef = q5
          generalize vs.getD 6 undef = q6
          generalize vs.getD 7 undef = q7
          generalize vs.getD 8 undef = q8
          generalize vs.getD 9 undef = q9
          obtain ⟨W2, v2, ⟨W1, h1, h2, h3⟩, rfl⟩ := hS6
          have hsb1 := HSBW.out W1 h1
          have hno1 := own_no (HOWW.out W1 h1)
          have hmp1 := ownsMap_below HMP6.out h1
          have hmno := map_no hmp1
          have hsb2 := hsb1.grown h2 hno1.2.2
          have hmp2 := hmp1.kept h2 (fun e => by obtain ⟨cur, hcur⟩ := own_cells (HOWW.out W1 h1) e.symm; exact hmno.2.2.1 b rfl _ _ hcur)
          have hgs := grown_set W2 g 1 v2
          have hbg : b ≠ g := fun e => by subst e; obtain ⟨es, clock, hb9, _⟩ := hmp2; unfold SBx at hsb2; rw [hb9] at hsb2; cases hsb2
          have hln : LnO W2 w0.heap.size v2 (s ++ [x]) := LnO.snoc (cs := cs) (LV := .slice AL n cL) (by rw [HN.out]; exact HOWW.out W1 h1) (fun j hj => by obtain ⟨Ak, ck, e0, e1, e2, e3, e4, e5⟩ := HLIN.out j hj; exact ⟨Ak, ck, e0, e1, e2, e3, e4.below h1, e5⟩) (HJ6.out.below h1) HCC.out h2 (by rw [HN.out]; exact h3)
          have hsr : Srch w0 C g b (s ++ [x]) (W2.setCell ⟨g, 1, none⟩ v2) := ⟨HGB.out, fun i hi => by
              rw [List.length_append, List.length_singleton] at hi
              by_cases e : i = s.length
              · subst e; rw [getL_last]; exact HX.out
              · rw [getL_app (by omega)]; exact HOK.out i (by omega),
            ((HBE6.out.trans (h1.mono HW0.out)).grown h2 (Nat.le_trans HW0.out h1.size) (fun y hy => ((HOWN.out.lt y hy).1))).setCell HGB.out.1 _,
            v2, D.put (keyC x.cl) (.lit (.int .i64 (n : Int))), hsb2.set1 v2, by rw [List.length_append, List.length_singleton, HN.out]; exact hmp2.setCell hbg v2, by rw [← HN.out]; exact HMS.out.put HX.out HNI.out, hln.grown hgs hsb2.no.1 hsb2.no.2.2⟩
          have hkt : KeepT w (W2.setCell ⟨g, 1, none⟩ v2) := ((HK6.out.trans (KeepT.of h1)).trans (KeepT.grown h2 hno1.2.1)).trans (KeepT.grown hgs hsb2.no.2.1)
          have HSR := Lib.hid hsr
          have HKT9 := Lib.hid hkt
          clear hsb1 hno1 hmp1 hmno hsb2 hmp2 hbg hln hsr hkt hgs h1 h2 h3
          generalize W2.setCell ⟨g, 1, none⟩ v2 = W7 at *
          go_simp
          go_wp2
          go_ret
          exact ⟨ret_i64 (by rw [HA.out]; exact congrArg Nat.cast HN.out.symm), by rw [HA.out]; exact HSR.out, HKT9.out⟩end Go.Proofs.YtopkmcoblndokaaDoor.rsl
