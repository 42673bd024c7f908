/- Layer 9: the reference's walk to the atoms. -/
import Derived.Test.YtkkkomkljpolbaaDoorNIq
import Derived.Maps.AppendAt
import Derived.WalkSmall
import Derived.Laws.OwnMore
namespace Go.Proofs.YtkkkomkljpolbaaDoor
open Go.RowKit Go.Proofs.Ws Go.Maps
set_option maxRecDepth 100000
theorem own_ne_bs {W : World} {base k bd : Nat} {v : Value} {xs : List Value} {l : List Bool} (h : W.ownsRow base 3 1 v k xs) (b : BS W bd l) : v.ownBlock ≠ some bd := by
  intro e
  rcases h.2 with ⟨rfl, _⟩ | ⟨g, cap, cur, rfl, _, hg, _⟩
  · cases e
  · injection e with e
    dsimp only at e
    subst e
    unfold BS at b
    rw [b] at hg
    injection hg with hg
    injection hg with _ h2
    exact absurd h2 (by decide)
theorem iv_app (a b : List Nat) : iv (a ++ b) = iv a ++ iv b := by simp [iv]
/-- the loop's state: the order, the stack (its top first in S), what was seen (block bd) -/
structure TKw (W : World) (base : Nat) (u3 u5 : Value) (bd : Nat) (met : List Bool) (ord S : List Nat) : Prop where
  ord : W.ownsRow base 3 1 u3 ord.length (iv ord)
  stk : W.ownsRow base 3 1 u5 S.length (iv S.reverse)
  seen : BS W bd met
  lb : base ≤ bd
  lt : bd < W.heap.size
  apart : ∀ g, u3.ownBlock = some g → u5.ownBlock ≠ some g
section
variable {W : World} {base bd : Nat} {u3 u5 : Value} {met : List Bool} {ord S : List Nat}
theorem TKw.pop {i : Nat} (h : TKw W base u3 u5 bd met ord (i :: S)) : ∃ g cap, u5 = .slice (some ⟨g, 0, none⟩) (S.length + 1) cap ∧ S.length + 1 ≤ cap ∧ W.cell? ⟨g, S.length, none⟩ = some (.int .i64 (i : Int)) ∧ TKw W base u3 (.slice (some ⟨g, 0, none⟩) S.length cap) bd met ord S := by
  have hs := h.stk
  rcases h.stk.2 with ⟨_, h2⟩ | ⟨g, cap, cur, rfl, _, _, hc, _⟩
  · simp at h2
  · have e : iv (i :: S).reverse = iv S.reverse ++ iv [i] := by rw [List.reverse_cons, iv_app]
    have hl : (iv S.reverse).length = S.length * 1 := by simp [iv]
    rw [e] at hs
    have h4 := ownsRow_pop (n := S.length) hl hs
    have h5 := hs.cellAt S.length (by simp)
    refine ⟨g, cap, rfl, hc, ?_, h.ord, h4, h.seen, h.lb, h.lt, h.apart⟩
    rw [h5, List.getElem?_append_right (by omega)]
    rw [hl]
    simp [iv]
theorem TKw.mark {i : Nat} (h : TKw W base u3 u5 bd met ord S) : TKw (W.setCell ⟨bd, i, none⟩ (.bool true)) base u3 u5 bd (met.set i true) ord S := by
  have k : ∀ {v : Value} {k : Nat} {xs : List Value}, W.ownsRow base 3 1 v k xs → (W.setCell ⟨bd, i, none⟩ (.bool true)).ownsRow base 3 1 v k xs := fun ho => own_keep1 ho (fun g hg => Below.heap_setCell _ _ _ _ (fun e => own_ne_bs ho h.seen (by rw [show g = bd from e] at hg; exact hg)))
  exact ⟨k h.ord, k h.stk, h.seen.put i true, h.lb, by simpa using h.lt, h.apart⟩
theorem TKw.alloc (h : TKw W base u3 u5 bd met ord S) (o : Obj) : TKw (W.alloc o) base u3 u5 bd met ord S :=
  ⟨h.ord.alloc o, h.stk.alloc o, h.seen.keep (Below.heap_alloc W o bd h.lt), h.lb, by simp; have := h.lt; omega, h.apart⟩
theorem TKw.pushO {w5 : World} {v' : Value} {ob : Obj} {i : Nat} (h : TKw W base u3 u5 bd met ord S) (ho : w5.ownsRow base 3 1 v' (ord.length + 1) (iv ord ++ [.int .i64 (i : Int)])) (hg : (W.alloc ob).grownBy w5 u3.ownBlock) (hr : v'.ownBlock = u3.ownBlock ∨ v'.ownBlock = some (W.heap.size + 1)) :
    TKw w5 base v' u5 bd met (ord ++ [i]) S := by
  have ha := h.alloc ob
  have hsz := hg.size
  refine ⟨?_, ha.stk.kept hg ?_, ha.seen.keep (hg.block bd ha.lt (fun e => own_ne_bs ha.ord ha.seen e.symm)), h.lb, Nat.lt_of_lt_of_le ha.lt hsz, fun g hv => ?_⟩
  · rw [List.length_append, iv_app]; exact ho
  · cases hu : u5.ownBlock with
    | none => exact .inl rfl
    | some g => exact .inr (fun e => h.apart g e.symm hu)
  · rcases hr with e | e
    · exact h.apart g (e ▸ hv)
    · intro hu
      have := (ha.stk.lt g hu).2
      simp at this
      rw [e] at hv
      injection hv with hv
      omega
theorem TKw.pushS {w5 : World} {v' : Value} {ob : Obj} {i : Nat} (h : TKw W base u3 u5 bd met ord S) (ho : w5.ownsRow base 3 1 v' (S.length + 1) (iv S.reverse ++ [.int .i64 (i : Int)])) (hg : (W.alloc ob).grownBy w5 u5.ownBlock) (hr : v'.ownBlock = u5.ownBlock ∨ v'.ownBlock = some (W.heap.size + 1)) :
    TKw w5 base u3 v' bd met ord (i :: S) := by
  have ha := h.alloc ob
  have hsz := hg.size
  refine ⟨ha.ord.kept hg ?_, ?_, ha.seen.keep (hg.block bd ha.lt (fun e => own_ne_bs ha.stk ha.seen e.symm)), h.lb, Nat.lt_of_lt_of_le ha.lt hsz, fun g hv hu => ?_⟩
  · cases hu : u3.ownBlock with
    | none => exact .inl rfl
    | some g => exact .inr (fun e => h.apart g hu e.symm)
  · rw [List.length_cons, List.reverse_cons, iv_app]; exact ho
  · rcases hr with e | e
    · exact h.apart g hv (e ▸ hu)
    · have := (ha.ord.lt g hv).2
      simp at this
      rw [e] at hu
      injection hu with hu
      omega
end
def slLen : Value → Nat
  | .slice _ n _ => n
  | _ => 0
theorem slLen_sl (a : Option Addr) (n c : Nat) : slLen (.slice a n c) = n := rfl
theorem all_cons9 {n a : Nat} {S : List Nat} (ha : a < n) (h : ∀ j ∈ S, j < n) : ∀ j ∈ a :: S, j < n := fun j hj => by
  rcases List.mem_cons.1 hj with rfl | hj
  · exact ha
  · exact h j hj
theorem own_slLen {W : World} {base n size : Nat} {e : TypeId} {v : Value} {xs : List Value} (h : W.ownsRow base e size v n xs) : slLen v = n := by
  obtain ⟨A, c, rfl⟩ := own_sl h
  rfl
theorem TKw.start (w : World) (n k : Nat) : TKw (((w.alloc (.cells #[] 3)).alloc (.cells (falses n) 4)).alloc (.cells #[.int .i64 (k : Int)] 3)) w.heap.size (.slice (some ⟨w.heap.size, 0, none⟩) 0 0) (.slice (some ⟨w.heap.size + 1 + 1, 0, none⟩) 1 1) (w.heap.size + 1) (List.replicate n false) [] [k] := by
  have h1 := ((World.ownsRow_lit (base := w.heap.size) (e := 3) (size := 1) w #[] 0 (Nat.le_refl _) (by unfold maxLen; decide) rfl).alloc (.cells (falses n) 4)).alloc (.cells #[.int .i64 (k : Int)] 3)
  have hb := BS.made (w.alloc (.cells #[] 3)) n
  have s1 : (w.alloc (.cells #[] 3)).heap.size = w.heap.size + 1 := by simp
  have s2 : ((w.alloc (.cells #[] 3)).alloc (.cells (falses n) 4)).heap.size = w.heap.size + 1 + 1 := by simp
  rw [s1] at hb
  generalize (w.alloc (.cells #[] 3)).alloc (.cells (falses n) 4) = wb at *
  have h2 := World.ownsRow_lit (base := w.heap.size) (e := 3) (size := 1) wb #[.int .i64 (k : Int)] 1 (by omega) (by unfold maxLen; decide) rfl
  rw [s2] at h2
  refine ⟨h1, h2, hb.keep (Below.heap_alloc wb _ _ (by omega)), Nat.le_succ _, by simp; omega, fun g hg hu => ?_⟩
  injection hg with hg
  injection hu with hu
  dsimp only at hg hu
  omega
set_option maxHeartbeats 8000000 in
theorem trunk_any (q : List Nd) (A : Option Addr) (n c : Nat) (w : World) (hR : Reads w w.heap.size 6 A n (nds q)) (hq : opsL q) (hk : knownL q) (hn0 : 0 < n) (hn : n ≤ 200) :
    Calls Tryd.prog 96 #[.slice A n c] w fun e w' => ∃ A' c', e = .returned (.slice A' (ordL q).length c') ∧ w'.ownsRow w.heap.size 3 1 (.slice A' (ordL q).length c') (ordL q).length (iv (ordL q)) ∧ Below w.heap.size w w' := by
  have hl := hR.nd_len
  have hne : q ≠ [] := fun e => by rw [e] at hl; simp at hl; omega
  have HST := Lib.hid (stack_start hq hne)
  have HR := Lib.hid hR
  have HQ := Lib.hid hq
  have HKN := Lib.hid hk
  rw [hl] at HST
  have hmk := makeB w n (by omega)
  have hmk2 := makeB (w.alloc (.cells #[] 3)) n (by omega)
  obtain ⟨i0, hi0, hz0, hz1, hz2⟩ := info_parts Tryd.infoI
  clear hR hq hk
  have hn1 : ((n : Int) - 1) = ((n - 1 : Nat) : Int) := by omega
  go_enter Tryd.func96, Tryd.ntmps96
  go_wp2
  have HT0 := Lib.hid (TKw.start w n (n - 1))
  have HB0 : Hid (Below w.heap.size w (((w.alloc (.cells #[] 3)).alloc (.cells (falses n) 4)).alloc (.cells #[.int .i64 ((n - 1 : Nat) : Int)] 3))) := Lib.hid ((((Below.refl _ w).alloc (Nat.le_refl _) _).alloc (by simp) _).alloc (by simp; omega) _)
  generalize ((w.alloc (.cells #[] 3)).alloc (.cells (falses n) 4)).alloc (.cells #[.int .i64 ((n - 1 : Nat) : Int)] 3) = w0 at *
  clear hmk hmk2 hn1
  go_loopw [3, 5, 6, 7] (fun u3 u5 _ _ wr => ∃ (s : TS) (S : List Nat), Hid (TKw wr w.heap.size u3 u5 (w.heap.size + 1) s.met s.order S) ∧ Hid (StackR q S s (metAll q)) ∧ Hid (MetOk n s) ∧ Hid (∀ i ∈ S, i < n) ∧ Hid (S.length ≤ 2 * s.order.length + 1) ∧ Hid (Below w.heap.size w wr)) (fun u3 u5 _ _ _ => (n - slLen u3) * 3 + slLen u5)
  case atStart => exact ⟨⟨List.replicate n false, []⟩, [n - 1], HT0, HST, Lib.hid (met_start n), Lib.hid (by simp; omega), Lib.hid (by simp), HB0⟩
  case round =>
    obtain ⟨s, S, HT, HSR, HM, HSL, HSN, HBR⟩ := hrel
    cases S with
    | nil =>
      have HE : Hid (s.order = ordL q) := Lib.hid (by unfold ordL; rw [HSR.out.done])
      obtain ⟨A5, c5, rfl⟩ := own_sl HT.out.stk
      obtain ⟨A3, c3, rfl⟩ := own_sl HT.out.ord
      have HO := Lib.hid HT.out.ord
      rw [HE.out] at HO
      have hle : (([] : List Nat).length : Int) = 0 := rfl
      rw [HE.out]
      clear HT HSR HM HSL HSN
      go_wp2
      go_ret
      exact ⟨_, _, rfl, HO.out, HBR.out⟩
    | cons i S =>
      obtain ⟨g, cap, rfl, hcap, hcell, htk⟩ := HT.out.pop
      have HTK := Lib.hid htk
      have hSm : S.length ≤ 2 * s.order.length := by have := HSN.out; simp at this; omega
      have hin : i < n := HSL.out i List.mem_cons_self
      have HSL2 : Hid (∀ j ∈ S, j < n) := Lib.hid (fun j hj => HSL.out j (List.mem_cons_of_mem _ hj))
      have hof := HM.out.few
      have hlm := HM.out.len
      have hmet := HTK.out.seen.cell (k := i) (by rw [hlm]; exact hin)
      have hfre := HTK.out.seen.free i
      have hsl3 : slLen u3 = s.order.length := own_slLen HTK.out.ord
      generalize hm : S.length = m at *
      have hm1 : (((m + 1 : Nat) : Int) - 1) = (m : Int) := by omega
      clear htk HT HSN HSL
      cases hv : s.met.getD i false
      · rw [hv] at hmet
        have HMK := Lib.hid (HTK.out.mark (i := i))
        have HSRv := Lib.hid (HSR.out.visit_inv hv)
        have HMv := Lib.hid (HM.out.mark hin hv)
        have hol := HM.out.less hin hv
        have HBS : Hid (Below w.heap.size w (wr.setCell ⟨w.heap.size + 1, i, none⟩ (.bool true))) := Lib.hid (HBR.out.setCell (Nat.le_succ _) _)
        have hws : (wr.setCell ⟨w.heap.size + 1, i, none⟩ (.bool true)).heap.size = wr.heap.size := by simp
        have hszr := HBR.out.size
        clear HSR hv
        go_wp2_with (at_builtin; (refine wpList_append_own_at _ rfl _ _ 60 rfl w.heap.size 3 i0 (.int .i64 0) 1 8 Tryd.underlying60 hi0 hz0 hz1 hz2 rfl (by decide) _ _ _ rfl (HMK.out.ord.alloc _) ⟨wr.heap.size, 0, none⟩ 1 1 [.int .i64 (i : Int)] rfl rfl ?k1 ?k2 ?k3 ?k4 ?k5 ?_))
        case k1 => rw [← hws]; exact cell_one_new _ _ _
        case k2 => intro u hu; simp at hu; subst hu; rfl
        case k3 => unfold maxLen; omega
        case k4 => omega
        case k5 => simp; omega
        intro v5 w5 hown' hgrow _ hrow
        have HK5 := Lib.hid (HMK.out.pushO hown' hgrow (by rw [hws]; exact hrow))
        have HB5 : Hid (Below w.heap.size w w5) := Lib.hid ((HBS.out.alloc HBS.out.size _).grown hgrow (by simp; omega) (fun g hg => (HMK.out.ord.lt g hg).1))
        clear hown' hgrow hrow HBS HMK HTK
        have hsl5 : slLen v5 = s.order.length + 1 := by have := own_slLen HK5.out.ord; simpa using this
        have hmo : (s.mark i).order.length = s.order.length + 1 := by show (s.order ++ [i]).length = _; simp
        have hgl : g < w5.heap.size := (HK5.out.stk.lt g rfl).2
        obtain ⟨ad, rfl, hb, m0, m1, m2, m3, m4, m5⟩ := (HR.out.below HB5.out).nd_at hin
        have l1 := add_cell m1
        have l2 := add_cell m2
        have l3 := add_cell m3
        have l4 := add_cell m4
        have l5 := add_cell m5
        have hkn := HKN.out i (by omega)
        have ho := HQ.out i (by omega)
        have hox := fun h => opsOk_x ho h
        have hoy := fun h => opsOk_y ho h
        generalize hx : q.getD i nd0 = x at *
        clear hx ho hmet hfre hcell
        obtain ⟨op, ni, ne, ng, nx, ny⟩ := x
        dsimp only at m0 m1 m2 m3 m4 m5 l1 l2 l3 l4 l5 hkn hox hoy
        have HK6 : Hid (TKw (w5.alloc (.cells #[.int .i64 op, .int .i64 ni, .int .i64 ne, .int .i64 ng, .int .i64 nx, .int .i64 ny] 62)) w.heap.size v5 (.slice (some ⟨g, 0, none⟩) m cap) (w.heap.size + 1) (s.mark i).met (s.mark i).order S) := Lib.hid (HK5.out.alloc _)
        have HB6 : Hid (Below w.heap.size w (w5.alloc (.cells #[.int .i64 op, .int .i64 ni, .int .i64 ne, .int .i64 ng, .int .i64 nx, .int .i64 ny] 62))) := Lib.hid (HB5.out.alloc HB5.out.size _)
        have HUX := Lib.hid (fun W => rUsesX_any op hkn W)
        have HUY := Lib.hid (fun W => rUsesY_any op hkn W)
        have HPR := Lib.hid (fun W => prop_any op W)
        have hk2 : 1 ≤ op ∧ op ≤ 21 := by unfold known at hkn; simpa using hkn
        clear HK5 HB5 HBR hkn
        by_cases h3 : op = 3
        · subst h3
          have hkd : kids ⟨3, ni, ne, ng, nx, ny⟩ = [] := kids_none (.inl rfl)
          clear hox hoy HUX HUY HPR
          go_wp2
          go_roundw
          case rel => exact ⟨s.mark i, S, HK6, Lib.hid (by have h := HSRv.out; rw [hkd] at h; exact h), HMv, HSL2, Lib.hid (by rw [hmo, hm]; omega), HB6⟩
          case measure => simp [slLen_sl, hsl3, hsl5]; omega
        have d3 : (op == 3) = false := by simpa using h3
        by_cases h8 : op ≤ 8
        · rw [decide_eq_true (show 1 ≤ op ∧ op ≤ 8 from ⟨hk2.1, h8⟩)] at HPR
          go_wp2_with fail
          have hb0 : (w5.alloc (.cells #[.int .i64 op, .int .i64 ni, .int .i64 ne, .int .i64 ng, .int .i64 nx, .int .i64 ny] 62)).cell? ⟨w5.heap.size, 0, none⟩ = some (.int .i64 op) := by rw [Lib.cell_of_heap (heap_alloc_new w5 _)]; rfl
          have hb4 : (w5.alloc (.cells #[.int .i64 op, .int .i64 ni, .int .i64 ne, .int .i64 ng, .int .i64 nx, .int .i64 ny] 62)).cell? ⟨w5.heap.size, 4, none⟩ = some (.int .i64 nx) := by rw [Lib.cell_of_heap (heap_alloc_new w5 _)]; rfl
          have hb5 : (w5.alloc (.cells #[.int .i64 op, .int .i64 ni, .int .i64 ne, .int .i64 ng, .int .i64 nx, .int .i64 ny] 62)).cell? ⟨w5.heap.size, 5, none⟩ = some (.int .i64 ny) := by rw [Lib.cell_of_heap (heap_alloc_new w5 _)]; rfl
          have hs6 : (w5.alloc (.cells #[.int .i64 op, .int .i64 ni, .int .i64 ne, .int .i64 ng, .int .i64 nx, .int .i64 ny] 62)).heap.size = w5.heap.size + 1 := by simp
          generalize w5.alloc (.cells #[.int .i64 op, .int .i64 ni, .int .i64 ne, .int .i64 ng, .int .i64 nx, .int .i64 ny] 62) = w6 at *
          have hlt6 : w5.heap.size < w6.heap.size := by omega
          clear hs6
          have hsz6 := HB6.out.size
          refine (HPR.out _).mono ?_
          rintro e w2 ⟨rfl, rfl⟩
          clear HPR m0 m1 m2 m3 m4 m5 l1 l2 l3 l4 l5
          by_cases h4 : op < 4
          · have hkd : kids ⟨op, ni, ne, ng, nx, ny⟩ = [] := kids_none (.inr (.inr h4))
            have eX : usesX op = false := by unfold usesX; rw [decide_eq_false (by omega)]; rfl
            have eY : usesY op = false := by
              cases hy : usesY op
              · rfl
              · rw [usesY_X hy] at eX; cases eX
            rw [eX] at HUX
            rw [eY] at HUY
            clear hox hoy hb4 hb5
            go_wp2_with fail
            refine (HUY.out _).mono ?_
            rintro e w2 ⟨rfl, rfl⟩
            go_wp2_with fail
            refine (HUX.out _).mono ?_
            rintro e w2 ⟨rfl, rfl⟩
            go_wp2
            go_roundw
            case rel => exact ⟨s.mark i, S, HK6, Lib.hid (by have h := HSRv.out; rw [hkd] at h; exact h), HMv, HSL2, Lib.hid (by rw [hmo, hm]; omega), HB6⟩
            case measure => simp [slLen_sl, hsl3, hsl5]; omega
          · by_cases h44 : op = 4
            · have hkd : kids ⟨op, ni, ne, ng, nx, ny⟩ = [nx.toNat] := kids_one h44
              have eX : usesX op = true := by rw [h44]; rfl
              have eY : usesY op = false := by rw [h44]; rfl
              rw [eX] at HUX hox
              rw [eY] at HUY
              have hxi := hox rfl
              obtain ⟨kx, rfl⟩ : ∃ k : Nat, nx = (k : Int) := ⟨nx.toNat, by omega⟩
              rw [Int.toNat_natCast] at hkd hxi
              clear hox hoy hb5 h44
              go_wp2_with fail
              refine (HUY.out _).mono ?_
              rintro e w2 ⟨rfl, rfl⟩
              go_wp2_with fail
              refine (HUX.out _).mono ?_
              rintro e w2 ⟨rfl, rfl⟩
              go_wp2_with (at_builtin; refine wpList_append_own_at _ rfl _ _ 60 rfl w.heap.size 3 i0 (.int .i64 0) 1 8 Tryd.underlying60 hi0 hz0 hz1 hz2 rfl (by decide) _ _ _ rfl (HK6.out.stk.alloc _) ⟨w6.heap.size, 0, none⟩ 1 1 [.int .i64 (kx : Int)] rfl rfl (cell_one_new _ _ _) ?k2 ?k3 ?k4 ?k5 ?_)
              case k2 => intro u hu; simp at hu; subst hu; rfl
              case k3 => unfold maxLen; first | omega | (simp; omega)
              case k4 => first | omega | (simp; omega)
              case k5 => simp; omega
              intro v7 w7 hown' hgrow _ hrow
              have HK7 := Lib.hid (HK6.out.pushS (by first | exact hown' | (rw [hm]; exact hown') | (rw [hm7]; exact hown') | (simpa [hm] using hown')) hgrow hrow)
              have HB7 : Hid (Below w.heap.size w w7) := Lib.hid ((HB6.out.alloc HB6.out.size _).grown hgrow (by simp; omega) (fun g hg => (HK6.out.stk.lt g hg).1))
              have hsz7 := HB7.out.size
              have hsl7 : slLen v7 = m + 1 := by have := own_slLen HK7.out.stk; simpa [hm] using this
              clear hown' hgrow hrow HK6 HB6
              go_wp2
              go_roundw
              case rel => exact ⟨s.mark i, kx :: S, HK7, Lib.hid (by have h := HSRv.out; rw [hkd] at h; exact h), HMv, Lib.hid (all_cons9 (by omega) HSL2.out), Lib.hid (by rw [hmo, List.length_cons, hm]; omega), HB7⟩
              case measure => simp [slLen_sl, hsl3, hsl5, hsl7]; omega
            · have hkd : kids ⟨op, ni, ne, ng, nx, ny⟩ = [nx.toNat, ny.toNat] := kids_two (by show 5 ≤ op; omega) h8
              have eX : usesX op = true := by unfold usesX; rw [decide_eq_true (by omega), decide_eq_true (by omega)]; rfl
              have eY : usesY op = true := by
                have hc : op = 5 ∨ op = 6 ∨ op = 7 ∨ op = 8 := by omega
                rcases hc with rfl | rfl | rfl | rfl <;> rfl
              rw [eX] at HUX hox
              rw [eY] at HUY hoy
              have hxi := hox rfl
              have hyi := hoy rfl
              obtain ⟨kx, rfl⟩ : ∃ k : Nat, nx = (k : Int) := ⟨nx.toNat, by omega⟩
              obtain ⟨ky, rfl⟩ : ∃ k : Nat, ny = (k : Int) := ⟨ny.toNat, by omega⟩
              rw [Int.toNat_natCast, Int.toNat_natCast] at hkd
              rw [Int.toNat_natCast] at hxi hyi
              clear hox hoy h44
              go_wp2_with fail
              refine (HUY.out _).mono ?_
              rintro e w2 ⟨rfl, rfl⟩
              go_wp2_with (at_builtin; refine wpList_append_own_at _ rfl _ _ 60 rfl w.heap.size 3 i0 (.int .i64 0) 1 8 Tryd.underlying60 hi0 hz0 hz1 hz2 rfl (by decide) _ _ _ rfl (HK6.out.stk.alloc _) ⟨w6.heap.size, 0, none⟩ 1 1 [.int .i64 (ky : Int)] rfl rfl (cell_one_new _ _ _) ?k2 ?k3 ?k4 ?k5 ?_)
              case k2 => intro u hu; simp at hu; subst hu; rfl
              case k3 => unfold maxLen; first | omega | (simp; omega)
              case k4 => first | omega | (simp; omega)
              case k5 => simp; omega
              intro v7 w7 hown' hgrow _ hrow
              have HK7 := Lib.hid (HK6.out.pushS (by first | exact hown' | (rw [hm]; exact hown') | (rw [hm7]; exact hown') | (simpa [hm] using hown')) hgrow hrow)
              have HB7 : Hid (Below w.heap.size w w7) := Lib.hid ((HB6.out.alloc HB6.out.size _).grown hgrow (by simp; omega) (fun g hg => (HK6.out.stk.lt g hg).1))
              have hsz7 := HB7.out.size
              have hn6 : some w5.heap.size ≠ (Value.slice (some ⟨g, 0, none⟩) m cap).ownBlock := by
                intro e
                injection e with e
                dsimp only at e
                omega
              have hc0 : w7.cell? ⟨w5.heap.size, 0, none⟩ = some (.int .i64 op) := hgrow.cell ((World.cell?_alloc_lt w6 _ ⟨w5.heap.size, 0, none⟩ (by show w5.heap.size < _; omega)).trans hb0) hn6
              have hc4 : w7.cell? ⟨w5.heap.size, 4, none⟩ = some (.int .i64 (kx : Int)) := hgrow.cell ((World.cell?_alloc_lt w6 _ ⟨w5.heap.size, 4, none⟩ (by show w5.heap.size < _; omega)).trans hb4) hn6
              clear hown' hgrow hrow HK6 HB6 hn6
              clear hb0 hb4 hb5
              have hm7 : (ky :: S).length = m + 1 := by rw [List.length_cons, hm]
              go_wp2_with fail
              refine (HUX.out _).mono ?_
              rintro e w2 ⟨rfl, rfl⟩
              go_wp2_with (at_builtin; refine wpList_append_own_at _ rfl _ _ 60 rfl w.heap.size 3 i0 (.int .i64 0) 1 8 Tryd.underlying60 hi0 hz0 hz1 hz2 rfl (by decide) _ _ _ rfl (HK7.out.stk.alloc _) ⟨w7.heap.size, 0, none⟩ 1 1 [.int .i64 (kx : Int)] rfl rfl (cell_one_new _ _ _) ?k2 ?k3 ?k4 ?k5 ?_)
              case k2 => intro u hu; simp at hu; subst hu; rfl
              case k3 => unfold maxLen; first | omega | (simp; omega)
              case k4 => first | omega | (simp; omega)
              case k5 => simp; omega
              intro v8 w8 hown' hgrow _ hrow
              have HK8 := Lib.hid (HK7.out.pushS (by first | exact hown' | (rw [hm]; exact hown') | (rw [hm7]; exact hown') | (simpa [hm] using hown')) hgrow hrow)
              have HB8 : Hid (Below w.heap.size w w8) := Lib.hid ((HB7.out.alloc HB7.out.size _).grown hgrow (by simp; omega) (fun g hg => (HK7.out.stk.lt g hg).1))
              have hsz8 := HB8.out.size
              have hsl8 : slLen v8 = m + 1 + 1 := by have := own_slLen HK8.out.stk; simpa [hm] using this
              clear hown' hgrow hrow HK7 HB7
              go_wp2
              go_roundw
              case rel => exact ⟨s.mark i, kx :: ky :: S, HK8, Lib.hid (by have h := HSRv.out; rw [hkd] at h; exact h), HMv, Lib.hid (all_cons9 (by omega) (all_cons9 (by omega) HSL2.out)), Lib.hid (by rw [hmo, List.length_cons, List.length_cons, hm]; omega), HB8⟩
              case measure => simp [slLen_sl, hsl3, hsl5, hsl8]; omega
        · rw [decide_eq_false (show ¬ (1 ≤ op ∧ op ≤ 8) from fun h => h8 h.2)] at HPR
          have hkd : kids ⟨op, ni, ne, ng, nx, ny⟩ = [] := kids_none (.inr (.inl (by show 8 < op; omega)))
          clear hox hoy HUX HUY
          go_wp2_with fail
          refine (HPR.out _).mono ?_
          rintro e w2 ⟨rfl, rfl⟩
          go_wp2
          go_roundw
          case rel => exact ⟨s.mark i, S, HK6, Lib.hid (by have h := HSRv.out; rw [hkd] at h; exact h), HMv, HSL2, Lib.hid (by rw [hmo, hm]; omega), HB6⟩
          case measure => simp [slLen_sl, hsl3, hsl5]; omega
      · rw [hv] at hmet
        have HSR2 := Lib.hid (HSR.out.skip_inv hv)
        clear HSR hfre
        go_wp2
        go_roundw
        case rel => exact ⟨s, S, HTK, HSR2, HM, HSL2, Lib.hid (by rw [hm]; omega), HBR⟩
        case measure => simp [slLen_sl, hsl3]
end Go.Proofs.YtkkkomkljpolbaaDoor
