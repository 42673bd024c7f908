/- Layer 6: texts joined: Gh Gi. -/
import Derived.Test.YtkkkomkljpolbaaDoorMJi
import Derived.Test.YtkkkomkljpolbaaDoorMRc
import Derived.Test.YtkkkomkljpolbaaDoorMRd
import Derived.Test.YtkkkomkljpolbaaDoorMRe
/- Layer 8: the formula at a place. -/
namespace Go.Proofs.YtkkkomkljpolbaaDoor
open Go.RowKit Go.Proofs.Ws Go.Maps
set_option maxRecDepth 100000
/-- a block holds just these truth values -/
def ubs (l : List Bool) : List Value := l.map Value.bool
def UB (W : World) (g : Nat) (l : List Bool) : Prop := W.heap[g]? = some (.cells (ubs l).toArray 4 (0, 0))
theorem UB.cell {W : World} {g : Nat} {l : List Bool} (h : UB W g l) {k : Nat} (hk : k < l.length) : W.cell? ⟨g, k, none⟩ = some (.bool (l.getD k false)) := by
  rw [Lib.cell_of_heap h]
  simp [ubs, hk]
theorem UB.free {W : World} {g : Nat} {l : List Bool} (h : UB W g l) (k : Nat) : W.frozen? ⟨g, k, none⟩ = false := Lib.frozen_of_heap h k
theorem UB.put {W : World} {g : Nat} {l : List Bool} (h : UB W g l) (k : Nat) (x : Bool) : UB (W.setCell ⟨g, k, none⟩ (.bool x)) g (l.set k x) := by
  unfold UB at h ⊢
  have e : (ubs (l.set k x)).toArray = (ubs l).toArray.setIfInBounds k (.bool x) := by
    unfold ubs
    rw [List.map_set]
    simp
  rw [e]
  simp [World.setCell, Array.getElem?_modify, h]
theorem UB.keep {W W' : World} {g : Nat} {l : List Bool} (h : UB W g l) (hb : W'.heap[g]? = W.heap[g]?) : UB W' g l := hb.trans h
theorem Tryd.infoUB : (Tryd.prog.info? 4).map (fun i => (i.zero, i.size, i.bytes)) = some (some (.bool false), 1, 1) := by kernel_rfl
def ufalses (n : Nat) : Array Value := (List.replicate n (Value.bool false)).toArray
theorem made_ufalses (n : Nat) : madeCells (Value.bool false).cells n = ufalses n := by
  apply Array.ext
  · simp [madeCells, ufalses]
  · intro i h1 h2
    simp [madeCells, ufalses, Value.cells, Nat.mod_one]
theorem makeUB (w : World) (n : Nat) (hn : n ≤ 1000000) : (Instr.makeSlice 94 (.int .i64 (n : Int)) (.int .i64 (n : Int))).run Tryd.prog w = .ok (.slice (some ⟨w.heap.size, 0, none⟩) n n) (w.alloc (.cells (ufalses n) 4)) := by
  obtain ⟨i0, hi, hz0, hz1, hz2⟩ := info_parts Tryd.infoUB
  have h := run_make (P := Tryd.prog) w 94 4 i0 (.bool false) Tryd.underlying94 hi hz0 .i64 .i64 n n (by omega) (Int.le_refl _) (by rw [hz2]; omega) (by omega)
  rw [h, hz1]
  simp only [Int.toNat_natCast, Nat.mul_one]
  rw [made_ufalses]
theorem UB.made (w : World) (n : Nat) : UB (w.alloc (.cells (ufalses n) 4)) w.heap.size (List.replicate n false) := by
  have := heap_alloc_new w (.cells (ufalses n) 4)
  unfold UB
  rw [this]
  have e : (ubs (List.replicate n false)).toArray = ufalses n := by simp [ubs, ufalses]
  rw [e]
theorem own_capB {w : World} {base size n c : Nat} {e : TypeId} {A : Option Addr} {xs : List Value} (h : w.ownsRow base e size (.slice A n c) n xs) : n ≤ c := by
  rcases h.2 with ⟨hv, hn⟩ | ⟨g, cap, cur, hv, _, _, h5, _⟩
  · omega
  · injection hv with _ _ h3
    omega
theorem mkX_no {o : List Nd} {i : Nat} {u : List Bool} (h : ¬ (u.getD i false = true ∧ usesX (o.getD i nd0).op = true)) : mkX o i u = u := if_neg h
theorem mkY_no {o : List Nd} {i : Nat} {u : List Bool} (h : ¬ (u.getD i false = true ∧ usesY (o.getD i nd0).op = true)) : mkY o i u = u := if_neg h
theorem mkX_yes {o : List Nd} {i : Nat} {u : List Bool} (h : u.getD i false = true) (h2 : usesX (o.getD i nd0).op = true) : mkX o i u = u.set (o.getD i nd0).x.toNat true := if_pos ⟨h, h2⟩
theorem mkY_yes {o : List Nd} {i : Nat} {u : List Bool} (h : u.getD i false = true) (h2 : usesY (o.getD i nd0).op = true) : mkY o i u = u.set (o.getD i nd0).y.toNat true := if_pos ⟨h, h2⟩
/-- the state of the first loop: the marks -/
structure Mr (B base bw bm : Nat) (o : List Nd) (last : Nat) (w : World) (G m : Nat) (u : List Bool) (W : World) : Prop where
  g0 : w.heap.size = G
  bel : Below w.heap.size w W
  ub : UB W G u
  len : u.length = last + 1
  res : markL o m u = marksOf o last
  lt : G < W.heap.size
theorem Mr.alloc {B base bw bm m last G : Nat} {o : List Nd} {w W : World} {u : List Bool} (h : Mr B base bw bm o last w G m u W) (b : Obj) : Mr B base bw bm o last w G m u (W.alloc b) :=
  ⟨h.g0, h.bel.alloc h.bel.size b, h.ub.keep (Below.heap_alloc W b _ h.lt), h.len, h.res, by have := h.lt; simp; omega⟩
theorem Mr.set {B base bw bm m m' last G : Nat} {o : List Nd} {w W : World} {u : List Bool} (h : Mr B base bw bm o last w G m u W) (k : Nat) (hr : markL o m' (u.set k true) = marksOf o last) :
    Mr B base bw bm o last w G m' (u.set k true) (W.setCell ⟨G, k, none⟩ (.bool true)) :=
  ⟨h.g0, h.bel.setCell (by have := h.g0; show w.heap.size ≤ G; omega) _, h.ub.put k true, by rw [List.length_set, h.len], hr, by simpa using h.lt⟩
theorem Mr.two {B base bw bm m m' last G : Nat} {o : List Nd} {w W : World} {u : List Bool} (h : Mr B base bw bm o last w G m u W) (k l : Nat) (hr : markL o m' ((u.set k true).set l true) = marksOf o last) :
    Mr B base bw bm o last w G m' ((u.set k true).set l true) ((W.setCell ⟨G, k, none⟩ (.bool true)).setCell ⟨G, l, none⟩ (.bool true)) :=
  ⟨h.g0, (h.bel.setCell (by have := h.g0; show w.heap.size ≤ G; omega) _).setCell (by have := h.g0; show w.heap.size ≤ G; omega) _, (h.ub.put k true).put l true, by rw [List.length_set, List.length_set, h.len], hr, by have := h.lt; simpa using this⟩
theorem Mr.next {B base bw bm m m' last G : Nat} {o : List Nd} {w W : World} {u : List Bool} (h : Mr B base bw bm o last w G m u W) (hr : markL o m' u = marksOf o last) : Mr B base bw bm o last w G m' u W := ⟨h.g0, h.bel, h.ub, h.len, hr, h.lt⟩
theorem Mr.set0 {B base bw bm m last G : Nat} {o : List Nd} {w W : World} {u : List Bool} (h : Mr B base bw bm o last w G m u W) (k : Nat) :
    UB (W.setCell ⟨G, k, none⟩ (.bool true)) G (u.set k true) ∧ Below w.heap.size w (W.setCell ⟨G, k, none⟩ (.bool true)) ∧ G < (W.setCell ⟨G, k, none⟩ (.bool true)).heap.size :=
  ⟨h.ub.put k true, h.bel.setCell (by have := h.g0; show w.heap.size ≤ G; omega) _, by simpa using h.lt⟩
theorem wp_appB {ops : Array Oper} {rest : List Oper} {o : Oper} {a : Act} {Q : Exit → Act → World → Prop} {out : List Nd} (n : Nd) (W : World) (hgd : o.guard = none) (s x : Operand)
    (ho : o.op = .call { callee := .builtin .append, args := #[s, x], argTypes := #[22, 22] }) (base b : Nat) (v : Value)
    (hs : a.eval s = v) (hown : W.ownsRow base 62 6 v out.length (nds out)) (hx : a.eval x = .slice (some ⟨b, 0, none⟩) 1 1)
    (hc : ∀ j u, (ndC n)[j]? = some u → W.cell? ⟨b, j, none⟩ = some u) (hl : out.length ≤ 1000000) (hbase : base ≤ W.heap.size)
    (h : ∀ v' w', w'.ownsRow base 62 6 v' (out ++ [n]).length (nds (out ++ [n])) → W.grownBy w' v.ownBlock → wpList Tryd.prog ops Q rest (a.put o.dst v') w') : wpList Tryd.prog ops Q (o :: rest) a W := by
  obtain ⟨i0, hi, hz0, hz1, hz2⟩ := info_parts Tryd.infoNode
  refine wpList_append_own W hgd s x 22 ho base 62 i0 _ 6 48 Tryd.underlying22 hi hz0 hz1 hz2 rfl (by decide) v out.length (nds out) hs hown ⟨b, 0, none⟩ 1 1 (ndC n) hx rfl ?_ ?_ (by unfold maxLen; omega) (by omega) hbase ?_
  · intro j u hj
    have := hc j u hj
    rw [addr_zero]
    exact this
  · intro u hu
    simp only [ndC, List.mem_cons, List.not_mem_nil, or_false] at hu
    rcases hu with rfl | rfl | rfl | rfl | rfl | rfl <;> rfl
  · intro v' w' h1 h2 _
    refine h v' w' ?_ h2
    rw [nds_append, List.length_append]
    have e : nds [n] = ndC n := by simp [nds]
    rw [e]
    exact h1
/-- the state of the second loop: the list so far, the numbers -/
structure Tw (o : List Nd) (last : Nat) (w : World) (G G2 k : Nat) (W : World) (A : Option Addr) (c : Nat) : Prop where
  g0 : w.heap.size = G
  bel : Below w.heap.size w W
  ub : UB W G (marksOf o last)
  rs : RS W G2 (tkL o (marksOf o last) (last + 1) k).2
  row : W.ownsRow (G2 + 1) 62 6 (.slice A (tkL o (marksOf o last) (last + 1) k).1.length c) (tkL o (marksOf o last) (last + 1) k).1.length (nds (tkL o (marksOf o last) (last + 1) k).1)
  gg : G < G2
  lt : G2 < W.heap.size
theorem tkL_few (o : List Nd) (u : List Bool) (m : Nat) : ∀ i, (tkL o u m i).1.length ≤ i
  | 0 => Nat.zero_le _
  | i + 1 => by
    have := tkL_few o u m i
    unfold tkL
    split
    · rw [List.length_append]; simp; exact this
    · omega
theorem tkL_yes {o : List Nd} {u : List Bool} {m i : Nat} (h : u.getD i false = true) : tkL o u m (i + 1) = ((tkL o u m i).1 ++ [wOps (o.getD i nd0) ((tkL o u m i).2.set i (tkL o u m i).1.length)], (tkL o u m i).2.set i (tkL o u m i).1.length) := if_pos h
theorem tkL_no {o : List Nd} {u : List Bool} {m i : Nat} (h : ¬ u.getD i false = true) : tkL o u m (i + 1) = tkL o u m i := if_neg h
theorem Tw.alloc {o : List Nd} {last G G2 k c : Nat} {w W : World} {A : Option Addr} (h : Tw o last w G G2 k W A c) (b : Obj) : Tw o last w G G2 k (W.alloc b) A c :=
  ⟨h.g0, h.bel.alloc h.bel.size b, h.ub.keep (Below.heap_alloc W b _ (by have := h.gg; have := h.lt; omega)), h.rs.keep (Below.heap_alloc W b _ h.lt), h.row.alloc _, h.gg, by have := h.lt; simp; omega⟩
theorem marks_len (o : List Nd) (last : Nat) : (marksOf o last).length = last + 1 := by unfold marksOf; rw [markL_len]; simp
theorem Tw.put {o : List Nd} {last G G2 k c : Nat} {w W : World} {A : Option Addr} (h : Tw o last w G G2 k W A c) (v : Nat) :
    RS (W.setCell ⟨G2, k, none⟩ (.int .i64 (v : Int))) G2 ((tkL o (marksOf o last) (last + 1) k).2.set k v) ∧ Below w.heap.size w (W.setCell ⟨G2, k, none⟩ (.int .i64 (v : Int))) ∧ UB (W.setCell ⟨G2, k, none⟩ (.int .i64 (v : Int))) G (marksOf o last) ∧ G2 < (W.setCell ⟨G2, k, none⟩ (.int .i64 (v : Int))).heap.size ∧
    (W.setCell ⟨G2, k, none⟩ (.int .i64 (v : Int))).ownsRow (G2 + 1) 62 6 (.slice A (tkL o (marksOf o last) (last + 1) k).1.length c) (tkL o (marksOf o last) (last + 1) k).1.length (nds (tkL o (marksOf o last) (last + 1) k).1) :=
  ⟨h.rs.put k v, h.bel.setCell (by have := h.g0; have := h.gg; show w.heap.size ≤ G2; omega) _, h.ub.keep (Below.heap_setCell _ _ _ _ (by have := h.gg; show G ≠ G2; omega)), by simpa using h.lt, ownsRow_setCell_below h.row (by show G2 < G2 + 1; omega) _⟩
set_option maxHeartbeats 4000000 in
theorem take_own {B base bw bm : Nat} {w : World} {o : List Nd} (h : Bu B base bw bm w o) (last : Nat) (hl : last < o.length) (hm : o.length ≤ 999000) :
    Calls Tryd.prog 59 #[.pointer (some ⟨bw, 0, none⟩), .int .i64 (last : Int)] w fun e w' => ∃ A' c', e = .returned (.tuple #[.slice A' (compF (takeL o last)).length c', .int .i64 (fErr (takeL o last))]) ∧ w'.ownsRow w.heap.size 62 6 (.slice A' (compF (takeL o last)).length c') (compF (takeL o last)).length (nds (compF (takeL o last))) ∧ Below w.heap.size w w' := by
  have HU := Lib.hid h
  have HL := Lib.hid hl
  have HM := Lib.hid hm
  have hmb : ∀ W, (Instr.makeSlice 94 (.int .i64 ((last : Int) + 1)) (.int .i64 ((last : Int) + 1))).run Tryd.prog W = .ok (.slice (some ⟨W.heap.size, 0, none⟩) (last + 1) (last + 1)) (W.alloc (.cells (ufalses (last + 1)) 4)) := fun W => makeUB W (last + 1) (by omega)
  have hmi : ∀ W, (Instr.makeSlice 60 (.int .i64 ((last : Int) + 1)) (.int .i64 ((last : Int) + 1))).run Tryd.prog W = .ok (.slice (some ⟨W.heap.size, 0, none⟩) (last + 1) (last + 1)) (W.alloc (.cells (zeros (last + 1)) 3)) := fun W => makeI W (last + 1) (by omega)
  have hs1 : wrap64 ((last : Int) + 1) = ((last + 1 : Nat) : Int) := by unfold wrap64; omega
  have hs2 : IntKind.i64.wrap ((last : Int) + 1) = ((last + 1 : Nat) : Int) := by rw [IntKind.wrap_i64]; omega
  have HM0 : Hid (Mr B base bw bm o last w w.heap.size (last + 1) ((List.replicate (last + 1) false).set last true) ((w.alloc (.cells (ufalses (last + 1)) 4)).setCell ⟨w.heap.size, last, none⟩ (.bool true))) := Lib.hid (by
    have hb := UB.made w (last + 1)
    have e1 : Below w.heap.size w (w.alloc (.cells (ufalses (last + 1)) 4)) := (Below.refl _ w).alloc (Nat.le_refl _) _
    exact ⟨rfl, e1.setCell (Nat.le_refl _) _, hb.put last true, by simp, rfl, by simp⟩)
  have HC0 : Hid ((w.alloc (.cells (ufalses (last + 1)) 4)).cell? ⟨w.heap.size, last, none⟩ = some (.bool false) ∧ (w.alloc (.cells (ufalses (last + 1)) 4)).frozen? ⟨w.heap.size, last, none⟩ = false) := Lib.hid (by
    have hb := UB.made w (last + 1)
    have hc := hb.cell (k := last) (by simp)
    rw [rep_f] at hc
    exact ⟨hc, hb.free _⟩)
  clear h
  have hmb0 := hmb w
  clear hmb
  generalize w.alloc (.cells (ufalses (last + 1)) 4) = w1 at *
  have hc0 := HC0.out.1
  have hf0 := HC0.out.2
  go_enter Tryd.func59, Tryd.ntmps59
  go_wp2
  clear hmb0 hc0 hf0 HC0
  generalize w1.setCell ⟨w.heap.size, last, none⟩ (.bool true) = w2 at *
  generalize hG : w.heap.size = G at *
  have HG := Lib.hid hG
  clear hG
  go_loopw [7, 8] (fun v _ wr => ∃ (m : Nat) (u : List Bool), m ≤ last + 1 ∧ v = .int .i64 ((m : Int) - 1) ∧ Hid (Mr B base bw bm o last w G m u wr)) (fun v _ _ => (intOf v + 1).toNat)
  case atStart => exact ⟨last + 1, _, Nat.le_refl _, by go_num, HM0⟩
  case round =>
    obtain ⟨m, u, hm, rfl, HD⟩ := hrel
    cases m with
    | succ i =>
      have e1 : (((i + 1 : Nat) : Int) - 1) = (i : Int) := by omega
      rw [e1] at *
      have hio : i < o.length := by omega
      have hBu := HU.out.below HD.out.bel
      have hres := HD.out.res
      have hul := HD.out.len
      have hops := HU.out.bd i hio
      have hkn := HU.out.kn i hio
      have henv := hBu.env
      obtain ⟨n, hn⟩ : ∃ n, o.getD i nd0 = n := ⟨_, rfl⟩
      obtain ⟨ad, c2, k0, kb, k1, k2, k3, k4, k5, k6⟩ := hBu.at_ hio hn
      have hres1 : markL o i (mkY o i (mkX o i u)) = marksOf o last := hres
      obtain ⟨mo, hmo, _, h22⟩ := known_nat hkn
      rw [hn] at hops hkn hmo
      have HAR : Hid (∀ b, (wr.alloc b).cell? ⟨1, mo, none⟩ = some (.int .i64 (shO (mo : Int)))) := Lib.hid (fun b => by rw [World.cell?_alloc_lt _ _ _ (by have := henv.lo; have := hBu.size; show 1 < wr.heap.size; omega)]; exact henv.ops mo h22)
      have hx0 : usesX n.op = true → 0 ≤ n.x ∧ n.x.toNat < i := fun k => opsOk_x hops k
      have hy0 : usesY n.op = true → 0 ≤ n.y ∧ n.y.toNat < i := fun k => opsOk_y hops k
      have HX := Lib.hid hx0
      have HY := Lib.hid hy0
      have HRES := Lib.hid hres1
      have HHN := Lib.hid hn
      have HOP := Lib.hid hmo
      have lo := henv.lo
      have hsz := hBu.size
      have hlw := hBu.lwB
      clear hres hops hkn henv hn hmo hx0 hy0 hres1 hBu
      obtain ⟨op, ni, ne, ng, nx, ny⟩ := n
      dsimp only at *
      have hop2 := HOP.out
      subst hop2
      clear HOP
      have HDA := Lib.hid (HD.out.alloc (.cells #[.int .i64 (mo : Int), .int .i64 ni, .int .i64 ne, .int .i64 ng, .int .i64 nx, .int .i64 ny] 62))
      have har := HAR.out (.cells #[.int .i64 (mo : Int), .int .i64 ni, .int .i64 ne, .int .i64 ng, .int .i64 nx, .int .i64 ny] 62)
      have hGn : G ≠ wr.heap.size := by have := HD.out.lt; omega
      have hcu := HDA.out.ub.cell (k := i) (by omega)
      by_cases hu : u.getD i false = true
      · rw [hu] at hcu
        by_cases hy : usesY (mo : Int) = true
        · have hx := usesY_X hy
          rw [arO_2 hy] at har
          have qx := HX.out hx
          have qy := HY.out hy
          obtain ⟨kx, rfl⟩ : ∃ kx : Nat, nx = (kx : Int) := ⟨nx.toNat, by omega⟩
          obtain ⟨ky, rfl⟩ : ∃ ky : Nat, ny = (ky : Int) := ⟨ny.toNat, by omega⟩
          have lx : kx < i := by omega
          have ly : ky < i := by omega
          have hfx := HDA.out.ub.free kx
          have hcx := HDA.out.ub.cell (k := kx) (by omega)
          have HE : Hid (markL o i ((u.set kx true).set ky true) = marksOf o last) := Lib.hid (by
            have e := HRES.out
            rw [mkX_yes hu (by rw [HHN.out]; exact hx), HHN.out] at e
            rw [mkY_yes (setB hu) (by rw [HHN.out]; exact hy), HHN.out] at e
            simpa using e)
          obtain ⟨s1, s2, s3⟩ := HDA.out.set0 kx
          have S1 := Lib.hid s1
          have hb1 := (World.cell?_setCell_other (wr.alloc (.cells #[.int .i64 (mo : Int), .int .i64 ni, .int .i64 ne, .int .i64 ng, .int .i64 (kx : Int), .int .i64 (ky : Int)] 62)) ⟨G, kx, none⟩ ⟨1, mo, none⟩ (.bool true) (fun e2 => by have h9 := congrArg Addr.block e2; have := HU.out.size; have := HG.out; dsimp only at h9; omega)).trans har
          have hb2 := S1.out.cell (k := i) (by rw [List.length_set]; omega)
          rw [setB hu] at hb2
          have hb3 := S1.out.cell (k := ky) (by rw [List.length_set]; omega)
          have hb4 := S1.out.free ky
          clear qx qy s1 s2 s3 hu hx hy
          generalize u.getD kx false = bx at *
          generalize (u.set kx true).getD ky false = by0 at *
          go_wp2
          go_roundw
          case rel => exact ⟨i, _, by omega, by go_num, Lib.hid (HDA.out.two kx ky HE.out)⟩
          case measure => first | (simp [intOf]; done) | (simp [intOf]; omega)
        · have HEY : Hid (∀ v, mkY o i v = v) := Lib.hid (fun v => mkY_no (fun k => hy (by rw [← show (o.getD i nd0).op = (mo : Int) from by rw [HHN.out]]; exact k.2)))
          by_cases hx : usesX (mo : Int) = true
          · rw [arO_1 hx hy] at har
            have qx := HX.out hx
            obtain ⟨kx, rfl⟩ : ∃ kx : Nat, nx = (kx : Int) := ⟨nx.toNat, by omega⟩
            have lx : kx < i := by omega
            have hfx := HDA.out.ub.free kx
            have hcx := HDA.out.ub.cell (k := kx) (by omega)
            have HE : Hid (markL o i (u.set kx true) = marksOf o last) := Lib.hid (by
              have e := HRES.out
              rw [mkX_yes hu (by rw [HHN.out]; exact hx), HHN.out, HEY.out] at e
              simpa using e)
            obtain ⟨s1, s2, s3⟩ := HDA.out.set0 kx
            have S1 := Lib.hid s1
            have hb1 := (World.cell?_setCell_other (wr.alloc (.cells #[.int .i64 (mo : Int), .int .i64 ni, .int .i64 ne, .int .i64 ng, .int .i64 (kx : Int), .int .i64 ny] 62)) ⟨G, kx, none⟩ ⟨1, mo, none⟩ (.bool true) (fun e2 => by have h9 := congrArg Addr.block e2; have := HU.out.size; have := HG.out; dsimp only at h9; omega)).trans har
            have hb2 := S1.out.cell (k := i) (by rw [List.length_set]; omega)
            rw [setB hu] at hb2
            clear qx s1 s2 s3 hu hx hy
            generalize u.getD kx false = bx at *
            go_wp2
            go_roundw
            case rel => exact ⟨i, _, by omega, by go_num, Lib.hid (HDA.out.set kx HE.out)⟩
            case measure => first | (simp [intOf]; done) | (simp [intOf]; omega)
          · rw [arO_0 hx] at har
            have HE : Hid (markL o i u = marksOf o last) := Lib.hid (by
              have e := HRES.out
              rw [mkX_no (fun k => hx (by rw [← show (o.getD i nd0).op = (mo : Int) from by rw [HHN.out]]; exact k.2)), HEY.out] at e
              exact e)
            clear hu hx hy
            go_wp2
            go_roundw
            case rel => exact ⟨i, _, by omega, by go_num, Lib.hid (HDA.out.next HE.out)⟩
            case measure => first | (simp [intOf]; done) | (simp [intOf]; omega)
      · have HE : Hid (markL o i u = marksOf o last) := Lib.hid (by
          have e := HRES.out
          rw [mkX_no (fun k => hu k.1), mkY_no (fun k => hu k.1)] at e
          exact e)
        have hu2 : u.getD i false = false := by simpa using hu
        rw [hu2] at hcu
        clear hu hu2
        go_wp2
        go_roundw
        case rel => exact ⟨i, _, by omega, by go_num, Lib.hid (HDA.out.next HE.out)⟩
        case measure => first | (simp [intOf]; done) | (simp [intOf]; omega)
    | zero =>
      have e0 : (((0 : Nat) : Int) - 1) = -1 := by omega
      rw [e0] at *
      have hu : u = marksOf o last := HD.out.res
      subst hu
      have HT0 : Hid (Tw o last w G wr.heap.size 0 (wr.alloc (.cells (zeros (last + 1)) 3)) none 0) := Lib.hid (by
        refine ⟨HD.out.g0, HD.out.bel.alloc HD.out.bel.size _, HD.out.ub.keep (Below.heap_alloc wr _ _ HD.out.lt), ?_, World.ownsRow_nil _ _ _ _, HD.out.lt, by simp⟩
        have := heap_alloc_new wr (.cells (zeros (last + 1)) 3)
        unfold RS
        rw [this, zeros_iv]; rfl)
      have hmi0 := hmi wr
      clear hmi
      generalize wr.alloc (.cells (zeros (last + 1)) 3) = w5 at *
      generalize wr.heap.size = G2 at *
      have hBu := HU.out.below HT0.out.bel
      obtain ⟨Ax, cx, hx1, hx2⟩ := hBu.st.out
      have hcap := own_capB hx2
      have HRD : Hid (Reads w w.heap.size 6 Ax o.length (nds o)) := Lib.hid (by
        obtain ⟨Ay, cy, hy1, hy2⟩ := HU.out.st.out
        have e := (HT0.out.bel.cell (p := ⟨bw, 0, none⟩) HU.out.lwB).trans hy1
        rw [hx1] at e
        injection e with e
        injection e with e1 e2 e3
        subst e1
        exact Reads.of_own hy2)
      have hl2 := hl
      obtain ⟨ad, hAx, hadb, hadc⟩ := HRD.out.2 (by omega)
      subst hAx
      clear hadc hx2 hBu HD HM0
      go_wp2
      clear hx1 hmi0
      go_loopw [9, 11, 12, 72] (fun v _ _ i wq => ∃ (k : Nat) (A : Option Addr) (c : Nat), k ≤ last + 1 ∧ i = .int .i64 k ∧ v = .slice A (tkL o (marksOf o last) (last + 1) k).1.length c ∧ Hid (Tw o last w G G2 k wq A c)) (fun _ _ _ i _ => last + 1 - (intOf i).toNat)
      case atStart => exact ⟨0, none, 0, Nat.zero_le _, rfl, rfl, HT0⟩
      case round =>
        obtain ⟨k, A, c, hk, rfl, rfl, HT⟩ := hrel
        rename_i wq
        by_cases hlt : k < last + 1
        · obtain ⟨ad2, had2, hb, m0, m1, m2, m3, m4, m5⟩ := (HRD.out.below HT.out.bel).nd_at (k := k) (by omega)
          injection had2 with had2
          subst had2
          have l1 := add_cell m1
          have l2 := add_cell m2
          have l3 := add_cell m3
          have l4 := add_cell m4
          have l5 := add_cell m5
          have hkn := HU.out.kn k (by omega)
          have hops := HU.out.bd k (by omega)
          obtain ⟨x, hx⟩ : ∃ x, o.getD k nd0 = x := ⟨_, rfl⟩
          rw [hx] at m0 m1 m2 m3 m4 m5 l1 l2 l3 l4 l5 hkn hops
          have HTA := Lib.hid (HT.out.alloc (.cells #[.int .i64 x.op, .int .i64 x.i, .int .i64 x.e, .int .i64 x.g, .int .i64 x.x, .int .i64 x.y] 62))
          have hcu := HTA.out.ub.cell (k := k) (by rw [marks_len]; omega)
          have hGw := HT.out.gg
          have hlw := HT.out.lt
          have hnl := tkL_len o (marksOf o last) (last + 1) k
          have hfl := tkL_few o (marksOf o last) (last + 1) k
          by_cases hu : (marksOf o last).getD k false = true
          · rw [hu] at hcu
            have hE := tkL_yes (o := o) (m := last + 1) hu
            rw [hx] at hE
            have hc2 := HTA.out.rs.cell (k := k) (by omega)
            have hf2 := HTA.out.rs.free k
            have HTS := Lib.hid (HT.out.put (tkL o (marksOf o last) (last + 1) k).1.length)
            have HW : Hid (∀ W', RS W' G2 ((tkL o (marksOf o last) (last + 1) k).2.set k (tkL o (marksOf o last) (last + 1) k).1.length) → Below w.heap.size w W' → Calls Tryd.prog 119 #[.agg #[.int .i64 x.op, .int .i64 x.i, .int .i64 x.e, .int .i64 x.g, .int .i64 x.x, .int .i64 x.y], .slice (some ⟨G2, 0, none⟩) (last + 1) (last + 1)] W' fun r w' => r = .returned (nv (wOps x ((tkL o (marksOf o last) (last + 1) k).2.set k (tkL o (marksOf o last) (last + 1) k).1.length))) ∧ Below W'.heap.size W' w') := Lib.hid (fun W' hrs hb2 => by
              have hu2 := HU.out.below hb2
              have hrd := hrs.reads
              rw [List.length_set, hnl] at hrd
              exact wops_any x _ (some ⟨G2, 0, none⟩) (last + 1) (last + 1) B W' hu2.env hu2.size hkn hrd (fun u => by have := opsOk_x hops u; have := hops.1; rw [if_pos u] at this; omega) (fun u => by have := opsOk_y hops u; have := hops.2; rw [if_pos u] at this; omega))
            have HEQ := Lib.hid hE
            clear hE hx hkn hops m1 m2 m3 m4 m5
            generalize (marksOf o last).getD k false = mk0 at *
            obtain ⟨z, hz⟩ : ∃ z, wOps x ((tkL o (marksOf o last) (last + 1) k).2.set k (tkL o (marksOf o last) (last + 1) k).1.length) = z := ⟨_, rfl⟩
            rw [hz] at HW HEQ
            clear hz
            generalize (tkL o (marksOf o last) (last + 1) k).2.getD k 0 = d0 at *
            go_wp2_with fail
            have HAL : Hid (∀ b, Below w.heap.size w ((wr.setCell ⟨G2, k, none⟩ (.int .i64 (((tkL o (marksOf o last) (last + 1) k).1.length : Nat) : Int))).alloc b) ∧ RS ((wr.setCell ⟨G2, k, none⟩ (.int .i64 (((tkL o (marksOf o last) (last + 1) k).1.length : Nat) : Int))).alloc b) G2 ((tkL o (marksOf o last) (last + 1) k).2.set k (tkL o (marksOf o last) (last + 1) k).1.length) ∧
                UB ((wr.setCell ⟨G2, k, none⟩ (.int .i64 (((tkL o (marksOf o last) (last + 1) k).1.length : Nat) : Int))).alloc b) G (marksOf o last) ∧ G2 < ((wr.setCell ⟨G2, k, none⟩ (.int .i64 (((tkL o (marksOf o last) (last + 1) k).1.length : Nat) : Int))).alloc b).heap.size ∧
                ((wr.setCell ⟨G2, k, none⟩ (.int .i64 (((tkL o (marksOf o last) (last + 1) k).1.length : Nat) : Int))).alloc b).ownsRow (G2 + 1) 62 6 (.slice A (tkL o (marksOf o last) (last + 1) k).1.length c) (tkL o (marksOf o last) (last + 1) k).1.length (nds (tkL o (marksOf o last) (last + 1) k).1)) := Lib.hid (fun b => by
              obtain ⟨q1, q2, q3, q4, q5⟩ := HTS.out
              exact ⟨q2.alloc q2.size _, q1.keep (Below.heap_alloc _ b _ q4), q3.keep (Below.heap_alloc _ b _ (by omega)), by have := q4; simp at this ⊢; omega, q5.alloc _⟩)
            refine (HW.out _ (HAL.out _).2.1 (HAL.out _).1).mono ?_
            rintro e w6 ⟨rfl, hb6⟩
            unfold nv
            obtain ⟨q1, q2, q3, q4, q5⟩ := HAL.out (.cells #[.int .i64 x.op, .int .i64 x.i, .int .i64 x.e, .int .i64 x.g, .int .i64 x.x, .int .i64 x.y] 62)
            generalize (wr.setCell ⟨G2, k, none⟩ (.int .i64 (((tkL o (marksOf o last) (last + 1) k).1.length : Nat) : Int))).alloc (.cells #[.int .i64 x.op, .int .i64 x.i, .int .i64 x.e, .int .i64 x.g, .int .i64 x.x, .int .i64 x.y] 62) = wb at *
            have r1 := q1.trans (hb6.mono q1.size)
            have r2 := q2.keep (hb6.block _ q4)
            have r3 := q3.keep (hb6.block _ (by omega))
            have r4 : G2 < w6.heap.size := Nat.lt_of_lt_of_le q4 hb6.size
            have HOW := Lib.hid (own_keep1 q5 (fun g hg => hb6.block g (q5.lt g hg).2))
            have HR6 := Lib.hid (And.intro r1 (And.intro r2 r3))
            have hg0 := HT.out.g0
            clear q1 q2 q3 q4 q5 hb6 r1 r2 r3 HAL HTS HTA HW m0 l1 l2 l3 l4 l5 hcu hc2 hf2
            generalize (tkL o (marksOf o last) (last + 1) k).2.set k (tkL o (marksOf o last) (last + 1) k).1.length = nu at *
            generalize (tkL o (marksOf o last) (last + 1) k).1 = L at *
            go_wp2_with (at_builtin; refine wp_appB z _ rfl _ _ rfl (G2 + 1) _ _ rfl (HOW.out.alloc _) rfl ?k1 ?k2 ?k3 ?_)
            case k1 =>
              intro j u hj
              have hh := heap_alloc_new w6 (.cells #[.int .i64 z.op, .int .i64 z.i, .int .i64 z.e, .int .i64 z.g, .int .i64 z.x, .int .i64 z.y] 62)
              have := Lib.cell_of_heap hh j
              rw [this, ← hj]
              simp [ndC]
            case k2 => omega
            case k3 => simp; omega
            · intro v' w7 hown7 hgrow
              obtain ⟨g7, c7, hv7, _, _⟩ := hown7.form (by simp)
              subst hv7
              have HT7 : Hid (Tw o last w G G2 (k + 1) w7 (some ⟨g7, 0, none⟩) c7) := Lib.hid (by
                have e1 : (tkL o (marksOf o last) (last + 1) (k + 1)) = (L ++ [z], nu) := HEQ.out
                obtain ⟨p1, p2, p3⟩ := HR6.out
                have hlt1 : ∀ g, (Value.slice A L.length c).ownBlock = some g → G2 + 1 ≤ g := fun g hg => (HOW.out.lt g hg).1
                refine ⟨hg0, ?_, ?_, ?_, ?_, hGw, ?_⟩
                · exact (p1.alloc p1.size _).grown hgrow (by have := p1.size; simp; omega) (fun g hg => by have := hlt1 g hg; omega)
                · exact p3.keep ((hgrow.block G (by simp; omega) (fun e => by have := hlt1 G e.symm; omega)).trans (Below.heap_alloc w6 _ _ (by omega)))
                · rw [e1]
                  exact p2.keep ((hgrow.block G2 (by simp; omega) (fun e => by have := hlt1 G2 e.symm; omega)).trans (Below.heap_alloc w6 _ _ (by omega)))
                · rw [e1]
                  have e2 : (L ++ [z]).length = L.length + 1 := by simp
                  show w7.ownsRow (G2 + 1) 62 6 (.slice (some ⟨g7, 0, none⟩) (L ++ [z]).length c7) (L ++ [z]).length (nds (L ++ [z]))
                  rw [e2]
                  first | exact hown7 | (rw [e2] at hown7; exact hown7)
                · have := hgrow.size
                  simp at this
                  omega)
              clear hown7 hgrow
              go_wp2
              go_roundw
              case rel => exact ⟨k + 1, _, _, by omega, by go_num, by rw [show tkL o (marksOf o last) (last + 1) (k + 1) = (L ++ [z], nu) from HEQ.out]; simp, HT7⟩
              case measure => first | (simp [intOf]; done) | (simp [intOf]; omega)
          · have hu2 : (marksOf o last).getD k false = false := by simpa using hu
            rw [hu2] at hcu
            have hE := tkL_no (o := o) (m := last + 1) hu
            have HEQ := Lib.hid hE
            clear hE hu hu2
            go_wp2
            go_roundw
            case rel =>
              refine ⟨k + 1, A, c, by omega, by go_num, by rw [HEQ.out], Lib.hid ?_⟩
              have h9 := HTA.out
              exact ⟨h9.g0, h9.bel, h9.ub, by rw [HEQ.out]; exact h9.rs, by rw [HEQ.out]; exact h9.row, h9.gg, h9.lt⟩
            case measure => first | (simp [intOf]; done) | (simp [intOf]; omega)
        · have hkl : k = last + 1 := by omega
          subst hkl
          have HQ : Hid ((tkL o (marksOf o last) (last + 1) (last + 1)).1 = takeL o last) := Lib.hid rfl
          have hrow := HT.out.row
          have hfl := tkL_few o (marksOf o last) (last + 1) (last + 1)
          rw [HQ.out] at hrow hfl ⊢
          obtain ⟨q, hq⟩ : ∃ q, takeL o last = q := ⟨_, rfl⟩
          rw [hq] at hrow hfl ⊢
          have HQ2 := Lib.hid hq
          clear hq
          have HRW := Lib.hid (Reads.of_own hrow)
          have HBE := Lib.hid HT.out.bel
          clear hrow HT HQ
          go_wp2_with fail
          refine (pCompact_own q A q.length c _ HRW.out (by unfold maxLen; omega)).mono ?_
          rintro e w6 ⟨A', c', rfl, hr6, hb6⟩
          have HR6 := Lib.hid (And.intro hr6 hb6)
          clear hr6 hb6
          go_wp2_with fail
          refine (pCheck_any q A q.length c _ ((HRW.out.below HR6.out.2).more HR6.out.2.size) (by unfold maxLen; omega)).mono ?_
          rintro e w7 ⟨rfl, hb7⟩
          have HB7 := Lib.hid hb7
          clear hb7
          go_wp2
          go_ret2
          rw [HQ2.out]
          exact ⟨A', c', rfl, own_keep1 (own_base HR6.out.1 HBE.out.size) (fun g hg => HB7.out.block g (HR6.out.1.lt g hg).2), (HBE.out.trans (HR6.out.2.mono HBE.out.size)).trans (HB7.out.mono (by have := HBE.out.size; have := HR6.out.2.size; omega))⟩
theorem take_any {B base bw bm : Nat} {w : World} {o : List Nd} (h : Bu B base bw bm w o) (last : Nat) (hl : last < o.length) (hm : o.length ≤ 999000) :
    Calls Tryd.prog 59 #[.pointer (some ⟨bw, 0, none⟩), .int .i64 (last : Int)] w fun e w' => ∃ A' c', e = .returned (.tuple #[.slice A' (compF (takeL o last)).length c', .int .i64 (fErr (takeL o last))]) ∧ Reads w' w'.heap.size 6 A' (compF (takeL o last)).length (nds (compF (takeL o last))) ∧ Below w.heap.size w w' :=
  (take_own h last hl hm).mono (by
    rintro e w' ⟨A', c', h1, h2, h3⟩
    exact ⟨A', c', h1, Reads.of_own h2, h3⟩)
end Go.Proofs.YtkkkomkljpolbaaDoor
/- Layer 8: Simplify, Core, Negate of the program. -/
namespace Go.Proofs.YtkkkomkljpolbaaDoor
open Go.RowKit Go.Proofs.Ws Go.Maps
set_option maxRecDepth 100000
theorem BW.begin {w : World} (t : TypeId) : BW ((w.alloc (.map #[] 0)).alloc (.cells #[.slice none 0 0, .map (some w.heap.size)] t)) (w.heap.size + 2) (w.heap.size + 1) w.heap.size [] := by
  have hmap := World.ownsMap_made w Tryd.prog 62 (plainElem (H := Unit) Tryd.prog 3)
  have s2 : (w.alloc (.map #[] 0)).heap.size = w.heap.size + 1 := by simp
  generalize w.alloc (.map #[] 0) = wb at *
  have hbx := heap_alloc_new wb (.cells #[.slice none 0 0, .map (some w.heap.size)] t)
  rw [s2] at hbx
  have hm := ownsMap_keep hmap (Below.heap_alloc wb (.cells #[.slice none 0 0, .map (some w.heap.size)] t) _ (by omega))
  have s3 : (wb.alloc (.cells #[.slice none 0 0, .map (some w.heap.size)] t)).heap.size = w.heap.size + 2 := by simp; omega
  generalize wb.alloc (.cells #[.slice none 0 0, .map (some w.heap.size)] t) = wc at *
  have hc := Lib.cell_of_heap hbx
  exact ⟨by omega, by omega, by omega, by omega, ⟨none, 0, hc 0, World.ownsRow_nil _ _ _ _⟩, Lib.frozen_of_heap hbx 0, hc 1, ⟨_, hm, MapOf.start⟩⟩
set_option maxHeartbeats 4000000 in
theorem newB_any (w : World) (hE : EnvR w w.heap.size) : Calls Tryd.prog 58 #[] w fun e w' => e = .returned (.pointer (some ⟨w.heap.size + 1, 0, none⟩)) ∧ Bu w.heap.size (w.heap.size + 2) (w.heap.size + 1) w.heap.size w' [] ∧ Below w.heap.size w w' := by
  have hmm := @run_makeMap Tryd.prog
  have HB := BW.begin (w := w) 112
  have HBL : Hid (Below w.heap.size w ((w.alloc (.map #[] 0)).alloc (.cells #[.slice none 0 0, .map (some w.heap.size)] 112))) := Lib.hid (((Below.refl _ w).alloc (Nat.le_refl _) _).alloc (by simp) _)
  replace HB := Lib.hid HB
  have HE := Lib.hid hE
  clear hE
  go_enter Tryd.func58, Tryd.ntmps58
  go_wp2_with fail
  go_ret
  exact ⟨by simp, ⟨HB.out, HE.out.below HBL.out, Nat.le_succ _, Nat.le_refl _, fun i hi => absurd hi (by simp), fun i hi => absurd hi (by simp)⟩, HBL.out⟩
/-- what a step on trees makes of a formula -/
def mapF (T : Tr → Tr) (f : List Nd) : List Nd := if fErr f = 0 then resL (T (tOf f)) else []
def mapE (T : Tr → Tr) (f : List Nd) : Int := if fErr f = 0 then resE (T (tOf f)) else fErr f
theorem take_gr {m : Nat} {p : Nat × List Nd} {o : List Nd} {t : Tr} (g : Gr m o p t) (ha : AllOk t) : compF (takeL p.2 p.1) = resL t ∧ fErr (takeL p.2 p.1) = resE t ∧ p.1 < p.2.length := by
  have hl := rep_lt g.rep
  have e := rep_tree g.bd.ops t p.1 g.ok g.rep
  have h2 := ha.2
  rw [← e] at h2
  refine ⟨?_, ?_, hl⟩
  · rw [take_comp g.bd hl h2, e]
  · rw [take_err g.bd hl h2, e]
theorem newB_ex (w : World) (hE : EnvR w w.heap.size) : Calls Tryd.prog 58 #[] w fun e w' => ∃ B base bw bm, e = .returned (.pointer (some ⟨bw, 0, none⟩)) ∧ Bu B base bw bm w' [] ∧ Below w.heap.size w w' ∧ w.heap.size ≤ B :=
  (newB_any w hE).mono (fun _ _ ⟨h1, h2, h3⟩ => ⟨_, _, _, _, h1, h2, h3, Nat.le_refl _⟩)
theorem Bu.ok {B base bw bm : Nat} {w : World} (hB : B ≤ w.heap.size) : StOk (fun W o => Bu B base bw bm W o) w B base bw bm :=
  ⟨fun _ _ h => h, fun _ _ _ h hb => h.below hb, fun W o G k v h hG ha => ⟨h.st.other ha v, h.env.below ((Below.refl _ W).setCell (by show B ≤ G; omega) v), h.b1, h.b2, h.kn, h.bd⟩⟩
theorem Si.ok {B base bw bm br : Nat} {w : World} (hB : B ≤ w.heap.size) (hb : br < w.heap.size) : StOk (fun W o => Si B base bw bm br W o) w B base bw bm :=
  ⟨fun _ _ h => h.bu, fun _ _ _ h hb => h.below hb, fun W o G k v h hG ha => ⟨(Bu.ok hB).set W o G k v h.bu hG ha, h.as_.set ha.n1 v, (World.cell?_setCell_other _ _ _ _ (fun e2 => by have h9 := congrArg Addr.block e2; dsimp only at h9; omega)).trans h.ptr⟩⟩
theorem RdA.own {w W : World} {B base bw bm n c : Nat} {A : Option Addr} {q o : List Nd} (h : Bu B base bw bm w o) (hb : Below w.heap.size w W) (hr : W.ownsRow w.heap.size 62 6 (.slice A n c) n (nds q)) : RdA W bw bm A n q :=
  RdA.of_new h hb (Reads.of_own hr) (fun ad e h0 => (hr.lt ad.block (by rw [e]; rfl)).1)
/-- few operators of a formula, node by node -/
theorem core_gr {f : List Nd} (h : fErr f = 0) : Gr (7 * (compF f).length) [] (rwP coreP (compF f) []) (mapT coreT (tOf f)) := by
  have ok := OkL_of (compF_ok h)
  have := rwP_ok (core_rule (fun _ => True)) ok.ops ok.ne Bd.nil (fun _ _ => trivial)
  rw [← tOf_comp h]
  exact this
theorem sim_gr {f : List Nd} (h : fErr f = 0) : Gr (1 * (compF f).length) [] (rwP simP (compF f) []) (mapT simT (tOf f)) := by
  have ok := OkL_of (compF_ok h)
  have := rwP_ok (sim_rule (fun _ => True)) ok.ops ok.ne Bd.nil (fun _ _ => trivial)
  rw [← tOf_comp h]
  exact this
theorem neg_gr {f : List Nd} (h : fErr f = 0) : Gr (1 * f.length + 1) [] (negP (rwP putNd f []).2 (rwP putNd f []).1) (negT (tOf f)) := by
  have ok := OkL_of h
  have g := rwP_ok (add_rule (fun _ => True)) ok.ops ok.ne Bd.nil (fun _ _ => trivial)
  change Gr _ _ _ (mapT mkT (tOf f)) at g
  rw [mapT_id _ (tOf_all h).1] at g
  exact g.then (Gr.neg g.bd g.rep g.ok)
set_option maxHeartbeats 4000000 in
theorem pCore_any (f : List Nd) (A : Option Addr) (n c : Nat) (w : World) (hE : EnvR w w.heap.size) (hR : Reads w w.heap.size 6 A n (nds f)) (hm : n ≤ maxLen) :
    Calls Tryd.prog 28 #[.slice A n c] w fun e w' => ∃ A' c', e = .returned (.tuple #[.slice A' (mapF (mapT coreT) f).length c', .int .i64 (mapE (mapT coreT) f)]) ∧ Reads w' w'.heap.size 6 A' (mapF (mapT coreT) f).length (nds (mapF (mapT coreT) f)) ∧ Below w.heap.size w w' := by
  have HV := Lib.hid (pCheck_any f A n c w hR hm)
  have HR := Lib.hid hR
  have HE := Lib.hid hE
  by_cases hz : fErr f = 0
  · have g := core_gr hz
    have ok := OkL_of (compF_ok hz)
    have hkn := fErr_known (compF_ok hz)
    have h200 := (fErr_ok (compF_ok hz)).2.1
    have hall := mapT_all core_keep _ (tOf_all hz)
    obtain ⟨t1, t2, t3⟩ := take_gr g hall
    have e1 : mapF (mapT coreT) f = resL (mapT coreT (tOf f)) := if_pos hz
    have e2 : mapE (mapT coreT) f = resE (mapT coreT (tOf f)) := if_pos hz
    have HC := Lib.hid (fun W (h : Reads W W.heap.size 6 A n (nds f)) => pCompact_own f A n c W h hm)
    have glen := g.len
    rw [e1, e2, ← t1, ← t2]
    have HOK := Lib.hid ok
    have HKN := Lib.hid hkn
    have HLN : Hid ((compF f).length ≤ 200) := Lib.hid h200
    have HT : Hid ((rwP coreP (compF f) []).1 < (rwP coreP (compF f) []).2.length ∧ (rwP coreP (compF f) []).2.length ≤ 999000) := Lib.hid ⟨t3, by simp at glen; omega⟩
    rw [hz] at HV
    clear hR hE hm g ok hkn h200 hall t1 t2 t3 e1 e2 glen
    generalize compF f = q at *
    go_enter Tryd.func28, Tryd.ntmps28
    go_wp2_with fail
    refine (HV.out).mono ?_
    rintro e w1 ⟨rfl, hb⟩
    have HB1 := Lib.hid hb
    clear hb
    go_wp2_with fail
    refine (newB_ex w1 ((HE.out.below HB1.out).up HB1.out.size)).mono ?_
    rintro e w2 ⟨B, base, bw, bm, rfl, hu, hb2, hlo⟩
    have HU2 := Lib.hid hu
    have HB2 := Lib.hid (HB1.out.trans (hb2.mono HB1.out.size))
    have HLO : Hid (w.heap.size ≤ B) := Lib.hid (Nat.le_trans HB1.out.size hlo)
    clear hu hb2 hlo
    go_wp2_with fail
    refine (HC.out w2 ((HR.out.below HB2.out).more HB2.out.size)).mono ?_
    rintro e w3 ⟨A3, c3, rfl, hown, hb3⟩
    have HU3 := Lib.hid (HU2.out.below hb3)
    have HA3 := Lib.hid (RdA.own HU2.out hb3 hown)
    have HB3 := Lib.hid (HB2.out.trans (hb3.mono HB2.out.size))
    clear hown hb3
    go_wp2_with fail
    refine (rewrite_core (core_rule (fun _ => True)) B base bw bm w3 (Bu.ok HU3.out.size) (fun W o n h hs _ hn _ hl => (core_any h n hn hl).mono (fun _ _ ⟨h1, h2, h3⟩ => ⟨h1, h2.out, h3.out⟩)) q [] HOK.out.ops HKN.out HOK.out.rng HOK.out.ne Bd.nil (fun _ _ => trivial) (by have := HLN.out; simp; omega) (by have := HLN.out; omega) A3 c3 HU3.out HA3.out).mono ?_
    rintro e w4 ⟨rfl, h4, hf4⟩
    have HU4 := Lib.hid h4
    have HB4 := Lib.hid (HB3.out.trans ((HU3.out.low hf4).mono HLO.out))
    clear h4 hf4
    go_wp2_with fail
    refine (take_any HU4.out _ HT.out.1 HT.out.2).mono ?_
    rintro e w5 ⟨A5, c5, rfl, hr5, hb5⟩
    have HR5 := Lib.hid hr5
    have HB5 := Lib.hid (HB4.out.trans (hb5.mono HB4.out.size))
    clear hr5 hb5
    go_wp2
    go_ret2
    exact ⟨A5, c5, rfl, HR5.out, HB5.out⟩
  · have e1 : mapF (mapT coreT) f = [] := if_neg hz
    have e2 : mapE (mapT coreT) f = fErr f := if_neg hz
    rw [e1, e2]
    clear hR hE hm e1 e2
    generalize fErr f = ef at *
    go_enter Tryd.func28, Tryd.ntmps28
    go_wp2_with fail
    refine (HV.out).mono ?_
    rintro e w1 ⟨rfl, hb⟩
    have HB1 := Lib.hid hb
    clear hb
    go_wp2
    go_ret2
    exact ⟨none, 0, rfl, Reads.none_, HB1.out⟩
set_option maxHeartbeats 4000000 in
theorem pNegate_own (f : List Nd) (A : Option Addr) (n c : Nat) (w : World) (hE : EnvR w w.heap.size) (hR : Reads w w.heap.size 6 A n (nds f)) (hm : n ≤ maxLen) :
    Calls Tryd.prog 29 #[.slice A n c] w fun e w' => ∃ A' c', e = .returned (.tuple #[.slice A' (mapF negT f).length c', .int .i64 (mapE negT f)]) ∧ w'.ownsRow w.heap.size 62 6 (.slice A' (mapF negT f).length c') (mapF negT f).length (nds (mapF negT f)) ∧ Below w.heap.size w w' := by
  have HV := Lib.hid (pCheck_any f A n c w hR hm)
  have HR := Lib.hid hR
  have HE := Lib.hid hE
  by_cases hz : fErr f = 0
  · have g := neg_gr hz
    have ok := OkL_of hz
    have hkn := fErr_known hz
    have h200 := (fErr_ok hz).2.1
    have hall := all_neg (tOf_all hz)
    obtain ⟨t1, t2, t3⟩ := take_gr g hall
    have e1 : mapF negT f = resL (negT (tOf f)) := if_pos hz
    have e2 : mapE negT f = resE (negT (tOf f)) := if_pos hz
    have glen := g.len
    have g0 := rwP_ok (add_rule (fun _ => True)) ok.ops ok.ne Bd.nil (fun _ _ => trivial)
    have g1 := rep_lt g0.rep
    have g2 := g0.len
    rw [e1, e2, ← t1, ← t2]
    have HOK := Lib.hid ok
    have HKN := Lib.hid hkn
    have HLN : Hid (f.length ≤ 200) := Lib.hid h200
    have hl := hR.nd_len
    subst hl
    have HT : Hid ((rwP putNd f []).1 < (rwP putNd f []).2.length ∧ (rwP putNd f []).2.length ≤ 999000) := Lib.hid ⟨g1, by simp at g2; omega⟩
    have HT2 : Hid ((negP (rwP putNd f []).2 (rwP putNd f []).1).1 < (negP (rwP putNd f []).2 (rwP putNd f []).1).2.length ∧ (negP (rwP putNd f []).2 (rwP putNd f []).1).2.length ≤ 999000) := Lib.hid ⟨t3, by simp at glen; omega⟩
    rw [hz] at HV
    clear hR hE hm g ok hkn h200 hall t1 t2 t3 e1 e2 glen g0 g1 g2
    go_enter Tryd.func29, Tryd.ntmps29
    go_wp2_with fail
    refine (HV.out).mono ?_
    rintro e w1 ⟨rfl, hb⟩
    have HB1 := Lib.hid hb
    clear hb
    go_wp2_with fail
    refine (newB_ex w1 ((HE.out.below HB1.out).up HB1.out.size)).mono ?_
    rintro e w2 ⟨B, base, bw, bm, rfl, hu, hb2, hlo⟩
    have HU2 := Lib.hid hu
    have HB2 := Lib.hid (HB1.out.trans (hb2.mono HB1.out.size))
    have HLO : Hid (w.heap.size ≤ B) := Lib.hid (Nat.le_trans HB1.out.size hlo)
    clear hu hb2 hlo
    have HA2 := Lib.hid (RdA.of_below HU2.out ((HR.out.below HB2.out).more HLO.out))
    go_wp2_with fail
    refine (rewrite_add (add_rule (fun _ => True)) B base bw bm w2 (Bu.ok HU2.out.size) (fun W o n h hs _ hn _ hl => (add_any h hn (by omega)).mono (fun _ _ ⟨h1, h2, h3⟩ => ⟨h1, h2, h3⟩)) f [] HOK.out.ops HKN.out HOK.out.rng HOK.out.ne Bd.nil (fun _ _ => trivial) (by have := HLN.out; simp; omega) (by have := HLN.out; omega) A c HU2.out HA2.out).mono ?_
    rintro e w3 ⟨rfl, h4, hf4⟩
    have HU3 := Lib.hid h4
    have HB3 := Lib.hid (HB2.out.trans ((HU2.out.low hf4).mono HLO.out))
    clear h4 hf4
    go_wp2_with fail
    refine (bNeg_any HU3.out HT.out.1 (by have := HT.out; omega)).mono ?_
    rintro e w4 ⟨rfl, h4, hf4⟩
    have HU4 := Lib.hid h4
    have HB4 := Lib.hid (HB3.out.trans ((HU3.out.low hf4).mono HLO.out))
    clear h4 hf4
    go_wp2_with fail
    refine (take_own HU4.out _ HT2.out.1 HT2.out.2).mono ?_
    rintro e w5 ⟨A5, c5, rfl, hr5, hb5⟩
    have HR5 := Lib.hid (own_base hr5 HB4.out.size)
    have HB5 := Lib.hid (HB4.out.trans (hb5.mono HB4.out.size))
    clear hr5 hb5
    go_wp2
    go_ret2
    exact ⟨A5, c5, rfl, HR5.out, HB5.out⟩
  · have e1 : mapF negT f = [] := if_neg hz
    have e2 : mapE negT f = fErr f := if_neg hz
    rw [e1, e2]
    clear hR hE hm e1 e2
    generalize fErr f = ef at *
    go_enter Tryd.func29, Tryd.ntmps29
    go_wp2_with fail
    refine (HV.out).mono ?_
    rintro e w1 ⟨rfl, hb⟩
    have HB1 := Lib.hid hb
    clear hb
    go_wp2
    go_ret2
    exact ⟨none, 0, rfl, World.ownsRow_nil _ _ _ _, HB1.out⟩
theorem pNegate_any (f : List Nd) (A : Option Addr) (n c : Nat) (w : World) (hE : EnvR w w.heap.size) (hR : Reads w w.heap.size 6 A n (nds f)) (hm : n ≤ maxLen) :
    Calls Tryd.prog 29 #[.slice A n c] w fun e w' => ∃ A' c', e = .returned (.tuple #[.slice A' (mapF negT f).length c', .int .i64 (mapE negT f)]) ∧ Reads w' w'.heap.size 6 A' (mapF negT f).length (nds (mapF negT f)) ∧ Below w.heap.size w w' :=
  (pNegate_own f A n c w hE hR hm).mono (by
    rintro e w' ⟨A', c', h1, h2, h3⟩
    exact ⟨A', c', h1, Reads.of_own h2, h3⟩)
set_option maxHeartbeats 4000000 in
theorem pSimp_any (f : List Nd) (A : Option Addr) (n c : Nat) (w : World) (hE : EnvR w w.heap.size) (hR : Reads w w.heap.size 6 A n (nds f)) (hm : n ≤ maxLen) :
    Calls Tryd.prog 16 #[.slice A n c] w fun e w' => ∃ A' c', e = .returned (.tuple #[.slice A' (mapF (mapT simT) f).length c', .int .i64 (mapE (mapT simT) f)]) ∧ Reads w' w'.heap.size 6 A' (mapF (mapT simT) f).length (nds (mapF (mapT simT) f)) ∧ Below w.heap.size w w' := by
  have HV := Lib.hid (pCheck_any f A n c w hR hm)
  have HR := Lib.hid hR
  have HE := Lib.hid hE
  by_cases hz : fErr f = 0
  · have g := sim_gr hz
    have ok := OkL_of (compF_ok hz)
    have hkn := fErr_known (compF_ok hz)
    have h200 := (fErr_ok (compF_ok hz)).2.1
    have hall := mapT_all sim_keep _ (tOf_all hz)
    obtain ⟨t1, t2, t3⟩ := take_gr g hall
    have e1 : mapF (mapT simT) f = resL (mapT simT (tOf f)) := if_pos hz
    have e2 : mapE (mapT simT) f = resE (mapT simT (tOf f)) := if_pos hz
    have HC := Lib.hid (fun W (h : Reads W W.heap.size 6 A n (nds f)) => pCompact_own f A n c W h hm)
    have glen := g.len
    rw [e1, e2, ← t1, ← t2]
    have HOK := Lib.hid ok
    have HKN := Lib.hid hkn
    have HLN : Hid ((compF f).length ≤ 200) := Lib.hid h200
    have HT : Hid ((rwP simP (compF f) []).1 < (rwP simP (compF f) []).2.length ∧ (rwP simP (compF f) []).2.length ≤ 999000) := Lib.hid ⟨t3, by simp at glen; omega⟩
    rw [hz] at HV
    clear hR hE hm g ok hkn h200 hall t1 t2 t3 e1 e2 glen
    generalize compF f = q at *
    go_enter Tryd.func16, Tryd.ntmps16
    go_wp2_with fail
    refine (HV.out).mono ?_
    rintro e w1 ⟨rfl, hb⟩
    have HB1 := Lib.hid hb
    clear hb
    go_wp2_with fail
    refine (newB_ex w1 ((HE.out.below HB1.out).up HB1.out.size)).mono ?_
    rintro e w2 ⟨B, base, bw, bm, rfl, hu, hb2, hlo⟩
    have HU2 := Lib.hid hu
    have HB2 := Lib.hid (HB1.out.trans (hb2.mono HB1.out.size))
    have HLO : Hid (w.heap.size ≤ B) := Lib.hid (Nat.le_trans HB1.out.size hlo)
    clear hu hb2 hlo
    go_wp2_with fail
    have HPB := heap_alloc_new w2 (.cells #[.pointer (some ⟨bw, 0, none⟩)] 73)
    have HBA : Hid (Below w2.heap.size w2 (w2.alloc (.cells #[.pointer (some ⟨bw, 0, none⟩)] 73))) := Lib.hid ((Below.refl _ w2).alloc (Nat.le_refl _) _)
    have HSA : Hid (w2.heap.size < (w2.alloc (.cells #[.pointer (some ⟨bw, 0, none⟩)] 73)).heap.size) := Lib.hid (by simp)
    generalize w2.alloc (.cells #[.pointer (some ⟨bw, 0, none⟩)] 73) = w3 at *
    have HI3 : Hid (Si B base bw bm w2.heap.size w3 []) := Lib.hid ⟨HU2.out.below HBA.out, AsideB.new HU2.out.st HBA.out (Nat.le_refl _) HSA.out, Lib.cell_of_heap HPB 0⟩
    have HB3 := Lib.hid (HB2.out.trans (HBA.out.mono HB2.out.size))
    clear HPB
    have hp := HI3.out.ptr
    generalize w2.heap.size = br at *
    have C1 := Lib.hid (HC.out w3.drew ((HR.out.below HB3.out).more HB3.out.size))
    have HI3d := Lib.hid HI3.out.drew
    have HB3d : Hid (Below w.heap.size w w3.drew) := Lib.hid (HB3.out.trans ((Below.refl _ w3).drew.mono HB3.out.size))
    have HSd : Hid (br < w3.drew.heap.size) := HSA
    go_region_held3 (fun W' => W'.cell? ⟨br, 0, none⟩ = some (.pointer (some ⟨bw, 0, none⟩))) (first | assumption)
      (first
        | (go_at_call 45; refine (C1.out).mono ?_; rintro e' w4 ⟨A3, c3, rfl, hown, hb3⟩; have HI4 := Lib.hid (HI3d.out.below hb3); have HA4 := Lib.hid (RdA.own HI3d.out.bu hb3 hown); have HB4 := Lib.hid (HB3d.out.trans (hb3.mono HB3d.out.size)); have HS4 := Lib.hid (Nat.lt_of_lt_of_le HSd.out hb3.size); have hp4 := HI4.out.ptr; clear hown hb3)
        | (go_at_call 60; refine (rewrite_sim (sim_rule (fun _ => True)) B base bw bm br w4 (Si.ok HI4.out.bu.size HS4.out) (fun W o n h hs _ hn _ hl => (simplified_any h n hn (by omega)).mono (fun _ _ ⟨h1, h2, h3⟩ => ⟨h1, h2.out, h3.out⟩)) q [] HOK.out.ops HKN.out HOK.out.rng HOK.out.ne Bd.nil (fun _ _ => trivial) (by have := HLN.out; simp; omega) (by have := HLN.out; omega) A3 c3 HI4.out HA4.out).mono ?_; rintro e' w5 ⟨rfl, h5, hf5⟩; have HI5 := Lib.hid h5; have HB5 := Lib.hid (HB4.out.trans ((HI4.out.bu.low hf5).mono HLO.out)); have hp5 := HI5.out.ptr; clear h5 hf5)
        | (go_at_call 59; refine (take_any HI5.out.bu _ HT.out.1 HT.out.2).mono ?_; rintro e' w6 ⟨A5, c5, rfl, hr6, hb6⟩; have HR6 := Lib.hid hr6; have HB6 := Lib.hid (HB5.out.trans (hb6.mono HB5.out.size)); have hp6 := (HI5.out.below hb6).ptr; clear hr6 hb6))
    all_goals go_wp2
    all_goals go_ret2
    all_goals exact ⟨A5, c5, rfl, HR6.out, HB6.out⟩
  · have e1 : mapF (mapT simT) f = [] := if_neg hz
    have e2 : mapE (mapT simT) f = fErr f := if_neg hz
    rw [e1, e2]
    clear hR hE hm e1 e2
    generalize fErr f = ef at *
    go_enter Tryd.func16, Tryd.ntmps16
    go_wp2_with fail
    refine (HV.out).mono ?_
    rintro e w1 ⟨rfl, hb⟩
    have HB1 := Lib.hid hb
    clear hb
    go_wp2
    go_ret2
    exact ⟨none, 0, rfl, Reads.none_, HB1.out⟩
end Go.Proofs.YtkkkomkljpolbaaDoor
