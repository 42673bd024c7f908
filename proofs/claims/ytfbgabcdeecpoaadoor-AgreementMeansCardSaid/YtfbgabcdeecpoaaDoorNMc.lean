/- Layer 6: texts joined: Pt Pu Va Vb Pq. -/
import Derived.Test.YtfbgabcdeecpoaaDoorNMb
import Derived.Shelf.Strconv.Itoa0
import Derived.Shelf.Lay
import Derived.Lib.LaidTab
import Derived.Laws.CopyOwn
import Derived.OwnWalk
/- Of: the contracts of math/bits that it calls. For the seat with laid variables. -/
namespace Go.Proofs.YtfbgabcdeecpoaaDoor
open Go.RowKit Go.Proofs.Ws
def Tab (w : World) : Prop := (∀ j, j < 64 → w.cell? ⟨1, j, none⟩ = some (.int .u8 (Lib.deBruijn64tab.getD j 0))) ∧ 1 < w.heap.size
theorem Tab.below {w w' : World} (h : Tab w) (hb : Below w.heap.size w w') : Tab w' :=
  ⟨fun j hj => (hb.cell (p := ⟨1, j, none⟩) h.2).trans (h.1 j hj), Nat.lt_of_lt_of_le h.2 hb.size⟩
/-- the same, from a higher bound -/
theorem Tab.belowAt {B : Nat} {w w' : World} (h : Tab w) (hb : Below B w w') (hB : 1 < B) : Tab w' :=
  ⟨fun j hj => (hb.cell (p := ⟨1, j, none⟩) hB).trans (h.1 j hj), Nat.lt_of_lt_of_le h.2 hb.size⟩
/-- a list of naturals as ints in cells -/
theorem tz_core (x k idx : Nat) (w : World) (hx0 : ((x : Int) == 0) = false)
    (key : IntKind.u64.wrap (bits BinOp.and IntKind.u64 (x : Int) (IntKind.u64.wrap (-(x : Int))) * 285870213051353865) / 288230376151711744 = (idx : Int))
    (hi : idx < 64) (hk : k < 64) (hcell : w.cell? ⟨1, idx, none⟩ = some (.int .u8 k)) :
    Calls Tryd.prog 69 #[.int .u64 x] w fun e w' => e = .returned (.int .i64 k) ∧ w = w' := by
  go_enter Tryd.func69, Tryd.ntmps69
  go_wp2_with (simp only [key])
  go_ret
  exact ⟨rfl, rfl⟩
theorem tz_key (x a : Nat) (hx : x < 18446744073709551616) (hx0 : x ≠ 0) (hlow : x &&& (18446744073709551616 - x) = a) :
    IntKind.u64.wrap (bits BinOp.and IntKind.u64 (x : Int) (IntKind.u64.wrap (-(x : Int))) * 285870213051353865) / 288230376151711744 = ((a * 285870213051353865 % 18446744073709551616 / 288230376151711744 : Nat) : Int) := by
  have e1 : IntKind.u64.wrap (-(x : Int)) = ((18446744073709551616 - x : Nat) : Int) := by rw [IntKind.wrap_u64]; omega
  rw [e1, u64_and_nat x _ hx (by omega), hlow, IntKind.wrap_u64]
  omega
theorem tz_any (x : Nat) (w : World) (hx : x < 18446744073709551616) (hx0 : x ≠ 0) (hT : Tab w) :
    Calls Tryd.prog 69 #[.int .u64 x] w fun e w' => e = .returned (.int .i64 (low x : Int)) ∧ w = w' := by
  obtain ⟨hlow, hk⟩ := Lib.lowest_bit 64 x hx0 hx
  obtain ⟨hi, htab⟩ := Lib.deBruijn64_at _ hk
  have hc := hT.1 _ hi
  rw [htab] at hc
  exact tz_core x _ _ w (by simp; omega) (tz_key x _ hx hx0 hlow) hi hk hc
end Go.Proofs.YtfbgabcdeecpoaaDoor
namespace Go.Proofs
open Go.Shelf Go.RowKit
end Go.Proofs
namespace Go.Proofs.YtfbgabcdeecpoaaDoor
open Go.RowKit Go.Proofs.Ws
end Go.Proofs.YtfbgabcdeecpoaaDoor
/- Of at the relation of a partition. For the seat with laid variables. -/
namespace Go.Proofs.YtfbgabcdeecpoaaDoor
open Go.RowKit Go.Proofs.Ws
end Go.Proofs.YtfbgabcdeecpoaaDoor
/- Layer 3: one block, single points, on both sides. -/
namespace Go.Proofs.YtfbgabcdeecpoaaDoor
open Go.RowKit Go.Proofs.Ws
theorem copy_allI {P : Program} {w : World} {ops : Array Oper} {rest : List Oper} {o : Oper} {a : Act} {Q : Exit → Act → World → Prop} (hgd : o.guard = none) (d s : Operand) (dT sT : TypeId)
    (ho : o.op = .call { callee := .builtin .copy, args := #[d, s], argTypes := #[dT, sT] }) (elem : TypeId) (hu : P.underlying dT = some (.slice elem)) (hsz : (P.info? elem).map (·.size) = some 1)
    (dp sp : Option Addr) (dLen dCap sLen sCap : Nat) (hd : a.eval d = .slice dp dLen dCap) (hs : a.eval s = .slice sp sLen sCap)
    (g : Nat) (cur : List Value) (t : TypeId) (hg : w.heap[g]? = some (.cells cur.toArray t (0, 0))) (cs : List Value) (hn : cs.length = Nat.min sLen dLen)
    (hpos : 0 < cs.length → dp = some ⟨g, 0, none⟩ ∧ ∃ ad, sp = some ad ∧ ∀ j v, cs[j]? = some v → w.cell? (ad.add j) = some v)
    (hfit : cs.length = cur.length) (h1 : ∀ v ∈ cs, v.oneCell' = true)
    (h : ∀ w', Hid (w'.heap[g]? = some (.cells cs.toArray t (0, 0)) ∧ (∀ b, b ≠ g → w'.heap[b]? = w.heap[b]?) ∧ w'.heap.size = w.heap.size ∧ ∀ B, B ≤ g → Below B w w') → wpList P ops Q rest (a.put o.dst (goInt cs.length)) w') :
    wpList P ops Q (o :: rest) a w := by
  by_cases h0 : cs.length = 0
  · obtain rfl : cs = [] := List.eq_nil_of_length_eq_zero h0
    obtain rfl : cur = [] := List.eq_nil_of_length_eq_zero (by simpa using hfit.symm)
    refine wpList_copy_nothing hgd d s dT sT ho elem hu hsz dp sp dLen dCap sLen sCap hd hs (by simpa using hn.symm) ?_
    exact h w (Lib.hid ⟨hg, fun _ _ => rfl, rfl, fun B _ => Below.refl B w⟩)
  · obtain ⟨rfl, ad, rfl, hsrc⟩ := hpos (by omega)
    refine wpList_copy_own hgd d s dT sT ho elem hu hsz g 0 dLen dCap ad sLen sCap hd hs cur.toArray t hg cs hn hsrc (by simp; omega) h1 ?_
    have e : (cur.toArray.toList.take 0 ++ (cs ++ cur.toArray.toList.drop (0 + cs.length))).toArray = cs.toArray := by
      rw [Nat.zero_add, hfit]
      simp
    rw [e]
    exact h _ (Lib.hid ⟨setRow_heap w g _ _ t _ hg, fun b hb => setRow_other w g b _ (fun e => hb e), size_setRow _ _ _, fun B hB => below_setRow (Below.refl B w) hB _⟩)
theorem pTrivial_ok (n : Nat) (w : World) (h : n ≤ 64) : Calls Tryd.prog 70 #[.int .i64 n] w fun e w' => e = .returned (.tuple #[.slice (some ⟨w.heap.size, 0, none⟩) n n, .int .i64 0]) ∧ w' = w.alloc (.cells (ints (List.replicate n 0)).toArray 3) := by
  have hmk := fun W => makeI W n (by omega)
  have d0 : decide ((n : Int) < 0) = false := by simp
  have d1 : decide ((64 : Int) < (n : Int)) = false := by simp; omega
  go_enter Tryd.func70, Tryd.ntmps70
  go_wp2
  go_ret2
  exact ⟨rfl, rfl⟩
/-- the points themselves -/
def finL (n : Nat) : List Int := (List.range n).map (fun k : Nat => (k : Int))
theorem finL_length (n : Nat) : (finL n).length = n := by simp [finL]
theorem finL_getD {n k : Nat} (h : k < n) : (finL n).getD k 0 = (k : Int) := by
  unfold finL; rw [List.getD_eq_getElem?_getD, List.getElem?_map, List.getElem?_range h]; rfl
theorem finL_take {n : Nat} (h : n ≤ 64) : (finL 64).take n = finL n := by
  unfold finL; rw [← List.map_take, List.take_range, Nat.min_eq_left h]
def FinW (w : World) : Prop := 0 < w.heap.size ∧ ∃ A c, w.cell? ⟨0, 0, none⟩ = some (.slice A 64 c) ∧ Reads w w.heap.size 1 A 64 (ints (finL 64))
theorem FinW.below {w w' : World} (h : FinW w) (hb : Below w.heap.size w w') : FinW w' := by
  obtain ⟨h1, A, c, h2, h4⟩ := h
  exact ⟨Nat.lt_of_lt_of_le h1 hb.size, A, c, (hb.cell (p := ⟨0, 0, none⟩) h1).trans h2, (h4.below hb).more hb.size⟩
/-- a list of numbers and an error, in memory of the call's own -/
def GO (p : List Int) (E : Int) (w : World) (e : Ending) (w' : World) : Prop :=
  ∃ A c, e = .returned (.tuple #[.slice A p.length c, .int .i64 E]) ∧ Reads w' w'.heap.size 1 A p.length (ints p) ∧ Below w.heap.size w w'
theorem rowI_reads {w : World} {g : Nat} {l : List Int} {T : TypeId} (h : w.heap[g]? = some (.cells (ints l).toArray T (0, 0))) : Reads w w.heap.size 1 (some ⟨g, 0, none⟩) l.length (ints l) :=
  ⟨by rw [ints_length]; omega, fun _ => ⟨_, rfl, (Array.getElem?_eq_some_iff.1 h).1, fun j u hu => by
    rw [addr0, Lib.cell_of_heap h]
    simpa using hu⟩⟩
theorem ints_oneCellI (l : List Int) : ∀ u ∈ ints l, u.oneCell' = true := by
  intro u hu
  unfold ints at hu
  obtain ⟨x, _, rfl⟩ := List.mem_map.1 hu
  rfl
set_option maxRecDepth 100000 in
theorem pDiscrete_ok (n : Nat) (w : World) (h : n ≤ 64) (hF : FinW w) : Calls Tryd.prog 43 #[.int .i64 n] w (GO (finL n) 0 w) := by
  have HT := Lib.hid (pTrivial_ok n w h)
  have hb0 : Below w.heap.size w (w.alloc (.cells (ints (List.replicate n 0)).toArray 3)) := (Below.refl _ w).alloc (Nat.le_refl _) _
  have HB0 := Lib.hid hb0
  obtain ⟨h1, A, c, h2, h4⟩ := hF
  have hg := (hb0.cell (p := ⟨0, 0, none⟩) h1).trans h2
  have HSRC : Hid (0 < (ints (finL n)).length → ∃ ad, A = some ad ∧ ∀ j v, (ints (finL n))[j]? = some v → (w.alloc (.cells (ints (List.replicate n 0)).toArray 3)).cell? (ad.add j) = some v) := Lib.hid (fun h0 => by
    obtain ⟨ad, hA, hbl, hc⟩ := h4.2 (by omega)
    refine ⟨ad, hA, fun j v hv => (hb0.cell (p := ad.add j) (by rw [block_of_add]; exact hbl)).trans (hc j v ?_)⟩
    rw [← finL_take h] at hv
    unfold ints at hv ⊢
    rw [List.map_take, List.getElem?_take] at hv
    split at hv
    · exact hv
    · cases hv)
  have HN : Hid ((w.alloc (.cells (ints (List.replicate n 0)).toArray 3)).heap[w.heap.size]? = some (.cells (ints (List.replicate n 0)).toArray 3 (0, 0))) := Lib.hid (heap_alloc_new w _)
  clear h1 h2 h4 hb0
  go_enter Tryd.func43, Tryd.ntmps43
  go_wp2_with fail
  refine (HT.out).mono ?_
  rintro e w1 ⟨rfl, rfl⟩
  generalize w.alloc (.cells (ints (List.replicate n 0)).toArray 3) = wx at *
  clear HT
  go_wp2_with (with_reducible refine copy_allI rfl (.tmp 11) (.tmp 12) 22 22 rfl 3 Tryd.underlying22 (by kernel_rfl) _ _ _ _ _ _ rfl rfl w.heap.size (ints (List.replicate n 0)) 3 ?cg (ints (finL n)) ?cn ?cp ?cf ?c1 ?_)
  case cg => exact HN.out
  case cn => rw [ints_length, finL_length]; exact (Nat.min_eq_right h).symm
  case cp => first | exact fun h => ⟨rfl, HSRC.out h⟩ | exact fun h => HSRC.out h
  case cf => rw [ints_length, ints_length, finL_length, List.length_replicate]
  case c1 => exact ints_oneCellI _
  intro w2 HK
  have HRD := Lib.hid (rowI_reads HK.out.1)
  have HB2 : Hid (Below w.heap.size w w2) := Lib.hid (HB0.out.trans (HK.out.2.2.2 _ (Nat.le_refl _)))
  clear HK hg
  go_wp2
  go_ret2
  refine ⟨some ⟨w.heap.size, 0, none⟩, n, ?_, HRD.out, HB2.out⟩
  rw [finL_length]
  rfl
end Go.Proofs.YtfbgabcdeecpoaaDoor
/- Layer 3: single points by the reference; one block as a list and an error. -/
namespace Go.Proofs.YtfbgabcdeecpoaaDoor
open Go.RowKit Go.Proofs.Ws
end Go.Proofs.YtfbgabcdeecpoaaDoor
/- Mathematics of chains: what is reached from a point over the blocks of two partitions is its block in their join. -/
namespace Go.Proofs.YtfbgabcdeecpoaaDoor
open Go.RowKit Go.Proofs.Ws
theorem blk_bit {n : Nat} {p : List Int} (h : Can n p) {i : Nat} (hi : i < n) (v : Nat) : (blkV p (i : Int)).testBit v = true ↔ v < n ∧ fo p v = fo p i := by
  have hl := h.len
  have hf := part_forest h.ok
  unfold blkV
  rw [if_pos ⟨h.ok, by omega, by omega⟩, cls_bit, Int.toNat_natCast, hl]
  constructor
  · rintro ⟨h1, h2⟩
    rw [hf.at_ (by omega), hf.at_ (by omega)] at h2
    exact ⟨h1, by omega⟩
  · rintro ⟨h1, h2⟩
    rw [hf.at_ (by omega), hf.at_ (by omega), h2]
    exact ⟨h1, rfl⟩
section
variable {n : Nat} {a b j : List Int} (ha : Can n a) (hb : Can n b)
include ha hb
end
end Go.Proofs.YtfbgabcdeecpoaaDoor
