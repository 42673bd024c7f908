/- Layer 6: texts joined: Xr Xs. -/
import Derived.Test.YtenbhalnpiahaaaGreatDoorJa
import Derived.Test.YtenbhalnpiahaaaGreatDoorJc
import Derived.Test.YtenbhalnpiahaaaGreatDoorJx
import Derived.Test.YtenbhalnpiahaaaGreatDoorPb
import Derived.Test.YtenbhalnpiahaaaGreatDoorPd
/- Layer 7: Level, sign, enclosed of the reference. -/
namespace Go.Proofs.YtenbhalnpiahaaaGreatDoor
open Go.RowKit Go.Proofs.Ws
theorem rLevel_any (op : Int) (hk : known op = true) (w : World) : Calls Tryz.prog 69 #[.int .i64 op] w fun e w' => e = .returned (.int .i64 ((levN op : Nat) : Int)) ∧ w = w' := by
  rcases known_cases op hk with rfl | rfl | rfl | rfl | rfl | rfl | rfl | rfl | rfl | rfl | rfl | rfl | rfl | rfl | rfl | rfl | rfl | rfl | rfl | rfl | rfl
  all_goals
    go_enter Tryz.func69, Tryz.ntmps69
    go_wp2
    go_ret
    exact ⟨rfl, rfl⟩
def sgB (op : Int) : ByteArray := if op = 5 then ⟨#[32, 38, 32]⟩ else if op = 6 then ⟨#[32, 124, 32]⟩ else if op = 7 then ⟨#[32, 45, 62, 32]⟩ else if op = 8 then ⟨#[32, 60, 45, 62, 32]⟩ else if op = 19 then ⟨#[32, 117, 110, 116, 105, 108, 32]⟩ else ⟨#[32, 115, 105, 110, 99, 101, 32]⟩
theorem rSign_any (op : Int) (h : MidN op) (w : World) : Calls Tryz.prog 71 #[.int .i64 op] w fun e w' => e = .returned (.string (sgB op)) ∧ w = w' := by
  unfold MidN at h
  rcases h with rfl | rfl | rfl | rfl | rfl | rfl
  all_goals
    go_enter Tryz.func71, Tryz.ntmps71
    go_wp2
    go_ret
    exact ⟨rfl, rfl⟩
def encA (r lv : Nat) (s : ByteArray) : ByteArray := if lv < r then ⟨#[40]⟩ ++ s ++ ⟨#[41]⟩ else s
theorem encA_list (r lv : Nat) (s : ByteArray) : (encA r lv s).data.toList = encB r lv s.data.toList := by
  unfold encA encB
  split
  · simp
  · rfl
theorem encA_size (r lv : Nat) (s : ByteArray) : (encA r lv s).size ≤ s.size + 2 := by
  have e : (encA r lv s).size = (encA r lv s).data.toList.length := by rw [Array.length_toList]; rfl
  have e2 : s.size = s.data.toList.length := by rw [Array.length_toList]; rfl
  rw [e, e2, encA_list]
  unfold encB
  split
  · simp
  · omega
end Go.Proofs.YtenbhalnpiahaaaGreatDoor
/- Layer 7: head of the reference. -/
namespace Go.Proofs.YtenbhalnpiahaaaGreatDoor
open Go.RowKit Go.Proofs.Ws
theorem text_size {A F X : List ByteArray} (h : sigErr A F X = 0) (g : Int) : (textV A F X g).1.size ≤ 200 := by
  unfold textV
  rw [if_pos h]
  split
  · exact join_size h _
  · exact Nat.zero_le _
/-- the bar and a condition -/
def barA (c : ByteArray) : ByteArray := if c.data.toList = [] then c else ⟨#[124]⟩ ++ c
theorem head_env {a0 : Option Addr} {n0 c0 : Nat} {a1 : Option Addr} {n1 c1 : Nat} {a2 : Option Addr} {n2 c2 : Nat} {A F X : List ByteArray} {w : World} (v : Array Value) (T : TypeId)
    (hS : SigR w w.heap.size (sv a0 n0 c0 a1 n1 c1 a2 n2 c2) A F X) (hs : sigErr A F X = 0) :
    (∀ g : Int, Calls Tryz.prog 101 #[.agg #[.slice a0 n0 c0, .slice a1 n1 c1, .slice a2 n2 c2], .int .i64 g] ((w.alloc (.cells #[.slice a0 n0 c0, .slice a1 n1 c1, .slice a2 n2 c2] 24)).alloc (.cells v T)) fun e w' => (∃ t : ByteArray, ∃ z : Int, e = .returned (.tuple #[.string t, .int .i64 z]) ∧ Hid (t = (textV A F X g).1) ∧ t.size ≤ 200) ∧
      Hid (Below w.heap.size w w') ∧ w'.cell? ⟨w.heap.size, 0, none⟩ = some (.slice a0 n0 c0) ∧ w'.cell? ⟨w.heap.size, 2, none⟩ = some (.slice a2 n2 c2) ∧ w'.heap[w.heap.size + 1]? = some (.cells v T (0, 0))) := fun g => by
  have hb1 : Below w.heap.size w ((w.alloc (.cells #[.slice a0 n0 c0, .slice a1 n1 c1, .slice a2 n2 c2] 24)).alloc (.cells v T)) := ((Below.refl _ w).alloc (Nat.le_refl _) _).alloc (by simp) _
  have h1 : ((w.alloc (.cells #[.slice a0 n0 c0, .slice a1 n1 c1, .slice a2 n2 c2] 24)).alloc (.cells v T)).heap[w.heap.size]? = some (.cells #[.slice a0 n0 c0, .slice a1 n1 c1, .slice a2 n2 c2] 24 (0, 0)) := by
    rw [Below.heap_alloc _ _ _ (by simp)]; exact heap_alloc_new w _
  have h2 : ((w.alloc (.cells #[.slice a0 n0 c0, .slice a1 n1 c1, .slice a2 n2 c2] 24)).alloc (.cells v T)).heap[w.heap.size + 1]? = some (.cells v T (0, 0)) := by
    have := heap_alloc_new (w.alloc (.cells #[.slice a0 n0 c0, .slice a1 n1 c1, .slice a2 n2 c2] 24)) (.cells v T)
    simpa using this
  have hz : ((w.alloc (.cells #[.slice a0 n0 c0, .slice a1 n1 c1, .slice a2 n2 c2] 24)).alloc (.cells v T)).heap.size = w.heap.size + 1 + 1 := by simp
  generalize (w.alloc (.cells #[.slice a0 n0 c0, .slice a1 n1 c1, .slice a2 n2 c2] 24)).alloc (.cells v T) = w2 at *
  refine (pRefText_any _ A F X g w2 ((hS.below hb1).more hb1.size)).mono ?_
  rintro e w' ⟨rfl, hb⟩
  have k1 := (hb.block _ (heap_lt h1)).trans h1
  exact ⟨⟨_, _, rfl, Lib.hid rfl, text_size hs g⟩, Lib.hid (hb1.trans (hb.mono (by omega))), by rw [Lib.cell_of_heap k1]; rfl, by rw [Lib.cell_of_heap k1]; rfl, (hb.block _ (heap_lt h2)).trans h2⟩
set_option maxRecDepth 100000 in
set_option maxHeartbeats 2000000 in
theorem head_4 (a0 : Option Addr) (n0 c0 : Nat) (a1 : Option Addr) (n1 c1 : Nat) (a2 : Option Addr) (n2 c2 : Nat) (A F X : List ByteArray) (w : World) (hS : SigR w w.heap.size (sv a0 n0 c0 a1 n1 c1 a2 n2 c2) A F X) (hs : sigErr A F X = 0) (i ee g x y : Int) :
    Calls Tryz.prog 70 #[.agg #[.slice a0 n0 c0, .slice a1 n1 c1, .slice a2 n2 c2], .agg #[.int .i64 4, .int .i64 i, .int .i64 ee, .int .i64 g, .int .i64 x, .int .i64 y], .string ⟨#[]⟩] w fun e w' => (∃ s : ByteArray, e = .returned (.string s) ∧ s.data.toList = headB A X ⟨4, i, ee, g, x, y⟩ ∧ s.size ≤ 300) ∧ Below w.heap.size w w' := by
  have HT := Lib.hid (head_env #[.int .i64 4, .int .i64 i, .int .i64 ee, .int .i64 g, .int .i64 x, .int .i64 y] 65 hS hs g)
  clear hs hS
  go_enter Tryz.func70, Tryz.ntmps70
  go_wp2_with fail
  refine (HT.out).mono ?_
  rintro e w1 ⟨⟨t, z1, rfl, ht, htz⟩, HB, q0, q2, hn⟩
  have y0 := Lib.cell_of_heap hn 0
  have y1 := Lib.cell_of_heap hn 1
  have y2 := Lib.cell_of_heap hn 2
  have y3 := Lib.cell_of_heap hn 3
  simp only [List.getElem?_toArray, List.getElem?_cons_succ, List.getElem?_cons_zero] at y0 y1 y2 y3
  clear hn HT
  go_wp2
  go_ret
  exact ⟨⟨_, rfl, rfl, by decide⟩, HB.out⟩
set_option maxRecDepth 100000 in
set_option maxHeartbeats 2000000 in
theorem head_9 (a0 : Option Addr) (n0 c0 : Nat) (a1 : Option Addr) (n1 c1 : Nat) (a2 : Option Addr) (n2 c2 : Nat) (A F X : List ByteArray) (w : World) (hS : SigR w w.heap.size (sv a0 n0 c0 a1 n1 c1 a2 n2 c2) A F X) (hs : sigErr A F X = 0) (k : Nat) (ee g x y : Int) (hk : k < n0) :
    Calls Tryz.prog 70 #[.agg #[.slice a0 n0 c0, .slice a1 n1 c1, .slice a2 n2 c2], .agg #[.int .i64 9, .int .i64 (k : Int), .int .i64 ee, .int .i64 g, .int .i64 x, .int .i64 y], .string ⟨#[]⟩] w fun e w' => (∃ s : ByteArray, e = .returned (.string s) ∧ s.data.toList = headB A X ⟨9, k, ee, g, x, y⟩ ∧ s.size ≤ 300) ∧ Below w.heap.size w w' := by
  have HT := Lib.hid (head_env #[.int .i64 9, .int .i64 (k : Int), .int .i64 ee, .int .i64 g, .int .i64 x, .int .i64 y] 65 hS hs g)
  obtain ⟨_, _, _, _, _, _, _, _, _, esv, s0, s1, s2⟩ := hS
  injection esv with esv
  have esv := congrArg Array.toList esv
  simp only [List.cons.injEq, Value.slice.injEq, and_true] at esv
  obtain ⟨⟨rfl, rfl, rfl⟩, ⟨rfl, rfl, rfl⟩, ⟨rfl, rfl, rfl⟩⟩ := esv
  have hln := s0.1.str_len
  obtain ⟨ad, hA, hb2, hc2⟩ := s0.1.str_at hk
  have hz : (A.getD k ByteArray.empty).size ≤ 8 := sig_size hs _ (by rw [List.getD_eq_getElem?_getD, List.getElem?_eq_getElem (by omega)]; simp)
  have HKC : Hid (∀ W, Below w.heap.size w W → W.cell? (ad.add k) = some (.string (A.getD k ByteArray.empty))) := Lib.hid (fun W hW => (hW.cell (p := ad.add k) (by rw [block_of_add]; exact hb2)).trans hc2)
  rw [hA] at HT
  rw [hA]
  have HLZ : Hid (∃ z, A.getD k ByteArray.empty = z) := Lib.hid ⟨_, rfl⟩
  obtain ⟨z, hzz⟩ := HLZ.out
  rw [hzz] at HKC hz
  have HZ := Lib.hid hzz
  clear s0 s1 s2 hln hc2 hzz hb2 hA esv
  clear hs
  go_enter Tryz.func70, Tryz.ntmps70
  go_wp2_with fail
  refine (HT.out).mono ?_
  rintro e w1 ⟨⟨t, z1, rfl, ht, htz⟩, HB, q0, q2, hn⟩
  have y0 := Lib.cell_of_heap hn 0
  have y1 := Lib.cell_of_heap hn 1
  have y2 := Lib.cell_of_heap hn 2
  have y3 := Lib.cell_of_heap hn 3
  simp only [List.getElem?_toArray, List.getElem?_cons_succ, List.getElem?_cons_zero] at y0 y1 y2 y3
  have hcz := HKC.out w1 HB.out
  clear hn HT HKC
  have l1 : (⟨#[75, 91]⟩ : ByteArray).size = 2 := rfl
  have l2 : (⟨#[93]⟩ : ByteArray).size = 1 := rfl
  have g26 : (⟨#[75, 91]⟩ ++ z : ByteArray).size ≤ 10 := by simp only [ByteArray.size_append]; omega
  have g38 : (⟨#[75, 91]⟩ ++ z ++ ⟨#[93]⟩ : ByteArray).size ≤ 11 := by simp only [ByteArray.size_append]; omega
  go_wp2
  go_ret
  exact ⟨⟨_, rfl, by rw [← HZ.out]; simp [headB], by simp only [ByteArray.size_append]; omega⟩, HB.out⟩
set_option maxRecDepth 100000 in
set_option maxHeartbeats 2000000 in
theorem head_10 (a0 : Option Addr) (n0 c0 : Nat) (a1 : Option Addr) (n1 c1 : Nat) (a2 : Option Addr) (n2 c2 : Nat) (A F X : List ByteArray) (w : World) (hS : SigR w w.heap.size (sv a0 n0 c0 a1 n1 c1 a2 n2 c2) A F X) (hs : sigErr A F X = 0) (k : Nat) (ee g x y : Int) (hk : k < n0) :
    Calls Tryz.prog 70 #[.agg #[.slice a0 n0 c0, .slice a1 n1 c1, .slice a2 n2 c2], .agg #[.int .i64 10, .int .i64 (k : Int), .int .i64 ee, .int .i64 g, .int .i64 x, .int .i64 y], .string ⟨#[]⟩] w fun e w' => (∃ s : ByteArray, e = .returned (.string s) ∧ s.data.toList = headB A X ⟨10, k, ee, g, x, y⟩ ∧ s.size ≤ 300) ∧ Below w.heap.size w w' := by
  have HT := Lib.hid (head_env #[.int .i64 10, .int .i64 (k : Int), .int .i64 ee, .int .i64 g, .int .i64 x, .int .i64 y] 65 hS hs g)
  obtain ⟨_, _, _, _, _, _, _, _, _, esv, s0, s1, s2⟩ := hS
  injection esv with esv
  have esv := congrArg Array.toList esv
  simp only [List.cons.injEq, Value.slice.injEq, and_true] at esv
  obtain ⟨⟨rfl, rfl, rfl⟩, ⟨rfl, rfl, rfl⟩, ⟨rfl, rfl, rfl⟩⟩ := esv
  have hln := s0.1.str_len
  obtain ⟨ad, hA, hb2, hc2⟩ := s0.1.str_at hk
  have hz : (A.getD k ByteArray.empty).size ≤ 8 := sig_size hs _ (by rw [List.getD_eq_getElem?_getD, List.getElem?_eq_getElem (by omega)]; simp)
  have HKC : Hid (∀ W, Below w.heap.size w W → W.cell? (ad.add k) = some (.string (A.getD k ByteArray.empty))) := Lib.hid (fun W hW => (hW.cell (p := ad.add k) (by rw [block_of_add]; exact hb2)).trans hc2)
  rw [hA] at HT
  rw [hA]
  have HLZ : Hid (∃ z, A.getD k ByteArray.empty = z) := Lib.hid ⟨_, rfl⟩
  obtain ⟨z, hzz⟩ := HLZ.out
  rw [hzz] at HKC hz
  have HZ := Lib.hid hzz
  clear s0 s1 s2 hln hc2 hzz hb2 hA esv
  clear hs
  go_enter Tryz.func70, Tryz.ntmps70
  go_wp2_with fail
  refine (HT.out).mono ?_
  rintro e w1 ⟨⟨t, z1, rfl, ht, htz⟩, HB, q0, q2, hn⟩
  have y0 := Lib.cell_of_heap hn 0
  have y1 := Lib.cell_of_heap hn 1
  have y2 := Lib.cell_of_heap hn 2
  have y3 := Lib.cell_of_heap hn 3
  simp only [List.getElem?_toArray, List.getElem?_cons_succ, List.getElem?_cons_zero] at y0 y1 y2 y3
  have hcz := HKC.out w1 HB.out
  clear hn HT HKC
  have l1 : (⟨#[77, 91]⟩ : ByteArray).size = 2 := rfl
  have l2 : (⟨#[93]⟩ : ByteArray).size = 1 := rfl
  have g26 : (⟨#[77, 91]⟩ ++ z : ByteArray).size ≤ 10 := by simp only [ByteArray.size_append]; omega
  have g38 : (⟨#[77, 91]⟩ ++ z ++ ⟨#[93]⟩ : ByteArray).size ≤ 11 := by simp only [ByteArray.size_append]; omega
  go_wp2
  go_ret
  exact ⟨⟨_, rfl, by rw [← HZ.out]; simp [headB], by simp only [ByteArray.size_append]; omega⟩, HB.out⟩
set_option maxRecDepth 100000 in
set_option maxHeartbeats 2000000 in
theorem head_15 (a0 : Option Addr) (n0 c0 : Nat) (a1 : Option Addr) (n1 c1 : Nat) (a2 : Option Addr) (n2 c2 : Nat) (A F X : List ByteArray) (w : World) (hS : SigR w w.heap.size (sv a0 n0 c0 a1 n1 c1 a2 n2 c2) A F X) (hs : sigErr A F X = 0) (k : Nat) (ee g x y : Int) (hk : k < n0) :
    Calls Tryz.prog 70 #[.agg #[.slice a0 n0 c0, .slice a1 n1 c1, .slice a2 n2 c2], .agg #[.int .i64 15, .int .i64 (k : Int), .int .i64 ee, .int .i64 g, .int .i64 x, .int .i64 y], .string ⟨#[]⟩] w fun e w' => (∃ s : ByteArray, e = .returned (.string s) ∧ s.data.toList = headB A X ⟨15, k, ee, g, x, y⟩ ∧ s.size ≤ 300) ∧ Below w.heap.size w w' := by
  have HT := Lib.hid (head_env #[.int .i64 15, .int .i64 (k : Int), .int .i64 ee, .int .i64 g, .int .i64 x, .int .i64 y] 65 hS hs g)
  obtain ⟨_, _, _, _, _, _, _, _, _, esv, s0, s1, s2⟩ := hS
  injection esv with esv
  have esv := congrArg Array.toList esv
  simp only [List.cons.injEq, Value.slice.injEq, and_true] at esv
  obtain ⟨⟨rfl, rfl, rfl⟩, ⟨rfl, rfl, rfl⟩, ⟨rfl, rfl, rfl⟩⟩ := esv
  have hln := s0.1.str_len
  obtain ⟨ad, hA, hb2, hc2⟩ := s0.1.str_at hk
  have hz : (A.getD k ByteArray.empty).size ≤ 8 := sig_size hs _ (by rw [List.getD_eq_getElem?_getD, List.getElem?_eq_getElem (by omega)]; simp)
  have HKC : Hid (∀ W, Below w.heap.size w W → W.cell? (ad.add k) = some (.string (A.getD k ByteArray.empty))) := Lib.hid (fun W hW => (hW.cell (p := ad.add k) (by rw [block_of_add]; exact hb2)).trans hc2)
  rw [hA] at HT
  rw [hA]
  have HLZ : Hid (∃ z, A.getD k ByteArray.empty = z) := Lib.hid ⟨_, rfl⟩
  obtain ⟨z, hzz⟩ := HLZ.out
  rw [hzz] at HKC hz
  have HZ := Lib.hid hzz
  clear s0 s1 s2 hln hc2 hzz hb2 hA esv
  clear hs
  go_enter Tryz.func70, Tryz.ntmps70
  go_wp2_with fail
  refine (HT.out).mono ?_
  rintro e w1 ⟨⟨t, z1, rfl, ht, htz⟩, HB, q0, q2, hn⟩
  have y0 := Lib.cell_of_heap hn 0
  have y1 := Lib.cell_of_heap hn 1
  have y2 := Lib.cell_of_heap hn 2
  have y3 := Lib.cell_of_heap hn 3
  simp only [List.getElem?_toArray, List.getElem?_cons_succ, List.getElem?_cons_zero] at y0 y1 y2 y3
  have hcz := HKC.out w1 HB.out
  clear hn HT HKC
  have l1 : (⟨#[83, 91]⟩ : ByteArray).size = 2 := rfl
  have l2 : (⟨#[93]⟩ : ByteArray).size = 1 := rfl
  have g26 : (⟨#[83, 91]⟩ ++ z : ByteArray).size ≤ 10 := by simp only [ByteArray.size_append]; omega
  have g38 : (⟨#[83, 91]⟩ ++ z ++ ⟨#[93]⟩ : ByteArray).size ≤ 11 := by simp only [ByteArray.size_append]; omega
  go_wp2
  go_ret
  exact ⟨⟨_, rfl, by rw [← HZ.out]; simp [headB], by simp only [ByteArray.size_append]; omega⟩, HB.out⟩
set_option maxRecDepth 100000 in
set_option maxHeartbeats 2000000 in
theorem head_11 (a0 : Option Addr) (n0 c0 : Nat) (a1 : Option Addr) (n1 c1 : Nat) (a2 : Option Addr) (n2 c2 : Nat) (A F X : List ByteArray) (w : World) (hS : SigR w w.heap.size (sv a0 n0 c0 a1 n1 c1 a2 n2 c2) A F X) (hs : sigErr A F X = 0) (m : Nat) (i ee x y : Int) (h1 : 1 ≤ m) (h2 : m < 2 ^ A.length) :
    Calls Tryz.prog 70 #[.agg #[.slice a0 n0 c0, .slice a1 n1 c1, .slice a2 n2 c2], .agg #[.int .i64 11, .int .i64 i, .int .i64 ee, .int .i64 (m : Int), .int .i64 x, .int .i64 y], .string ⟨#[]⟩] w fun e w' => (∃ s : ByteArray, e = .returned (.string s) ∧ s.data.toList = headB A X ⟨11, i, ee, m, x, y⟩ ∧ s.size ≤ 300) ∧ Below w.heap.size w w' := by
  have HT := Lib.hid (head_env #[.int .i64 11, .int .i64 i, .int .i64 ee, .int .i64 (m : Int), .int .i64 x, .int .i64 y] 65 hS hs (m : Int))
  have HGR : Hid ((textV A F X (m : Int)).1.data.toList = grpB A m) := Lib.hid (by rw [text_ok hs h1 h2]; exact join_grp A m)
  clear hs hS h1 h2
  go_enter Tryz.func70, Tryz.ntmps70
  go_wp2_with fail
  refine (HT.out).mono ?_
  rintro e w1 ⟨⟨t, z1, rfl, ht, htz⟩, HB, q0, q2, hn⟩
  have y0 := Lib.cell_of_heap hn 0
  have y1 := Lib.cell_of_heap hn 1
  have y2 := Lib.cell_of_heap hn 2
  have y3 := Lib.cell_of_heap hn 3
  simp only [List.getElem?_toArray, List.getElem?_cons_succ, List.getElem?_cons_zero] at y0 y1 y2 y3
  clear hn HT
  have l1 : (⟨#[69, 91]⟩ : ByteArray).size = 2 := rfl
  have l2 : (⟨#[93]⟩ : ByteArray).size = 1 := rfl
  have g218 : (⟨#[69, 91]⟩ ++ t : ByteArray).size ≤ 202 := by simp only [ByteArray.size_append]; omega
  have g230 : (⟨#[69, 91]⟩ ++ t ++ ⟨#[93]⟩ : ByteArray).size ≤ 203 := by simp only [ByteArray.size_append]; omega
  go_wp2
  go_ret
  exact ⟨⟨_, rfl, by rw [ht.out]; simp [headB, HGR.out], by simp only [ByteArray.size_append]; omega⟩, HB.out⟩
set_option maxRecDepth 100000 in
set_option maxHeartbeats 2000000 in
theorem head_12 (a0 : Option Addr) (n0 c0 : Nat) (a1 : Option Addr) (n1 c1 : Nat) (a2 : Option Addr) (n2 c2 : Nat) (A F X : List ByteArray) (w : World) (hS : SigR w w.heap.size (sv a0 n0 c0 a1 n1 c1 a2 n2 c2) A F X) (hs : sigErr A F X = 0) (m : Nat) (i ee x y : Int) (h1 : 1 ≤ m) (h2 : m < 2 ^ A.length) :
    Calls Tryz.prog 70 #[.agg #[.slice a0 n0 c0, .slice a1 n1 c1, .slice a2 n2 c2], .agg #[.int .i64 12, .int .i64 i, .int .i64 ee, .int .i64 (m : Int), .int .i64 x, .int .i64 y], .string ⟨#[]⟩] w fun e w' => (∃ s : ByteArray, e = .returned (.string s) ∧ s.data.toList = headB A X ⟨12, i, ee, m, x, y⟩ ∧ s.size ≤ 300) ∧ Below w.heap.size w w' := by
  have HT := Lib.hid (head_env #[.int .i64 12, .int .i64 i, .int .i64 ee, .int .i64 (m : Int), .int .i64 x, .int .i64 y] 65 hS hs (m : Int))
  have HGR : Hid ((textV A F X (m : Int)).1.data.toList = grpB A m) := Lib.hid (by rw [text_ok hs h1 h2]; exact join_grp A m)
  clear hs hS h1 h2
  go_enter Tryz.func70, Tryz.ntmps70
  go_wp2_with fail
  refine (HT.out).mono ?_
  rintro e w1 ⟨⟨t, z1, rfl, ht, htz⟩, HB, q0, q2, hn⟩
  have y0 := Lib.cell_of_heap hn 0
  have y1 := Lib.cell_of_heap hn 1
  have y2 := Lib.cell_of_heap hn 2
  have y3 := Lib.cell_of_heap hn 3
  simp only [List.getElem?_toArray, List.getElem?_cons_succ, List.getElem?_cons_zero] at y0 y1 y2 y3
  clear hn HT
  have l1 : (⟨#[68, 91]⟩ : ByteArray).size = 2 := rfl
  have l2 : (⟨#[93]⟩ : ByteArray).size = 1 := rfl
  have g218 : (⟨#[68, 91]⟩ ++ t : ByteArray).size ≤ 202 := by simp only [ByteArray.size_append]; omega
  have g230 : (⟨#[68, 91]⟩ ++ t ++ ⟨#[93]⟩ : ByteArray).size ≤ 203 := by simp only [ByteArray.size_append]; omega
  go_wp2
  go_ret
  exact ⟨⟨_, rfl, by rw [ht.out]; simp [headB, HGR.out], by simp only [ByteArray.size_append]; omega⟩, HB.out⟩
set_option maxRecDepth 100000 in
set_option maxHeartbeats 2000000 in
theorem head_13 (a0 : Option Addr) (n0 c0 : Nat) (a1 : Option Addr) (n1 c1 : Nat) (a2 : Option Addr) (n2 c2 : Nat) (A F X : List ByteArray) (w : World) (hS : SigR w w.heap.size (sv a0 n0 c0 a1 n1 c1 a2 n2 c2) A F X) (hs : sigErr A F X = 0) (m : Nat) (i ee x y : Int) (c : ByteArray) (h1 : 1 ≤ m) (h2 : m < 2 ^ A.length) (hc : c.size ≤ 5000) :
    Calls Tryz.prog 70 #[.agg #[.slice a0 n0 c0, .slice a1 n1 c1, .slice a2 n2 c2], .agg #[.int .i64 13, .int .i64 i, .int .i64 ee, .int .i64 (m : Int), .int .i64 x, .int .i64 y], .string c] w fun e w' => (∃ s : ByteArray, e = .returned (.string s) ∧ s.data.toList = 67 :: 91 :: (grpB A m ++ ((barA c).data.toList ++ [93])) ∧ s.size ≤ 5300) ∧ Below w.heap.size w w' := by
  have HT := Lib.hid (head_env #[.int .i64 13, .int .i64 i, .int .i64 ee, .int .i64 (m : Int), .int .i64 x, .int .i64 y] 65 hS hs (m : Int))
  have HGR : Hid ((textV A F X (m : Int)).1.data.toList = grpB A m) := Lib.hid (by rw [text_ok hs h1 h2]; exact join_grp A m)
  by_cases hce : c.data.toList = []
  · have hq : c.toList.isEmpty = true := by rw [Lib.toList_data, hce]; rfl
    have HBA : Hid (barA c = c) := Lib.hid (by unfold barA; rw [if_pos hce])
    clear hce
    clear hs hS h1 h2
    go_enter Tryz.func70, Tryz.ntmps70
    go_wp2_with fail
    refine (HT.out).mono ?_
    rintro e w1 ⟨⟨t, z1, rfl, ht, htz⟩, HB, q0, q2, hn⟩
    have y0 := Lib.cell_of_heap hn 0
    have y1 := Lib.cell_of_heap hn 1
    have y2 := Lib.cell_of_heap hn 2
    have y3 := Lib.cell_of_heap hn 3
    simp only [List.getElem?_toArray, List.getElem?_cons_succ, List.getElem?_cons_zero] at y0 y1 y2 y3
    clear hn HT
    have l1 : (⟨#[67, 91]⟩ : ByteArray).size = 2 := rfl
    have l2 : (⟨#[93]⟩ : ByteArray).size = 1 := rfl
    have l3 : (⟨#[124]⟩ : ByteArray).size = 1 := rfl
    have g218 : (⟨#[67, 91]⟩ ++ t : ByteArray).size ≤ 202 := by simp only [ByteArray.size_append]; omega
    have g5224 : (⟨#[67, 91]⟩ ++ t ++ c : ByteArray).size ≤ 5203 := by simp only [ByteArray.size_append]; omega
    have g5236 : (⟨#[67, 91]⟩ ++ t ++ c ++ ⟨#[93]⟩ : ByteArray).size ≤ 5204 := by simp only [ByteArray.size_append]; omega
    go_wp2
    go_ret
    exact ⟨⟨_, rfl, by rw [ht.out, HBA.out]; simp [HGR.out], by simp only [ByteArray.size_append]; omega⟩, HB.out⟩
  · have hq : c.toList.isEmpty = false := by rw [Lib.toList_data, List.isEmpty_eq_false_iff]; exact hce
    have HBA : Hid (barA c = ⟨#[124]⟩ ++ c) := Lib.hid (by unfold barA; rw [if_neg hce])
    clear hce
    clear hs hS h1 h2
    go_enter Tryz.func70, Tryz.ntmps70
    go_wp2_with fail
    refine (HT.out).mono ?_
    rintro e w1 ⟨⟨t, z1, rfl, ht, htz⟩, HB, q0, q2, hn⟩
    have y0 := Lib.cell_of_heap hn 0
    have y1 := Lib.cell_of_heap hn 1
    have y2 := Lib.cell_of_heap hn 2
    have y3 := Lib.cell_of_heap hn 3
    simp only [List.getElem?_toArray, List.getElem?_cons_succ, List.getElem?_cons_zero] at y0 y1 y2 y3
    clear hn HT
    have l1 : (⟨#[67, 91]⟩ : ByteArray).size = 2 := rfl
    have l2 : (⟨#[93]⟩ : ByteArray).size = 1 := rfl
    have l3 : (⟨#[124]⟩ : ByteArray).size = 1 := rfl
    have g9 : ((⟨#[124]⟩ : ByteArray) ++ c).size ≤ 5001 := by simp only [ByteArray.size_append]; omega
    have g218 : (⟨#[67, 91]⟩ ++ t : ByteArray).size ≤ 202 := by simp only [ByteArray.size_append]; omega
    have g5238 : (⟨#[67, 91]⟩ ++ t ++ (⟨#[124]⟩ ++ c) : ByteArray).size ≤ 5203 := by simp only [ByteArray.size_append]; omega
    have g5250 : (⟨#[67, 91]⟩ ++ t ++ (⟨#[124]⟩ ++ c) ++ ⟨#[93]⟩ : ByteArray).size ≤ 5204 := by simp only [ByteArray.size_append]; omega
    go_wp2
    go_ret
    exact ⟨⟨_, rfl, by rw [ht.out, HBA.out]; simp [HGR.out], by simp only [ByteArray.size_append]; omega⟩, HB.out⟩
set_option maxRecDepth 100000 in
set_option maxHeartbeats 2000000 in
theorem head_14 (a0 : Option Addr) (n0 c0 : Nat) (a1 : Option Addr) (n1 c1 : Nat) (a2 : Option Addr) (n2 c2 : Nat) (A F X : List ByteArray) (w : World) (hS : SigR w w.heap.size (sv a0 n0 c0 a1 n1 c1 a2 n2 c2) A F X) (hs : sigErr A F X = 0) (k : Nat) (ee g x y : Int) (c : ByteArray) (hk : k < n0) (hc : c.size ≤ 5000) :
    Calls Tryz.prog 70 #[.agg #[.slice a0 n0 c0, .slice a1 n1 c1, .slice a2 n2 c2], .agg #[.int .i64 14, .int .i64 (k : Int), .int .i64 ee, .int .i64 g, .int .i64 x, .int .i64 y], .string c] w fun e w' => (∃ s : ByteArray, e = .returned (.string s) ∧ s.data.toList = 66 :: 91 :: ((A.getD k ByteArray.empty).data.toList ++ ((barA c).data.toList ++ [93])) ∧ s.size ≤ 5300) ∧ Below w.heap.size w w' := by
  have HT := Lib.hid (head_env #[.int .i64 14, .int .i64 (k : Int), .int .i64 ee, .int .i64 g, .int .i64 x, .int .i64 y] 65 hS hs g)
  obtain ⟨_, _, _, _, _, _, _, _, _, esv, s0, s1, s2⟩ := hS
  injection esv with esv
  have esv := congrArg Array.toList esv
  simp only [List.cons.injEq, Value.slice.injEq, and_true] at esv
  obtain ⟨⟨rfl, rfl, rfl⟩, ⟨rfl, rfl, rfl⟩, ⟨rfl, rfl, rfl⟩⟩ := esv
  have hln := s0.1.str_len
  obtain ⟨ad, hA, hb2, hc2⟩ := s0.1.str_at hk
  have hz : (A.getD k ByteArray.empty).size ≤ 8 := sig_size hs _ (by rw [List.getD_eq_getElem?_getD, List.getElem?_eq_getElem (by omega)]; simp)
  have HKC : Hid (∀ W, Below w.heap.size w W → W.cell? (ad.add k) = some (.string (A.getD k ByteArray.empty))) := Lib.hid (fun W hW => (hW.cell (p := ad.add k) (by rw [block_of_add]; exact hb2)).trans hc2)
  rw [hA] at HT
  rw [hA]
  have HLZ : Hid (∃ z, A.getD k ByteArray.empty = z) := Lib.hid ⟨_, rfl⟩
  obtain ⟨z, hzz⟩ := HLZ.out
  rw [hzz] at HKC hz
  have HZ := Lib.hid hzz
  clear s0 s1 s2 hln hc2 hzz hb2 hA esv
  by_cases hce : c.data.toList = []
  · have hq : c.toList.isEmpty = true := by rw [Lib.toList_data, hce]; rfl
    have HBA : Hid (barA c = c) := Lib.hid (by unfold barA; rw [if_pos hce])
    clear hce
    clear hs
    go_enter Tryz.func70, Tryz.ntmps70
    go_wp2_with fail
    refine (HT.out).mono ?_
    rintro e w1 ⟨⟨t, z1, rfl, ht, htz⟩, HB, q0, q2, hn⟩
    have y0 := Lib.cell_of_heap hn 0
    have y1 := Lib.cell_of_heap hn 1
    have y2 := Lib.cell_of_heap hn 2
    have y3 := Lib.cell_of_heap hn 3
    simp only [List.getElem?_toArray, List.getElem?_cons_succ, List.getElem?_cons_zero] at y0 y1 y2 y3
    have hcz := HKC.out w1 HB.out
    clear hn HT HKC
    have l1 : (⟨#[66, 91]⟩ : ByteArray).size = 2 := rfl
    have l2 : (⟨#[93]⟩ : ByteArray).size = 1 := rfl
    have l3 : (⟨#[124]⟩ : ByteArray).size = 1 := rfl
    have g26 : (⟨#[66, 91]⟩ ++ z : ByteArray).size ≤ 10 := by simp only [ByteArray.size_append]; omega
    have g5032 : (⟨#[66, 91]⟩ ++ z ++ c : ByteArray).size ≤ 5011 := by simp only [ByteArray.size_append]; omega
    have g5044 : (⟨#[66, 91]⟩ ++ z ++ c ++ ⟨#[93]⟩ : ByteArray).size ≤ 5012 := by simp only [ByteArray.size_append]; omega
    go_wp2
    go_ret
    exact ⟨⟨_, rfl, by rw [← HZ.out, HBA.out]; simp, by simp only [ByteArray.size_append]; omega⟩, HB.out⟩
  · have hq : c.toList.isEmpty = false := by rw [Lib.toList_data, List.isEmpty_eq_false_iff]; exact hce
    have HBA : Hid (barA c = ⟨#[124]⟩ ++ c) := Lib.hid (by unfold barA; rw [if_neg hce])
    clear hce
    clear hs
    go_enter Tryz.func70, Tryz.ntmps70
    go_wp2_with fail
    refine (HT.out).mono ?_
    rintro e w1 ⟨⟨t, z1, rfl, ht, htz⟩, HB, q0, q2, hn⟩
    have y0 := Lib.cell_of_heap hn 0
    have y1 := Lib.cell_of_heap hn 1
    have y2 := Lib.cell_of_heap hn 2
    have y3 := Lib.cell_of_heap hn 3
    simp only [List.getElem?_toArray, List.getElem?_cons_succ, List.getElem?_cons_zero] at y0 y1 y2 y3
    have hcz := HKC.out w1 HB.out
    clear hn HT HKC
    have l1 : (⟨#[66, 91]⟩ : ByteArray).size = 2 := rfl
    have l2 : (⟨#[93]⟩ : ByteArray).size = 1 := rfl
    have l3 : (⟨#[124]⟩ : ByteArray).size = 1 := rfl
    have g9 : ((⟨#[124]⟩ : ByteArray) ++ c).size ≤ 5001 := by simp only [ByteArray.size_append]; omega
    have g26 : (⟨#[66, 91]⟩ ++ z : ByteArray).size ≤ 10 := by simp only [ByteArray.size_append]; omega
    have g5046 : (⟨#[66, 91]⟩ ++ z ++ (⟨#[124]⟩ ++ c) : ByteArray).size ≤ 5011 := by simp only [ByteArray.size_append]; omega
    have g5058 : (⟨#[66, 91]⟩ ++ z ++ (⟨#[124]⟩ ++ c) ++ ⟨#[93]⟩ : ByteArray).size ≤ 5012 := by simp only [ByteArray.size_append]; omega
    go_wp2
    go_ret
    exact ⟨⟨_, rfl, by rw [← HZ.out, HBA.out]; simp, by simp only [ByteArray.size_append]; omega⟩, HB.out⟩
set_option maxRecDepth 100000 in
set_option maxHeartbeats 2000000 in
theorem head_17 (a0 : Option Addr) (n0 c0 : Nat) (a1 : Option Addr) (n1 c1 : Nat) (a2 : Option Addr) (n2 c2 : Nat) (A F X : List ByteArray) (w : World) (hS : SigR w w.heap.size (sv a0 n0 c0 a1 n1 c1 a2 n2 c2) A F X) (hs : sigErr A F X = 0) (k d : Nat) (g x y : Int) (hk : k < n2) (hd : d < 8) :
    Calls Tryz.prog 70 #[.agg #[.slice a0 n0 c0, .slice a1 n1 c1, .slice a2 n2 c2], .agg #[.int .i64 17, .int .i64 (k : Int), .int .i64 (d : Int), .int .i64 g, .int .i64 x, .int .i64 y], .string ⟨#[]⟩] w fun e w' => (∃ s : ByteArray, e = .returned (.string s) ∧ s.data.toList = headB A X ⟨17, k, d, g, x, y⟩ ∧ s.size ≤ 300) ∧ Below w.heap.size w w' := by
  have HT := Lib.hid (head_env #[.int .i64 17, .int .i64 (k : Int), .int .i64 (d : Int), .int .i64 g, .int .i64 x, .int .i64 y] 65 hS hs g)
  obtain ⟨_, _, _, _, _, _, _, _, _, esv, s0, s1, s2⟩ := hS
  injection esv with esv
  have esv := congrArg Array.toList esv
  simp only [List.cons.injEq, Value.slice.injEq, and_true] at esv
  obtain ⟨⟨rfl, rfl, rfl⟩, ⟨rfl, rfl, rfl⟩, ⟨rfl, rfl, rfl⟩⟩ := esv
  have hln := s2.1.str_len
  obtain ⟨ad, hA, hb2, hc2⟩ := s2.1.str_at hk
  have hz : (X.getD k ByteArray.empty).size ≤ 8 := sig_size hs _ (by rw [List.getD_eq_getElem?_getD, List.getElem?_eq_getElem (by omega)]; simp)
  have HKC : Hid (∀ W, Below w.heap.size w W → W.cell? (ad.add k) = some (.string (X.getD k ByteArray.empty))) := Lib.hid (fun W hW => (hW.cell (p := ad.add k) (by rw [block_of_add]; exact hb2)).trans hc2)
  rw [hA] at HT
  rw [hA]
  have HLZ : Hid (∃ z, X.getD k ByteArray.empty = z) := Lib.hid ⟨_, rfl⟩
  obtain ⟨z, hzz⟩ := HLZ.out
  rw [hzz] at HKC hz
  have HZ := Lib.hid hzz
  clear s0 s1 s2 hln hc2 hzz hb2 hA esv
  have HIT := Lib.hid (fun W => (qItoa_any d hd W).mono (fun e w' ⟨h8, h9⟩ => (⟨h8, h9.symm⟩ : e = _ ∧ W = w')))
  clear hs
  go_enter Tryz.func70, Tryz.ntmps70
  go_wp2_with fail
  refine (HT.out).mono ?_
  rintro e w1 ⟨⟨t, z1, rfl, ht, htz⟩, HB, q0, q2, hn⟩
  have y0 := Lib.cell_of_heap hn 0
  have y1 := Lib.cell_of_heap hn 1
  have y2 := Lib.cell_of_heap hn 2
  have y3 := Lib.cell_of_heap hn 3
  simp only [List.getElem?_toArray, List.getElem?_cons_succ, List.getElem?_cons_zero] at y0 y1 y2 y3
  have hcz := HKC.out w1 HB.out
  clear hn HT HKC
  have l1 : (⟨#[91]⟩ : ByteArray).size = 1 := rfl
  have l2 : (⟨#[93]⟩ : ByteArray).size = 1 := rfl
  have l3 : (⟨#[46]⟩ : ByteArray).size = 1 := rfl
  have l4 : (digW d).size = 1 := rfl
  obtain ⟨dg, hdg⟩ : ∃ s, digW d = s := ⟨_, rfl⟩
  rw [hdg] at HIT l4
  have HDG := Lib.hid hdg
  clear hdg
  have g21 : (⟨#[91]⟩ ++ z : ByteArray).size ≤ 9 := by simp only [ByteArray.size_append]; omega
  have g33 : (⟨#[91]⟩ ++ z ++ ⟨#[46]⟩ : ByteArray).size ≤ 10 := by simp only [ByteArray.size_append]; omega
  have g40 : (⟨#[91]⟩ ++ z ++ ⟨#[46]⟩ ++ dg : ByteArray).size ≤ 11 := by simp only [ByteArray.size_append]; omega
  have g52 : (⟨#[91]⟩ ++ z ++ ⟨#[46]⟩ ++ dg ++ ⟨#[93]⟩ : ByteArray).size ≤ 12 := by simp only [ByteArray.size_append]; omega
  go_wp2_with fail
  go_quiet (first | (go_at_call 59; exact quiet_same (HIT.out _)))
  go_wp2
  go_ret
  exact ⟨⟨_, rfl, by rw [← HZ.out, ← HDG.out]; simp [headB], by simp only [ByteArray.size_append]; omega⟩, below_drewN HB.out _⟩
set_option maxRecDepth 100000 in
set_option maxHeartbeats 2000000 in
theorem head_18 (a0 : Option Addr) (n0 c0 : Nat) (a1 : Option Addr) (n1 c1 : Nat) (a2 : Option Addr) (n2 c2 : Nat) (A F X : List ByteArray) (w : World) (hS : SigR w w.heap.size (sv a0 n0 c0 a1 n1 c1 a2 n2 c2) A F X) (hs : sigErr A F X = 0) (i ee g x y : Int) :
    Calls Tryz.prog 70 #[.agg #[.slice a0 n0 c0, .slice a1 n1 c1, .slice a2 n2 c2], .agg #[.int .i64 18, .int .i64 i, .int .i64 ee, .int .i64 g, .int .i64 x, .int .i64 y], .string ⟨#[]⟩] w fun e w' => (∃ s : ByteArray, e = .returned (.string s) ∧ s.data.toList = headB A X ⟨18, i, ee, g, x, y⟩ ∧ s.size ≤ 300) ∧ Below w.heap.size w w' := by
  have HT := Lib.hid (head_env #[.int .i64 18, .int .i64 i, .int .i64 ee, .int .i64 g, .int .i64 x, .int .i64 y] 65 hS hs g)
  clear hs hS
  go_enter Tryz.func70, Tryz.ntmps70
  go_wp2_with fail
  refine (HT.out).mono ?_
  rintro e w1 ⟨⟨t, z1, rfl, ht, htz⟩, HB, q0, q2, hn⟩
  have y0 := Lib.cell_of_heap hn 0
  have y1 := Lib.cell_of_heap hn 1
  have y2 := Lib.cell_of_heap hn 2
  have y3 := Lib.cell_of_heap hn 3
  simp only [List.getElem?_toArray, List.getElem?_cons_succ, List.getElem?_cons_zero] at y0 y1 y2 y3
  clear hn HT
  go_wp2
  go_ret
  exact ⟨⟨_, rfl, rfl, by decide⟩, HB.out⟩
set_option maxRecDepth 100000 in
set_option maxHeartbeats 2000000 in
theorem head_20 (a0 : Option Addr) (n0 c0 : Nat) (a1 : Option Addr) (n1 c1 : Nat) (a2 : Option Addr) (n2 c2 : Nat) (A F X : List ByteArray) (w : World) (hS : SigR w w.heap.size (sv a0 n0 c0 a1 n1 c1 a2 n2 c2) A F X) (hs : sigErr A F X = 0) (i ee g x y : Int) :
    Calls Tryz.prog 70 #[.agg #[.slice a0 n0 c0, .slice a1 n1 c1, .slice a2 n2 c2], .agg #[.int .i64 20, .int .i64 i, .int .i64 ee, .int .i64 g, .int .i64 x, .int .i64 y], .string ⟨#[]⟩] w fun e w' => (∃ s : ByteArray, e = .returned (.string s) ∧ s.data.toList = headB A X ⟨20, i, ee, g, x, y⟩ ∧ s.size ≤ 300) ∧ Below w.heap.size w w' := by
  have HT := Lib.hid (head_env #[.int .i64 20, .int .i64 i, .int .i64 ee, .int .i64 g, .int .i64 x, .int .i64 y] 65 hS hs g)
  clear hs hS
  go_enter Tryz.func70, Tryz.ntmps70
  go_wp2_with fail
  refine (HT.out).mono ?_
  rintro e w1 ⟨⟨t, z1, rfl, ht, htz⟩, HB, q0, q2, hn⟩
  have y0 := Lib.cell_of_heap hn 0
  have y1 := Lib.cell_of_heap hn 1
  have y2 := Lib.cell_of_heap hn 2
  have y3 := Lib.cell_of_heap hn 3
  simp only [List.getElem?_toArray, List.getElem?_cons_succ, List.getElem?_cons_zero] at y0 y1 y2 y3
  clear hn HT
  go_wp2
  go_ret
  exact ⟨⟨_, rfl, rfl, by decide⟩, HB.out⟩
end Go.Proofs.YtenbhalnpiahaaaGreatDoor
