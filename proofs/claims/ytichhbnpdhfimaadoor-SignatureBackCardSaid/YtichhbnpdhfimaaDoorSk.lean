/- Layer 4: strings.Join and strings.Split off the shelf. -/
import Derived.Test.YtichhbnpdhfimaaDoorSj
import Derived.Shelf.Strings.OnBuilder
import Derived.Shelf.Strings.SplitShaped
import Derived.Shelf.Lay
namespace Go.Proofs
open Go.Shelf
shelf_lay Lays.n146 Nm 146 at Tryd as Tryd.laysSplit
shelf_lay Lays.n156 Nm 156 at Tryd as Tryd.laysJoin
end Go.Proofs
namespace Go.Proofs
open Go.Shelf
theorem Tryd.joinExtra : Builder.Extra Tryd.prog Tryd.laysJoin_ren := {
  sizeBuilder := by kernel_rfl
  liesBuilder := by kernel_rfl
  t5 := Tryd.underlying5
  a5 := Tryd.isAgg5
  z5 := Tryd.sizeOf5
  v5 := Tryd.zeroValue5
  infoByte := by kernel_rfl
  cellsByte := by kernel_rfl
  sizeByte := by kernel_rfl
  neB5 := by decide }
end Go.Proofs
namespace Go.Proofs.YtichhbnpdhfimaaDoor
open Go.RowKit Go.Proofs.Ws
theorem pJoin_any (l : List ByteArray) (v : Value) (B : Nat) (e : TypeId) (n : Nat) (w : World) (h : w.ownsRow B e 1 v n (ss l)) (hn : 1 ≤ n) (hN : n ≤ 1000)
    (hlen : (Lib.join (l.map (·.data.toList)) [44]).length ≤ 140737488355328) :
    Calls Tryd.prog 71 #[v, .string ⟨#[44]⟩] w fun e w' => e = .returned (.string (joinV l)) ∧ Below w.heap.size w w' := by
  obtain ⟨A, c, rfl, hnc, _, _, hR⟩ := own_reads2 h
  have hl := hR.str_len
  rcases h.2 with ⟨h0, h1⟩ | ⟨g, cap, cur, h0, _, hg, _⟩
  · omega
  · injection h0 with h2 h3 h4
    subst h2
    obtain ⟨ad, hA, hb, hc⟩ := hR.2 (by omega)
    injection hA with hA
    subst hA
    have hlt : g < w.heap.size := hb
    refine (hl ▸ Any.strings_Join Tryd.laysJoin Tryd.joinExtra g 0 c l ⟨#[44]⟩ w (fun j x hx => ?_) hlt (by omega) (by omega) hlen : Calls Tryd.prog 71 #[.slice (some ⟨g, 0, none⟩) n c, .string ⟨#[44]⟩] w _)
    have := hc j (.string x) (by unfold ss; rw [List.getElem?_map, hx]; rfl)
    rw [addr0] at this
    rw [Nat.zero_add]
    exact this
theorem pSplit_any (t : ByteArray) (w : World) (ht : t.size ≤ 1000000) (hE : EnvS w) :
    Calls Tryd.prog 49 #[.string t, .string ⟨#[44]⟩] w fun e w' => e = .returned (.slice (some ⟨w.heap.size, 0, none⟩) (partsB t).length (partsB t).length) ∧ w' = w.alloc (.cells (ss (partsB t)).toArray 9) := by
  obtain ⟨_, _, _, _, ⟨m, hm⟩, _⟩ := hE
  have hP := split_parts t
  have hPl : (partsB t).length = Lib.countB t ⟨#[44]⟩ + 1 := by rw [← hP]; exact Lib.splitB_all _ (by decide) 0 _ _ rfl
  have := Any.strings_Split Tryd.laysSplit (by kernel_rfl) t ⟨#[44]⟩ m w (by omega) hm (by decide)
  rw [hP, ← hPl] at this
  exact this
theorem parts_reads (t : ByteArray) (w : World) (T : TypeId) : Reads (w.alloc (.cells (ss (partsB t)).toArray T)) (w.alloc (.cells (ss (partsB t)).toArray T)).heap.size 1 (some ⟨w.heap.size, 0, none⟩) (partsB t).length (ss (partsB t)) :=
  ⟨by rw [ss_length]; omega, fun _ => ⟨_, rfl, by simp, fun j u hu => by
    rw [addr0, Lib.cell_of_heap (heap_alloc_new w _)]
    simpa using hu⟩⟩
theorem parts_size (t : ByteArray) : ∀ x ∈ partsB t, x.size ≤ t.size := by
  intro x hx
  unfold partsB at hx
  obtain ⟨p, hp, rfl⟩ := List.mem_map.1 hx
  have := sp_len _ p hp
  rw [ba_len] at this
  exact this
theorem sp_count (l : List UInt8) : (sp l).length ≤ l.length + 1 := by
  induction l with
  | nil => simp [sp]
  | cons c r ih =>
    unfold sp
    split
    · simp; omega
    · split
      · simp
      · rename_i p ps hq
        rw [hq] at ih
        simp at ih ⊢
        omega
theorem parts_count (t : ByteArray) : (partsB t).length ≤ t.size + 1 := by
  unfold partsB
  rw [List.length_map]
  have := sp_count t.data.toList
  rwa [ba_len] at this
end Go.Proofs.YtichhbnpdhfimaaDoor
