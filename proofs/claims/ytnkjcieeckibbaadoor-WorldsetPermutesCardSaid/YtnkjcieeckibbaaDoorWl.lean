/- Contracts: the program's numbersOf and Parse. -/
import Derived.Test.YtnkjcieeckibbaaDoorWk
import Derived.Test.YtnkjcieeckibbaaDoorBm5
import Derived.SliceStrings
namespace Go.Proofs.YtnkjcieeckibbaaDoor
open Go.RowKit Go.Proofs.Ws
/-- what the calls ask of the world: the table of trailing zeros, and an int in the variable of the library's searches -/
def Env (w : World) : Prop := Tab w ∧ (∃ m, w.cell? ⟨2, 0, none⟩ = some (.int .i64 m)) ∧ 2 < w.heap.size
theorem Env.belowAt {B : Nat} {w w' : World} (h : Env w) (hb : Below B w w') (hB : 2 < B) : Env w' := by
  obtain ⟨h1, ⟨m, hm⟩, h3⟩ := h
  exact ⟨h1.belowAt hb (by omega), ⟨m, (hb.cell (p := ⟨2, 0, none⟩) hB).trans hm⟩, Nat.lt_of_lt_of_le h3 hb.size⟩
theorem Env.below {w w' : World} (h : Env w) (hb : Below w.heap.size w w') : Env w' := h.belowAt hb h.2.2
/-- the numbers of some pieces, if all are -/
def numsL : List (List UInt8) → Option (List Nat)
  | [] => some []
  | p :: ps => match numV p with
    | none => none
    | some n => (numsL ps).map (n :: ·)
/-- the numbers between the braces, if the text has the form -/
def numsV (p : List UInt8) : Option (List Nat) :=
  if Lib.hasPrefix p [123] = true ∧ Lib.hasSuffix (Lib.trimPrefix p [123]) [125] = true then
    (if Lib.trimSuffix (Lib.trimPrefix p [123]) [125] = [] then some [] else numsL (sp (Lib.trimSuffix (Lib.trimPrefix p [123]) [125])))
  else none
/-- what numbersOf hands back -/
def GivesNums (o : Option (List Nat)) (w : World) (e : Ending) (w' : World) : Prop :=
  Below w.heap.size w w' ∧ ((o = none ∧ e = .returned (.tuple #[.slice none 0 0, .bool false])) ∨
    ∃ l A c, o = some l ∧ e = .returned (.tuple #[.slice A l.length c, .bool true]) ∧ Reads w' w'.heap.size 1 A l.length (iv l))
set_option maxRecDepth 100000 in
set_option maxHeartbeats 3200000 in
theorem numbersOf_any (t : ByteArray) (w : World) (hbig : t.size ≤ 1000000) (hE : Env w) :
    Calls Tryd.prog 72 #[.string t] w (GivesNums (numsV t.data.toList) w) := by
  have H1 := Lib.hid (Tryd.strings_CutPrefix t ⟨#[123]⟩ w)
  obtain ⟨t1, ht1⟩ : ∃ t1 : ByteArray, t1 = ⟨(Lib.trimPrefix t.data.toList [123]).toArray⟩ := ⟨_, rfl⟩
  have hs1 : t1.size ≤ t.size := by
    rw [ba_size, ba_size, ht1]
    simp only [Lib.trimPrefix]
    split <;> simp
  have H2 := Lib.hid (Tryd.strings_CutSuffix t1 ⟨#[125]⟩ w (by omega))
  obtain ⟨t2, ht2⟩ : ∃ t2 : ByteArray, t2 = ⟨(Lib.trimSuffix t1.data.toList [125]).toArray⟩ := ⟨_, rfl⟩
  have hs2 : t2.size ≤ t1.size := by
    rw [ba_size, ba_size, ht2]
    simp only [Lib.trimSuffix]
    split <;> simp
  obtain ⟨b1, hb1⟩ : ∃ b, b = Lib.hasPrefix t.data.toList [123] := ⟨_, rfl⟩
  obtain ⟨b2, hb2⟩ : ∃ b, b = Lib.hasSuffix t1.data.toList [125] := ⟨_, rfl⟩
  have e1 : t1.data.toList = Lib.trimPrefix t.data.toList [123] := by rw [ht1]
  have e2 : t2.data.toList = Lib.trimSuffix t1.data.toList [125] := by rw [ht2]
  have HV : Hid (numsV t.data.toList = if b1 = true ∧ b2 = true then (if t2.data.toList = [] then some [] else numsL (sp t2.data.toList)) else none) := Lib.hid (by
    unfold numsV
    rw [e2, e1, hb1, hb2, e1])
  have H1' : Hid (Calls Tryd.prog 108 #[.string t, .string ⟨#[123]⟩] w fun e w' => e = .returned (.tuple #[.string t1, .bool b1]) ∧ w = w') := Lib.hid (H1.out.mono fun _ _ ⟨h, h'⟩ => ⟨by rw [h, ht1, hb1], h'.symm⟩)
  have H2' : Hid (Calls Tryd.prog 109 #[.string t1, .string ⟨#[125]⟩] w fun e w' => e = .returned (.tuple #[.string t2, .bool b2]) ∧ w = w') := Lib.hid (H2.out.mono fun _ _ ⟨h, h'⟩ => ⟨by rw [h, ht2, hb2], h'.symm⟩)
  have HE := Lib.hid hE
  clear H1 H2 hE e1 e2 ht1 ht2 hb1 hb2
  cases b1
  · have HR : Hid (numsV t.data.toList = none) := Lib.hid (by rw [HV.out]; rfl)
    clear HV
    go_enter Tryd.func72, Tryd.ntmps72
    go_wp2_with (first | (go_at_call 108; refine (H1'.out).mono ?_; rintro e w' ⟨rfl, rfl⟩) | (go_at_call 109; refine (H2'.out).mono ?_; rintro e w' ⟨rfl, rfl⟩))
    go_ret2
    exact ⟨Below.refl _ _, .inl ⟨HR.out, rfl⟩⟩
  · cases b2
    · have HR : Hid (numsV t.data.toList = none) := Lib.hid (by rw [HV.out]; rfl)
      clear HV
      go_enter Tryd.func72, Tryd.ntmps72
      go_wp2_with (first | (go_at_call 108; refine (H1'.out).mono ?_; rintro e w' ⟨rfl, rfl⟩) | (go_at_call 109; refine (H2'.out).mono ?_; rintro e w' ⟨rfl, rfl⟩))
      go_ret2
      exact ⟨Below.refl _ _, .inl ⟨HR.out, rfl⟩⟩
    · by_cases hem : t2.toList = []
      · have HR : Hid (numsV t.data.toList = some []) := Lib.hid (by rw [HV.out, if_pos ⟨rfl, rfl⟩, if_pos (by rw [← Lib.toList_data]; exact hem)])
        clear HV
        go_enter Tryd.func72, Tryd.ntmps72
        go_wp2_with (first | (go_at_call 108; refine (H1'.out).mono ?_; rintro e w' ⟨rfl, rfl⟩) | (go_at_call 109; refine (H2'.out).mono ?_; rintro e w' ⟨rfl, rfl⟩))
        go_ret2
        exact ⟨Below.refl _ _, .inr ⟨[], none, 0, HR.out, rfl, Reads.none_⟩⟩
      · have HR : Hid (numsV t.data.toList = numsL (sp t2.data.toList)) := Lib.hid (by rw [HV.out, if_pos ⟨rfl, rfl⟩, if_neg (by rw [← Lib.toList_data]; exact hem)])
        clear HV
        obtain ⟨m, hm⟩ := HE.out.2.1
        have hie : t2.toList.isEmpty = false := by
          cases h : t2.toList with
          | nil => exact absurd h hem
          | cons _ _ => rfl
        obtain ⟨P, hP⟩ : ∃ P, P = Lib.splitB ⟨#[32]⟩ 0 (Lib.countB t2 ⟨#[32]⟩) t2 := ⟨_, rfl⟩
        have hPl : P.length = Lib.countB t2 ⟨#[32]⟩ + 1 := by rw [hP]; exact Lib.splitB_all _ (by decide) 0 _ _ rfl
        have hPd : P.map (·.data.toList) = sp t2.data.toList := by rw [hP]; exact split_data t2
        have H3 : Hid (Calls Tryd.prog 110 #[.string t2, .string ⟨#[32]⟩] w fun e w' => e = .returned (.slice (some ⟨w.heap.size, 0, none⟩) P.length P.length) ∧ w' = w.alloc (.cells (P.map Value.string).toArray 9)) := Lib.hid (by
          rw [hPl, hP]
          exact Tryd.strings_Split t2 ⟨#[32]⟩ m w (by omega) hm (by decide))
        have hPn : P.length ≤ 1000001 := by
          have := Lib.countB_le ⟨#[32]⟩ (by decide) _ t2 (Nat.le_refl _)
          omega
        have HPD := Lib.hid hPd
        obtain ⟨i0, hi, hz0, hz1, hz2⟩ := info_parts Tryd.info3
        clear hm hP hPl hPd
        go_enter Tryd.func72, Tryd.ntmps72
        go_wp2_with (first | (go_at_call 108; refine (H1'.out).mono ?_; rintro e w' ⟨rfl, rfl⟩) | (go_at_call 109; refine (H2'.out).mono ?_; rintro e w' ⟨rfl, rfl⟩) | (go_at_call 110; refine (H3.out).mono ?_; rintro e w' ⟨rfl, rfl⟩))
        clear H1' H2' H3
        go_loopw [7, 33] (fun v i wr => ∃ (k : Nat) (L : List Nat), k ≤ P.length ∧ i = .int .i64 k ∧ L.length ≤ k ∧ wr.ownsRow (w.heap.size + 1) 3 1 v L.length (iv L) ∧ Below (w.heap.size + 1) (w.alloc (.cells (P.map Value.string).toArray 9)) wr ∧ Hid (numsL (P.map (·.data.toList)) = (numsL ((P.drop k).map (·.data.toList))).map (L ++ ·)))
          (fun _ i _ => P.length - (intOf i).toNat)
        case atStart => exact ⟨0, [], Nat.zero_le _, rfl, Nat.le_refl _, World.ownsRow_nil _ _ _ _, Below.refl _ _, Lib.hid (by simp)⟩
        case round =>
          obtain ⟨k, L, hk, rfl, hL, hown, hb, Hn⟩ := hrel
          have hbw : Below w.heap.size w wr := ((Below.refl _ _).alloc (Nat.le_refl _) _).trans (hb.mono (by omega))
          have HBW := Lib.hid hbw
          have hsz : w.heap.size + 1 ≤ wr.heap.size := by have := hb.size; simpa using this
          clear hbw
          by_cases hlt : k < P.length
          · obtain ⟨p, hp⟩ : ∃ p, P[k]? = some p := ⟨_, List.getElem?_eq_getElem hlt⟩
            have hc : wr.cell? ⟨w.heap.size, k, none⟩ = some (.string p) := by
              rw [hb.cell (by show w.heap.size < w.heap.size + 1; omega), Lib.cell_of_heap (heap_alloc_new w _)]
              simp [hp]
            have hpsz : p.size ≤ 1000000 := by
              have h1 : p.data.toList ∈ sp t2.data.toList := by rw [← HPD.out]; exact List.mem_map_of_mem (List.mem_of_getElem? hp)
              have h2 := sp_len _ _ h1
              have h3 := ba_size p
              have h4 := ba_size t2
              omega
            have HD : Hid ((P.drop k).map (·.data.toList) = p.data.toList :: (P.drop (k + 1)).map (·.data.toList)) := Lib.hid (by
              rw [List.drop_eq_getElem_cons hlt]
              rw [List.getElem?_eq_getElem hlt] at hp
              simp at hp
              rw [hp]; rfl)
            have HN := Lib.hid (numberOf_any p wr (by omega))
            clear hp
            cases hv : numV p.data.toList with
            | none =>
              have HR2 : Hid (numsV t.data.toList = none) := Lib.hid (by rw [HR.out, ← HPD.out, Hn.out, HD.out, numsL, hv]; rfl)
              rw [hv] at HN
              clear hv
              go_wp2_with fail
              refine (HN.out).mono ?_
              rintro e w2 ⟨rfl, hb2⟩
              have HB2 : Hid (Below w.heap.size w w2) := Lib.hid (HBW.out.trans (hb2.mono (by omega)))
              clear hb2
              go_wp2
              go_ret2
              exact ⟨HB2.out, .inl ⟨HR2.out, rfl⟩⟩
            | some n =>
              have HR2 : Hid (numsL (P.map (·.data.toList)) = (numsL ((P.drop (k + 1)).map (·.data.toList))).map ((L ++ [n]) ++ ·)) := Lib.hid (by
                rw [Hn.out, HD.out, numsL, hv]
                simp only [Option.map_map]
                congr 1
                funext x
                simp)
              rw [hv] at HN
              have HN' : Hid (Calls Tryd.prog 111 #[.string p] wr fun e w' => e = .returned (.tuple #[.int .i64 n, .bool true]) ∧ Below wr.heap.size wr w') := HN
              clear hv HN
              go_wp2_with fail
              refine (HN'.out).mono ?_
              rintro e w2 ⟨rfl, hb2⟩
              have hown2 := own_below hown hb2
              have hb3 : Below (w.heap.size + 1) (w.alloc (.cells (P.map Value.string).toArray 9)) w2 := hb.trans (hb2.mono hsz)
              have hsz2 : w.heap.size + 1 ≤ w2.heap.size := Nat.le_trans hsz hb2.size
              clear hb2 hown hb
              go_wp2_with (at_builtin; refine wpList_append_own _ rfl _ _ 22 rfl (w.heap.size + 1) 3 i0 (.int .i64 0) 1 8 Tryd.underlying22 hi hz0 hz1 hz2 rfl (by decide) _ _ _ rfl (hown2.alloc _) ⟨w2.heap.size, 0, none⟩ 1 1 [.int .i64 n] rfl rfl ?c1 ?c2 ?c3 ?c4 ?c5 ?_)
              case c1 =>
                intro j u hj
                match j, hj with
                | 0, hj => simp at hj; subst hj; simp [Addr.add]
              case c2 => intro u hu; simp at hu; subst hu; rfl
              case c3 => unfold maxLen; omega
              case c4 => omega
              case c5 => simp; omega
              · intro v' w3 hown' hgrow _
                have hb4 : Below (w.heap.size + 1) (w.alloc (.cells (P.map Value.string).toArray 9)) w3 := (hb3.alloc (by omega) _).grown hgrow (by simp; omega) (fun j hj => by have := (hown2.lt j hj).1; omega)
                clear hgrow hown2 hb3
                go_wp2
                go_roundw
                case rel => exact ⟨k + 1, L ++ [n], by omega, by go_num, by rw [List.length_append]; simp; omega, by rw [iv_append, List.length_append]; exact hown', hb4, HR2⟩
                case measure => simp [intOf]; omega
          · have HR2 : Hid (numsV t.data.toList = some L) := Lib.hid (by rw [HR.out, ← HPD.out, Hn.out, List.drop_eq_nil_of_le (by omega)]; simp [numsL])
            obtain ⟨A, c, rfl, hRd⟩ := own_reads hown
            have HRD := Lib.hid hRd
            clear hRd hown hb
            go_wp2
            go_ret2
            exact ⟨HBW.out, .inr ⟨L, A, c, HR2.out, rfl, HRD.out⟩⟩
end Go.Proofs.YtnkjcieeckibbaaDoor
