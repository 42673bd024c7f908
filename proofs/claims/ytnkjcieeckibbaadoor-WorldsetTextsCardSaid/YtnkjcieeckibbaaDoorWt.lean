/- Contracts: the reference's number. -/
import Derived.Test.YtnkjcieeckibbaaDoorWn
namespace Go.Proofs.YtnkjcieeckibbaaDoor
open Go.RowKit Go.Proofs.Ws
/-- the digits at the beginning -/
def lead (p : List UInt8) : List UInt8 := p.takeWhile dg
/-- what the reference's number hands back at a place: the end and the value, or the place and 0 -/
def numAt (p : List UInt8) (a : Nat) : Nat × Nat :=
  match numV (lead (p.drop a)) with
  | some n => (a + (lead (p.drop a)).length, n)
  | none => (a, 0)
theorem lead_more (q : List UInt8) (k : Nat) (c : UInt8) (h : (q.take k).all dg = true) (hc : q[k]? = some c) (hd : dg c = true) : k + 1 ≤ (lead q).length ∧ (lead q)[0]? = q[0]? := by
  induction k generalizing q with
  | zero =>
    cases q with
    | nil => simp at hc
    | cons x q =>
      simp at hc
      subst hc
      simp [lead, hd]
  | succ k ih =>
    cases q with
    | nil => simp at hc
    | cons x q =>
      simp only [List.take_succ_cons, List.all_cons, Bool.and_eq_true] at h
      have := ih q h.2 (by simpa using hc)
      simp only [lead, List.takeWhile_cons, h.1, if_true, List.length_cons]
      refine ⟨by have := this.1; unfold lead at this; omega, by simp⟩
theorem lead_end (q : List UInt8) (k : Nat) (h : (q.take k).all dg = true) (hc : ∀ c, q[k]? = some c → dg c = false) : lead q = q.take k := by
  induction k generalizing q with
  | zero =>
    cases q with
    | nil => rfl
    | cons x q => simp [lead, hc x (by simp)]
  | succ k ih =>
    cases q with
    | nil => rfl
    | cons x q =>
      simp only [List.take_succ_cons, List.all_cons, Bool.and_eq_true] at h
      have := ih q h.2 (fun c hx => hc c (by simpa using hx))
      unfold lead at this ⊢
      rw [List.takeWhile_cons, if_pos h.1, this]
      rfl
/-- what the loop knows: nothing read; a single 0; or digits that begin with another one -/
def Seen (q : List UInt8) (k n : Nat) : Prop := (k = 0 ∧ n = 0) ∨ (k = 1 ∧ n = 0 ∧ q[0]? = some 48) ∨ (1 ≤ k ∧ 1 ≤ n ∧ q[0]? ≠ some 48)
theorem num_none_long (q : List UInt8) (h : 10 ≤ (lead q).length) : numV (lead q) = none := by
  unfold numV; rw [if_neg (by omega)]
theorem num_none_zero (q : List UInt8) (h : 2 ≤ (lead q).length) (h0 : (lead q)[0]? = some 48) : numV (lead q) = none := by
  unfold numV
  rw [if_neg]
  intro x
  have := x.2.2.1 (by rw [List.head?_eq_getElem?]; exact h0)
  rw [this] at h
  simp at h
theorem lead_all (q : List UInt8) : (lead q).all dg = true := by
  unfold lead
  induction q with
  | nil => rfl
  | cons x q ih =>
    rw [List.takeWhile_cons]
    split
    · rw [List.all_cons, ih]; simpa
    · rfl
theorem num_some (q : List UInt8) (k n : Nat) (hk : k ≤ 9) (hk1 : 1 ≤ k) (hl : lead q = q.take k) (hlen : (q.take k).length = k) (hs : Seen q k n) (hn : n = val (q.take k)) : numV (lead q) = some n := by
  have ha := lead_all q
  rw [hl] at ha ⊢
  unfold numV
  rw [if_pos, hn]
  refine ⟨fun e => by rw [e] at hlen; simp at hlen; omega, by omega, fun hh => ?_, ha⟩
  rw [List.head?_eq_getElem?, List.getElem?_take, if_pos (by omega)] at hh
  rcases hs with ⟨h1, _⟩ | ⟨h1, _, _⟩ | ⟨_, _, h3⟩
  · omega
  · subst h1
    cases q with
    | nil => simp at hh
    | cons x q => simp at hh; simp [hh]
  · exact absurd hh h3
theorem ret_num {p : List UInt8} {a x y : Nat} (h : numAt p a = (x, y)) : Ending.returned (.tuple #[.int .i64 (x : Int), .int .i64 (y : Int)]) = .returned (.tuple #[.int .i64 ((numAt p a).1 : Nat), .int .i64 ((numAt p a).2 : Nat)]) := by rw [h]
set_option maxRecDepth 100000 in
set_option maxHeartbeats 3200000 in
theorem number_any (t : ByteArray) (a : Nat) (w : World) (hbig : t.size ≤ 1000000) (ha : a ≤ t.size) :
    Calls Tryd.prog 112 #[.string t, .int .i64 a] w fun e w' => e = .returned (.tuple #[.int .i64 ((numAt t.data.toList a).1 : Nat), .int .i64 ((numAt t.data.toList a).2 : Nat)]) ∧ w = w' := by
  have hts := ba_size t
  have HTS := Lib.hid hts
  obtain ⟨q, hq⟩ : ∃ q, q = t.data.toList.drop a := ⟨_, rfl⟩
  have HQ := Lib.hid hq
  have HQL : Hid (q.length = t.size - a) := Lib.hid (by rw [hq, List.length_drop]; omega)
  have HN : Hid (numV (lead q) = none → numAt t.data.toList a = (a, 0)) := Lib.hid (fun h => by unfold numAt; rw [← hq, h])
  have HS' : Hid (∀ n, numV (lead q) = some n → numAt t.data.toList a = (a + (lead q).length, n)) := Lib.hid (fun n h => by unfold numAt; rw [← hq, h])
  clear hts hq
  go_enter Tryd.func112, Tryd.ntmps112
  go_wp2
  go_loop [6, 7] (fun iv nv => ∃ (k n : Nat), a + k ≤ t.size ∧ k ≤ 9 ∧ iv = .int .i64 ((a : Int) + (k : Int)) ∧ nv = .int .i64 n ∧ n ≤ 999999999 ∧ Hid (n = val (q.take k)) ∧ Hid ((q.take k).all dg = true) ∧ Hid (Seen q k n)) (fun iv _ => t.size - (intOf iv).toNat)
  case atStart => exact ⟨0, 0, by omega, by omega, by simp, rfl, by omega, Lib.hid rfl, Lib.hid rfl, Lib.hid (.inl ⟨rfl, rfl⟩)⟩
  case round =>
    obtain ⟨k, n, hk, hk9, rfl, rfl, hn, Hn, Ha, Hz⟩ := hrel
    have HEND : Hid ((∀ c, q[k]? = some c → dg c = false) → numAt t.data.toList a = (a + k, n)) := Lib.hid (fun hc => by
      have hl := lead_end q k Ha.out hc
      have hlen : (q.take k).length = k := by rw [List.length_take, HQL.out]; omega
      by_cases h0 : k = 0
      · subst h0
        rcases Hz.out with ⟨_, h2⟩ | ⟨h1, _⟩ | ⟨h1, _⟩
        · rw [h2]
          exact HN.out (by rw [hl]; rfl)
        · omega
        · omega
      · have := HS'.out n (num_some q k n hk9 (by omega) hl hlen Hz.out Hn.out)
        rw [this, hl, hlen])
    by_cases hlt : a + k < t.size
    · have hlt' : (a : Int) + (k : Int) < (t.size : Int) := by omega
      have hqk : q[k]? = some t[a + k] := by
        rw [HQ.out, List.getElem?_drop, List.getElem?_eq_getElem (by have := HTS.out; omega)]
        simp [ByteArray.getElem_eq_getElem_data]
      have hm : t[a + k].toNat < 256 := t[a + k].toNat_lt
      have HM : Hid (dg t[a + k] = (decide (48 ≤ t[a + k].toNat) && decide (t[a + k].toNat ≤ 57))) := Lib.hid rfl
      have HT : Hid (q.take (k + 1) = q.take k ++ [t[a + k]]) := Lib.hid (by rw [List.take_add_one, hqk]; rfl)
      have HQK := Lib.hid hqk
      clear hqk
      by_cases h48 : 48 ≤ t[a + k].toNat
      · by_cases h57 : t[a + k].toNat ≤ 57
        · have HD : Hid (dg t[a + k] = true) := Lib.hid (by rw [HM.out, decide_eq_true h48, decide_eq_true h57]; rfl)
          have HLM := Lib.hid (lead_more q k _ Ha.out HQK.out HD.out)
          have c48 : (48 : Int) ≤ (t[a + k].toNat : Int) := by omega
          have c57 : (t[a + k].toNat : Int) ≤ 57 := by omega
          by_cases hk9' : k = 9
          · have HE : Hid (numAt t.data.toList a = (a, 0)) := Lib.hid (HN.out (num_none_long q (by have := HLM.out.1; omega)))
            have e9 : ((a : Int) + (k : Int) - (a : Int) == 9) = true := by simp; omega
            clear hk9' h48 h57
            go_wp2
            go_ret2
            exact ⟨ret_num HE.out, rfl⟩
          · have e9 : ((a : Int) + (k : Int) - (a : Int) == 9) = false := by simp; omega
            by_cases hz1 : 1 ≤ k ∧ n = 0
            · obtain ⟨hz1, hz2⟩ := hz1
              have HE : Hid (numAt t.data.toList a = (a, 0)) := Lib.hid (HN.out (num_none_zero q (by have := HLM.out.1; omega) (by
                rw [HLM.out.2]
                rcases Hz.out with ⟨h1, _⟩ | ⟨_, _, h3⟩ | ⟨_, h2, _⟩
                · omega
                · exact h3
                · omega)))
              have hap : (a : Int) < (a : Int) + (k : Int) := by omega
              subst hz2
              clear hk9' h48 h57 hz1
              go_wp2
              go_ret2
              exact ⟨ret_num HE.out, rfl⟩
            · have HR : Hid (n * 10 + (t[a + k].toNat - 48) = val (q.take (k + 1))) := Lib.hid (by rw [HT.out, val_snoc, ← Hn.out]; omega)
              have HA2 : Hid ((q.take (k + 1)).all dg = true) := Lib.hid (by rw [HT.out, List.all_append, Ha.out]; simp [HD.out])
              have HZ2 : Hid (Seen q (k + 1) (n * 10 + (t[a + k].toNat - 48))) := Lib.hid (by
                rcases Hz.out with ⟨h1, h2⟩ | ⟨h1, h2, _⟩ | ⟨h1, h2, h3⟩
                · by_cases hc : t[a + k].toNat = 48
                  · refine .inr (.inl ⟨by omega, by omega, ?_⟩)
                    rw [show q[0]? = q[k]? from by rw [h1], HQK.out]
                    congr 1
                    exact UInt8.toNat_inj.1 hc
                  · refine .inr (.inr ⟨by omega, by omega, ?_⟩)
                    rw [show q[0]? = q[k]? from by rw [h1], HQK.out]
                    intro e
                    injection e with e
                    exact hc (by rw [e]; rfl)
                · exact absurd ⟨by omega, h2⟩ hz1
                · exact .inr (.inr ⟨by omega, by omega, h3⟩))
              have hn9 : n ≤ 99999999 := by
                have h1 := val_lt _ Ha.out
                have h2 : (q.take k).length ≤ 8 := by have := List.length_take_le k q; omega
                have h3 : 10 ^ (q.take k).length ≤ 10 ^ 8 := Nat.pow_le_pow_right (by decide) h2
                have := Hn.out
                omega
              have hk8 : k ≤ 8 := by omega
              by_cases hk0 : k = 0
              · have hap : (a : Int) + (k : Int) ≤ (a : Int) := by omega
                clear hk9' h48 h57 hz1 hk0
                go_wp2
                go_round
                case rel => exact ⟨k + 1, n * 10 + (t[a + k].toNat - 48), by omega, by omega, by go_num, by go_num, by omega, HR, HA2, HZ2⟩
                case measure => simp [intOf]; omega
              · have hap : (a : Int) < (a : Int) + (k : Int) := by omega
                have hn0 : ((n : Int) == 0) = false := by simp; omega
                clear hk9' h48 h57 hz1 hk0
                go_wp2
                go_round
                case rel => exact ⟨k + 1, n * 10 + (t[a + k].toNat - 48), by omega, by omega, by go_num, by go_num, by omega, HR, HA2, HZ2⟩
                case measure => simp [intOf]; omega
        · have HE : Hid (numAt t.data.toList a = (a + k, n)) := Lib.hid (HEND.out (fun c hc => by
            rw [HQK.out] at hc; injection hc with hc; subst hc
            rw [HM.out, decide_eq_false h57]; simp))
          have c48 : (48 : Int) ≤ (t[a + k].toNat : Int) := by omega
          have c57 : (57 : Int) < (t[a + k].toNat : Int) := by omega
          clear h48 h57
          go_wp2
          go_ret2
          exact ⟨ret_num HE.out, rfl⟩
      · have HE : Hid (numAt t.data.toList a = (a + k, n)) := Lib.hid (HEND.out (fun c hc => by
          rw [HQK.out] at hc; injection hc with hc; subst hc
          rw [HM.out, decide_eq_false h48]; simp))
        have c48 : (t[a + k].toNat : Int) < 48 := by omega
        clear h48
        go_wp2
        go_ret2
        exact ⟨ret_num HE.out, rfl⟩
    · have HE : Hid (numAt t.data.toList a = (a + k, n)) := Lib.hid (HEND.out (fun c hc => by
        have := (List.getElem?_eq_some_iff.1 hc).1
        have := HQL.out
        omega))
      have hlt' : (t.size : Int) ≤ (a : Int) + (k : Int) := by omega
      clear hlt
      go_wp2
      go_ret2
      exact ⟨ret_num HE.out, rfl⟩
end Go.Proofs.YtnkjcieeckibbaaDoor
