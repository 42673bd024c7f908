/- Layer 6: texts joined: Fr40 Fr41. -/
import Derived.Test.YtjpmhbnikoggaaaGreatDoorNJm
/- Layer 15: the axioms as lists: what the constructors give is the formula with two or three nodes behind it. -/
namespace Go.Proofs.YtjpmhbnikoggaaaGreatDoor
open Go.RowKit Go.Proofs.Ws
set_option maxRecDepth 100000
/-- a canonical formula and its tree -/
structure Lt (g : List Nd) (t : Tr) : Prop where
  ok : trOk t
  can : canT t = g
  fld : ∀ n ∈ g, fldOk n
theorem Lt.ne {g : List Nd} {t : Tr} (h : Lt g t) : g ≠ [] := h.can ▸ canT_ne t
theorem Lt.pos {g : List Nd} {t : Tr} (h : Lt g t) : 0 < g.length := List.length_pos_iff.2 h.ne
theorem Lt.ops {g : List Nd} {t : Tr} (h : Lt g t) : opsL g := h.can ▸ canT_ops h.ok
theorem Lt.nodup {g : List Nd} {t : Tr} (h : Lt g t) : g.Nodup := h.can ▸ canT_nodup t
theorem Lt.err {g : List Nd} {t : Tr} (h : Lt g t) (hl : g.length ≤ 200) : fErr g = 0 := fErr_zero h.ne hl (fun _ hj => ⟨h.ops _ hj, h.fld _ (Ws.getD_mem hj)⟩)
theorem Lt.tree {g : List Nd} {t : Tr} (h : Lt g t) : treeOf g = t := by
  unfold treeOf
  rw [← h.can]
  exact canT_tree h.ok
theorem Lt.fin {g : List Nd} {t : Tr} (h : Lt g t) : finT t [] = (g.length - 1, g) := by
  have h1 := canT_last h.ok
  have h2 : (finT t []).2 = g := h.can
  rw [← h.can]
  exact Prod.ext h1 rfl
/-- it lies at the end of its list -/
theorem Lt.rep {g : List Nd} {t : Tr} (h : Lt g t) : rep g (g.length - 1) t := by
  have h1 := finT_rep t []
  rw [h.fin] at h1
  exact h1
theorem Lt.again {g o : List Nd} {t : Tr} (h : Lt g t) (hp : g <+: o) (ho : o.Nodup) : finT t o = (g.length - 1, o) := finT_old ho t _ (rep_mono hp t _ h.rep)
theorem Lt.comp {g : List Nd} {t : Tr} (h : Lt g t) (hl : g.length ≤ 200) : compF g = g := by
  unfold compF
  rw [if_pos (h.err hl), ← h.can, canonF_canT h.ok]
/-- a node that uses the last place is new -/
theorem new_at {g : List Nd} (h : opsL g) {n : Nd} (hu : usesX n.op = true) (hx : (g.length : Int) - 1 ≤ n.x) : n ∉ g := fun hm => by
  obtain ⟨i, hi, e⟩ := List.getElem_of_mem hm
  have ho := h i hi
  have e2 : g.getD i nd0 = n := by rw [List.getD_eq_getElem?_getD, List.getElem?_eq_getElem hi]; exact e
  rw [e2] at ho
  have h1 := ho.1
  rw [if_pos hu] at h1
  omega
theorem put_new {g : List Nd} {n : Nd} (h : n ∉ g) : putNd g n = (g.length, g ++ [n]) := by unfold putNd; rw [if_neg h]
theorem fld_app {g : List Nd} {n : Nd} (h : ∀ m ∈ g, fldOk m) (hn : fldOk n) : ∀ m ∈ g ++ [n], fldOk m := fun m hm => by
  rcases List.mem_append.1 hm with h1 | h1
  · exact h m h1
  · rw [List.mem_singleton.1 h1]; exact hn
/-- one node more -/
theorem Lt.un {g : List Nd} {t : Tr} (h : Lt g t) {n : Nd} (hu : usesX n.op = true) (hy : usesY n.op = false) (hb : bare n = n) (hn : fldOk { n with x := ((g.length - 1 : Nat) : Int) }) :
    Lt (g ++ [{ n with x := ((g.length - 1 : Nat) : Int) }]) (.un n t) := by
  have hp := h.pos
  refine ⟨⟨hu, hy, hb, h.ok⟩, ?_, fld_app h.fld hn⟩
  unfold canT finT
  rw [h.fin]
  show (putNd g { n with x := ((g.length - 1 : Nat) : Int) }).2 = _
  rw [put_new (n := { n with x := ((g.length - 1 : Nat) : Int) }) (new_at h.ops hu (by show (g.length : Int) - 1 ≤ ((g.length - 1 : Nat) : Int); omega))]
def kn (a : Int) : Nd := ⟨9, a, 0, 0, 0, 0⟩
def po (a : Int) : Nd := ⟨10, a, 0, 0, 0, 0⟩
def im : Nd := ⟨7, 0, 0, 0, 0, 0⟩
def knx (a : Int) (x : Nat) : Nd := ⟨9, a, 0, 0, (x : Int), 0⟩
def pox (a : Int) (x : Nat) : Nd := ⟨10, a, 0, 0, (x : Int), 0⟩
def imx (x y : Nat) : Nd := ⟨7, 0, 0, 0, (x : Int), (y : Int)⟩
/-- the list with the axiom's nodes -/
def refL (p a : Int) (g : List Nd) : List Nd :=
  if p = 1 then g ++ [knx a (g.length - 1)] ++ [pox a (g.length - 1)] ++ [imx g.length (g.length + 1)]
  else if p = 2 then g ++ [knx a (g.length - 1)] ++ [imx g.length (g.length - 1)]
  else if p = 3 then g ++ [pox a (g.length - 1)] ++ [knx a g.length] ++ [imx (g.length - 1) (g.length + 1)]
  else if p = 4 then g ++ [knx a (g.length - 1)] ++ [knx a g.length] ++ [imx g.length (g.length + 1)]
  else g ++ [pox a (g.length - 1)] ++ [knx a g.length] ++ [imx g.length (g.length + 1)]
section
variable {g : List Nd} {t : Tr} {a : Int}
theorem fld_kn (ha : 0 ≤ a ∧ a < 4) (x : Nat) : fldOk (knx a x) := by
  refine ⟨rfl, ⟨.inr (.inl rfl), .inr rfl, .inr rfl⟩, ?_⟩
  unfold rangeOk knx
  simp [shN, shE, shG, hasAgent, hasGroup]
  omega
theorem fld_po (ha : 0 ≤ a ∧ a < 4) (x : Nat) : fldOk (pox a x) := by
  refine ⟨rfl, ⟨.inr (.inl rfl), .inr rfl, .inr rfl⟩, ?_⟩
  unfold rangeOk pox
  simp [shN, shE, shG, hasAgent, hasGroup]
  omega
theorem fld_im (x y : Nat) : fldOk (imx x y) := ⟨rfl, ⟨.inr (.inr (.inr rfl)), .inr rfl, .inr rfl⟩, rfl⟩
theorem Lt.kn (h : Lt g t) (ha : 0 ≤ a ∧ a < 4) : Lt (g ++ [knx a (g.length - 1)]) (.un (kn a) t) := h.un (n := Ws.Nd.mk 9 a 0 0 0 0) rfl rfl rfl (fld_kn ha _)
theorem Lt.po (h : Lt g t) (ha : 0 ≤ a ∧ a < 4) : Lt (g ++ [pox a (g.length - 1)]) (.un (po a) t) := h.un (n := Ws.Nd.mk 10 a 0 0 0 0) rfl rfl rfl (fld_po ha _)
theorem bf_un {n : Nd} (h : Lt g t) (hl : g.length ≤ 200) (hk : known n.op = true) (hc : cleanN n) (hr : rangeOk n = true) (hb : bare n = n) (hux : usesX n.op = true) (huy : usesY n.op = false) : buildF n [g] = shortT (.un n t) := by
  rw [build_un hk hc hr hb hux huy (h.err hl), h.tree]
theorem bf_none1 {n : Nd} : buildF n [[]] = [] := by
  unfold buildF
  split
  · rfl
  · rw [if_pos ⟨[], by simp, by decide⟩]
theorem bf_none2 {n : Nd} {f : List Nd} : buildF n [[], f] = [] := by
  unfold buildF
  split
  · rfl
  · rw [if_pos ⟨[], by simp, by decide⟩]
theorem bf_none3 {n : Nd} {f : List Nd} : buildF n [f, []] = [] := by
  unfold buildF
  split
  · rfl
  · rw [if_pos ⟨[], by simp, by decide⟩]
theorem Lt.short (h : Lt g t) : shortT t = if 200 < g.length then [] else g := by unfold shortT; rw [h.can]
theorem knowF_lt (h : Lt g t) (hl : g.length ≤ 200) (ha : 0 ≤ a ∧ a < 4) : knowF a g = if 200 < g.length + 1 then [] else g ++ [knx a (g.length - 1)] := by
  unfold knowF
  rw [bf_un (n := ⟨9, a, 0, 0, 0, 0⟩) h hl rfl ⟨.inr (.inl rfl), .inr rfl, .inr rfl⟩ (fld_kn ha 0).2.2 rfl rfl rfl]
  have h2 := (h.kn ha).short
  rw [List.length_append] at h2
  exact h2
theorem possF_lt (h : Lt g t) (hl : g.length ≤ 200) (ha : 0 ≤ a ∧ a < 4) : possF a g = if 200 < g.length + 1 then [] else g ++ [pox a (g.length - 1)] := by
  unfold possF
  rw [bf_un (n := ⟨10, a, 0, 0, 0, 0⟩) h hl rfl ⟨.inr (.inl rfl), .inr rfl, .inr rfl⟩ (fld_po ha 0).2.2 rfl rfl rfl]
  have h2 := (h.po ha).short
  rw [List.length_append] at h2
  exact h2
theorem impF_lt {f : List Nd} {s : Tr} (h : Lt g t) (k : Lt f s) (hl : g.length ≤ 200) (hk : f.length ≤ 200) : impF g f = shortT (.bin im t s) := by
  unfold impF
  rw [build_bin rfl ⟨.inr (.inr (.inr rfl)), .inr rfl, .inr rfl⟩ rfl rfl rfl rfl (h.err hl) (k.err hk), h.tree, k.tree]
  rfl
/-- the implication's list -/
theorem Lt.imp {f o : List Nd} {s : Tr} {y : Nat} (h : Lt g t) (k : Lt f s) (hf : finT s g = (y, o)) (hnew : imx (g.length - 1) y ∉ o) (hfl : ∀ n ∈ o, fldOk n) : Lt (o ++ [imx (g.length - 1) y]) (.bin im t s) := by
  refine ⟨⟨rfl, rfl, rfl, h.ok, k.ok⟩, ?_, fld_app hfl (fld_im _ _)⟩
  unfold canT finT
  rw [h.fin]
  show (putNd (finT s g).2 (imx (g.length - 1) (finT s g).1)).2 = _
  rw [hf]
  show (putNd o (imx (g.length - 1) y)).2 = _
  rw [put_new hnew]
end
end Go.Proofs.YtjpmhbnikoggaaaGreatDoor
/- Layer 15: the axiom by the constructors is the list with the axiom's nodes. -/
namespace Go.Proofs.YtjpmhbnikoggaaaGreatDoor
open Go.RowKit Go.Proofs.Ws
set_option maxRecDepth 100000
theorem len1 (g : List Nd) (n : Nd) : (g ++ [n]).length - 1 = g.length := by simp
theorem len2 (g : List Nd) (n : Nd) : (g ++ [n]).length = g.length + 1 := by simp
theorem notin_app {g : List Nd} {n m : Nd} (h : n ∉ g) (hne : n ≠ m) : n ∉ g ++ [m] := fun hm => by
  rcases List.mem_append.1 hm with h1 | h1
  · exact h h1
  · exact hne (List.mem_singleton.1 h1)
section
variable {g : List Nd} {t : Tr} {a : Int}
theorem kn_ne_po {x y : Nat} : knx a x ≠ pox a y := fun e => by injection e with e1; exact absurd e1 (by decide)
theorem po_ne_kn {x y : Nat} : pox a x ≠ knx a y := fun e => by injection e with e1; exact absurd e1 (by decide)
theorem im_ne_kn {x y z : Nat} : imx x y ≠ knx a z := fun e => by injection e with e1; exact absurd e1 (by decide)
theorem im_ne_po {x y z : Nat} : imx x y ≠ pox a z := fun e => by injection e with e1; exact absurd e1 (by decide)
theorem kn_new (h : Lt g t) {x : Nat} (hx : g.length - 1 ≤ x) : knx a x ∉ g := new_at h.ops rfl (by show (g.length : Int) - 1 ≤ (x : Int); omega)
theorem po_new (h : Lt g t) {x : Nat} (hx : g.length - 1 ≤ x) : pox a x ∉ g := new_at h.ops rfl (by show (g.length : Int) - 1 ≤ (x : Int); omega)
theorem im_new (h : Lt g t) {x y : Nat} (hx : g.length - 1 ≤ x) : imx x y ∉ g := new_at h.ops rfl (by show (g.length : Int) - 1 ≤ (x : Int); omega)
/-- a unary tree over what lies in the list -/
theorem fin_kn {o : List Nd} {x : Nat} {s : Tr} {q : List Nd} (h : finT s o = (x, q)) (hn : knx a x ∉ q) : finT (.un (kn a) s) o = (q.length, q ++ [knx a x]) := by
  unfold finT
  rw [h]
  exact put_new hn
theorem fin_po {o : List Nd} {x : Nat} {s : Tr} {q : List Nd} (h : finT s o = (x, q)) (hn : pox a x ∉ q) : finT (.un (po a) s) o = (q.length, q ++ [pox a x]) := by
  unfold finT
  rw [h]
  exact put_new hn
theorem pre_app (g : List Nd) (n : Nd) : g <+: g ++ [n] := ⟨[n], rfl⟩
/-- the five lists are canonical -/
theorem ref_lt (h : Lt g t) (ha : 0 ≤ a ∧ a < 4) {p : Int} (hp : 1 ≤ p ∧ p ≤ 5) :
    ∃ A B : Tr, Lt (refL p a g) (.bin im A B) ∧ (p = 1 → A = .un (kn a) t ∧ B = .un (po a) t) ∧ (p = 2 → A = .un (kn a) t ∧ B = t) ∧ (p = 3 → A = t ∧ B = .un (kn a) (.un (po a) t)) ∧ (p = 4 → A = .un (kn a) t ∧ B = .un (kn a) (.un (kn a) t)) ∧ (p = 5 → A = .un (po a) t ∧ B = .un (kn a) (.un (po a) t)) := by
  have hpos := h.pos
  have h5 : p = 1 ∨ p = 2 ∨ p = 3 ∨ p = 4 ∨ p = 5 := by omega
  have hk := h.kn (a := a) ha
  have ho := h.po (a := a) ha
  rcases h5 with rfl | rfl | rfl | rfl | rfl
  · refine ⟨_, _, ?_, fun _ => ⟨rfl, rfl⟩, fun e => absurd e (by decide), fun e => absurd e (by decide), fun e => absurd e (by decide), fun e => absurd e (by decide)⟩
    have hf := fin_po (a := a) (h.again (pre_app g (knx a (g.length - 1))) hk.nodup) (notin_app (po_new h (Nat.le_refl _)) po_ne_kn)
    have hI := hk.imp ho hf (notin_app (notin_app (im_new h (by rw [len1]; omega)) im_ne_kn) im_ne_po) (fld_app hk.fld (fld_po ha _))
    rw [len1, len2] at hI
    exact hI
  · refine ⟨_, _, ?_, fun e => absurd e (by decide), fun _ => ⟨rfl, rfl⟩, fun e => absurd e (by decide), fun e => absurd e (by decide), fun e => absurd e (by decide)⟩
    have hf := h.again (pre_app g (knx a (g.length - 1))) hk.nodup
    have hI := hk.imp h hf (notin_app (im_new h (by rw [len1]; omega)) im_ne_kn) hk.fld
    rw [len1] at hI
    exact hI
  · refine ⟨_, _, ?_, fun e => absurd e (by decide), fun e => absurd e (by decide), fun _ => ⟨rfl, rfl⟩, fun e => absurd e (by decide), fun e => absurd e (by decide)⟩
    have hf1 := fin_po (a := a) (h.again (List.prefix_refl g) h.nodup) (po_new h (Nat.le_refl _))
    have hf := fin_kn (a := a) hf1 (notin_app (kn_new h (by omega)) kn_ne_po)
    have hko := ho.kn (a := a) ha
    have hI := h.imp hko hf (notin_app (notin_app (im_new h (Nat.le_refl _)) im_ne_po) im_ne_kn) (fld_app ho.fld (fld_kn ha _))
    rw [len2] at hI
    exact hI
  · refine ⟨_, _, ?_, fun e => absurd e (by decide), fun e => absurd e (by decide), fun e => absurd e (by decide), fun _ => ⟨rfl, rfl⟩, fun e => absurd e (by decide)⟩
    have hf := fin_kn (a := a) (hk.again (List.prefix_refl _) hk.nodup) (kn_new hk (Nat.le_refl _))
    have hkk := hk.kn (a := a) ha
    have hI := hk.imp hkk hf (notin_app (im_new hk (Nat.le_refl _)) im_ne_kn) (fld_app hk.fld (fld_kn ha _))
    rw [len1, len2] at hI
    exact hI
  · refine ⟨_, _, ?_, fun e => absurd e (by decide), fun e => absurd e (by decide), fun e => absurd e (by decide), fun e => absurd e (by decide), fun _ => ⟨rfl, rfl⟩⟩
    have hf := fin_kn (a := a) (ho.again (List.prefix_refl _) ho.nodup) (kn_new ho (Nat.le_refl _))
    have hko := ho.kn (a := a) ha
    have hI := ho.imp hko hf (notin_app (im_new ho (Nat.le_refl _)) im_ne_kn) (fld_app ho.fld (fld_kn ha _))
    rw [len1, len2] at hI
    exact hI
theorem refL_len (p a : Int) (g : List Nd) : (refL p a g).length = g.length + (if p = 2 then 2 else 3) := by
  unfold refL
  by_cases h1 : p = 1
  · subst h1; simp
  · rw [if_neg h1]
    by_cases h2 : p = 2
    · subst h2; simp
    · rw [if_neg h2, if_neg h2]
      by_cases h3 : p = 3
      · rw [if_pos h3]; simp
      · rw [if_neg h3]
        by_cases h4 : p = 4
        · rw [if_pos h4]; simp
        · rw [if_neg h4]; simp
theorem short_lt {T : Tr} {L : List Nd} (h : Lt L T) : shortT T = if 200 < L.length then [] else L := h.short
/-- the axiom of a canonical formula -/
theorem axL_lt (h : Lt g t) (hl : g.length ≤ 200) (ha : 0 ≤ a ∧ a < 4) {p : Int} (hp : 1 ≤ p ∧ p ≤ 5) : axL p a g = if 200 < (refL p a g).length then [] else refL p a g := by
  obtain ⟨A, B, hL, h1, h2, h3, h4, h5⟩ := ref_lt h ha hp
  have hk := h.kn (a := a) ha
  have ho := h.po (a := a) ha
  have hlen := refL_len p a g
  have hkn := knowF_lt h hl ha
  have hpo := possF_lt h hl ha
  have hbig : ∀ x y : List Nd, impF [] y = [] ∧ impF x [] = [] := fun x y => ⟨bf_none2, bf_none3⟩
  have hkb : knowF a [] = [] := bf_none1
  by_cases hs : 200 < g.length + 1
  · rw [if_pos hs] at hkn hpo
    have hbg : 200 < (refL p a g).length := by rw [hlen]; split <;> omega
    rw [if_pos hbg]
    unfold axL
    rw [hkn, hpo, hkb]
    split
    · exact (hbig [] []).1
    · split
      · exact (hbig [] g).1
      · split
        · exact (hbig g []).2
        · split
          · exact (hbig [] []).1
          · exact (hbig [] []).1
  · rw [if_neg hs] at hkn hpo
    have hq1 := ho.kn (a := a) ha
    have hq2 := hk.kn (a := a) ha
    rw [len2 g] at hq1 hq2
    have hkl : (g ++ [knx a (g.length - 1)]).length ≤ 200 := by rw [len2]; omega
    have hol : (g ++ [pox a (g.length - 1)]).length ≤ 200 := by rw [len2]; omega
    have hkk := knowF_lt hk hkl ha
    have hko := knowF_lt ho hol ha
    rw [len2] at hkk hko
    have hc : p = 1 ∨ p = 2 ∨ p = 3 ∨ p = 4 ∨ p = 5 := by omega
    rcases hc with rfl | rfl | rfl | rfl | rfl
    · obtain ⟨rfl, rfl⟩ := h1 rfl
      unfold axL
      rw [if_pos rfl, hkn, hpo, impF_lt hk ho hkl hol, short_lt hL]
    · obtain ⟨rfl, rfl⟩ := h2 rfl
      unfold axL
      rw [if_neg (by decide), if_pos rfl, hkn, impF_lt hk h hkl hl, short_lt hL]
    · obtain ⟨rfl, rfl⟩ := h3 rfl
      unfold axL
      rw [if_neg (by decide), if_neg (by decide), if_pos rfl, hpo, hko]
      by_cases hs2 : 200 < g.length + 1 + 1
      · rw [if_pos hs2, (hbig g []).2, if_pos (by rw [hlen]; simp; omega)]
      · rw [if_neg hs2, impF_lt h hq1 hl (by rw [len2, len2]; omega), short_lt hL]
    · obtain ⟨rfl, rfl⟩ := h4 rfl
      unfold axL
      rw [if_neg (by decide), if_neg (by decide), if_neg (by decide), if_pos rfl, hkn, hkk]
      by_cases hs2 : 200 < g.length + 1 + 1
      · rw [if_pos hs2, (hbig _ []).2, if_pos (by rw [hlen]; simp; omega)]
      · rw [if_neg hs2, impF_lt hk hq2 hkl (by rw [len2, len2]; omega), short_lt hL]
    · obtain ⟨rfl, rfl⟩ := h5 rfl
      unfold axL
      rw [if_neg (by decide), if_neg (by decide), if_neg (by decide), if_neg (by decide), hpo, hko]
      by_cases hs2 : 200 < g.length + 1 + 1
      · rw [if_pos hs2, (hbig _ []).2, if_pos (by rw [hlen]; simp; omega)]
      · rw [if_neg hs2, impF_lt ho hq1 hol (by rw [len2, len2]; omega), short_lt hL]
end
theorem lt_comp {f : List Nd} (hz : fErr f = 0) : Lt (compF f) (treeOf f) := by
  have hlt : f.length - 1 < f.length := by have := List.length_pos_iff.2 (fErr_ok hz).1; omega
  refine ⟨treeAt_ok (fErr_ops hz) _ _ (Nat.lt_succ_self _) hlt, (compF_tree hz).symm, ?_⟩
  rw [compF_tree hz]
  exact canT_fld (fErr_ops hz) (fErr_fld hz) hlt
theorem comp_len {f : List Nd} (hz : fErr f = 0) : (compF f).length ≤ 200 := (fErr_ok (compF_ok hz)).2.1
theorem bf_same {n : Nd} {f : List Nd} (hz : fErr f = 0) (hk : known n.op = true) (hc : cleanN n) (hr : rangeOk n = true) (hb : bare n = n) (hux : usesX n.op = true) (huy : usesY n.op = false) : buildF n [f] = buildF n [compF f] := by
  rw [build_un hk hc hr hb hux huy hz, bf_un (lt_comp hz) (comp_len hz) hk hc hr hb hux huy]
theorem bf_bad2 {n : Nd} {x y : List Nd} (h : fErr x ≠ 0 ∨ fErr y ≠ 0) : buildF n [x, y] = [] := by
  unfold buildF
  split
  · rfl
  · rw [if_pos]
    rcases h with h | h
    · exact ⟨x, by simp, h⟩
    · exact ⟨y, by simp, h⟩
theorem imp_samer {x f : List Nd} (hz : fErr f = 0) : impF x f = impF x (compF f) := by
  unfold impF
  by_cases hx : fErr x = 0
  · rw [build_bin rfl ⟨.inr (.inr (.inr rfl)), .inr rfl, .inr rfl⟩ rfl rfl rfl rfl hx hz, build_bin rfl ⟨.inr (.inr (.inr rfl)), .inr rfl, .inr rfl⟩ rfl rfl rfl rfl hx ((lt_comp hz).err (comp_len hz)), (lt_comp hz).tree]
  · rw [bf_bad2 (.inl hx), bf_bad2 (.inl hx)]
theorem imp_samel {x f : List Nd} (hz : fErr f = 0) : impF f x = impF (compF f) x := by
  unfold impF
  by_cases hx : fErr x = 0
  · rw [build_bin rfl ⟨.inr (.inr (.inr rfl)), .inr rfl, .inr rfl⟩ rfl rfl rfl rfl hz hx, build_bin rfl ⟨.inr (.inr (.inr rfl)), .inr rfl, .inr rfl⟩ rfl rfl rfl rfl ((lt_comp hz).err (comp_len hz)) hx, (lt_comp hz).tree]
  · rw [bf_bad2 (.inr hx), bf_bad2 (.inr hx)]
/-- THE AXIOM: the canonical formula with its nodes, or nothing -/
theorem axL_ref {f : List Nd} (hz : fErr f = 0) {p a : Int} (hp : 1 ≤ p ∧ p ≤ 5) (ha : 0 ≤ a ∧ a < 4) : axL p a f = if 200 < (refL p a (compF f)).length then [] else refL p a (compF f) := by
  rw [← axL_lt (lt_comp hz) (comp_len hz) ha hp]
  have hk : knowF a f = knowF a (compF f) := bf_same hz rfl ⟨.inr (.inl rfl), .inr rfl, .inr rfl⟩ (fld_kn ha 0).2.2 rfl rfl rfl
  have ho : possF a f = possF a (compF f) := bf_same hz rfl ⟨.inr (.inl rfl), .inr rfl, .inr rfl⟩ (fld_po ha 0).2.2 rfl rfl rfl
  unfold axL
  rw [hk, ho, imp_samer (x := knowF a (compF f)) hz, imp_samel (x := knowF a (possF a (compF f))) hz]
/-- .. which is canonical -/
theorem ref_comp {f : List Nd} (hz : fErr f = 0) {p a : Int} (hp : 1 ≤ p ∧ p ≤ 5) (ha : 0 ≤ a ∧ a < 4) (hl : (refL p a (compF f)).length ≤ 200) : compF (refL p a (compF f)) = refL p a (compF f) := by
  obtain ⟨A, B, h, _⟩ := ref_lt (lt_comp hz) ha hp
  exact h.comp hl
theorem ref_pos (p a : Int) (g : List Nd) : (refL p a g).length ≠ 0 := by rw [refL_len]; split <;> omega
end Go.Proofs.YtjpmhbnikoggaaaGreatDoor
