/- Layer 7: a formula that is joined with itself, again and again. -/
import Derived.Test.YtenbhalnpiahaaaGreatDoorJp
import Derived.Test.YtenbhalnpiahaaaGreatDoorJy
import Derived.Test.YtenbhalnpiahaaaGreatDoorPe
namespace Go.Proofs.YtenbhalnpiahaaaGreatDoor
open Go.RowKit Go.Proofs.Ws
def limA : List ByteArray := [⟨#[97]⟩, ⟨#[98]⟩, ⟨#[99]⟩, ⟨#[100]⟩]
def limF : List ByteArray := [⟨#[112]⟩, ⟨#[113]⟩, ⟨#[114]⟩, ⟨#[115]⟩, ⟨#[116]⟩, ⟨#[117]⟩, ⟨#[118]⟩, ⟨#[119]⟩]
def limX : List ByteArray := [⟨#[120, 48]⟩, ⟨#[120, 49]⟩, ⟨#[120, 50]⟩, ⟨#[120, 51]⟩, ⟨#[120, 52]⟩, ⟨#[120, 53]⟩, ⟨#[120, 54]⟩, ⟨#[120, 55]⟩]
theorem lim_sig : sigErr limA limF limX = 0 := by decide +kernel
def limE : PEnv := ⟨limA, limF, limX, []⟩
theorem lim_okX {n : Nd} (h : fldOk n) : okX limE n := by
  have hf := fld_i h
  refine ⟨⟨h, fun h3 => ?_, fun ha => ?_, ?_⟩, fun h17 => ?_⟩
  · have := hf.1 h3; show n.i < 8; omega
  · have := hf.2.1 ha; show n.i < 4; omega
  · show n.g < ((2 ^ 4 : Nat) : Int)
    cases hg : hasGroup n.op
    · have := hf.2.2.2 hg; omega
    · have := hf.2.2.1 hg; omega
  · obtain ⟨op, i, e, g, x, y⟩ := n
    have h17 : op = 17 := h17
    subst h17
    have h3 := h.2.2
    simp [rangeOk, shN, shE, shG, hasAgent, hasGroup] at h3
    show i < 8
    omega
/-- a formula in the list, and its tree -/
structure LimT (f : List Nd) (t : Tr) (c : Nat) : Prop where
  err : fErr f = 0
  tree : treeOf f = t
  can : compF f = canT t
  ok : trOk t
  all : trAll (okX limE) t
  len : (canT t).length ≤ c
theorem LimT.start {f : List Nd} (h : fErr f = 0) (hl : f.length ≤ 60) : LimT f (treeOf f) 60 := by
  have hne : f.length ≠ 0 := by simpa using (fErr_ok h).1
  have hc := compF_tree h
  refine ⟨h, rfl, hc, treeAt_ok (fErr_ops h) _ _ (Nat.lt_succ_self _) (by omega), treeAt_all (fErr_ops h) (fun n hn => lim_okX (fErr_fld h n hn)) _ _ (Nat.lt_succ_self _) (by omega), ?_⟩
  have := compF_le f
  rw [hc] at this
  exact Nat.le_trans this hl
theorem and_can {t : Tr} (n : Nd) : (canT (.bin n t t)).length ≤ (canT t).length + 1 := by
  have h1 := finT_nodup t (o := []) List.nodup_nil
  have h2 := finT_rep t []
  have h3 := finT_old h1 t _ h2
  show (putNd (finT t (finT t []).2).2 _).2.length ≤ (finT t []).2.length + 1
  rw [h3]
  exact (putNd_len _ _).1
def andL (f : List Nd) : List Nd := buildF ⟨5, 0, 0, 0, 0, 0⟩ [f, f]
theorem LimT.step {f : List Nd} {t : Tr} {c : Nat} (h : LimT f t c) (hc : c + 1 ≤ 200) : LimT (andL f) (.bin (nd1 5) t t) (c + 1) ∧ andL f ≠ [] ∧ (andL f).length ≤ 200 := by
  have hok : trOk (.bin (nd1 5) t t) := ⟨rfl, rfl, rfl, h.ok, h.ok⟩
  have hall : trAll (okX limE) (.bin (nd1 5) t t) := ⟨lim_okX (by unfold fldOk; exact ⟨rfl, ⟨.inr (.inr (.inr rfl)), .inr rfl, .inr rfl⟩, rfl⟩), h.all, h.all⟩
  have hlen : (canT (.bin (nd1 5) t t)).length ≤ c + 1 := Nat.le_trans (and_can _) (by have := h.len; omega)
  have hb : andL f = canT (.bin (nd1 5) t t) := by
    unfold andL
    rw [build_bin (n := ⟨5, 0, 0, 0, 0, 0⟩) rfl ⟨.inr (.inr (.inr rfl)), .inr rfl, .inr rfl⟩ rfl rfl rfl rfl h.err h.err, h.tree]
    unfold shortT
    rw [if_neg (by show ¬ 200 < (canT (.bin (nd1 5) t t)).length; omega)]
    rfl
  have htk : TOk limE (.bin (nd1 5) t t) := ⟨hok, trAll_imp (fun _ h => h.1) _ hall⟩
  obtain ⟨h1, h2, _, _⟩ := tok_formula htk (by omega)
  refine ⟨⟨by rw [hb]; exact h1, ?_, by rw [hb]; exact h2, hok, hall, hlen⟩, by rw [hb]; exact canT_ne _, by rw [hb]; omega⟩
  rw [hb]
  exact canT_tree hok
theorem LimT.print {f : List Nd} {t : Tr} {c : Nat} (h : LimT f t c) (hc : c ≤ 200) : printV limA limF limX f = (if 4000 < (textP limA limF limX t).length then (⟨#[]⟩, 8) else (⟨(textP limA limF limX t).toArray⟩, 0)) ∧ 0 < (textP limA limF limX t).length := by
  have htk : TOk ⟨limA, limF, limX, []⟩ t := ⟨h.ok, trAll_imp (fun _ h => h.1) _ h.all⟩
  have hlen := h.len
  have hfit : fitsF f (limA.length : Int) (limF.length : Int) = true := by
    rw [← fits_comp h.err, h.can]
    exact fits_tok htk (by omega) (by decide) (by decide)
  have hn : namedB limA limF limX f = true := by
    unfold namedB
    rw [hfit, Bool.true_and, h.can, List.all_eq_true]
    intro n hn
    exact decide_eq_true (show okX limE n from finT_all (P := okX limE) t h.ok h.all (fun m hm => absurd hm (by simp)) n hn).2
  have ht : treeAt f (f.length - 1) = t := h.tree
  refine ⟨?_, ?_⟩
  · unfold printV
    rw [if_neg (fun e => e lim_sig), if_neg (fun e => e h.err), if_neg (by rw [hn]; decide), ht]
  · exact text_pos (NmT.of_sig lim_sig) (prT_of (E := limE) h.ok h.all)
end Go.Proofs.YtenbhalnpiahaaaGreatDoor
