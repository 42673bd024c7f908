/- Layer 6: texts joined: Gm Gn Go Gp. -/
import Derived.Test.YtkkkomkljpolbaaDoorMJj
import Derived.Test.YtkkkomkljpolbaaDoorMJl
import Derived.Test.YtkkkomkljpolbaaDoorMQq
import Derived.Test.YtkkkomkljpolbaaDoorMRf
/- Layer 8: substitution by the program. -/
namespace Go.Proofs.YtkkkomkljpolbaaDoor
open Go.RowKit Go.Proofs.Ws Go.Maps
set_option maxRecDepth 100000
/-- the error of the first list that has one -/
def lsErr : List (List Nd) → Int
  | [] => 0
  | g :: l => if fErr g = 0 then lsErr l else fErr g
theorem lsErr_all : ∀ {ls : List (List Nd)}, lsErr ls = 0 → ∀ g ∈ ls, fErr g = 0
  | g :: l, h, k, hk => by
    unfold lsErr at h
    by_cases hg : fErr g = 0
    · rw [if_pos hg] at h
      rcases List.mem_cons.1 hk with rfl | hk
      · exact hg
      · exact lsErr_all h k hk
    · rw [if_neg hg] at h; exact absurd h hg
def subFF (f : List Nd) (ls : List (List Nd)) : List Nd := if fErr f = 0 ∧ lsErr ls = 0 then resL (mapT (subR (ls.map tOf)) (tOf f)) else []
def subEE (f : List Nd) (ls : List (List Nd)) : Int := if fErr f = 0 then (if lsErr ls = 0 then resE (mapT (subR (ls.map tOf)) (tOf f)) else lsErr ls) else fErr f
/-- the state of a substitution: the builder, the boxes of its two variables, the lists -/
structure Su (B base bw bm bt bb : Nat) (At : Option Addr) (nt ct : Nat) (ls : List (List Nd)) (W : World) (o : List Nd) : Prop where
  bu : Bu B base bw bm W o
  at_ : AsideB W bw bm bt
  ab : AsideB W bw bm bb
  pt : W.cell? ⟨bt, 0, none⟩ = some (.slice At nt ct)
  pb : W.cell? ⟨bb, 0, none⟩ = some (.pointer (some ⟨bw, 0, none⟩))
  ls : LsR W B At nt ls
theorem Su.next {B base bw bm bt bb nt ct : Nat} {At : Option Addr} {ls : List (List Nd)} {W W' : World} {o o' : List Nd} (h : Su B base bw bm bt bb At nt ct ls W o) (hu : Bu B base bw bm W' o') (hF : Fb bw bm W W') : Su B base bw bm bt bb At nt ct ls W' o' := by
  have h1 := h.at_.step hF
  have h2 := h.ab.step hF
  exact ⟨hu, h1.2, h2.2, (World.cell?_of_block (a := ⟨bt, 0, none⟩) h1.1).trans h.pt, (World.cell?_of_block (a := ⟨bb, 0, none⟩) h2.1).trans h.pb, h.ls.below (h.bu.low hF) (Nat.le_refl _)⟩
theorem Su.below {B base bw bm bt bb nt ct : Nat} {At : Option Addr} {ls : List (List Nd)} {W W' : World} {o : List Nd} (h : Su B base bw bm bt bb At nt ct ls W o) (hb : Below W.heap.size W W') : Su B base bw bm bt bb At nt ct ls W' o :=
  h.next (h.bu.below hb) (Fb.of_below hb h.bu.lwB)
theorem Su.drew {B base bw bm bt bb nt ct : Nat} {At : Option Addr} {ls : List (List Nd)} {W : World} {o : List Nd} (h : Su B base bw bm bt bb At nt ct ls W o) : Su B base bw bm bt bb At nt ct ls W.drew o := h.below (Below.refl _ W).drew
theorem Su.ok {B base bw bm bt bb nt ct : Nat} {At : Option Addr} {ls : List (List Nd)} {w : World} (hB : B ≤ w.heap.size) (h1 : bt < w.heap.size) (h2 : bb < w.heap.size) : StOk (fun W o => Su B base bw bm bt bb At nt ct ls W o) w B base bw bm :=
  ⟨fun _ _ h => h.bu, fun _ _ _ h hb => h.below hb, fun W o G k v h hG ha => ⟨(Bu.ok hB).set W o G k v h.bu hG ha, h.at_.set ha.n1 v, h.ab.set ha.n1 v, (World.cell?_setCell_other _ _ _ _ (fun e2 => by have h9 := congrArg Addr.block e2; dsimp only at h9; omega)).trans h.pt,
    (World.cell?_setCell_other _ _ _ _ (fun e2 => by have h9 := congrArg Addr.block e2; dsimp only at h9; omega)).trans h.pb, h.ls.below ((Below.refl _ W).setCell (by show B ≤ G; omega) v) (Nat.le_refl _)⟩⟩
def SuOk (B base bw bm bt bb : Nat) (At : Option Addr) (nt ct : Nat) (ls : List (List Nd)) (W : World) (p : Nat × List Nd) (e : Ending) (w' : World) : Prop :=
  e = .returned (.int .i64 (p.1 : Nat)) ∧ Hid (Su B base bw bm bt bb At nt ct ls w' p.2) ∧ Hid (Fb bw bm W w')
set_option maxHeartbeats 4000000 in
theorem sub1_c {B base bw bm bt bb nt ct : Nat} {At : Option Addr} {ls : List (List Nd)} {W : World} {o : List Nd} (h : Su B base bw bm bt bb At nt ct ls W o) (op : Int) (i : Nat) (e g x y : Int) (h3 : ¬ op = 3) (hn : NodeIn o ⟨op, (i : Int), e, g, x, y⟩) (hm : o.length ≤ 900000) :
    Calls Tryd.prog 115 #[nv ⟨op, (i : Int), e, g, x, y⟩, .pointer (some ⟨bt, 0, none⟩), .pointer (some ⟨bb, 0, none⟩)] W (SuOk B base bw bm bt bb At nt ct ls W (subP ls o ⟨op, (i : Int), e, g, x, y⟩)) := by
  have HS0 : Hid (Su B base bw bm bt bb At nt ct ls (W.alloc (.cells #[.int .i64 op, .int .i64 (i : Int), .int .i64 e, .int .i64 g, .int .i64 x, .int .i64 y] 62)) o) := Lib.hid (h.below ((Below.refl _ W).alloc (Nat.le_refl _) _))
  have HF0 : Hid (Fb bw bm W (W.alloc (.cells #[.int .i64 op, .int .i64 (i : Int), .int .i64 e, .int .i64 g, .int .i64 x, .int .i64 y] 62))) := Lib.hid (Fb.of_below ((Below.refl _ W).alloc (Nat.le_refl _) _) h.bu.lwB)
  have HBX0 : Hid (Box (W.alloc (.cells #[.int .i64 op, .int .i64 (i : Int), .int .i64 e, .int .i64 g, .int .i64 x, .int .i64 y] 62)) W.heap.size ⟨op, (i : Int), e, g, x, y⟩) := Lib.hid (Box.made W ⟨op, (i : Int), e, g, x, y⟩ 62)
  have HA0 := Lib.hid (AsideB.new (g := W.heap.size) h.bu.st ((Below.refl _ W).alloc (Nat.le_refl _) (.cells #[.int .i64 op, .int .i64 (i : Int), .int .i64 e, .int .i64 g, .int .i64 x, .int .i64 y] 62)) (Nat.le_refl _) (by simp))
  have HN := Lib.hid hn
  have HM := Lib.hid hm
  have hbt := h.at_.lt
  have hbb := h.ab.lt
  have hpt := HS0.out.pt
  have hpb := HS0.out.pb
  have hln := h.ls.len
  have HR : Hid (subP ls o ⟨op, (i : Int), e, g, x, y⟩ = putNd o ⟨op, (i : Int), e, g, x, y⟩) := Lib.hid (by unfold subP; rw [if_neg (fun k => h3 k.1)])
  rw [HR.out]
  clear HR
  clear h hn hm hln
  unfold nv
  go_enter Tryd.func115, Tryd.ntmps115
  go_wp2_with fail
  refine (add_any HS0.out.bu HN.out (by have := HM.out; omega)).mono ?_
  rintro r' w1 ⟨rfl, h1, f1⟩
  have H1 := Lib.hid (HS0.out.next h1 f1)
  have F1 := Lib.hid (HF0.out.trans f1)
  clear h1 f1
  go_wp2
  go_ret
  exact ⟨rfl, H1, F1⟩
set_option maxHeartbeats 4000000 in
theorem sub1_b {B base bw bm bt bb nt ct : Nat} {At : Option Addr} {ls : List (List Nd)} {W : World} {o : List Nd} (h : Su B base bw bm bt bb At nt ct ls W o) (op : Int) (i : Nat) (e g x y : Int) (h3 : op = 3) (hi : ¬ i < nt) (hn : NodeIn o ⟨op, (i : Int), e, g, x, y⟩) (hm : o.length ≤ 900000) :
    Calls Tryd.prog 115 #[nv ⟨op, (i : Int), e, g, x, y⟩, .pointer (some ⟨bt, 0, none⟩), .pointer (some ⟨bb, 0, none⟩)] W (SuOk B base bw bm bt bb At nt ct ls W (subP ls o ⟨op, (i : Int), e, g, x, y⟩)) := by
  have HS0 : Hid (Su B base bw bm bt bb At nt ct ls (W.alloc (.cells #[.int .i64 op, .int .i64 (i : Int), .int .i64 e, .int .i64 g, .int .i64 x, .int .i64 y] 62)) o) := Lib.hid (h.below ((Below.refl _ W).alloc (Nat.le_refl _) _))
  have HF0 : Hid (Fb bw bm W (W.alloc (.cells #[.int .i64 op, .int .i64 (i : Int), .int .i64 e, .int .i64 g, .int .i64 x, .int .i64 y] 62))) := Lib.hid (Fb.of_below ((Below.refl _ W).alloc (Nat.le_refl _) _) h.bu.lwB)
  have HBX0 : Hid (Box (W.alloc (.cells #[.int .i64 op, .int .i64 (i : Int), .int .i64 e, .int .i64 g, .int .i64 x, .int .i64 y] 62)) W.heap.size ⟨op, (i : Int), e, g, x, y⟩) := Lib.hid (Box.made W ⟨op, (i : Int), e, g, x, y⟩ 62)
  have HA0 := Lib.hid (AsideB.new (g := W.heap.size) h.bu.st ((Below.refl _ W).alloc (Nat.le_refl _) (.cells #[.int .i64 op, .int .i64 (i : Int), .int .i64 e, .int .i64 g, .int .i64 x, .int .i64 y] 62)) (Nat.le_refl _) (by simp))
  have HN := Lib.hid hn
  have HM := Lib.hid hm
  have hbt := h.at_.lt
  have hbb := h.ab.lt
  have hpt := HS0.out.pt
  have hpb := HS0.out.pb
  have hln := h.ls.len
  have HR : Hid (subP ls o ⟨op, (i : Int), e, g, x, y⟩ = putNd o ⟨op, (i : Int), e, g, x, y⟩) := Lib.hid (by unfold subP; rw [if_neg (fun k => hi (by have := k.2; simp at this; omega))])
  rw [HR.out]
  clear HR
  clear h hn hm hln
  subst h3
  unfold nv
  go_enter Tryd.func115, Tryd.ntmps115
  go_wp2_with fail
  refine (add_any HS0.out.bu HN.out (by have := HM.out; omega)).mono ?_
  rintro r' w1 ⟨rfl, h1, f1⟩
  have H1 := Lib.hid (HS0.out.next h1 f1)
  have F1 := Lib.hid (HF0.out.trans f1)
  clear h1 f1
  go_wp2
  go_ret
  exact ⟨rfl, H1, F1⟩
set_option maxHeartbeats 4000000 in
theorem sub1_a {B base bw bm bt bb nt ct : Nat} {At : Option Addr} {ls : List (List Nd)} {W : World} {o : List Nd} (h : Su B base bw bm bt bb At nt ct ls W o) (op : Int) (i : Nat) (e g x y : Int) (h3 : op = 3) (hi : i < nt) (hl : ∀ g ∈ ls, fErr g = 0) (hbd : Bd o) (hn : NodeIn o ⟨op, (i : Int), e, g, x, y⟩) (hm : o.length ≤ 900000) :
    Calls Tryd.prog 115 #[nv ⟨op, (i : Int), e, g, x, y⟩, .pointer (some ⟨bt, 0, none⟩), .pointer (some ⟨bb, 0, none⟩)] W (SuOk B base bw bm bt bb At nt ct ls W (subP ls o ⟨op, (i : Int), e, g, x, y⟩)) := by
  have HS0 : Hid (Su B base bw bm bt bb At nt ct ls (W.alloc (.cells #[.int .i64 op, .int .i64 (i : Int), .int .i64 e, .int .i64 g, .int .i64 x, .int .i64 y] 62)) o) := Lib.hid (h.below ((Below.refl _ W).alloc (Nat.le_refl _) _))
  have HF0 : Hid (Fb bw bm W (W.alloc (.cells #[.int .i64 op, .int .i64 (i : Int), .int .i64 e, .int .i64 g, .int .i64 x, .int .i64 y] 62))) := Lib.hid (Fb.of_below ((Below.refl _ W).alloc (Nat.le_refl _) _) h.bu.lwB)
  have HBX0 : Hid (Box (W.alloc (.cells #[.int .i64 op, .int .i64 (i : Int), .int .i64 e, .int .i64 g, .int .i64 x, .int .i64 y] 62)) W.heap.size ⟨op, (i : Int), e, g, x, y⟩) := Lib.hid (Box.made W ⟨op, (i : Int), e, g, x, y⟩ 62)
  have HA0 := Lib.hid (AsideB.new (g := W.heap.size) h.bu.st ((Below.refl _ W).alloc (Nat.le_refl _) (.cells #[.int .i64 op, .int .i64 (i : Int), .int .i64 e, .int .i64 g, .int .i64 x, .int .i64 y] 62)) (Nat.le_refl _) (by simp))
  have HN := Lib.hid hn
  have HM := Lib.hid hm
  have hbt := h.at_.lt
  have hbb := h.ab.lt
  have hpt := HS0.out.pt
  have hpb := HS0.out.pb
  have hln := h.ls.len
  have HR : Hid (subP ls o ⟨op, (i : Int), e, g, x, y⟩ = rwP putNd (ls.getD i []) o) := Lib.hid (by unfold subP; rw [if_pos ⟨h3, by show (i : Int).toNat < _; rw [Int.toNat_natCast]; omega⟩]; show rwP putNd (ls.getD ((i : Int).toNat) []) o = _; rw [Int.toNat_natCast])
  rw [HR.out]
  clear HR
  have hmem : ls.getD i [] ∈ ls := by
    rw [List.getD_eq_getElem?_getD, List.getElem?_eq_getElem (by omega)]
    exact List.getElem_mem _
  have hgz := hl _ hmem
  have ok := OkL_of hgz
  have hkn := fErr_known hgz
  have h200 := (fErr_ok hgz).2.1
  obtain ⟨ad, Aj, cj, rfl, hadb, hadc, hrd, _⟩ := HS0.out.ls.at_ hi
  have CR := Lib.hid (fun (w1 : World) (h1 : Hid (Su B base bw bm bt bb (some ad) nt ct ls w1 o)) (hr : Reads w1 B 6 Aj (ls.getD i []).length (nds (ls.getD i []))) => rewrite_add (add_rule (fun _ => True)) B base bw bm w1 (Bu.ok h1.out.bu.size) (fun W o n h hs _ hn _ hl => (add_any h hn (by omega)).mono (fun _ _ ⟨h1, h2, h3⟩ => ⟨h1, h2, h3⟩)) (ls.getD i []) o ok.ops hkn ok.rng ok.ne hbd (fun _ _ => trivial) (by omega) (by omega) Aj cj h1.out.bu (RdA.of_below h1.out.bu hr))
  have HRD := Lib.hid hrd
  clear hrd h hn hm hln hgz ok hkn h200 hmem hl hbd
  subst h3
  unfold nv
  generalize ls.getD i [] = q at *
  generalize hp : rwP putNd q o = p at *
  have HP := Lib.hid hp
  clear hp
  go_enter Tryd.func115, Tryd.ntmps115
  go_wp2_with fail
  have b1 := HBX0.out.2.1
  dsimp only at b1
  have CD : Hid (Calls Tryd.prog 60 #[.pointer (some ⟨bw, 0, none⟩), .slice Aj q.length cj, .func (Fn.func 82) #[.pointer (some ⟨bw, 0, none⟩)] #[]] (W.alloc (.cells #[.int .i64 3, .int .i64 (i : Int), .int .i64 e, .int .i64 g, .int .i64 x, .int .i64 y] 62)).drew fun r w2 => r = .returned (.int .i64 (p.1 : Nat)) ∧ Hid (Su B base bw bm bt bb (some ad) nt ct ls w2 p.2) ∧ Hid (Fb bw bm W w2) ∧
      w2.cell? ⟨bb, 0, none⟩ = some (.pointer (some ⟨bw, 0, none⟩)) ∧ w2.cell? ⟨bt, 0, none⟩ = some (.slice (some ad) nt ct) ∧ w2.cell? ⟨W.heap.size, 1, none⟩ = some (.int .i64 (i : Int)) ∧ w2.cell? (ad.add i) = some (.slice Aj q.length cj)) := Lib.hid (by
    refine (CR.out (W.alloc (.cells #[.int .i64 3, .int .i64 (i : Int), .int .i64 e, .int .i64 g, .int .i64 x, .int .i64 y] 62)).drew (Lib.hid HS0.out.drew) HRD.out).mono ?_
    rintro r w2 ⟨hr, h2, h3⟩
    have hN := HS0.out.drew.next h2 h3
    have hb := HBX0.out.drew.keep ((HA0.out.drewN 1).step h3).1
    refine ⟨by rw [hr], Lib.hid hN, Lib.hid ((FbG.drew HF0.out).trans h3), hN.pb, hN.pt, hb.2.1, ?_⟩
    exact ((HS0.out.drew.bu.low h3).cell (p := ad.add i) (by rw [block_of_add]; exact hadb)).trans hadc)
  clear CR HRD
  generalize W.alloc (.cells #[.int .i64 3, .int .i64 (i : Int), .int .i64 e, .int .i64 g, .int .i64 x, .int .i64 y] 62) = w0 at *
  generalize W.heap.size = gx at *
  go_region_held3 (fun W' => (W'.cell? ⟨bb, 0, none⟩ = some (.pointer (some ⟨bw, 0, none⟩)) ∧ W'.cell? ⟨bt, 0, none⟩ = some (.slice (some ad) nt ct) ∧ W'.cell? ⟨gx, 1, none⟩ = some (.int .i64 (i : Int)) ∧ W'.cell? (ad.add i) = some (.slice Aj q.length cj))) (first | assumption | (refine ⟨?_, ?_, ?_, ?_⟩ <;> assumption))
    (first | (go_at_call 60; refine (CD.out).mono ?_; rintro r' w2 ⟨rfl, h2, f2, u0, u1, u2, u3⟩))
  all_goals go_wp2
  all_goals go_ret
  all_goals exact ⟨rfl, h2, f2⟩
theorem sub1_any {B base bw bm bt bb nt ct : Nat} {At : Option Addr} {ls : List (List Nd)} {W : World} {o : List Nd} (h : Su B base bw bm bt bb At nt ct ls W o) (n : Nd) (hi0 : 0 ≤ n.i) (hl : ∀ g ∈ ls, fErr g = 0) (hbd : Bd o) (hn : NodeIn o n) (hm : o.length ≤ 900000) :
    Calls Tryd.prog 115 #[nv n, .pointer (some ⟨bt, 0, none⟩), .pointer (some ⟨bb, 0, none⟩)] W (SuOk B base bw bm bt bb At nt ct ls W (subP ls o n)) := by
  obtain ⟨op, i, e, g, x, y⟩ := n
  dsimp only at hi0
  obtain ⟨k, rfl⟩ : ∃ k : Nat, i = (k : Int) := ⟨i.toNat, by omega⟩
  by_cases h3 : op = 3
  · by_cases hi : k < nt
    · exact sub1_a h op k e g x y h3 hi hl hbd hn hm
    · exact sub1_b h op k e g x y h3 hi hn hm
  · exact sub1_c h op k e g x y h3 hn hm
end Go.Proofs.YtkkkomkljpolbaaDoor
/- Layer 8: Subst. -/
namespace Go.Proofs.YtkkkomkljpolbaaDoor
open Go.RowKit Go.Proofs.Ws Go.Maps
set_option maxRecDepth 100000
theorem sub_gr {f : List Nd} {ls : List (List Nd)} (h : fErr f = 0) (hl : lsErr ls = 0) : Gr (200 * (compF f).length) [] (rwP (subP ls) (compF f) []) (mapT (subR (ls.map tOf)) (tOf f)) := by
  have ok := OkL_of (compF_ok h)
  have := rwP_ok (sub_rule (to := ls) (M := 200) (by omega) (fun g hg => ⟨(fErr_ok (lsErr_all hl g hg)).1, fErr_ops (lsErr_all hl g hg), (fErr_ok (lsErr_all hl g hg)).2.1⟩) (fun n => 0 ≤ n.i)) ok.ops ok.ne Bd.nil (fun n hn => by
    obtain ⟨j, hj, hj2⟩ := List.getElem_of_mem hn
    have := (ok.rng j hj).i
    rw [List.getD_eq_getElem?_getD, List.getElem?_eq_getElem hj, Option.getD_some, hj2] at this
    exact this.1)
  rw [← tOf_comp h]
  exact this
theorem Bu.asideB {B base bw bm g : Nat} {W : World} {o : List Nd} (h : Bu B base bw bm W o) (hg : g < B) : AsideB W bw bm g := by
  have h1 := h.b1
  have h2 := h.b2
  have h3 := h.st.lw
  have h4 := h.size
  refine ⟨by omega, by omega, by omega, fun e3 => ?_⟩
  have := (h.st.row g e3.symm).1
  omega
theorem lsErr_drop : ∀ (ls : List (List Nd)) (k : Nat), k < ls.length → lsErr (ls.drop k) = if fErr (ls.getD k []) = 0 then lsErr (ls.drop (k + 1)) else fErr (ls.getD k []) := by
  intro ls k hk
  rw [List.drop_eq_getElem_cons hk]
  have : ls.getD k [] = ls[k] := by rw [List.getD_eq_getElem?_getD, List.getElem?_eq_getElem hk]; rfl
  rw [this]
  rfl
set_option maxHeartbeats 4000000 in
theorem pSubst_own (f : List Nd) (A : Option Addr) (n c : Nat) (ls : List (List Nd)) (At : Option Addr) (nt ct : Nat) (w : World) (hE : EnvR w w.heap.size) (hR : Reads w w.heap.size 6 A n (nds f)) (hm : n ≤ maxLen) (hL : LsR w w.heap.size At nt ls) (hnt : nt ≤ 1000000) :
    Calls Tryd.prog 52 #[.slice A n c, .slice At nt ct] w fun e w' => ∃ A' c', e = .returned (.tuple #[.slice A' (subFF f ls).length c', .int .i64 (subEE f ls)]) ∧ w'.ownsRow w.heap.size 62 6 (.slice A' (subFF f ls).length c') (subFF f ls).length (nds (subFF f ls)) ∧ Below w.heap.size w w' := by
  have HV := Lib.hid (fun (W : World) (h : Reads W W.heap.size 6 A n (nds f)) => pCheck_any f A n c W h hm)
  have HR := Lib.hid hR
  have HE := Lib.hid hE
  have HL := Lib.hid hL
  have HLL := Lib.hid hL.len
  have HBA : Hid (Below w.heap.size w (w.alloc (.cells #[.slice At nt ct] 29))) := Lib.hid ((Below.refl _ w).alloc (Nat.le_refl _) _)
  have HTB : Hid ((w.alloc (.cells #[.slice At nt ct] 29)).cell? ⟨w.heap.size, 0, none⟩ = some (.slice At nt ct)) := Lib.hid (Lib.cell_of_heap (heap_alloc_new w (.cells #[.slice At nt ct] 29)) 0)
  have HSB : Hid ((w.alloc (.cells #[.slice At nt ct] 29)).heap.size = w.heap.size + 1) := Lib.hid (by simp)
  by_cases hz : fErr f = 0
  · have HC := Lib.hid (fun W (h : Reads W W.heap.size 6 A n (nds f)) => pCompact_own f A n c W h hm)
    have ok := OkL_of (compF_ok hz)
    have hkn := fErr_known (compF_ok hz)
    have h200 := (fErr_ok (compF_ok hz)).2.1
    have HOK := Lib.hid ok
    have HKN := Lib.hid hkn
    have HLN : Hid ((compF f).length ≤ 200) := Lib.hid h200
    have HRES : Hid (lsErr ls = 0 → (subFF f ls = compF (takeL (rwP (subP ls) (compF f) []).2 (rwP (subP ls) (compF f) []).1) ∧ subEE f ls = fErr (takeL (rwP (subP ls) (compF f) []).2 (rwP (subP ls) (compF f) []).1)) ∧ (rwP (subP ls) (compF f) []).1 < (rwP (subP ls) (compF f) []).2.length ∧ (rwP (subP ls) (compF f) []).2.length ≤ 900000) := Lib.hid (fun hl => by
      have g := sub_gr hz hl
      have hall := mapT_all (sub_keep (ts := ls.map tOf) (fun t ht => by
        obtain ⟨k, hk, rfl⟩ := List.mem_map.1 ht
        exact tOf_all (lsErr_all hl k hk))) _ (tOf_all hz)
      obtain ⟨t1, t2, t3⟩ := take_gr g hall
      have glen := g.len
      refine ⟨⟨?_, ?_⟩, t3, by simp at glen; omega⟩
      · unfold subFF; rw [if_pos ⟨hz, hl⟩, t1]
      · unfold subEE; rw [if_pos hz, if_pos hl, t2])
    have HRE2 : Hid (¬ lsErr ls = 0 → subFF f ls = [] ∧ subEE f ls = lsErr ls) := Lib.hid (fun hl => by
      refine ⟨?_, ?_⟩
      · unfold subFF; rw [if_neg (fun k => hl k.2)]
      · unfold subEE; rw [if_pos hz, if_neg hl])
    rw [hz] at HV
    have hr0 : ∀ i, i < (compF f).length → True := fun _ _ => trivial
    clear hR hE hm ok hkn h200 hL hr0
    generalize compF f = q at *
    generalize subFF f ls = rf at *
    generalize subEE f ls = re at *
    go_enter Tryd.func52, Tryd.ntmps52
    go_wp2_with fail
    generalize w.alloc (.cells #[.slice At nt ct] 29) = w0 at *
    refine (HV.out w0 ((HR.out.below HBA.out).more HBA.out.size)).mono ?_
    rintro e w1 ⟨rfl, hb⟩
    have HB1 := Lib.hid (HBA.out.trans (hb.mono HBA.out.size))
    have ht1 : w1.cell? ⟨w.heap.size, 0, none⟩ = some (.slice At nt ct) := (hb.cell (p := ⟨w.heap.size, 0, none⟩) (by have := HSB.out; show w.heap.size < w0.heap.size; omega)).trans HTB.out
    have HTS1 : Hid (w.heap.size < w1.heap.size) := Lib.hid (by have := HSB.out; have := hb.size; omega)
    clear hb
    go_wp2
    go_loopw [8, 9, 18] (fun _ _ i wr => ∃ k : Nat, k ≤ nt ∧ i = .int .i64 k ∧ Hid (lsErr ls = lsErr (ls.drop k)) ∧ Hid (Below w1.heap.size w1 wr)) (fun _ _ i _ => nt - (intOf i).toNat)
    case atStart => exact ⟨0, Nat.zero_le _, rfl, Lib.hid rfl, Lib.hid (Below.refl _ _)⟩
    case round =>
      obtain ⟨k, hk, rfl, HZ, HBR⟩ := hrel
      have HBW := Lib.hid (HB1.out.trans (HBR.out.mono HB1.out.size))
      by_cases hlt : k < nt
      · obtain ⟨ad, Aj, cj, rfl, hadb, hadc, hrd, hml⟩ := (HL.out.below HBW.out (Nat.le_refl _)).at_ hlt
        have HZK := Lib.hid (lsErr_drop ls k (by have := HLL.out; omega))
        have CV := Lib.hid (pCheck_any (ls.getD k []) Aj (ls.getD k []).length cj wr (hrd.more HBW.out.size) hml)
        clear hrd hml
        by_cases hgz : fErr (ls.getD k []) = 0
        · rw [hgz] at CV
          have HZ2 : Hid (lsErr ls = lsErr (ls.drop (k + 1))) := Lib.hid (by rw [HZ.out, HZK.out, if_pos hgz])
          clear hgz HZK
          go_wp2_with fail
          refine (CV.out).mono ?_
          rintro e w2 ⟨rfl, hb2⟩
          have HBR2 := Lib.hid (HBR.out.trans (hb2.mono HBR.out.size))
          clear hb2
          go_wp2
          go_roundw
          case rel => exact ⟨k + 1, by omega, by go_num, HZ2, HBR2⟩
          case measure => first | (simp [intOf]; done) | (simp [intOf]; omega)
        · have HZ2 : Hid (lsErr ls = fErr (ls.getD k [])) := Lib.hid (by rw [HZ.out, HZK.out, if_neg hgz])
          have HX := Lib.hid (HRE2.out (by rw [HZ2.out]; exact hgz))
          generalize hge : fErr (ls.getD k []) = eg at *
          clear HZK hge
          go_wp2_with fail
          refine (CV.out).mono ?_
          rintro e w2 ⟨rfl, hb2⟩
          have HB2 := Lib.hid (HBW.out.trans (hb2.mono HBW.out.size))
          clear hb2
          go_wp2
          go_ret2
          rw [HX.out.1, HX.out.2, HZ2.out]
          exact ⟨none, 0, rfl, World.ownsRow_nil _ _ _ _, HB2.out⟩
      · have hkn : k = nt := by omega
        subst hkn
        have HZ0 : Hid (lsErr ls = 0) := Lib.hid (by rw [HZ.out, List.drop_of_length_le (by have := HLL.out; omega)]; rfl)
        have HX := Lib.hid (HRES.out HZ0.out)
        have ht2 : wr.cell? ⟨w.heap.size, 0, none⟩ = some (.slice At k ct) := (HBR.out.cell (p := ⟨w.heap.size, 0, none⟩) HTS1.out).trans ht1
        clear ht1
        go_wp2_with fail
        refine (newB_ex wr ((HE.out.below HBW.out).up HBW.out.size)).mono ?_
        rintro e w2 ⟨B, base, bw, bm, rfl, hu, hb2, hlo⟩
        have HU2 := Lib.hid hu
        have HB2 := Lib.hid (HBW.out.trans (hb2.mono HBW.out.size))
        have hsz2 : wr.heap.size ≤ w2.heap.size := hb2.size
        have hszr := HBR.out.size
        have HLO : Hid (w.heap.size ≤ B ∧ wr.heap.size ≤ B) := Lib.hid ⟨Nat.le_trans HBW.out.size hlo, hlo⟩
        have ht3 : w2.cell? ⟨w.heap.size, 0, none⟩ = some (.slice At k ct) := (hb2.cell (p := ⟨w.heap.size, 0, none⟩) (by have := HTS1.out; show w.heap.size < wr.heap.size; omega)).trans ht2
        clear hu hb2 hlo ht2
        go_wp2_with fail
        have HPB := heap_alloc_new w2 (.cells #[.pointer (some ⟨bw, 0, none⟩)] 70)
        have HBA2 : Hid (Below w2.heap.size w2 (w2.alloc (.cells #[.pointer (some ⟨bw, 0, none⟩)] 70))) := Lib.hid ((Below.refl _ w2).alloc (Nat.le_refl _) _)
        have HSA : Hid (w2.heap.size < (w2.alloc (.cells #[.pointer (some ⟨bw, 0, none⟩)] 70)).heap.size) := Lib.hid (by simp)
        generalize w2.alloc (.cells #[.pointer (some ⟨bw, 0, none⟩)] 70) = w3 at *
        have HB3 := Lib.hid (HB2.out.trans (HBA2.out.mono HB2.out.size))
        have HI3 : Hid (Su B base bw bm w.heap.size w2.heap.size At k ct ls w3 []) := Lib.hid (by
          have hu := HU2.out.below HBA2.out
          exact ⟨hu, hu.asideB (by have := HLO.out.2; have := HTS1.out; omega), AsideB.new HU2.out.st HBA2.out (Nat.le_refl _) HSA.out, (HBA2.out.cell (p := ⟨w.heap.size, 0, none⟩) (by have := HTS1.out; show w.heap.size < w2.heap.size; omega)).trans ht3, Lib.cell_of_heap HPB 0, HL.out.below HB3.out HLO.out.1⟩)
        clear HPB ht3
        have hp := HI3.out.pb
        generalize w2.heap.size = bb at *
        have C1 := Lib.hid (HC.out w3.drew ((HR.out.below HB3.out).more HB3.out.size))
        have HI3d := Lib.hid HI3.out.drew
        have HB3d : Hid (Below w.heap.size w w3.drew) := Lib.hid (HB3.out.trans ((Below.refl _ w3).drew.mono HB3.out.size))
        have HSd : Hid (bb < w3.drew.heap.size) := HSA
        have HLS := Lib.hid (lsErr_all HZ0.out)
        have HTW : Hid (w.heap.size < w3.drew.heap.size) := Lib.hid (HI3.out.at_.lt)
        have HQI : Hid (∀ n ∈ q, 0 ≤ n.i) := Lib.hid (fun n hn => by
          obtain ⟨j, hj, hj2⟩ := List.getElem_of_mem hn
          have := (HOK.out.rng j hj).i
          rw [List.getD_eq_getElem?_getD, List.getElem?_eq_getElem hj, Option.getD_some, hj2] at this
          exact this.1)
        have HRULE := Lib.hid (sub_rule (to := ls) (M := 200) (by omega) (fun g hg => ⟨(fErr_ok (lsErr_all HZ0.out g hg)).1, fErr_ops (lsErr_all HZ0.out g hg), (fErr_ok (lsErr_all HZ0.out g hg)).2.1⟩) (fun n => 0 ≤ n.i))
        have HT := Lib.hid HX.out.2
        have HEQ := Lib.hid HX.out.1
        go_region_held3 (fun W' => W'.cell? ⟨bb, 0, none⟩ = some (.pointer (some ⟨bw, 0, none⟩))) (first | assumption)
          (first
            | (go_at_call 45; refine (C1.out).mono ?_; rintro e' w4 ⟨A3, c3, rfl, hown, hb3⟩; have HI4 := Lib.hid (HI3d.out.below hb3); have HA4 := Lib.hid (RdA.own HI3d.out.bu hb3 hown); have HB4 := Lib.hid (HB3d.out.trans (hb3.mono HB3d.out.size)); have HS4 := Lib.hid (Nat.lt_of_lt_of_le HSd.out hb3.size); have HT4 := Lib.hid (Nat.lt_of_lt_of_le HTW.out hb3.size); have hp4 := HI4.out.pb; clear hown hb3)
            | (go_at_call 60; refine (rewrite_sub HRULE.out B base bw bm w.heap.size bb w4 (Su.ok HI4.out.bu.size HT4.out HS4.out) (fun W o n h hs hbd hn hq hl => (sub1_any h n hq HLS.out hbd hn (by omega)).mono (fun _ _ ⟨h1, h2, h3⟩ => ⟨h1, h2.out, h3.out⟩)) q [] HOK.out.ops HKN.out HOK.out.rng HOK.out.ne Bd.nil HQI.out (by have := HLN.out; simp; omega) (by have := HLN.out; omega) A3 c3 HI4.out HA4.out).mono ?_; rintro e' w5 ⟨rfl, h5, hf5⟩; have HI5 := Lib.hid h5; have HB5 := Lib.hid (HB4.out.trans ((HI4.out.bu.low hf5).mono HLO.out.1)); have hp5 := HI5.out.pb; clear h5 hf5)
            | (go_at_call 59; refine (take_own HI5.out.bu _ HT.out.1 (by have := HT.out.2; omega)).mono ?_; rintro e' w6 ⟨A5, c5, rfl, hr6, hb6⟩; have HR6 := Lib.hid (own_base hr6 HB5.out.size); have HB6 := Lib.hid (HB5.out.trans (hb6.mono HB5.out.size)); have hp6 := (HI5.out.below hb6).pb; clear hr6 hb6))
        all_goals go_wp2
        all_goals go_ret2
        all_goals rw [HEQ.out.1, HEQ.out.2]
        all_goals exact ⟨A5, c5, rfl, HR6.out, HB6.out⟩
  · have e1 : subFF f ls = [] := if_neg (fun k => hz k.1)
    have e2 : subEE f ls = fErr f := if_neg hz
    rw [e1, e2]
    clear hR hE hm e1 e2
    generalize fErr f = ef at *
    go_enter Tryd.func52, Tryd.ntmps52
    go_wp2_with fail
    generalize w.alloc (.cells #[.slice At nt ct] 29) = w0 at *
    refine (HV.out w0 ((HR.out.below HBA.out).more HBA.out.size)).mono ?_
    rintro e w1 ⟨rfl, hb⟩
    have HB1 := Lib.hid (HBA.out.trans (hb.mono HBA.out.size))
    clear hb
    go_wp2
    go_ret2
    exact ⟨none, 0, rfl, World.ownsRow_nil _ _ _ _, HB1.out⟩
theorem pSubst_any (f : List Nd) (A : Option Addr) (n c : Nat) (ls : List (List Nd)) (At : Option Addr) (nt ct : Nat) (w : World) (hE : EnvR w w.heap.size) (hR : Reads w w.heap.size 6 A n (nds f)) (hm : n ≤ maxLen) (hL : LsR w w.heap.size At nt ls) (hnt : nt ≤ 1000000) :
    Calls Tryd.prog 52 #[.slice A n c, .slice At nt ct] w fun e w' => ∃ A' c', e = .returned (.tuple #[.slice A' (subFF f ls).length c', .int .i64 (subEE f ls)]) ∧ Reads w' w'.heap.size 6 A' (subFF f ls).length (nds (subFF f ls)) ∧ Below w.heap.size w w' :=
  (pSubst_own f A n c ls At nt ct w hE hR hm hL hnt).mono (by
    rintro e w' ⟨A', c', h1, h2, h3⟩
    exact ⟨A', c', h1, Reads.of_own h2, h3⟩)
end Go.Proofs.YtkkkomkljpolbaaDoor
/- Layer 8: the closure of a formula. -/
namespace Go.Proofs.YtkkkomkljpolbaaDoor
open Go.RowKit Go.Proofs.Ws Go.Maps
set_option maxRecDepth 100000
def appN (ls : List (List Nd)) (f : List Nd) : List (List Nd) := if f ∈ ls then ls else ls ++ [f]
def closN : List (List Nd) → List (List Nd) → List (List Nd)
  | l, [] => l
  | l, g :: gs => closN (appN (appN l g) (mapF negT g)) gs
theorem LL.slice {W : World} {b : Nat} {v : Value} {ls : List (List Nd)} (h : LL W b v ls) : ∃ A c, v = .slice A ls.length c ∧ (∀ k, k < ls.length → ∃ ad Aj cj, A = some ad ∧ W.cell? (ad.add k) = some (.slice Aj (ls.getD k []).length cj) ∧ W.ownsRow 0 62 6 (.slice Aj (ls.getD k []).length cj) (ls.getD k []).length (nds (ls.getD k []))) := by
  obtain ⟨vs, h1, h2⟩ := h.row
  have hs : ∃ A c, v = .slice A ls.length c := by
    rcases h1.2 with ⟨hv, hn⟩ | ⟨g, cap, cur, hv, _⟩
    · exact ⟨none, 0, by rw [hv, hn]⟩
    · exact ⟨_, _, hv⟩
  obtain ⟨A, c, rfl⟩ := hs
  refine ⟨A, c, rfl, fun k hk => ?_⟩
  obtain ⟨Aj, cj, e1, e2⟩ := h2 k hk
  obtain ⟨ad, u, h3, _, h5, h6⟩ := (Reads.of_own h1).at_ hk
  rw [e1] at h5
  injection h5 with h5
  exact ⟨ad, Aj, cj, h3, by rw [h6, h5], e2⟩
set_option maxHeartbeats 4000000 in
theorem appN_any (ls : List (List Nd)) (f : List Nd) (A : Option Addr) (c base : Nat) (v : Value) (w : World) (hL : LL w base v ls) (hO : w.ownsRow 0 62 6 (.slice A f.length c) f.length (nds f)) (hfl : f.length ≤ 1000) (hll : ls.length ≤ 1000) (hml : ∀ g ∈ ls, g.length ≤ 1000) (hb : base ≤ w.heap.size) :
    Calls Tryd.prog 70 #[v, .slice A f.length c] w fun e w' => ∃ v', e = .returned v' ∧ Hid (LL w' base v' (appN ls f)) ∧ Hid (Below base w w') ∧ Hid (∀ (V : Value) (k : Nat) (xs : List Value), w.ownsRow 0 62 6 V k xs → w'.ownsRow 0 62 6 V k xs) := by
  obtain ⟨Av, cv, rfl, hit⟩ := hL.slice
  have HIT := Lib.hid hit
  have HLL := Lib.hid hL
  have HO := Lib.hid hO
  have HFL := Lib.hid hfl
  have HML := Lib.hid hml
  have HB := Lib.hid hb
  obtain ⟨i0, hi, hz0, hz1, hz2⟩ := info_parts Tryd.infoSl
  clear hit hL hO hml hb
  go_enter Tryd.func70, Tryd.ntmps70
  go_wp2
  go_loopw [6, 9] (fun _ i wr => ∃ k : Nat, k ≤ ls.length ∧ i = .int .i64 k ∧ Hid (∀ j, j < k → ls.getD j [] ≠ f) ∧ Hid (Below w.heap.size w wr)) (fun _ i _ => ls.length - (intOf i).toNat)
  case atStart => exact ⟨0, Nat.zero_le _, rfl, Lib.hid (fun j hj => absurd hj (by omega)), Lib.hid (Below.refl _ _)⟩
  case round =>
    obtain ⟨k, hk, rfl, HN, HBR⟩ := hrel
    by_cases hlt : k < ls.length
    · obtain ⟨ad, Aj, cj, rfl, hcell, hown⟩ := HIT.out k hlt
      have hab : (ad.add k).block < w.heap.size := by
        rcases Nat.lt_or_ge (ad.add k).block w.heap.size with h' | h'
        · exact h'
        · simp [World.cell?, Array.getElem?_eq_none h'] at hcell
      have hcr := (HBR.out.cell (p := ad.add k) hab).trans hcell
      have hmem : ls.getD k [] ∈ ls := by
        rw [List.getD_eq_getElem?_getD, List.getElem?_eq_getElem hlt]
        exact List.getElem_mem _
      have hgl := HML.out _ hmem
      have CE := Lib.hid (sEqual_any f (ls.getD k []) A Aj f.length (ls.getD k []).length c cj wr ((Reads.of_own (own_keep1 HO.out (fun g hg => HBR.out.block g (HO.out.lt g hg).2)))) ((Reads.of_own (own_keep1 hown (fun g hg => HBR.out.block g (hown.lt g hg).2)))) (by unfold maxLen; omega) (by unfold maxLen; omega))
      clear hcell hown hab
      by_cases he : f = ls.getD k []
      · have HE := Lib.hid (show appN ls f = ls from if_pos (by rw [he]; exact hmem))
        rw [decide_eq_true he] at CE
        clear he hmem hgl
        generalize (ls.getD k []).length = lg at *
        go_wp2_with fail
        refine (CE.out).mono ?_
        rintro e w2 ⟨rfl, hb2⟩
        have HB2 := Lib.hid (HBR.out.trans (hb2.mono HBR.out.size))
        clear hb2 CE
        go_wp2
        go_ret
        refine ⟨_, rfl, Lib.hid ?_, Lib.hid (HB2.out.mono HB.out), Lib.hid (fun V k xs h => own_keep1 h (fun g hg => HB2.out.block g (h.lt g hg).2))⟩
        rw [HE.out]
        exact HLL.out.below HB2.out
      · have HN2 : Hid (∀ j, j < k + 1 → ls.getD j [] ≠ f) := Lib.hid (fun j hj => by
          by_cases e : j = k
          · subst e; exact fun h => he h.symm
          · exact HN.out j (by omega))
        rw [decide_eq_false he] at CE
        clear he hmem hgl
        generalize (ls.getD k []).length = lg at *
        go_wp2_with fail
        refine (CE.out).mono ?_
        rintro e w2 ⟨rfl, hb2⟩
        have HB2 := Lib.hid (HBR.out.trans (hb2.mono HBR.out.size))
        clear hb2 CE
        go_wp2
        go_roundw
        case rel => exact ⟨k + 1, by omega, by go_num, HN2, HB2⟩
        case measure => first | (simp [intOf]; done) | (simp [intOf]; omega)
    · have hkl : k = ls.length := by omega
      subst hkl
      have HE := Lib.hid (show appN ls f = ls ++ [f] from if_neg (fun hm => by
        obtain ⟨j, hj, hj2⟩ := List.getElem_of_mem hm
        refine HN.out j hj ?_
        rw [List.getD_eq_getElem?_getD, List.getElem?_eq_getElem hj]
        exact hj2))
      obtain ⟨vs, hown, hitr⟩ := (HLL.out.below HBR.out).row
      have HOW := Lib.hid hown
      have HITR := Lib.hid hitr
      have HOF := Lib.hid (own_keep1 HO.out (fun g hg => HBR.out.block g (HO.out.lt g hg).2))
      have hszr := HBR.out.size
      have hbb := HB.out
      clear hitr
      go_wp2_with (at_builtin; refine wpList_append_own _ rfl _ _ 29 rfl base 22 i0 (.slice none 0 0) 1 24 Tryd.underlying29 hi hz0 hz1 hz2 rfl (by decide) _ _ _ rfl (hown.alloc _) ⟨wr.heap.size, 0, none⟩ 1 1 [.slice A f.length c] rfl rfl ?k1 ?k2 ?k3 ?k4 ?k5 ?_)
      case k2 => intro u hu; simp at hu; subst hu; rfl
      case k3 => unfold maxLen; omega
      case k4 => omega
      case k5 => simp; omega
      case k1 =>
        intro j u hj
        match j, hj with
        | 0, hj => simp at hj; subst hj; simp [Addr.add]
      · intro v' w5 hown' hgrow _
        have HL5 : Hid (LL w5 base v' (ls ++ [f])) := Lib.hid (LL.app HOW.out HITR.out HOF.out hown' hgrow)
        have HB5 : Hid (Below base w w5) := Lib.hid (((HBR.out.mono hbb).alloc (by omega) _).grown hgrow (by simp; omega) (fun g hg => (HOW.out.lt g hg).1))
        have HK5 : Hid (∀ (V : Value) (k : Nat) (xs : List Value), w.ownsRow 0 62 6 V k xs → w5.ownsRow 0 62 6 V k xs) := Lib.hid (fun V k xs h => by
          have h2 := own_keep1 h (fun g hg => HBR.out.block g (h.lt g hg).2)
          refine own_keep1 h2 (fun g hg => ?_)
          have hlt := (h2.lt g hg).2
          exact (hgrow.block g (Nat.lt_of_lt_of_le hlt (by simp)) (fun e => own_apart h2 HOW.out (by decide) hg e.symm)).trans (Below.heap_alloc wr _ g hlt))
        clear hown' hgrow hown
        go_wp2
        go_ret
        exact ⟨v', rfl, by rw [HE.out]; exact HL5, HB5, HK5⟩
theorem appN_len (ls : List (List Nd)) (f : List Nd) : (appN ls f).length ≤ ls.length + 1 := by unfold appN; split <;> simp
theorem appN_mem {ls : List (List Nd)} {f g : List Nd} (h : g ∈ appN ls f) : g ∈ ls ∨ g = f := by
  unfold appN at h
  split at h
  · exact .inl h
  · rcases List.mem_append.1 h with h | h
    · exact .inl h
    · exact .inr (List.mem_singleton.1 h)
theorem closN_snoc : ∀ (gs l : List (List Nd)) (g : List Nd), closN l (gs ++ [g]) = appN (appN (closN l gs) g) (mapF negT g)
  | [], _, _ => rfl
  | a :: gs, l, g => closN_snoc gs (appN (appN l a) (mapF negT a)) g
theorem closN_len : ∀ (gs l : List (List Nd)), (closN l gs).length ≤ l.length + 2 * gs.length
  | [], l => by show l.length ≤ _; omega
  | g :: gs, l => by
    have h1 := closN_len gs (appN (appN l g) (mapF negT g))
    have h2 := appN_len l g
    have h3 := appN_len (appN l g) (mapF negT g)
    show (closN (appN (appN l g) (mapF negT g)) gs).length ≤ _
    rw [List.length_cons]
    omega
theorem mapF_len (T : Tr → Tr) (g : List Nd) : (mapF T g).length ≤ 200 := by
  unfold mapF resL
  split
  · split
    · simp
    · omega
  · simp
theorem closN_small : ∀ (gs l : List (List Nd)), (∀ g ∈ l, g.length ≤ 1000) → (∀ g ∈ gs, g.length ≤ 1000) → ∀ g ∈ closN l gs, g.length ≤ 1000
  | [], _, h, _ => h
  | a :: gs, l, h, k => closN_small gs _ (fun g hg => by
    rcases appN_mem hg with hg | rfl
    · rcases appN_mem hg with hg | rfl
      · exact h g hg
      · exact k _ List.mem_cons_self
    · exact Nat.le_trans (mapF_len _ _) (by omega)) (fun g hg => k g (List.mem_cons_of_mem _ hg))
theorem subs_ok {f s : List Nd} (h2 : f.length ≤ 199) (hs : s ∈ subsF f) : fErr s = 0 ∧ s.length ≤ 199 ∧ mapE negT s = 0 := by
  obtain ⟨h0, t, r, ht, h3, h4, h5, h6, _⟩ := subs_tree hs
  have hl := compF_le f
  have e : tOf s = r := by
    unfold tOf
    rw [h5]
    exact canT_tree (subT_ok h4 ht)
  have hlen : s.length ≤ 199 := by
    rw [h5]
    rw [h3] at hl
    rcases canT_len ht h4 with e2 | e2
    · rw [e2]; omega
    · omega
  refine ⟨h6, hlen, ?_⟩
  unfold mapE resE
  rw [if_pos h6]
  have := neg_len (tOf_all h6)
  rw [e] at this ⊢
  rw [h5] at hlen
  rw [if_neg (by omega)]
set_option maxHeartbeats 4000000 in
theorem pClosure_any (f : List Nd) (A : Option Addr) (n c : Nat) (w : World) (hE : EnvR w w.heap.size) (hR : Reads w w.heap.size 6 A n (nds f)) (hm : n ≤ maxLen) (hfew : fErr f = 0 → f.length ≤ 199) :
    Calls Tryd.prog 21 #[.slice A n c] w fun e w' => ∃ v, e = .returned (.tuple #[v, .int .i64 (fErr f)]) ∧ LL w' w.heap.size v (if fErr f = 0 then closN [] (subsF f) else []) ∧ Below w.heap.size w w' := by
  have HV := Lib.hid (pCheck_any f A n c w hR hm)
  have HR := Lib.hid hR
  have HE := Lib.hid hE
  by_cases hz : fErr f = 0
  · rw [if_pos hz, hz]
    have HS := Lib.hid (fun W (h : Reads W W.heap.size 6 A n (nds f)) => pSubs_any f A n c W h hm)
    have hss : ∀ s ∈ subsF f, fErr s = 0 ∧ s.length ≤ 199 ∧ mapE negT s = 0 := fun s hs => subs_ok (hfew hz) hs
    have hsl : (subsF f).length ≤ 200 := by
      unfold subsF
      rw [List.length_map, List.length_range]
      exact Nat.le_trans (compF_le f) (by have := hfew hz; omega)
    rw [hz] at HV
    clear hR hE hm hfew
    generalize subsF f = ss at *
    have HSS := Lib.hid hss
    clear hss
    go_enter Tryd.func21, Tryd.ntmps21
    go_wp2_with fail
    refine (HV.out).mono ?_
    rintro e w1 ⟨rfl, hb⟩
    have HB1 := Lib.hid hb
    clear hb
    go_wp2_with fail
    refine (HS.out w1 ((HR.out.below HB1.out).more HB1.out.size)).mono ?_
    rintro e w2 ⟨vs, rfl, hLL, hb2⟩
    have HLS := Lib.hid hLL
    have HB2 := Lib.hid (HB1.out.trans (hb2.mono HB1.out.size))
    obtain ⟨As, cs, rfl, hit⟩ := hLL.slice
    have HIT := Lib.hid hit
    clear hb2 hLL hit
    go_wp2
    go_loopw [5, 7, 8, 9, 18] (fun v _ _ _ i wr => ∃ k : Nat, k ≤ ss.length ∧ i = .int .i64 k ∧ Hid (LL wr w2.heap.size v (closN [] (ss.take k))) ∧ Hid (Below w2.heap.size w2 wr)) (fun _ _ _ _ i _ => ss.length - (intOf i).toNat)
    case atStart => exact ⟨0, Nat.zero_le _, rfl, Lib.hid (LL.nil _ _), Lib.hid (Below.refl _ _)⟩
    case round =>
      obtain ⟨k, hk, rfl, HL, HBR⟩ := hrel
      by_cases hlt : k < ss.length
      · obtain ⟨ad, Aj, cj, rfl, hcell, hown⟩ := HIT.out k hlt
        have hab : (ad.add k).block < w2.heap.size := by
          rcases Nat.lt_or_ge (ad.add k).block w2.heap.size with h' | h'
          · exact h'
          · simp [World.cell?, Array.getElem?_eq_none h'] at hcell
        have hcr := (HBR.out.cell (p := ad.add k) hab).trans hcell
        have hmem : ss.getD k [] ∈ ss := by
          rw [List.getD_eq_getElem?_getD, List.getElem?_eq_getElem hlt]
          exact List.getElem_mem _
        obtain ⟨g1, g2, g3⟩ := HSS.out _ hmem
        have hsuc : closN [] (ss.take (k + 1)) = appN (appN (closN [] (ss.take k)) (ss.getD k [])) (mapF negT (ss.getD k [])) := by
          rw [List.take_succ_eq_append_getElem hlt, closN_snoc]
          have : ss.getD k [] = ss[k] := by rw [List.getD_eq_getElem?_getD, List.getElem?_eq_getElem hlt]; rfl
          rw [this]
        have hcl := closN_len (ss.take k) []
        have hcs := closN_small (ss.take k) [] (fun g hg => absurd hg (by simp)) (fun g hg => by have := (HSS.out g (List.mem_of_mem_take hg)).2.1; omega)
        have hnl := mapF_len negT (ss.getD k [])
        have HOWN : Hid (wr.ownsRow 0 62 6 (.slice Aj (ss.getD k []).length cj) (ss.getD k []).length (nds (ss.getD k []))) := Lib.hid (own_keep1 hown (fun g hg => HBR.out.block g (hown.lt g hg).2))
        have HBW := Lib.hid (HB2.out.trans (HBR.out.mono HB2.out.size))
        have CN := Lib.hid (pNegate_own (ss.getD k []) Aj (ss.getD k []).length cj wr ((HE.out.below HBW.out).up HBW.out.size) (Reads.of_own HOWN.out) (by unfold maxLen; omega))
        rw [g3] at CN
        have HSUC := Lib.hid hsuc
        have htk : (ss.take k).length ≤ 200 := by rw [List.length_take]; omega
        have hcl2 : (closN [] (ss.take k)).length ≤ 400 := by simp at hcl; omega
        have HCS := Lib.hid hcs
        clear hcell hown hab hmem hsuc hcl hcs g1 g3 htk
        generalize mapF negT (ss.getD k []) = ng at *
        generalize ss.getD k [] = g at *
        generalize hcn : closN [] (ss.take (k + 1)) = cn at *
        have HCN := Lib.hid hcn
        clear hcn
        generalize closN [] (ss.take k) = cl at *
        go_wp2_with fail
        refine (CN.out).mono ?_
        rintro e w3 ⟨An, cn2, rfl, hon, hb3⟩
        have HON := Lib.hid (own_base hon (Nat.zero_le _))
        have HOG := Lib.hid (own_keep1 HOWN.out (fun g hg => hb3.block g (HOWN.out.lt g hg).2))
        have HL3 := Lib.hid (HL.out.below hb3)
        have HB3 := Lib.hid (HBR.out.trans (hb3.mono HBR.out.size))
        clear hon hb3
        have hg1 : g.length ≤ 1000 := by omega
        have hn1 : ng.length ≤ 1000 := by omega
        have hc1 : cl.length ≤ 1000 := by omega
        go_wp2_with fail
        refine (appN_any cl g Aj cj w2.heap.size _ w3 HL3.out HOG.out hg1 hc1 HCS.out HB3.out.size).mono ?_
        rintro e w4 ⟨v4, rfl, hL4, hb4, hk4⟩
        have HB4 := Lib.hid (HB3.out.trans hb4.out)
        have HON4 := Lib.hid (hk4.out _ _ _ HON.out)
        have hc2 := appN_len cl g
        have HCS4 : Hid (∀ h ∈ appN cl g, h.length ≤ 1000) := Lib.hid (fun h hh => by
          rcases appN_mem hh with hh | rfl
          · exact HCS.out h hh
          · exact hg1)
        clear hb4 hk4
        generalize appN cl g = cl4 at *
        go_wp2_with fail
        refine (appN_any cl4 ng An cn2 w2.heap.size _ w4 hL4.out HON4.out hn1 (by omega) HCS4.out HB4.out.size).mono ?_
        rintro e w5 ⟨v5, rfl, hL5, hb5, hk5⟩
        have HB5 := Lib.hid (HB4.out.trans hb5.out)
        rw [← HSUC.out] at hL5
        clear hb5 hk5
        go_wp2
        go_roundw
        case rel => exact ⟨k + 1, by omega, by go_num, by rw [HCN.out]; exact hL5, HB5⟩
        case measure => first | (simp [intOf]; done) | (simp [intOf]; omega)
      · have hkl : k = ss.length := by omega
        subst hkl
        rw [List.take_length] at HL
        go_wp2
        go_ret2
        exact ⟨_, rfl, HL.out.base HB2.out.size, HB2.out.trans (HBR.out.mono HB2.out.size)⟩
  · rw [if_neg hz]
    clear hR hE hm hfew
    generalize fErr f = ef at *
    go_enter Tryd.func21, Tryd.ntmps21
    go_wp2_with fail
    refine (HV.out).mono ?_
    rintro e w1 ⟨rfl, hb⟩
    have HB1 := Lib.hid hb
    clear hb
    go_wp2
    go_ret2
    exact ⟨_, rfl, LL.nil _ _, HB1.out⟩
end Go.Proofs.YtkkkomkljpolbaaDoor
/- Layer 8: the reference's Fact, Not, Poss. -/
namespace Go.Proofs.YtkkkomkljpolbaaDoor
open Go.RowKit Go.Proofs.Ws Go.Maps
set_option maxRecDepth 100000
theorem rFact_any (z : Int) (w : World) :
    Calls Tryd.prog 54 #[.int .i64 z] w fun e w' => ∃ A' c', e = .returned (.slice A' (oneF ⟨3, z, 0, 0, 0, 0⟩).length c') ∧ Reads w' w'.heap.size 6 A' (oneF ⟨3, z, 0, 0, 0, 0⟩).length (nds (oneF ⟨3, z, 0, 0, 0, 0⟩)) ∧ Below w.heap.size w w' := by
  have HC := Lib.hid (rOne_any ⟨3, z, 0, 0, 0, 0⟩ w)
  unfold nv at HC
  generalize oneF ⟨3, z, 0, 0, 0, 0⟩ = q at *
  dsimp only at HC
  go_enter Tryd.func54, Tryd.ntmps54
  go_wp2_with fail
  refine (HC.out).mono ?_
  rintro e w2 ⟨A', c', rfl, hR2, hb2⟩
  have HR2 := Lib.hid hR2
  have HB2 := Lib.hid hb2
  clear hR2 hb2
  go_wp2
  go_ret
  exact ⟨A', c', rfl, HR2.out, HB2.out⟩
theorem rNot_any (f : List Nd) (A : Option Addr) (n c : Nat) (w : World) (hR : Reads w w.heap.size 6 A n (nds f)) (hm : n ≤ maxLen) :
    Calls Tryd.prog 56 #[.slice A n c] w fun e w' => ∃ A' c', e = .returned (.slice A' (unaryF ⟨4, 0, 0, 0, 0, 0⟩ f).length c') ∧ Reads w' w'.heap.size 6 A' (unaryF ⟨4, 0, 0, 0, 0, 0⟩ f).length (nds (unaryF ⟨4, 0, 0, 0, 0, 0⟩ f)) ∧ Below w.heap.size w w' := by
  have HC := Lib.hid (rUnary_any ⟨4, 0, 0, 0, 0, 0⟩ f A n c w hR hm)
  unfold nv at HC
  generalize unaryF ⟨4, 0, 0, 0, 0, 0⟩ f = q at *
  dsimp only at HC
  clear hR
  go_enter Tryd.func56, Tryd.ntmps56
  go_wp2_with fail
  refine (HC.out).mono ?_
  rintro e w2 ⟨A', c', rfl, hR2, hb2⟩
  have HR2 := Lib.hid hR2
  have HB2 := Lib.hid hb2
  clear hR2 hb2
  go_wp2
  go_ret
  exact ⟨A', c', rfl, HR2.out, HB2.out⟩
theorem rPoss_any (z : Int) (f : List Nd) (A : Option Addr) (n c : Nat) (w : World) (hR : Reads w w.heap.size 6 A n (nds f)) (hm : n ≤ maxLen) :
    Calls Tryd.prog 55 #[.int .i64 z, .slice A n c] w fun e w' => ∃ A' c', e = .returned (.slice A' (unaryF ⟨10, z, 0, 0, 0, 0⟩ f).length c') ∧ Reads w' w'.heap.size 6 A' (unaryF ⟨10, z, 0, 0, 0, 0⟩ f).length (nds (unaryF ⟨10, z, 0, 0, 0, 0⟩ f)) ∧ Below w.heap.size w w' := by
  have HC := Lib.hid (rUnary_any ⟨10, z, 0, 0, 0, 0⟩ f A n c w hR hm)
  unfold nv at HC
  generalize unaryF ⟨10, z, 0, 0, 0, 0⟩ f = q at *
  dsimp only at HC
  clear hR
  go_enter Tryd.func55, Tryd.ntmps55
  go_wp2_with fail
  refine (HC.out).mono ?_
  rintro e w2 ⟨A', c', rfl, hR2, hb2⟩
  have HR2 := Lib.hid hR2
  have HB2 := Lib.hid hb2
  clear hR2 hb2
  go_wp2
  go_ret
  exact ⟨A', c', rfl, HR2.out, HB2.out⟩
end Go.Proofs.YtkkkomkljpolbaaDoor
