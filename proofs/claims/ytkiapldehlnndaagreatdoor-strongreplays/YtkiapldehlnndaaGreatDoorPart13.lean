/- Texts of this claim, joined: SgRef0, SgPlay, SgDRp0, RoLoop, RoIter, SgTkg, SgSpl. -/
import Derived.Test.YtkiapldehlnndaaGreatDoorPart8
import Derived.Test.YtkiapldehlnndaaGreatDoorPart7
import Derived.Test.YtkiapldehlnndaaGreatDoorPart9
import Derived.Test.YtkiapldehlnndaaGreatDoorSgBeg
import Derived.RangeFuncNested
import Derived.RangeFuncBound
import Derived.RangeFuncCalls
import Derived.RangeFuncLeaves
import Derived.RangeFuncBox
import Derived.RangeFuncWrites
import Derived.Test.YtkiapldehlnndaaGreatDoorPart2
import Derived.Shelf.Abstract
import Derived.Shelf.RegionOpen
import Derived.WalkKit
import Derived.OwnWalkIn
import Derived.TacticsInMore
import Derived.LoopNIn
import Derived.LoopIn
import Derived.Deep.DeepCutAuto
import Derived.BigQuiet
/- strong: what Refine tells so far, in memory; what next says of heaps. -/
namespace Go.Proofs.YtkiapldehlnndaaGreatDoor
open Go.RowKit Go.Maps
structure Told (W : World) (B tb : Nat) (vT vG : Value) (gz : List Int) (tk : List (Value × List Int)) : Prop where
 box : W.heap[tb]? = some (.cells #[.slice none 0 0, vT, vG] 60 (0, 0))
 row : W.ownsRow B 28 1 vT tk.length (tk.map (·.1))
 q : QueAll W B ((vG, gz) :: tk)
 fl : ∀ z ∈ (vG, gz) :: tk, At0 z.1
 up : B ≤ tb
theorem Told.kept {W W' : World} {B tb : Nat} {vT vG : Value} {gz : List Int} {tk : List (Value × List Int)} {F : Nat → Prop} (h : Told W B tb vT vG gz tk) (hk : Kept F W W') (h1 : ¬ F tb) (h2 : ∀ b, vT.ownBlock = some b → ¬ F b) (h3 : ∀ b, Foot ((vG, gz) :: tk) b → ¬ F b) : Told W' B tb vT vG gz tk :=
 ⟨(hk.block tb (t_lt h.box) h1).trans h.box, own_up h.row hk h2, h.q.kept hk h3, h.fl, h.up⟩
theorem Told.below {W W' : World} {B tb : Nat} {vT vG : Value} {gz : List Int} {tk : List (Value × List Int)} (h : Told W B tb vT vG gz tk) (hb : Below W.heap.size W W') : Told W' B tb vT vG gz tk := h.kept (F := fun _ => False) (Kept.of_below hb) (fun h => h) (fun _ _ h => h) (fun _ _ h => h)
def gOf (n : Nat) (f : Nat → Int) : List Int := (List.range n).map f
theorem gOf_len (n : Nat) (f : Nat → Int) : (gOf n f).length = n := by simp [gOf]
theorem gOf_at {n : Nat} {f : Nat → Int} {e : Nat} (h : e < n) : (gOf n f)[e]? = some (f e) := by unfold gOf; rw [List.getElem?_map, List.getElem?_range h]; rfl
theorem gOf_set (n : Nat) (f : Nat → Int) (k : Nat) (z : Int) : (gOf n f).set k z = gOf n fun e => if e = k then z else f e := by
 apply List.ext_getElem?
 intro i
 rcases Nat.lt_or_ge i n with h | h
 ·by_cases e : i = k
  ·subst e
   rw [List.getElem?_set_self (by rw [gOf_len]; exact h), gOf_at h, if_pos rfl]
  ·rw [List.getElem?_set_ne (fun e2 => e e2.symm), gOf_at h, gOf_at h, if_neg e]
 ·rw [List.getElem?_eq_none (by rw [List.length_set, gOf_len]; exact h), List.getElem?_eq_none (by rw [gOf_len]; exact h)]
theorem gOf_congr {n : Nat} {f g : Nat → Int} (h : ∀ e, e < n → f e = g e) : gOf n f = gOf n g := by
 unfold gOf
 exact List.map_congr_left fun e he => h e (List.mem_range.1 he)
def gz1 (l : List (List Int)) (e : Nat) : Int := ((l.countP fun m => decide ((e : Int) ∈ m) : Nat) : Int)
theorem gz1_snoc (l : List (List Int)) (m : List Int) (hm : m.Nodup) (e : Nat) : gz1 (l ++ [m]) e = gz1 l e + m.count (e : Int) := by
 unfold gz1
 rw [List.countP_append, List.countP_cons, List.countP_nil]
 by_cases h : (e : Int) ∈ m
 ·have h1 := hm.count (a := (e : Int))
  rw [h1, if_pos h]
  simp [h]
 ·rw [List.count_eq_zero.2 h]
  simp [h]
structure RfL (w0 wS wr : World) (r g p mb tb nm : Nat) (G : Gp) (s : Pst) (x : Rv) (vT vG : Value) (tk : List (Value × List Int)) : Prop where
 run : RunAt w0 wr r g p mb nm G s x
 told : Told wr wS.heap.size tb vT vG (gOf G.n (gz1 (tk.map (·.2)))) tk
 far : ∀ b, x.foot b → ¬ Foot ((vG, gOf G.n (gz1 (tk.map (·.2)))) :: tk) b
 lo : p < wS.heap.size ∧ r < wS.heap.size ∧ mb < wS.heap.size
 hist : Sg.Hist G (tk.map (·.2)) s.O (hOf s x) x.ks.length
 nmb : nm ≤ 10000 + x.ks.length * 10000000
def MayTake (G : Gp) (s : Pst) (x : Rv) (bl : Nat) : Prop := bl < s.nb ∧ ∃ e0, e0 < G.n ∧ s.O e0 = bl ∧ (hOf s x e0 = 0 ∨ 2 * Sg.bc G.n s.O bl ≤ hc G.n (hOf s x) (hOf s x e0))
def AllOne (G : Gp) (s : Pst) (x : Rv) : Prop := ∀ a b, a < G.n → b < G.n → hOf s x a = hOf s x b → s.O a = s.O b
theorem tfoot_ty {W : World} {B tb : Nat} {vT vG : Value} {gz : List Int} {tk : List (Value × List Int)} (h : Told W B tb vT vG gz tk) {b : Nat} (hb : Foot ((vG, gz) :: tk) b) : ∃ cs, W.heap[b]? = some (.cells cs 3 (0, 0)) := h.q.typed hb
theorem memb_eq (s : Pst) (b : Nat) : s.mem b = Sg.memb s.n s.O b := rfl
theorem bc_mem (s : Pst) (b : Nat) : Sg.bc s.n s.O b = (s.mem b).length := by rw [mem_count]; rfl
theorem RfL.take {w0 wS wr w' : World} {r g p mb tb nm nm' bl : Nat} {G : Gp} {s s' : Pst} {x x' : Rv} {vT vG : Value} {tk : List (Value × List Int)} {u : Value} (hR : RunAt w0 wr r g p mb nm G s x) (hT : Told wr wS.heap.size tb vT vG (gOf G.n (gz1 ((tk ++ [(u, s.mem bl)]).map (·.2)))) (tk ++ [(u, s.mem bl)])) (hf : ∀ b, x.foot b → ¬ Foot ((vG, gOf G.n (gz1 ((tk ++ [(u, s.mem bl)]).map (·.2)))) :: (tk ++ [(u, s.mem bl)])) b) (hlo : p < wS.heap.size ∧ r < wS.heap.size ∧ mb < wS.heap.size) (hH : Sg.Hist G (tk.map (·.2)) s.O (hOf s x) x.ks.length) (hnm : nm ≤ 10000 + x.ks.length * 10000000) (hm : MayTake G s x bl)
 (hR' : RunAt w0 w' r g p mb nm' G s' x') (hA : TakeAt wr w' r p mb nm nm' G s s' x x' bl) : RfL w0 wS w' r g p mb tb nm' G s' x' vT vG (tk ++ [(u, s.mem bl)]) := by
 obtain ⟨_, e0, he, hO, half⟩ := hm
 have hn := hR.n
 obtain ⟨c, hP, _⟩ := hR.c
 have hup := hT.up
 have hint : ∀ b, Foot ((vG, gOf G.n (gz1 ((tk ++ [(u, s.mem bl)]).map (·.2)))) :: (tk ++ [(u, s.mem bl)])) b → ¬ (b = p ∨ b = r ∨ b = mb ∨ x.foot b) := fun b hb e => by
  obtain ⟨cs, hc⟩ := tfoot_ty hT hb
  have hlt := (hT.q.lt hb).1
  rcases e with e | e | e | e
  ·omega
  ·omega
  ·omega
  ·exact hf b e hb
 refine ⟨hR', hT.kept hA.kp (fun e => ?_) (fun b hb e => ?_) hint, fun b hb hb2 => ?_, hlo, ?_, ?_⟩
 ·rcases e with e | e | e | e
  ·omega
  ·omega
  ·omega
  ·exact hR.m.foot_ne hT.box (by decide) (by decide) e
 ·have h1 := (hT.row.lt b hb).1
  obtain ⟨cs, hc⟩ := row_cells hT.row hb
  rcases e with e | e | e | e
  ·omega
  ·omega
  ·omega
  ·exact hR.m.foot_ne hc (by decide) (by decide) e
 ·rcases hA.ft b hb with h1 | h1
  ·exact hf b h1 hb2
  ·have := (hT.q.lt hb2).2
   omega
 ·have h1 := Sg.Hist.step (O' := s'.O) (H' := hOf s' x') e0 hH he (by rw [hO]; exact half) (by
   have h2 := hA.sp
   rw [hn] at h2
   have h3 : hOf s x e0 = x.of bl := by unfold hOf; rw [hO]
   rw [hO, h3]
   exact h2) (fun e hE => by rw [hA.hp e (by rw [hn]; exact hE), hO])
  rw [List.map_append, hA.ks]
  have h4 : [(u, s.mem bl)].map (·.2) = [Sg.memb G.n s.O (s.O e0)] := by rw [hO, ← hn, ← memb_eq]; rfl
  rw [h4]
  exact h1
 ·have h1 := hA.nm
  rw [hA.ks]
  omega
theorem RunI.wait {s : Pst} {x : Rv} {w w' : World} {B r g p mb k : Nat} {u : Value} (hI : RunI s x) (hN : NextAt w w' B r g p mb x k u) : RunI s (x.wait k u) := by
 refine ⟨hI.ow, hI.sz, hI.szv, hI.own, hI.nd, hI.hs, fun o bs h h2 => ?_, ?_, fun z hz => hI.wtn z (List.mem_of_mem_drop hz), hI.len⟩
 ·have h3 := hI.wt o bs h h2
  rw [← List.take_append_drop k x.wt] at h3
  rcases List.mem_append.1 h3 with h4 | h4
  ·obtain ⟨o', hv, e1, e2, e3⟩ := hN.one _ h4
   have e4 : o' = o := by omega
   rw [e4] at e2
   have h5 : (x.H.map (·.2))[o]? = some hv.2 := by rw [List.getElem?_map, e2]; rfl
   have h6 : bs = hv.2 := Option.some.inj (h.symm.trans h5)
   rw [h6] at h2
   omega
  ·exact h4
 ·have h1 := hI.wtl
  show (x.wt.drop k).length ≤ s.nb
  rw [List.length_drop]
  omega
theorem RunAt.next {w0 w w' : World} {r g p mb nm k : Nat} {G : Gp} {s : Pst} {x : Rv} {u : Value} (h : RunAt w0 w r g p mb nm G s x) (hN : NextAt w w' w0.heap.size r g p mb x k u) : RunAt w0 w' r g p mb nm G s (x.wait k u) := by
 obtain ⟨c, h1, h2⟩ := h.c
 have hpf := h.m.p_foot h1
 have hmf := h.m.mb_foot h.cnt
 refine ⟨hN.m, ⟨c, h1.kept hN.gw.kp fun b hb => ⟨hb.elim (fun e => by rw [e]; exact h.m.up) fun e => (h.m.foot_lt e).1, fun e => ?_⟩, h2⟩, h.ok, h.bare, h.n, h.i.wait hN, h.gr, h.mu, h.cnt.kept hN.gw.kp fun e => ?_, h.ksv⟩
 ·rw [e] at hb; exact hb.elim (fun e2 => hpf.2 e2) hpf.1
 ·exact e.elim (fun e2 => hmf.2 e2) hmf.1
theorem RunI.of_mem {s : Pst} {x : Rv} (hI : RunI s x) {o : Nat} {bs : List Int} (h : (x.H.map (·.2))[o]? = some bs) {b : Nat} (hb : (b : Int) ∈ bs) : b < s.nb ∧ x.of b = (o : Int) := by
 obtain ⟨c, e1, e2, e3⟩ := (hI.hs o bs h _).1 hb
 have e4 : b = c := by omega
 rw [e4]
 exact ⟨e2, by unfold Rv.of; rw [e3]; rfl⟩
theorem block_state {s : Pst} (hO : s.Ok) {b : Nat} (hb : b < s.nb) : ∃ e, e < s.n ∧ s.O e = b := by
 have v := hO.iv b hb
 exact ⟨s.E (s.B b), (hO.ep (s.B b) (by omega)).1, hO.ow b hb (s.B b) (Nat.le_refl _) (by omega)⟩
theorem next_yes {w0 w : World} {r g p mb nm : Nat} {G : Gp} {s : Pst} {x : Rv} (h : RunAt w0 w r g p mb nm G s x) {o a b : Nat} {v : Value} {bs : List Int} {y z : Int} (hH : x.H[o]? = some (v, (a : Int) :: (b : Int) :: bs)) (hy : x.sz[a]? = some y) (hz : x.sz[b]? = some z) : MayTake G s x (if y ≤ z then a else b) := by
 have hHm : (x.H.map (·.2))[o]? = some ((a : Int) :: (b : Int) :: bs) := by rw [List.getElem?_map, hH]; rfl
 obtain ⟨a1, a2⟩ := h.i.of_mem hHm (b := a) (by simp)
 obtain ⟨b1, b2⟩ := h.i.of_mem hHm (b := b) (by simp)
 have hne : a ≠ b := fun e => by
  have h1 := h.i.nd o _ hHm
  rw [e] at h1
  simp at h1
 have ya : y = ((s.mem a).length : Int) := Option.some.inj (hy.symm.trans (h.i.szv a a1))
 have zb : z = ((s.mem b).length : Int) := Option.some.inj (hz.symm.trans (h.i.szv b b1))
 have hn := h.n
 have hsum : Sg.bc G.n s.O a + Sg.bc G.n s.O b ≤ hc G.n (hOf s x) (o : Int) := by
  unfold Sg.bc hc
  rw [← countP_add (l := List.range G.n) (f := fun e => decide (s.O e = a) || decide (s.O e = b)) fun e _ => ⟨rfl, by
   by_cases h1 : s.O e = a
   ·simp [h1, hne]
   ·simp [h1]⟩]
  refine List.countP_mono_left fun e _ he => ?_
  simp only [Bool.or_eq_true, decide_eq_true_eq] at he
  have h1 : hOf s x e = (o : Int) := by
   unfold hOf
   rcases he with e1 | e1
   ·rw [e1]; exact a2
   ·rw [e1]; exact b2
  simp [h1]
 rw [← hn] at hsum
 rw [bc_mem, bc_mem] at hsum
 have key : ∀ t, t < s.nb → x.of t = (o : Int) → 2 * (s.mem t).length ≤ hc s.n (hOf s x) (o : Int) → MayTake G s x t := fun t ht h1 h2 => by
  obtain ⟨e0, he, hO⟩ := block_state h.ok ht
  refine ⟨ht, e0, by rw [← hn]; exact he, hO, .inr ?_⟩
  have h3 : hOf s x e0 = (o : Int) := by unfold hOf; rw [hO]; exact h1
  rw [h3, ← hn, bc_mem]
  exact h2
 by_cases hle : y ≤ z
 ·rw [if_pos hle]; exact key a a1 a2 (by omega)
 ·rw [if_neg hle]; exact key b b1 b2 (by omega)
theorem next_no {w0 w w' : World} {r g p mb nm k : Nat} {G : Gp} {s : Pst} {x : Rv} {u : Value} (h : RunAt w0 w r g p mb nm G s x) (hN : NextAt w w' w0.heap.size r g p mb x k u) (hk : k = x.wt.length) : AllOne G s x := by
 intro a b ha hb e
 have hn := h.n
 have a1 := (h.ok.o a (by omega)).1
 have b1 := (h.ok.o b (by omega)).1
 obtain ⟨o, k1, v, bs, how, hH, hks, hHm⟩ := h.i.heap a1
 have hob : x.ow[s.O b]? = some (o : Int) := by
  obtain ⟨o2, k2, v2, bs2, how2, _⟩ := h.i.heap b1
  unfold hOf Rv.of at e
  rw [how, how2] at e
  rw [how2]
  exact congrArg some e.symm
 have ma := (h.i.hs o bs hHm (s.O a : Int)).2 ⟨_, rfl, a1, how⟩
 have mb' := (h.i.hs o bs hHm (s.O b : Int)).2 ⟨_, rfl, b1, hob⟩
 have hl : bs.length ≤ 1 := by
  rcases Nat.lt_or_ge bs.length 2 with h1 | h1
  ·omega
  ·have h2 := h.i.wt o bs hHm h1
   obtain ⟨o', hv, e1, e2, e3⟩ := hN.one (o : Int) (by rw [hk, List.take_length]; exact h2)
   have e4 : o' = o := by omega
   rw [e4, hH] at e2
   cases e2
   exact e3
 match bs, hl, ma, mb' with
 | [], _, ma, _ => simp at ma
 | [c], _, ma, mb' =>
   rw [List.mem_singleton] at ma mb'
   omega
 | _ :: _ :: _, hl, _, _ => simp at hl
end Go.Proofs.YtkiapldehlnndaaGreatDoor
/- What a run says of the played one, taking by taking. Plain facts. -/
namespace Go.Proofs.YtkiapldehlnndaaGreatDoor
open Ro
namespace Sg
theorem dd_nodup {K : Type} [DecidableEq K] (l : List K) : (dd l).Nodup := by
 refine snoc_ind (P := fun l => (dd l).Nodup) List.nodup_nil (fun l x ih => ?_) l
 rw [dd_snoc]
 unfold more
 split
 ·exact ih
 ·rename_i h
  refine List.nodup_append.2 ⟨ih, by simp, fun a ha b hb e => ?_⟩
  rw [List.mem_singleton.1 hb] at e
  exact h (e ▸ ha)
theorem mRun_snoc (G : Gp) {tk : List (List Int)} (h : tk ≠ []) (l : List Int) : mRun G (tk ++ [l]) = (mRun G tk).bind fun st => mNext G st l := by
 cases tk with
 | nil => exact absurd rfl h
 | cons a r =>
   show (r ++ [l]).foldl _ (mFirst G a) = _
   rw [List.foldl_append]
   rfl
theorem fold_none (G : Gp) (r : List (List Int)) : r.foldl (fun st l => st.bind fun st => mNext G st l) (none : Option Ms) = none := by
 induction r with
 | nil => rfl
 | cons a r ih => exact ih
theorem mRun_none (G : Gp) {tk : List (List Int)} (h : tk ≠ []) (hn : mRun G tk = none) (r : List (List Int)) : mRun G (tk ++ r) = none := by
 cases tk with
 | nil => exact absurd rfl h
 | cons a t =>
   show (t ++ r).foldl _ (mFirst G a) = _
   have h1 : t.foldl (fun st l => st.bind fun st => mNext G st l) (mFirst G a) = none := hn
   rw [List.foldl_append, h1]
   exact fold_none G r
structure Play (G : Gp) (tk : List (List Int)) (O : Nat → Nat) (H : Nat → Int) (k : Nat) : Prop where
 hist : Hist G tk O H k
 mod : tk ≠ [] → ∃ st, mRun G tk = some st ∧ Rl G O H k st
theorem Play.nil (G : Gp) : Play G [] (fun _ => 0) (fun _ => 0) 1 := ⟨Hist.nil, fun h => absurd rfl h⟩
theorem memb_all {n : Nat} {O : Nat → Nat} {b : Nat} (h : ∀ e, e < n → O e = b) : memb n O b = (List.range n).map fun e : Nat => (e : Int) := by
 unfold memb
 rw [List.filter_eq_self.2 fun e he => decide_eq_true (h e (List.mem_range.1 he))]
theorem memb_mem {n : Nat} {O : Nat → Nat} {b : Nat} {z : Int} : z ∈ memb n O b ↔ ∃ e : Nat, e < n ∧ O e = b ∧ z = e := by
 unfold memb
 simp only [List.mem_map, List.mem_filter, List.mem_range, decide_eq_true_eq]
 constructor
 ·rintro ⟨e, ⟨h1, h2⟩, rfl⟩; exact ⟨e, h1, h2, rfl⟩
 ·rintro ⟨e, h1, h2, rfl⟩; exact ⟨e, ⟨h1, h2⟩, rfl⟩
theorem mBlock_eq {G : Gp} {O : Nat → Nat} {H : Nat → Int} {k : Nat} {st : Ms} (hR : Rl G O H k st) {e0 : Nat} (he : e0 < G.n) : mBlock G st.O (st.O.getD e0 0) = memb G.n O (O e0) := by
 unfold mBlock memb
 congr 1
 refine List.filter_congr fun e hE => ?_
 exact decide_eq_decide.2 (hR.o e e0 (List.mem_range.1 hE) he).symm
theorem mHeap_eq {G : Gp} {O : Nat → Nat} {H : Nat → Int} {k : Nat} {st : Ms} (hR : Rl G O H k st) {e0 : Nat} (he : e0 < G.n) : (List.range G.n).countP (fun e => decide (st.H.getD e 0 = st.H.getD e0 0)) = hc G.n H (H e0) := by
 unfold hc
 refine List.countP_congr fun e hE => ?_
 rw [hR.h e (List.mem_range.1 hE), hR.h e0 he]
 simp
 omega
theorem Play.step {G : Gp} {tk : List (List Int)} {O O' : Nat → Nat} {H H' : Nat → Int} {k e0 : Nat} (hr : Sy.right G.n (G.kk : Int) G.st G.es = true) (hP : Play G tk O H k) (he : e0 < G.n) (half : H e0 = 0 ∨ 2 * bc G.n O (O e0) ≤ hc G.n H (H e0))
 (sp : Split G.n (By (outG G) (fun t => O t = O e0) fun t => H t = H e0 ∧ ¬ O t = O e0) O O') (hp : ∀ e, e < G.n → H' e = if O e = O e0 then (k : Int) else H e) : Play G (tk ++ [memb G.n O (O e0)]) O' H' (k + 1) := by
 have hi := hP.hist.inv
 refine ⟨Hist.step e0 hP.hist he half sp hp, fun _ => ?_⟩
 by_cases ht : tk = []
 ·subst ht
  have hk : k = 1 := hi.len
  subst hk
  have h0 := hi.first rfl
  refine ⟨_, ?_, first_rl hr he h0 sp hp⟩
  show mFirst G _ = _
  unfold mFirst
  rw [if_pos ⟨by omega, memb_all fun e hE => (h0 e hE).1.trans (h0 e0 he).1.symm⟩]
 ·obtain ⟨st, h1, hR⟩ := hP.mod ht
  refine ⟨_, ?_, next_rl hr he hR (hP.hist.even hr ht) sp hp⟩
  rw [mRun_snoc G ht, h1]
  show mNext G st _ = _
  have hm : ((e0 : Nat) : Int) ∈ memb G.n O (O e0) := memb_mem.2 ⟨e0, he, rfl, rfl⟩
  have hb := mBlock_eq hR he
  have hh := mHeap_eq hR he
  have hH0 : H e0 ≠ 0 := by rw [hR.h e0 he]; omega
  have h2 := half.resolve_left hH0
  have hl : (memb G.n O (O e0)).length = bc G.n O (O e0) := by unfold memb bc; rw [List.length_map, List.countP_eq_length_filter]
  obtain ⟨z, r, hz⟩ : ∃ z r, memb G.n O (O e0) = z :: r := by
   cases hq : memb G.n O (O e0) with
   | nil => rw [hq] at hm; simp at hm
   | cons z r => exact ⟨z, r, rfl⟩
  obtain ⟨e1, a1, a2, rfl⟩ := memb_mem.1 (show z ∈ memb G.n O (O e0) by rw [hz]; exact List.mem_cons_self)
  have g1 : st.O.getD e1 0 = st.O.getD e0 0 := (hR.o e1 e0 a1 he).1 a2
  have g2 : st.H.getD e1 0 = st.H.getD e0 0 := by
   have h3 := hi.fn e1 e0 a1 he a2
   rw [hR.h e1 a1, hR.h e0 he] at h3
   omega
  rw [hz]
  show mGo G st (st.O.getD ((e1 : Nat) : Int).toNat 0) (st.H.getD ((e1 : Nat) : Int).toNat 0) (((e1 : Nat) : Int) :: r) ((e1 : Nat) : Int) = _
  rw [Int.toNat_natCast, g1, g2, ← hz]
  unfold mGo
  rw [if_pos ⟨⟨by omega, by omega⟩, hb.symm, by rw [hh, hl]; exact h2⟩]
theorem Play.stop {G : Gp} {tk : List (List Int)} {O : Nat → Nat} {H : Nat → Int} {k : Nat} {l : List Int} (hP : Play G tk O H k) (hno : ∀ e0, e0 < G.n → l = memb G.n O (O e0) → ¬ (H e0 = 0 ∨ 2 * bc G.n O (O e0) ≤ hc G.n H (H e0))) : mRun G (tk ++ [l]) = none := by
 have hi := hP.hist.inv
 by_cases ht : tk = []
 ·subst ht
  show mFirst G l = none
  unfold mFirst
  rw [if_neg]
  rintro ⟨h0, h1⟩
  have h2 := hi.first rfl
  refine hno 0 h0 ?_ (.inl (h2 0 h0).2)
  rw [h1, memb_all fun e hE => (h2 e hE).1.trans (h2 0 h0).1.symm]
 ·obtain ⟨st, h1, hR⟩ := hP.mod ht
  rw [mRun_snoc G ht, h1]
  show mNext G st l = none
  cases l with
  | nil => rfl
  | cons z r =>
    show mGo G st (st.O.getD z.toNat 0) (st.H.getD z.toNat 0) (z :: r) z = none
    unfold mGo
    rw [if_neg]
    rintro ⟨⟨hz0, hz1⟩, h2, h3⟩
    obtain ⟨e0, rfl⟩ : ∃ e0 : Nat, z = e0 := ⟨z.toNat, by omega⟩
    have he : e0 < G.n := by omega
    rw [Int.toNat_natCast] at h2 h3
    rw [mBlock_eq hR he] at h2
    rw [mHeap_eq hR he] at h3
    refine hno e0 he h2 (.inr ?_)
    have hl : (memb G.n O (O e0)).length = bc G.n O (O e0) := by unfold memb bc; rw [List.length_map, List.countP_eq_length_filter]
    rw [← hl, ← h2]
    exact h3
theorem blocks_dd {s : Pst} (hO : s.Ok) : (dd ((List.range s.n).map s.O)).length = s.nb := by
 refine Nat.le_antisymm ?_ ?_
 ·have h1 := nodup_sub (dd ((List.range s.n).map s.O)) (List.range s.nb) (dd_nodup _) fun a ha => by
   obtain ⟨e, he, rfl⟩ := List.mem_map.1 ((mem_dd _).1 ha)
   exact List.mem_range.2 (hO.o e (List.mem_range.1 he)).1
  rw [List.length_range] at h1
  exact h1
 ·have h1 := nodup_sub (List.range s.nb) (dd ((List.range s.n).map s.O)) List.nodup_range fun a ha => by
   obtain ⟨e, he, hb⟩ := block_state hO (List.mem_range.1 ha)
   exact (mem_dd _).2 (List.mem_map.2 ⟨e, List.mem_range.2 he, hb⟩)
  rw [List.length_range] at h1
  exact h1
theorem rl_dd {G : Gp} {O : Nat → Nat} {H : Nat → Int} {k : Nat} {st : Ms} (hR : Rl G O H k st) : (dd st.O).length = (dd ((List.range G.n).map O)).length ∧ num st.O = num ((List.range G.n).map O) := by
 have hl : st.O = (List.range G.n).map fun e => st.O.getD e 0 := by
  apply List.ext_getElem?
  intro i
  rcases Nat.lt_or_ge i G.n with h | h
  ·rw [getD_at (by rw [hR.lo]; exact h), List.getElem?_map, List.getElem?_range h]; rfl
  ·rw [List.getElem?_eq_none (by rw [hR.lo]; exact h), List.getElem?_eq_none (by simp; exact h)]
 have f1 := finer ((List.range G.n).map fun e => (O e, st.O.getD e 0)) fun p hp q hq e => by
  obtain ⟨a, ha, rfl⟩ := List.mem_map.1 hp
  obtain ⟨b, hb, rfl⟩ := List.mem_map.1 hq
  exact (hR.o a b (List.mem_range.1 ha) (List.mem_range.1 hb)).1 e
 have f2 := finer ((List.range G.n).map fun e => (st.O.getD e 0, O e)) fun p hp q hq e => by
  obtain ⟨a, ha, rfl⟩ := List.mem_map.1 hp
  obtain ⟨b, hb, rfl⟩ := List.mem_map.1 hq
  exact (hR.o a b (List.mem_range.1 ha) (List.mem_range.1 hb)).2 e
 simp only [List.map_map] at f1 f2
 have e1 : ((List.range G.n).map ((fun x : Nat × Nat => x.2) ∘ fun e => (O e, st.O.getD e 0))) = st.O := hl.symm
 have e2 : ((List.range G.n).map ((fun x : Nat × Nat => x.1) ∘ fun e => (O e, st.O.getD e 0))) = (List.range G.n).map O := rfl
 have e3 : ((List.range G.n).map ((fun x : Nat × Nat => x.2) ∘ fun e => (st.O.getD e 0, O e))) = (List.range G.n).map O := rfl
 have e4 : ((List.range G.n).map ((fun x : Nat × Nat => x.1) ∘ fun e => (st.O.getD e 0, O e))) = st.O := hl.symm
 rw [e1, e2] at f1
 rw [e3, e4] at f2
 have h9 : (dd st.O).length = (dd ((List.range G.n).map O)).length := by omega
 exact ⟨h9, (f1.2 h9).symm⟩
theorem Play.fin {G : Gp} {tk : List (List Int)} {s : Pst} {H : Nat → Int} {k : Nat} (hO : s.Ok) (hn : s.n = G.n) (hP : Play G tk s.O H k) : mReplay G tk = if s.nb = k - 1 then some (num ((List.range G.n).map s.O)) else none := by
 have hi := hP.hist.inv
 have hnb := blocks_dd hO
 rw [hn] at hnb
 unfold mReplay
 by_cases h0 : G.n = 0
 ·rw [if_pos h0]
  have ht : tk = [] := Classical.byContradiction fun h => by have := hi.one h; omega
  have hk := hi.len
  have h1 := hO.few
  rw [ht] at hk
  rw [if_pos ht, if_pos (by simp at hk; omega), h0]
  rfl
 ·rw [if_neg h0]
  by_cases ht : tk = []
  ·have hk := hi.len
   rw [ht] at hk
   have h1 : s.nb ≠ k - 1 := by
    have h2 := (hO.o 0 (by omega)).1
    simp at hk
    omega
   rw [if_neg h1, ht]
   rfl
  ·obtain ⟨st, h1, hR⟩ := hP.mod ht
   obtain ⟨d1, d2⟩ := rl_dd hR
   rw [h1]
   simp only
   rw [d1, d2, hnb]
   have h2 : (s.nb = st.h) = (s.nb = k - 1) := by rw [hR.k]; simp
   simp only [h2]
theorem mReplay_none {G : Gp} {tk r : List (List Int)} (h : tk ≠ []) (hn : mRun G tk = none) : mReplay G (tk ++ r) = none := by
 unfold mReplay
 split
 ·rw [if_neg (by simp [h])]
 ·rw [mRun_none G h hn r]
end Sg
end Go.Proofs.YtkiapldehlnndaaGreatDoor
/- The document's played run and the plain one: plain facts. -/
namespace Go.Proofs.YtkiapldehlnndaaGreatDoor
open Go.RowKit Go.Maps
namespace Sg
open Ro
def RelO (m : Nat) (O1 O2 : List Nat) : Prop := ∀ a b, a < m → b < m → (O1.getD a 0 = O1.getD b 0 ↔ O2.getD a 0 = O2.getD b 0)
theorem hasE_congr {n : Nat} {k s : Int} {es : List Sy.Ed} (hr : Sy.right n k s es = true) {X Y : Nat → Bool} (h : ∀ t, t < n → X t = Y t) (x p : Nat) : hasE es X x p = hasE es Y x p := by
 unfold hasE
 have hc : ∀ e ∈ es, (e.1 == (p : Int) && (e.2.1 == (x : Int) && X e.2.2.toNat)) = (e.1 == (p : Int) && (e.2.1 == (x : Int) && Y e.2.2.toNat)) := fun e he => by
  have h1 := (right_parts hr).2.2.2.2.2 e he
  rw [h e.2.2.toNat (by omega)]
 induction es with
 | nil => rfl
 | cons e r ih =>
   rw [List.any_cons, List.any_cons, hc e List.mem_cons_self]
   congr 1
   have hgo : ∀ l : List Sy.Ed, (∀ e ∈ l, (e.1 == (p : Int) && (e.2.1 == (x : Int) && X e.2.2.toNat)) = (e.1 == (p : Int) && (e.2.1 == (x : Int) && Y e.2.2.toNat))) → (l.any fun e => e.1 == (p : Int) && (e.2.1 == (x : Int) && X e.2.2.toNat)) = l.any fun e => e.1 == (p : Int) && (e.2.1 == (x : Int) && Y e.2.2.toNat) := fun l hl => by
    induction l with
    | nil => rfl
    | cons a t iht => rw [List.any_cons, List.any_cons, hl a List.mem_cons_self, iht fun e he => hl e (List.mem_cons_of_mem _ he)]
   exact hgo r fun e he => hc e (List.mem_cons_of_mem _ he)
theorem rel_spl {G : Gp} (hr : Sy.right G.n (G.kk : Int) G.st G.es = true) {X Y : Nat → Bool} {O O1 S : List Nat} (h : EqO G.n G.es X O O1 G.kk) (hR : RelO G.n O S) (hX : ∀ t, t < G.n → X t = Y t) : RelO G.n O1 (spl G Y S) := fun a b ha hb => by
 rw [h.eq a b ha hb, spl_eq ha hb, hR a b ha hb]
 refine and_congr_right fun _ => forall_congr' fun l => imp_congr_right fun _ => ?_
 rw [hasE_congr hr hX l a, hasE_congr hr hX l b]
 rfl
structure Mdl (G : Gp) (tk : List (List Int)) (k : Nat) (O H : List Nat) (n : Nat) : Prop where
 lo : O.length = G.n
 le : ∀ u ∈ O, u ≤ 1000000
 lh : H.length = G.n
 zero : k = 0 → O = List.replicate G.n 0 ∧ H = List.replicate G.n 0 ∧ n = 1
 pos : 0 < k → ∃ st, mRun G (tk.take k) = some st ∧ RelO G.n O st.O ∧ H = st.H ∧ n = st.h
 nb : n ≤ k + 1
theorem Mdl.begin (G : Gp) (tk : List (List Int)) : Mdl G tk 0 (List.replicate G.n 0) (List.replicate G.n 0) 1 := ⟨by simp, fun u hu => by have := List.eq_of_mem_replicate hu; omega, by simp, fun _ => ⟨rfl, rfl, rfl⟩, fun h => by omega, Nat.le_refl _⟩
theorem Mdl.first {G : Gp} (hr : Sy.right G.n (G.kk : Int) G.st G.es = true) {tk : List (List Int)} {O H O' : List Nat} {n : Nat} {l : List Int} (h : Mdl G tk 0 O H n) (hl : tk[0]? = some l) (hT : TkOk true G.n O H l) (hE : EqO G.n G.es (inB l) O O' G.kk) : Mdl G tk 1 O' H n := by
 obtain ⟨h1, h2, h3⟩ := h.zero rfl
 have hT2 : 0 < G.n ∧ l = (List.range G.n).map (fun e : Nat => (e : Int)) := hT
 refine ⟨hE.len, hE.le, h.lh, fun h => by omega, fun _ => ⟨⟨spl G (fun _ => true) (List.replicate G.n 0), List.replicate G.n 0, 1⟩, ?_, ?_, h2, h3⟩, by omega⟩
 ·rw [show tk.take 1 = [l] by rw [take_succ_of hl]; rfl]
  show mFirst G l = _
  unfold mFirst
  rw [if_pos hT2]
 ·refine rel_spl hr hE (S := List.replicate G.n 0) (fun a b _ _ => by rw [h1]) fun t ht => ?_
  rw [hT2.2]
  exact inB_iff.2 (List.mem_map.2 ⟨t, List.mem_range.2 ht, rfl⟩)
theorem blk_rel {G : Gp} {O S : List Nat} (hR : RelO G.n O S) {z : Nat} (hz : z < G.n) : mBlock G S (S.getD z 0) = blkL G.n O (O.getD z 0) := by
 unfold mBlock blkL
 congr 1
 refine List.filter_congr fun e he => ?_
 exact decide_eq_decide.2 (hR e z (List.mem_range.1 he) hz).symm
theorem tk_next {G : Gp} {O H : List Nat} {st : Ms} {l : List Int} (hR : RelO G.n O st.O) (hH : H = st.H) : TkOk false G.n O H l ↔ mNext G st l ≠ none := by
 constructor
 ·rintro ⟨z, r, rfl, hz, h2, h3⟩
  show mGo G st _ _ _ _ ≠ none
  unfold mGo
  rw [if_pos ⟨hz, by rw [blk_rel hR (show z.toNat < G.n by omega)]; exact h2, by rw [← hH]; exact h3⟩]
  simp
 ·intro h
  cases l with
  | nil => exact absurd rfl h
  | cons z r =>
    have h1 : mGo G st (st.O.getD z.toNat 0) (st.H.getD z.toNat 0) (z :: r) z ≠ none := h
    unfold mGo at h1
    split at h1
    ·rename_i hc
     obtain ⟨hz, h2, h3⟩ := hc
     rw [blk_rel hR (show z.toNat < G.n by omega)] at h2
     rw [← hH] at h3
     exact ⟨z, r, rfl, hz, h2, h3⟩
    ·exact absurd rfl h1
def hUp (m : Nat) (H : List Nat) (l : List Int) (n i : Nat) : List Nat := (List.range m).map fun t => if t < i ∧ inB l t = true then n else H.getD t 0
theorem hUp_len (m : Nat) (H : List Nat) (l : List Int) (n i : Nat) : (hUp m H l n i).length = m := by simp [hUp]
theorem hUp_at {m : Nat} (H : List Nat) (l : List Int) (n i : Nat) {t : Nat} (h : t < m) : (hUp m H l n i)[t]? = some (if t < i ∧ inB l t = true then n else H.getD t 0) := by unfold hUp; rw [List.getElem?_map, List.getElem?_range h]; rfl
theorem hUp_zero {m : Nat} {H : List Nat} (l : List Int) (n : Nat) (h : H.length = m) : hUp m H l n 0 = H := by
 apply List.ext_getElem?
 intro i
 rcases Nat.lt_or_ge i m with hi | hi
 ·rw [hUp_at _ _ _ _ hi, if_neg (by omega), getD_at (by rw [h]; exact hi)]
 ·rw [List.getElem?_eq_none (by rw [hUp_len]; exact hi), List.getElem?_eq_none (by rw [h]; exact hi)]
theorem hUp_no {m : Nat} {H : List Nat} {l : List Int} {n i : Nat} (h : inB l i = false) : hUp m H l n (i + 1) = hUp m H l n i := by
 unfold hUp
 refine List.map_congr_left fun t _ => ?_
 by_cases e : t = i
 ·subst e; rw [if_neg (by rw [h]; simp), if_neg (by omega)]
 ·have : (t < i + 1 ∧ inB l t = true) ↔ (t < i ∧ inB l t = true) := ⟨fun ⟨a, b⟩ => ⟨by omega, b⟩, fun ⟨a, b⟩ => ⟨by omega, b⟩⟩
  simp only [this]
theorem hUp_yes {m : Nat} {H : List Nat} {l : List Int} {n i : Nat} (hi : i < m) (h : inB l i = true) : hUp m H l n (i + 1) = (hUp m H l n i).set i n := by
 apply List.ext_getElem?
 intro t
 rcases Nat.lt_or_ge t m with ht | ht
 ·rw [hUp_at _ _ _ _ ht, List.getElem?_set, hUp_at _ _ _ _ ht, hUp_len]
  by_cases e : i = t
  ·subst e; rw [if_pos ⟨by omega, h⟩, if_pos rfl, if_pos hi]
  ·rw [if_neg e]
   have : (t < i + 1 ∧ inB l t = true) ↔ (t < i ∧ inB l t = true) := ⟨fun ⟨a, b⟩ => ⟨by omega, b⟩, fun ⟨a, b⟩ => ⟨by omega, b⟩⟩
   simp only [this]
 ·rw [List.getElem?_eq_none (by rw [hUp_len]; exact ht), List.getElem?_eq_none (by rw [List.length_set, hUp_len]; exact ht)]
theorem Mdl.next {G : Gp} (hr : Sy.right G.n (G.kk : Int) G.st G.es = true) {tk : List (List Int)} {O H O1 O2 : List Nat} {n k : Nat} {l : List Int} (h : Mdl G tk k O H n) (hk : 0 < k) (hl : tk[k]? = some l) (hT : TkOk false G.n O H l) (hE : EqO G.n G.es (inB l) O O1 G.kk) (hE2 : EqO G.n G.es (restB H l (l.headD 0).toNat) O1 O2 G.kk) : Mdl G tk (k + 1) O2 (hUp G.n H l n G.n) (n + 1) := by
 obtain ⟨st, hm, hR, hH, hn⟩ := h.pos hk
 obtain ⟨z, r, hlz, hz, h2, h3⟩ : ∃ z r, l = z :: r ∧ (0 ≤ z ∧ z < (G.n : Int)) ∧ l = blkL G.n O (O.getD z.toNat 0) ∧ 2 * l.length ≤ (List.range G.n).countP fun e => decide (H.getD e 0 = H.getD z.toNat 0) := hT
 have hzn : z.toNat < G.n := by omega
 have hin : ∀ t, t < G.n → inB l t = decide (st.O.getD t 0 = st.O.getD z.toNat 0) := fun t ht => by
  rw [Bool.eq_iff_iff, inB_iff, h2, blk_mem ht, decide_eq_true_iff]
  exact hR t z.toNat ht hzn
 have hhd : (l.headD 0).toNat = z.toNat := by rw [hlz]; rfl
 have hne : tk.take k ≠ [] := fun e => by
  have h5 := congrArg List.length e
  have h6 := (List.getElem?_eq_some_iff.1 hl).1
  rw [List.length_take, List.length_nil] at h5
  omega
 refine ⟨hE2.len, hE2.le, hUp_len _ _ _ _ _, fun h => by omega, fun _ => ⟨⟨spl G (fun t => decide (st.H.getD t 0 = st.H.getD z.toNat 0) && !decide (st.O.getD t 0 = st.O.getD z.toNat 0)) (spl G (fun t => decide (st.O.getD t 0 = st.O.getD z.toNat 0)) st.O), (List.range G.n).map (fun t => if st.O.getD t 0 = st.O.getD z.toNat 0 then st.h else st.H.getD t 0), n + 1⟩, ?_, ?_, ?_, rfl⟩, by have := h.nb; omega⟩
 ·rw [take_succ_of hl, mRun_snoc G hne, hm]
  show mNext G st l = _
  rw [hlz]
  show mGo G st _ _ _ _ = _
  unfold mGo
  rw [← hlz, if_pos ⟨hz, by rw [blk_rel hR hzn]; exact h2, by rw [← hH]; exact h3⟩, hn]
 ·refine rel_spl hr hE2 (rel_spl hr hE hR hin) fun t ht => ?_
  unfold restB
  rw [hhd, hH, hin t ht]
 ·unfold hUp
  refine List.map_congr_left fun t ht => ?_
  have ht2 := List.mem_range.1 ht
  rw [hin t ht2, hn, ← hH]
  by_cases e : st.O.getD t 0 = st.O.getD z.toNat 0
  ·rw [if_pos ⟨ht2, decide_eq_true e⟩, if_pos e]
  ·rw [if_neg (fun h => e (of_decide_eq_true h.2)), if_neg e]
theorem Mdl.stop {G : Gp} {tk : List (List Int)} {O H : List Nat} {n k : Nat} {l : List Int} (h : Mdl G tk k O H n) (hl : tk[k]? = some l) (hT : ¬ TkOk (decide (k = 0)) G.n O H l) : mReplay G tk = none := by
 have hne : tk.take (k + 1) ≠ [] := fun e => by
  have h5 := congrArg List.length e
  have h6 := (List.getElem?_eq_some_iff.1 hl).1
  rw [List.length_take, List.length_nil] at h5
  omega
 have hnone : mRun G (tk.take (k + 1)) = none := by
  by_cases hk : k = 0
  ·subst hk
   rw [show tk.take (0 + 1) = [l] by rw [take_succ_of hl]; rfl]
   show mFirst G l = none
   unfold mFirst
   rw [if_neg (fun hc : 0 < G.n ∧ l = (List.range G.n).map (fun e : Nat => (e : Int)) => hT hc)]
  ·obtain ⟨st, hm, hR, hH, hn⟩ := h.pos (by omega)
   have hne2 : tk.take k ≠ [] := fun e => by
    have h5 := congrArg List.length e
    have h6 := (List.getElem?_eq_some_iff.1 hl).1
    rw [List.length_take, List.length_nil] at h5
    omega
   rw [take_succ_of hl, mRun_snoc G hne2, hm]
   show mNext G st l = none
   rw [decide_eq_false hk, tk_next hR hH] at hT
   exact Classical.not_not.1 hT
 have h9 := mReplay_none (r := tk.drop (k + 1)) hne hnone
 rw [List.take_append_drop] at h9
 exact h9
theorem as_range {m : Nat} {O : List Nat} (hO : O.length = m) : O = (List.range m).map fun e => O.getD e 0 := by
 apply List.ext_getElem?
 intro i
 rcases Nat.lt_or_ge i m with h | h
 ·rw [getD_at (by rw [hO]; exact h), List.getElem?_map, List.getElem?_range h]; rfl
 ·rw [List.getElem?_eq_none (by rw [hO]; exact h), List.getElem?_eq_none (by simp; exact h)]
theorem rel_num {m : Nat} {O S : List Nat} (hO : O.length = m) (hS : S.length = m) (h : RelO m O S) : num O = num S ∧ (dd O).length = (dd S).length := by
 have f1 := finer ((List.range m).map fun e => (O.getD e 0, S.getD e 0)) fun p hp q hq e => by
  obtain ⟨a, ha, rfl⟩ := List.mem_map.1 hp
  obtain ⟨b, hb, rfl⟩ := List.mem_map.1 hq
  exact (h a b (List.mem_range.1 ha) (List.mem_range.1 hb)).1 e
 have f2 := finer ((List.range m).map fun e => (S.getD e 0, O.getD e 0)) fun p hp q hq e => by
  obtain ⟨a, ha, rfl⟩ := List.mem_map.1 hp
  obtain ⟨b, hb, rfl⟩ := List.mem_map.1 hq
  exact (h a b (List.mem_range.1 ha) (List.mem_range.1 hb)).2 e
 simp only [List.map_map] at f1 f2
 have e1 : ((List.range m).map ((fun x : Nat × Nat => x.2) ∘ fun e => (O.getD e 0, S.getD e 0))) = S := (as_range hS).symm
 have e2 : ((List.range m).map ((fun x : Nat × Nat => x.1) ∘ fun e => (O.getD e 0, S.getD e 0))) = O := (as_range hO).symm
 have e3 : ((List.range m).map ((fun x : Nat × Nat => x.2) ∘ fun e => (S.getD e 0, O.getD e 0))) = O := (as_range hO).symm
 have e4 : ((List.range m).map ((fun x : Nat × Nat => x.1) ∘ fun e => (S.getD e 0, O.getD e 0))) = S := (as_range hS).symm
 rw [e1, e2] at f1
 rw [e3, e4] at f2
 have h9 : (dd S).length = (dd O).length := by omega
 exact ⟨f1.2 h9, h9.symm⟩
theorem Mdl.fin {G : Gp} {tk : List (List Int)} {O H : List Nat} {n : Nat} (h : Mdl G tk tk.length O H n) (hG : 0 < G.n → tk ≠ [] → ∀ st, mRun G tk = some st → st.O.length = G.n) : mReplay G tk = if G.n = 0 then (if tk = [] then some [] else none) else if tk = [] ∨ (dd O).length ≠ n then none else some (num O) := by
 unfold mReplay
 by_cases h0 : G.n = 0
 ·rw [if_pos h0, if_pos h0]
 ·rw [if_neg h0, if_neg h0]
  by_cases ht : tk = []
  ·rw [if_pos (.inl ht), ht]
   rfl
  ·have hlen : 0 < tk.length := by
    cases tk with
    | nil => exact absurd rfl ht
    | cons a r => simp
   obtain ⟨st, hm, hR, hH, hn⟩ := h.pos hlen
   rw [List.take_length] at hm
   have hl := hG (by omega) ht st hm
   obtain ⟨e1, e2⟩ := rel_num h.lo hl hR
   rw [hm]
   simp only
   rw [← e1, ← e2, ← hn]
   by_cases hd : (dd O).length = n
   ·rw [if_pos hd, if_neg (fun h => h.elim ht (fun h => h hd))]
   ·rw [if_neg hd, if_pos (.inr hd)]
end Sg
end Go.Proofs.YtkiapldehlnndaaGreatDoor
/- A loop over a function that tells its body what the memory holds of what it hands over. Nothing of the program is in it. -/
namespace Go.Proofs.YtkiapldehlnndaaGreatDoor
open Go.RowKit
def Tells {α : Type} (F : Fence) (n : Nat) (P : Program) (g : Nat) (lb : Array Value) (encs : α → Array Value) (Kp : World → World → Prop) (Good : List α → α → World → Prop) (S Sp : List α → Prop) (w : World) : Prop :=
 ∀ (l : Nat) (J Jx : List α → World → Prop) (W : World), Below w.heap.size w W → AbidesFrom W.heap.size J → AbidesFrom W.heap.size Jx →
  (∀ pre x W1, J pre W1 → Good pre x W1 → YieldAt F (n - 1) P l (encs x) W1 fun e W' =>
    (e = .returned (.bool true) ∧ J (pre ++ [x]) W' ∧ Kp W1 W') ∨ (e = .returned (.bool false) ∧ Jx (pre ++ [x]) W')) →
  J [] W →
  CallsIn F n P g (#[.func (.yield l) #[] #[]] ++ lb) W fun e W' => (∃ v, e = .returned v) ∧ ((∃ xs, S xs ∧ J xs W') ∨ (∃ pre, Sp pre ∧ Jx pre W'))
section
variable {F : Fence} {n : Nat} {P : Program}
def rec5 (fn : FuncId) (a : Act) (ps : Array Tmp) (assign body : Code) (d : Nat) (st : LoopState) (pe : Option Code) : Loop := { state := st, pending := pe, fn, tmps := a.tmps, params := ps, assign, body, defers := d }
end
end Go.Proofs.YtkiapldehlnndaaGreatDoor
/- The function that roundsOf answers tells the rounds, one behind the other. -/
namespace Go.Proofs.YtkiapldehlnndaaGreatDoor
open Go.RowKit Go.Maps Go.Shelf
attribute [local go_sem] Oper.semAt_some
structure KpR (n0 n1 : Nat) (W W' : World) : Prop where
 bl : Below n0 W W'
 ints : ∀ (b : Nat) (cs : Array Value), n1 ≤ b → W.heap[b]? = some (.cells cs 3 (0, 0)) → W'.heap[b]? = some (.cells cs 3 (0, 0))
abbrev Rd : Type := Nat × Nat
def rdV (m : Nat) (x : Rd) : Array Value := #[.int .i64 x.1, .slice (some ⟨x.2, 0, none⟩) m m]
structure GoodR (n1 m : Nat) (out : Nat → List Ro.St) (pre : List Rd) (x : Rd) (W : World) : Prop where
 num : x.1 = pre.length
 small : x.1 < max m 1
 up : ∀ y ∈ pre, y.2 < x.2
 gu : n1 ≤ x.2
 blk : ∃ cs : Array Value, W.heap[x.2]? = some (.cells cs 3 (0, 0)) ∧ cs.toList = natC (Ro.rnd m out x.1)
def Reads (n0 b1 b2 gs m : Nat) (out : Nat → List Ro.St) (w : World) : Prop := ∀ W, Below n0 w W → W.cell? ⟨b1, 0, none⟩ = some (.int .i64 m) ∧ W.cell? ⟨b2, 0, none⟩ = some (.slice (some ⟨gs, 0, none⟩) m m) ∧ Stp W gs m out ∧ Pow W
theorem hasI_blk {W : World} {g m : Nat} {c : List Nat} {cs : Array Value} (hm : c.length = m) (hb : W.heap[g]? = some (.cells cs 3 (0, 0))) (hc : cs.toList = natC c) : HasI W (.slice (some ⟨g, 0, none⟩) m m) (natI c) :=
 ⟨_, m, by rw [show (natI c).length = m by simp [natI, hm]], fun i z hz => ⟨_, rfl, by
  rw [addz]
  refine cell0_of hb ?_
  rw [← Array.getElem?_toList, hc, ← iC_nat]
  unfold iC
  rw [List.getElem?_map, hz]; rfl⟩⟩
structure ItAt (w wr : World) (n0 m : Nat) (out : Nat → List Ro.St) (J : List Rd → World → Prop) (pre : List Rd) (k g : Nat) : Prop where
 len : pre.length = k
 j : J pre wr
 bl : Below n0 w wr
 up : ∀ y ∈ pre, y.2 < g
 gu : w.heap.size ≤ g
 blk : ∃ cs : Array Value, wr.heap[g]? = some (.cells cs 3 (0, 0)) ∧ cs.toList = natC (Ro.rnd m out k)
 ch : ∀ j, j < k → Ro.rnd m out (j + 1) ≠ Ro.rnd m out j
end Go.Proofs.YtkiapldehlnndaaGreatDoor
/- Contract of the document's taking: whether a list may be taken, and what it takes. -/
namespace Go.Proofs.YtkiapldehlnndaaGreatDoor
open Go.RowKit Go.Maps
attribute [local go_sem ↓] Go.wp_at_zero Go.wp_at_succ
def Shp (w : World) (v : Value) : Prop := ∃ a n c, v = .slice a n c ∧ ∀ b, a = some b → w.heap.size ≤ b.block
theorem Shp.nil (w : World) : Shp w (.slice none 0 0) := ⟨_, _, _, rfl, fun b h => by cases h⟩
theorem Shp.of {w : World} {g n c : Nat} (h : w.heap.size ≤ g) : Shp w (.slice (some ⟨g, 0, none⟩) n c) := ⟨_, _, _, rfl, fun b h1 => by cases h1; exact h⟩
def TkgAt (w w' : World) (e : Ending) (first : Bool) (n : Nat) (O H : List Nat) (l : List Int) : Prop := ∃ vi vr ok, e = .returned (.tuple #[vi, vr, .bool ok]) ∧ Shp w vi ∧ Shp w vr ∧ Below w.heap.size w w' ∧ (ok = true ↔ Sg.TkOk first n O H l) ∧ (ok = true → HasB w' vi n (Sg.inB l) ∧ HasB w' vr n (if first then fun _ => false else Sg.restB H l (l.headD 0).toNat))
theorem tkg_no {w w' : World} {e : Ending} {first : Bool} {n : Nat} {O H : List Nat} {l : List Int} (he : e = .returned (.tuple #[.slice none 0 0, .slice none 0 0, .bool false])) (hb : Below w.heap.size w w') (h : ¬ Sg.TkOk first n O H l) : TkgAt w w' e first n O H l := ⟨_, _, false, he, Shp.nil w, Shp.nil w, hb, ⟨fun h => by (cases h), fun h1 => absurd h1 h⟩, fun h => by cases h⟩
theorem ints_cell {w w' : World} {ao : Option Addr} {n cap : Nat} {zs : List Int} (h : HasI w (.slice ao n cap) zs) (hb : Below w.heap.size w w') {i : Nat} {z : Int} (hz : zs[i]? = some z) : ∃ a, ao = some a ∧ w'.cell? (a.add i) = some (.int .i64 z) := by
 obtain ⟨ao', cap', hv, hc⟩ := h
 injection hv with e1 e2 e3
 subst e1
 obtain ⟨a, h1, h2⟩ := hc i z hz
 exact ⟨a, h1, (hb.cell (World.block_lt_of_cell? w _ h2)).trans h2⟩
set_option maxRecDepth 100000 in
set_option maxHeartbeats 16000000 in
theorem docTaking_any (vl vb vh : Value) (l : List Int) (O H : List Nat) (n : Nat) (first : Bool) (w : World) (hl : HasI w vl l) (hO : HasI w vb (natI O)) (hH : HasI w vh (natI H)) (hn : n ≤ 1000) (hOn : O.length = n) (hHn : H.length = n) (hll : l.length ≤ 1000000) :
 Calls Tryz.prog 45 #[vl, vb, vh, .bool first] w fun e w' => TkgAt w w' e first n O H l := by
 obtain ⟨al, cl, rfl, _⟩ := id hl
 obtain ⟨ab, cb, rfl, _⟩ := id hO
 obtain ⟨ah, ch, rfl, _⟩ := id hH
 have e1 : (natI O).length = n := by simp [natI, hOn]
 have e2 : (natI H).length = n := by simp [natI, hHn]
 rw [e1] at hO ⊢
 rw [e2] at hH ⊢
 obtain ⟨L, hL⟩ : ∃ L, L = l.length := ⟨_, rfl⟩
 rw [← hL] at hl hll ⊢
 have HH : Hid _ := And.intro hl (And.intro hO (And.intro hH (And.intro hOn (And.intro hHn hL))))
 clear hl hO hH hOn hHn hL e1 e2
 have hmk1 := makeB n (by omega) w.drew
 have hmk2 := makeB n (by omega) ((w.alloc (.cells (madeV (.bool false) n) 4)).drew)
 have hmk3 := makeB n (by omega) w
 have hmk4 := makeB n (by omega) (w.alloc (.cells (madeV (.bool false) n) 4))
 go_enter Tryz.func45, Tryz.ntmps45
 go_upto_region 2 with fail
 go_cut [12, 13] (fun s12 s13 wx => ∃ g1 g2 : Nat, s12 = .slice (some ⟨g1, 0, none⟩) n n ∧ s13 = .slice (some ⟨g2, 0, none⟩) n n ∧ g1 ≠ g2 ∧ Arr 4 w wx g1 (Sg.boolC n fun _ => false) ∧ Arr 4 w wx g2 (Sg.boolC n fun _ => false))
 case first =>
  have hA : ∀ d, Arr 4 w (((w.alloc (.cells (madeV (.bool false) n) 4)).alloc (.cells (madeV (.bool false) n) 4)).drewN d) w.heap.size (Sg.boolC n fun _ => false) ∧ Arr 4 w (((w.alloc (.cells (madeV (.bool false) n) 4)).alloc (.cells (madeV (.bool false) n) 4)).drewN d) (w.heap.size + 1) (Sg.boolC n fun _ => false) := fun d => by
   have h1 := arr_new 4 (.bool false) rfl n w
   have h2 := arr_new 4 (.bool false) rfl n (w.alloc (.cells (madeV (.bool false) n) 4))
   rw [← Sg.boolC_false] at h1 h2
   rw [World.size_alloc] at h2
   have hb := fun W : World => below_drewN (Below.refl W.heap.size W) d
   exact ⟨(h1.below ((Below.refl _ _).alloc (Nat.le_refl _) _)).below (hb _), (h2.back h1.bl).below (hb _)⟩
  have HA : Hid _ := hA
  clear hA
  go_region
  all_goals
   go_wp2_with fail
   go_meet
  ·exact ⟨_, _, rfl, rfl, by omega, (HA.out 1).1, (HA.out 1).2⟩
  ·exact ⟨_, _, rfl, rfl, by omega, (HA.out 1).2, (HA.out 1).1⟩
 case rest =>
  obtain ⟨g1, g2, rfl, rfl, hg, hA1, hA2⟩ := hcut
  have HC : Hid _ := And.intro hA1 hA2
  clear hA1 hA2 hmk1 hmk2 hmk3 hmk4
  go_wp2_with fail
  go_loopg [14] L (fun q iv wr => ∃ j : Nat, q = L - j ∧ j ≤ L ∧ iv = .int .i64 j ∧ Sg.Ris n (l.take j) ∧ Arr 4 w wr g1 (Sg.boolC n (Sg.inB (l.take j))) ∧ Arr 4 w wr g2 (Sg.boolC n fun _ => false))
  case atStart => exact ⟨0, rfl, Nat.zero_le _, rfl, ⟨.nil, fun z hz => by simp at hz⟩, HC.out.1, HC.out.2⟩
  case round =>
   obtain ⟨j, rfl, hj, rfl, hR, hA1, hA2⟩ := hrel
   obtain ⟨w2, rfl⟩ : ∃ w2, w2 = wr := ⟨_, rfl⟩
   by_cases hjl : j < L
   ·obtain ⟨z, hz⟩ : ∃ z, l[j]? = some z := ⟨l[j]'(by have := HH.out.2.2.2.2.2; omega), List.getElem?_eq_getElem _⟩
    obtain ⟨a, rfl, cz⟩ := ints_cell HH.out.1 hA1.bl hz
    have q0 : (0 : Int) ≤ (j : Int) := by omega
    have q1 : (j : Int) < (L : Int) := by omega
    have HR : Hid _ := And.intro hR (And.intro hA1 (And.intro hA2 hz))
    clear hR hA1 hA2 hz
    by_cases hz0 : z < 0
    ·have d1 : decide (z < 0) = true := decide_eq_true hz0
     have HN : Hid (¬ Sg.TkOk first n O H l) := (fun h => by have := h.ris.low HR.out.2.2.2; omega : ¬ Sg.TkOk first n O H l)
     clear hz0
     go_wp2_with fail
     go_quiet (fail)
     go_wp2_with fail
     go_ret3
     exact tkg_no rfl (below_drewN HR.out.2.1.bl _) HN.out
    ·have d1 : decide (z < 0) = false := decide_eq_false hz0
     by_cases hzn : (n : Int) ≤ z
     ·have d2 : decide ((n : Int) ≤ z) = true := decide_eq_true hzn
      have HN : Hid (¬ Sg.TkOk first n O H l) := (fun h => by have := h.ris.low HR.out.2.2.2; omega : ¬ Sg.TkOk first n O H l)
      clear hz0 hzn
      go_wp2_with fail
      go_quiet (fail)
      go_wp2_with fail
      go_ret3
      exact tkg_no rfl (below_drewN HR.out.2.1.bl _) HN.out
     ·have d2 : decide ((n : Int) ≤ z) = false := decide_eq_false hzn
      obtain ⟨zN, rfl⟩ : ∃ zN : Nat, z = zN := ⟨z.toNat, by omega⟩
      have hzl : zN < n := by omega
      have d2n : decide (n ≤ zN) = false := by simp; omega
      have r0 : (0 : Int) ≤ (zN : Int) := by omega
      have r1 : (zN : Int) < (n : Int) := by omega
      have hcx := HR.out.2.1.cell (Sg.boolC_at (Sg.inB (l.take j)) hzl)
      have hcf := HR.out.2.1.free zN
      clear hz0 hzn
      rcases Nat.eq_zero_or_pos j with hj0 | hjp
      ·have d3 : decide ((0 : Int) < (j : Int)) = false := by simp; omega
       have d4 : decide (0 < j) = false := by simp; omega
       have hrs := Sg.Ris.snoc HR.out.1 HR.out.2.2.2 r0 r1 (fun y h => by omega)
       have HS : Hid _ := And.intro hrs trivial
       clear hrs hj0
       go_wp2_with fail
       go_quiet (fail)
       go_wp2_with fail
       go_roundg (L - (j + 1))
       case measure => omega
       case rel =>
        have hs := HR.out.2.1.set zN (.bool true)
        rw [Sg.boolC_put rfl, ← take_succ_of HR.out.2.2.2] at hs
        refine ⟨j + 1, rfl, by omega, by go_num, HS.out.1, ?_, ?_⟩
        ·exact hs.below (below_drewN (Below.refl _ _) _)
        ·exact (HR.out.2.2.1.kept (Kept.setCell _ _ _ _) (fun b e => ⟨by rw [e]; exact HR.out.2.1.gu, by omega⟩)).below (below_drewN (Below.refl _ _) _)
      ·obtain ⟨k, hk⟩ : ∃ k, k + 1 = j := ⟨j - 1, by omega⟩
       obtain ⟨y, hy⟩ : ∃ y, l[k]? = some y := ⟨l[k]'(by have := HH.out.2.2.2.2.2; omega), List.getElem?_eq_getElem _⟩
       have hy1 : l[j - 1]? = some y := by rw [← hk]; simpa using hy
       obtain ⟨a', ha', cy⟩ := ints_cell HH.out.1 HR.out.2.1.bl hy
       obtain rfl : a = a' := Option.some.inj ha'
       have d3 : decide ((0 : Int) < (j : Int)) = true := by simp; omega
       have d4 : decide (0 < j) = true := by simp; omega
       have t1 : IntKind.i64.wrap ((j : Int) - 1) = (k : Int) := by rw [IntKind.wrap_i64]; omega
       have t2 : (j : Int) - 1 = (k : Int) := by omega
       have t3 : (0 : Int) ≤ (k : Int) := by omega
       have t4 : (k : Int) < (L : Int) := by omega
       by_cases hzy : (zN : Int) ≤ y
       ·have d5 : decide ((zN : Int) ≤ y) = true := decide_eq_true hzy
        have HN : Hid (¬ Sg.TkOk first n O H l) := (fun h => by have := h.ris.next hjp hy1 HR.out.2.2.2; omega : ¬ Sg.TkOk first n O H l)
        clear hzy hy hy1 ha' hk hjp
        go_wp2_with fail
        go_quiet (fail)
        go_wp2_with fail
        go_ret3
        exact tkg_no rfl (below_drewN HR.out.2.1.bl _) HN.out
       ·have d5 : decide ((zN : Int) ≤ y) = false := decide_eq_false hzy
        have hrs := Sg.Ris.snoc HR.out.1 HR.out.2.2.2 r0 r1 (fun u _ hu => by
         rw [hy1] at hu
         have h2 := Option.some.inj hu
         omega)
        have HS : Hid _ := And.intro hrs trivial
        clear hrs hzy hy hy1 ha' hk hjp
        go_wp2_with fail
        go_quiet (fail)
        go_wp2_with fail
        go_roundg (L - (j + 1))
        case measure => omega
        case rel =>
         have hs := HR.out.2.1.set zN (.bool true)
         rw [Sg.boolC_put rfl, ← take_succ_of HR.out.2.2.2] at hs
         refine ⟨j + 1, rfl, by omega, by go_num, HS.out.1, ?_, ?_⟩
         ·exact hs.below (below_drewN (Below.refl _ _) _)
         ·exact (HR.out.2.2.1.kept (Kept.setCell _ _ _ _) (fun b e => ⟨by rw [e]; exact HR.out.2.1.gu, by omega⟩)).below (below_drewN (Below.refl _ _) _)
   ·obtain rfl : j = L := by omega
    have q1 : ¬ (j : Int) < (j : Int) := by omega
    have hall : l.take j = l := List.take_of_length_le (by have := HH.out.2.2.2.2.2; omega)
    rw [hall] at hR hA1
    have HR : Hid _ := And.intro hR (And.intro hA1 hA2)
    clear hR hA1 hA2 hall
    cases first with
    | true =>
      by_cases hjn : j = n
      ·by_cases hn0 : 0 < n
       ·have d1 : ((j : Int) == (n : Int)) = true := by simp [hjn]
        have d2 : decide ((0 : Int) < (n : Int)) = true := by simp; omega
        have d3 : decide (0 < n) = true := by simp; omega
        have HN : Hid (Sg.TkOk true n O H l) := (⟨hn0, HR.out.1.full (by rw [← HH.out.2.2.2.2.2]; exact hjn)⟩ : 0 < n ∧ l = (List.range n).map (fun e : Nat => (e : Int)))
        clear hjn hn0
        go_wp2_with fail
        go_ret3
        exact ⟨_, _, true, rfl, Shp.of HR.out.2.1.gu, Shp.of HR.out.2.2.gu, HR.out.2.1.bl, ⟨fun _ => HN.out, fun _ => rfl⟩, fun _ => ⟨hasB_arr HR.out.2.1, hasB_arr HR.out.2.2⟩⟩
       ·have d1 : ((j : Int) == (n : Int)) = true := by simp [hjn]
        have d2 : decide ((0 : Int) < (n : Int)) = false := by simp; omega
        have d3 : decide (0 < n) = false := by simp; omega
        have HN : Hid (¬ Sg.TkOk true n O H l) := (fun h : 0 < n ∧ l = (List.range n).map (fun e : Nat => (e : Int)) => hn0 h.1 : ¬ Sg.TkOk true n O H l)
        clear hjn hn0
        go_wp2_with fail
        go_ret3
        exact ⟨_, _, false, rfl, Shp.of HR.out.2.1.gu, Shp.of HR.out.2.2.gu, HR.out.2.1.bl, ⟨(fun h => by cases h), fun h => absurd h HN.out⟩, (fun h => by cases h)⟩
      ·have d1 : ((j : Int) == (n : Int)) = false := by simp; omega
       have HN : Hid (¬ Sg.TkOk true n O H l) := (fun h : 0 < n ∧ l = (List.range n).map (fun e : Nat => (e : Int)) => hjn (by
        have h1 := congrArg List.length h.2
        rw [← HH.out.2.2.2.2.2] at h1
        simpa using h1) : ¬ Sg.TkOk true n O H l)
       clear hjn
       go_wp2_with fail
       go_ret3
       exact ⟨_, _, false, rfl, Shp.of HR.out.2.1.gu, Shp.of HR.out.2.2.gu, HR.out.2.1.bl, ⟨(fun h => by cases h), fun h => absurd h HN.out⟩, (fun h => by cases h)⟩
    | false =>
      by_cases hj0 : j = 0
      ·have d1 : ((j : Int) == 0) = true := by simp; omega
       have HN : Hid (¬ Sg.TkOk false n O H l) := (fun h : (∃ z r, l = z :: r ∧ (0 ≤ z ∧ z < (n : Int)) ∧ l = Sg.blkL n O (O.getD z.toNat 0) ∧ 2 * l.length ≤ (List.range n).countP fun e => decide (H.getD e 0 = H.getD z.toNat 0)) => by
        obtain ⟨z, r, h1, _⟩ := h
        have h2 := HH.out.2.2.2.2.2
        rw [h1] at h2
        simp at h2
        omega : ¬ Sg.TkOk false n O H l)
       clear hj0
       go_wp2_with fail
       go_ret3
       exact tkg_no rfl HR.out.2.1.bl HN.out
      ·have d1 : ((j : Int) == 0) = false := by simp; omega
       obtain ⟨z, hz⟩ : ∃ z, l[0]? = some z := ⟨l[0]'(by have := HH.out.2.2.2.2.2; omega), List.getElem?_eq_getElem _⟩
       have hzr := HR.out.1.low hz
       obtain ⟨zN, rfl⟩ : ∃ zN : Nat, z = zN := ⟨z.toNat, by omega⟩
       have hzl : zN < n := by omega
       have r0 : (0 : Int) ≤ (zN : Int) := by omega
       have r1 : (zN : Int) < (n : Int) := by omega
       have hj1 : (0 : Int) < (j : Int) := by omega
       obtain ⟨al', hal, _⟩ := ints_cell HH.out.1 (Below.refl _ _) hz
       subst hal
       have hOz : (natI O)[zN]? = some ((O.getD zN 0 : Nat) : Int) := by unfold natI; rw [List.getElem?_map, Sg.getD_at (by rw [HH.out.2.2.2.1]; exact hzl)]; rfl
       have hHz : (natI H)[zN]? = some ((H.getD zN 0 : Nat) : Int) := by unfold natI; rw [List.getElem?_map, Sg.getD_at (by rw [HH.out.2.2.2.2.1]; exact hzl)]; rfl
       obtain ⟨ab', hab, _⟩ := ints_cell HH.out.2.1 (Below.refl _ _) hOz
       subst hab
       obtain ⟨ah', hah, _⟩ := ints_cell HH.out.2.2.1 (Below.refl _ _) hHz
       subst hah
       obtain ⟨oz, hoz⟩ : ∃ oz, oz = O.getD zN 0 := ⟨_, rfl⟩
       obtain ⟨hz9, hhz⟩ : ∃ hz9, hz9 = H.getD zN 0 := ⟨_, rfl⟩
       have HZ : Hid _ := And.intro hz (And.intro hOz (And.intro hHz (And.intro hoz hhz)))
       clear hz hzr hOz hHz hoz hhz hj0
       go_wp2_with fail
       go_loopg [15, 16] n (fun q hv iv wr => ∃ i : Nat, q = n - i ∧ i ≤ n ∧ hv = .int .i64 ((List.range i).countP fun e => decide (H.getD e 0 = hz9) : Nat) ∧ iv = .int .i64 i ∧ Arr 4 w wr g1 (Sg.boolC n (Sg.inB l)) ∧ Arr 4 w wr g2 (Sg.boolC n fun k => decide (k < i) && Sg.restB H l zN k) ∧ ∀ k, k < i → Sg.inB l k = decide (O.getD k 0 = oz))
       case atStart => exact ⟨0, rfl, Nat.zero_le _, rfl, rfl, HR.out.2.1, by simpa using HR.out.2.2, fun k hk => by omega⟩
       case round =>
        obtain ⟨i, rfl, hi, rfl, rfl, hA1, hA2, hall⟩ := hrel
        obtain ⟨w3, rfl⟩ : ∃ w3, w3 = wr := ⟨_, rfl⟩
        by_cases hin : i < n
        ·have hOi : (natI O)[i]? = some ((O.getD i 0 : Nat) : Int) := by unfold natI; rw [List.getElem?_map, Sg.getD_at (by rw [HH.out.2.2.2.1]; exact hin)]; rfl
         have hHi : (natI H)[i]? = some ((H.getD i 0 : Nat) : Int) := by unfold natI; rw [List.getElem?_map, Sg.getD_at (by rw [HH.out.2.2.2.2.1]; exact hin)]; rfl
         obtain ⟨b1, hb1, c1⟩ := ints_cell HH.out.2.1 hA1.bl hOi
         obtain rfl : ab' = b1 := Option.some.inj hb1
         obtain ⟨b2, hb2, c2⟩ := ints_cell HH.out.2.1 hA1.bl HZ.out.2.1
         obtain rfl : ab' = b2 := Option.some.inj hb2
         obtain ⟨b3, hb3, c3⟩ := ints_cell HH.out.2.2.1 hA1.bl hHi
         obtain rfl : ah' = b3 := Option.some.inj hb3
         obtain ⟨b4, hb4, c4⟩ := ints_cell HH.out.2.2.1 hA1.bl HZ.out.2.2.1
         obtain rfl : ah' = b4 := Option.some.inj hb4
         obtain ⟨b5, hb5, c5⟩ := ints_cell HH.out.1 hA1.bl HZ.out.1
         obtain rfl : al' = b5 := Option.some.inj hb5
         have c6 : w3.cell? al' = some (.int .i64 (zN : Int)) := by simpa [Addr.add] using c5
         rw [← HZ.out.2.2.2.1] at c2
         rw [← HZ.out.2.2.2.2] at c4
         have cI := hA1.cell (Sg.boolC_at (Sg.inB l) hin)
         have cR := hA2.cell (Sg.boolC_at (fun k => decide (k < i) && Sg.restB H l zN k) hin)
         have fR := hA2.free i
         obtain ⟨oi, hoi⟩ : ∃ oi, oi = O.getD i 0 := ⟨_, rfl⟩
         obtain ⟨hi9, hhi⟩ : ∃ hi9, hi9 = H.getD i 0 := ⟨_, rfl⟩
         obtain ⟨bi, hbi⟩ : ∃ bi, bi = Sg.inB l i := ⟨_, rfl⟩
         obtain ⟨ct, hct⟩ : ∃ ct, ct = (List.range i).countP fun e => decide (H.getD e 0 = hz9) := ⟨_, rfl⟩
         have hctl : ct ≤ i := by rw [hct]; have := List.countP_le_length (l := List.range i) (p := fun e => decide (H.getD e 0 = hz9)); simpa using this
         rw [← hoi] at c1
         rw [← hhi] at c3
         rw [← hbi] at cI
         rw [← hct]
         have q2 : (0 : Int) ≤ (i : Int) := by omega
         have q3 : (i : Int) < (n : Int) := by omega
         have HA : Hid _ := And.intro hA1 (And.intro hA2 (And.intro hall (And.intro hoi (And.intro hhi (And.intro hbi hct)))))
         clear hA1 hA2 hall hoi hhi hbi hct hOi hHi hb1 hb2 hb3 hb4 hb5 c5
         by_cases hbe : bi = decide (oi = oz)
         ·have hal2 : ∀ k, k < i + 1 → Sg.inB l k = decide (O.getD k 0 = oz) := fun k hk => by
           rcases Nat.lt_or_ge k i with h1 | h1
           ·exact HA.out.2.2.1 k h1
           ·obtain rfl : k = i := by omega
            rw [← HA.out.2.2.2.2.2.1, ← HA.out.2.2.2.1]; exact hbe
          have hcs : (List.range (i + 1)).countP (fun e => decide (H.getD e 0 = hz9)) = ct + if hi9 = hz9 then 1 else 0 := by
           rw [List.range_succ, List.countP_append, ← HA.out.2.2.2.2.2.2, HA.out.2.2.2.2.1]
           simp [List.countP_cons]
          have hrs : hi9 ≠ hz9 → Sg.restB H l zN i = false := fun h => by
           unfold Sg.restB
           rw [← HA.out.2.2.2.2.1, ← HZ.out.2.2.2.2, decide_eq_false h]
           rfl
          have hry : hi9 = hz9 → Sg.restB H l zN i = !bi := fun h => by
           unfold Sg.restB
           rw [← HA.out.2.2.2.2.1, ← HZ.out.2.2.2.2, decide_eq_true h, HA.out.2.2.2.2.2.1]
           rfl
          have HB : Hid _ := And.intro hal2 (And.intro hcs (And.intro hrs hry))
          clear hal2 hcs hrs hry
          have eo1 : ((oi : Int) == (oz : Int)) = bi := by
           rw [hbe]
           by_cases h : oi = oz
           ·simp [h]
           ·have : ((oi : Int) == (oz : Int)) = false := by simp; omega
            rw [this, decide_eq_false h]
          have eo2 : (oi == oz) = bi := by
           rw [hbe]
           by_cases h : oi = oz
           ·simp [h]
           ·rw [decide_eq_false h]; simpa using h
          have eo3 : decide (oi = oz) = bi := hbe.symm
          clear hbe
          by_cases hh : hi9 = hz9
          ·have eh1 : ((hi9 : Int) == (hz9 : Int)) = true := by simp [hh]
           have eh2 : (hi9 == hz9) = true := by simp [hh]
           have hs := fun d => (HA.out.2.1.below (below_drewN (Below.refl _ _) d)).set i (.bool (!bi))
           rw [Sg.boolC_set, Sg.boolC_congr (Y := fun k => decide (k < i + 1) && Sg.restB H l zN k) (fun k hk => by
            by_cases e : k = i
            ·rw [if_pos e, e, HB.out.2.2.2 hh]; simp
            ·rw [if_neg e, decide_eq_decide.2 (show k < i ↔ k < i + 1 by omega)])] at hs
           have hk1 := fun d => (HA.out.1.below (below_drewN (Below.refl _ _) d)).kept (Kept.setCell (w3.drewN d) g2 i (.bool (!bi))) (fun b e => ⟨by rw [e]; exact HA.out.2.1.gu, by omega⟩)
           have HS : Hid _ := And.intro hs (And.intro hk1 hh)
           clear hs hk1 hh
           cases bi with
           | true =>
             go_wp2_with fail
             go_quiet (fail)
             go_wp2_with fail
             go_quiet (fail)
             go_wp2_with fail
             go_roundg (n - (i + 1))
             case measure => omega
             case rel =>
              refine ⟨i + 1, rfl, by omega, ?_, by go_num, ?_, ?_, HB.out.1⟩
              ·rw [HB.out.2.1, if_pos HS.out.2.2]; go_num
              ·exact HS.out.2.1 _
              ·exact HS.out.1 _
           | false =>
             go_wp2_with fail
             go_quiet (fail)
             go_wp2_with fail
             go_quiet (fail)
             go_wp2_with fail
             go_roundg (n - (i + 1))
             case measure => omega
             case rel =>
              refine ⟨i + 1, rfl, by omega, ?_, by go_num, ?_, ?_, HB.out.1⟩
              ·rw [HB.out.2.1, if_pos HS.out.2.2]; go_num
              ·exact HS.out.2.1 _
              ·exact HS.out.1 _
          ·have eh1 : ((hi9 : Int) == (hz9 : Int)) = false := by simp; omega
           have eh2 : (hi9 == hz9) = false := by simp; omega
           have hs := HA.out.2.1
           rw [Sg.boolC_congr (Y := fun k => decide (k < i + 1) && Sg.restB H l zN k) (fun k hk => by
            by_cases e : k = i
            ·rw [e, HB.out.2.2.1 hh]; simp
            ·rw [decide_eq_decide.2 (show k < i ↔ k < i + 1 by omega)])] at hs
           have HS : Hid _ := And.intro hs (And.intro HA.out.1 hh)
           clear hs hh
           cases bi with
           | true =>
             go_wp2_with fail
             go_quiet (fail)
             go_wp2_with fail
             go_quiet (fail)
             go_wp2_with fail
             go_roundg (n - (i + 1))
             case measure => omega
             case rel =>
              refine ⟨i + 1, rfl, by omega, ?_, by go_num, ?_, ?_, HB.out.1⟩
              ·rw [HB.out.2.1, if_neg HS.out.2.2]; go_num
              ·exact HS.out.2.1.below (by repeat (first | exact Below.refl _ _ | refine below_drewN ?_ _))
              ·exact HS.out.1.below (by repeat (first | exact Below.refl _ _ | refine below_drewN ?_ _))
           | false =>
             go_wp2_with fail
             go_quiet (fail)
             go_wp2_with fail
             go_quiet (fail)
             go_wp2_with fail
             go_roundg (n - (i + 1))
             case measure => omega
             case rel =>
              refine ⟨i + 1, rfl, by omega, ?_, by go_num, ?_, ?_, HB.out.1⟩
              ·rw [HB.out.2.1, if_neg HS.out.2.2]; go_num
              ·exact HS.out.2.1.below (by repeat (first | exact Below.refl _ _ | refine below_drewN ?_ _))
              ·exact HS.out.1.below (by repeat (first | exact Below.refl _ _ | refine below_drewN ?_ _))
         ·have HN : Hid (¬ Sg.TkOk false n O H l) := (fun h : (∃ z r, l = z :: r ∧ (0 ≤ z ∧ z < (n : Int)) ∧ l = Sg.blkL n O (O.getD z.toNat 0) ∧ 2 * l.length ≤ (List.range n).countP fun e => decide (H.getD e 0 = H.getD z.toNat 0)) => by
           obtain ⟨z, r, h1, _, h2, _⟩ := h
           have h3 := HZ.out.1
           rw [h1] at h3
           have h4 : z = (zN : Int) := by simpa using h3
           rw [h4, show ((zN : Nat) : Int).toNat = zN by simp, ← HZ.out.2.2.2.1] at h2
           apply hbe
           rw [HA.out.2.2.2.2.2.1, HA.out.2.2.2.1]
           have h5 : ((i : Int) ∈ l ↔ O.getD i 0 = oz) := by
            have h6 := Sg.blk_mem (O := O) (b := oz) hin
            rw [← h2] at h6
            exact h6
           cases h7 : Sg.inB l i with
           | true => rw [decide_eq_true (h5.1 (Sg.inB_iff.1 h7))]
           | false => rw [decide_eq_false fun h8 => by rw [Sg.inB_iff.2 (h5.2 h8)] at h7; cases h7] : ¬ Sg.TkOk false n O H l)
          by_cases hoo : oi = oz
          ·have eo1 : ((oi : Int) == (oz : Int)) = true := by simp [hoo]
           have eo2 : (oi == oz) = true := by simp [hoo]
           have ebi : bi = false := by
            cases bi with
            | false => rfl
            | true => exact absurd (decide_eq_true hoo).symm hbe
           subst ebi
           clear hoo hbe
           go_wp2_with fail
           go_quiet (fail)
           go_wp2_with fail
           go_ret3
           exact tkg_no rfl (by repeat (first | exact HA.out.1.bl | refine below_drewN ?_ _)) HN.out
          ·have eo1 : ((oi : Int) == (oz : Int)) = false := by simp; omega
           have eo2 : (oi == oz) = false := by simp; omega
           have ebi : bi = true := by
            cases bi with
            | true => rfl
            | false => exact absurd (decide_eq_false hoo).symm hbe
           subst ebi
           clear hoo hbe
           go_wp2_with fail
           go_quiet (fail)
           go_wp2_with fail
           go_ret3
           exact tkg_no rfl (by repeat (first | exact HA.out.1.bl | refine below_drewN ?_ _)) HN.out
        ·obtain rfl : i = n := by omega
         have q3 : ¬ (i : Int) < (i : Int) := by omega
         obtain ⟨ct, hct⟩ : ∃ ct, ct = (List.range i).countP fun e => decide (H.getD e 0 = hz9) := ⟨_, rfl⟩
         rw [← hct]
         have hbl : l = Sg.blkL i O oz := HR.out.1.block (fun k hk => by
          have h1 := hall k hk
          rw [← Sg.inB_iff, h1]
          simp)
         have hA3 : Arr 4 w w3 g2 (Sg.boolC i (Sg.restB H l zN)) := by
          rw [Sg.boolC_congr (Y := Sg.restB H l zN) (fun k hk => by rw [decide_eq_true hk]; rfl)] at hA2
          exact hA2
         have hhd : l.headD 0 = (zN : Int) := by
          have h1 := HZ.out.1
          cases l with
          | nil => simp at h1
          | cons z r => simpa using h1
         have hok : Sg.TkOk false i O H l ↔ 2 * j ≤ ct := by
          have hL := HH.out.2.2.2.2.2
          obtain ⟨z, r, hl⟩ : ∃ z r, l = z :: r := by
           have h1 := HZ.out.1
           cases l with
           | nil => simp at h1
           | cons z r => exact ⟨z, r, rfl⟩
          have hz : z = (zN : Int) := by rw [hl] at hhd; simpa using hhd
          have hzt : z.toNat = zN := by rw [hz]; simp
          constructor
          ·rintro ⟨z', r', h1, _, _, h4⟩
           have h5 : z' = z := by rw [hl] at h1; injection h1 with h6 _; exact h6.symm
           rw [h5, hzt, ← HZ.out.2.2.2.2, ← hct, ← hL] at h4
           exact h4
          ·intro h
           exact ⟨z, r, hl, by omega, by rw [hzt, ← HZ.out.2.2.2.1]; exact hbl, by rw [hzt, ← HZ.out.2.2.2.2, ← hct, ← hL]; exact h⟩
         have hctl : ct ≤ i := by rw [hct]; have := List.countP_le_length (l := List.range i) (p := fun e => decide (H.getD e 0 = hz9)); simpa using this
         have HA : Hid _ := And.intro hA1 (And.intro hA3 (And.intro hhd hok))
         clear hA1 hA2 hA3 hall hbl hct hhd hok
         have w1 : IntKind.i64.wrap (2 * (j : Int)) = 2 * (j : Int) := by rw [IntKind.wrap_i64]; omega
         by_cases h2 : 2 * j ≤ ct
         ·have d2 : decide (2 * (j : Int) ≤ (ct : Int)) = true := by simp; omega
          have d3 : decide (2 * j ≤ ct) = true := by simpa using h2
          have HN : Hid _ := h2
          clear h2
          go_wp2_with fail
          go_ret3
          exact ⟨_, _, true, rfl, Shp.of HA.out.1.gu, Shp.of HA.out.2.1.gu, HA.out.1.bl, ⟨fun _ => HA.out.2.2.2.2 HN.out, fun _ => rfl⟩, fun _ => ⟨hasB_arr HA.out.1, by rw [HA.out.2.2.1]; simpa using hasB_arr HA.out.2.1⟩⟩
         ·have d2 : decide (2 * (j : Int) ≤ (ct : Int)) = false := by simp; omega
          have d3 : decide (2 * j ≤ ct) = false := by simpa using h2
          have HN : Hid _ := h2
          clear h2
          go_wp2_with fail
          go_ret3
          exact ⟨_, _, false, rfl, Shp.of HA.out.1.gu, Shp.of HA.out.2.1.gu, HA.out.1.bl, ⟨(fun h => by cases h), fun h => absurd (HA.out.2.2.2.1 h) HN.out⟩, (fun h => by cases h)⟩
end Go.Proofs.YtkiapldehlnndaaGreatDoor
/- Contract of the document's split. -/
namespace Go.Proofs.YtkiapldehlnndaaGreatDoor
open Go.RowKit Go.Maps
attribute [local go_sem ↓] Go.wp_at_zero Go.wp_at_succ
set_option maxRecDepth 100000 in
set_option maxHeartbeats 8000000 in
theorem docSplit_any (m kk : Nat) (s : Int) (v vb vi : Value) (es : List Sy.Ed) (O : List Nat) (X : Nat → Bool) (w : World) (hv : BEdges.Has w v es) (hO : HasI w vb (natI O)) (hX : HasB w vi m X) (hl : O.length = m) (hOv : ∀ x ∈ O, x ≤ 1000000) (hq : Sy.right m kk s es = true) :
 Calls Tryz.prog 46 #[sysV m kk s v, vb, vi] w fun e w' => ∃ u O', e = .returned u ∧ HasI w' u (natI O') ∧ Sg.EqO m es X O O' kk ∧ Below w.heap.size w w' ∧ (u = vb ∨ ∀ a n c, u = .slice (some a) n c → w.heap.size ≤ a.block) := by
 have hp := right_parts hq
 have hm : m ≤ 1000 := by have := hp.1; omega
 have hkk : kk ≤ 201 := by omega
 obtain ⟨ao, cap, rfl, _⟩ := id hv
 obtain ⟨gx, rfl, hxc⟩ := hX
 obtain ⟨L, hL⟩ : ∃ L, L = es.length := ⟨_, rfl⟩
 obtain ⟨w1, hw1⟩ : ∃ w1, w1 = w.alloc (.cells #[.int .i64 m, .int .i64 kk, .int .i64 s, .slice ao L cap] 24) := ⟨_, rfl⟩
 have hb1 : Below w.heap.size w w1 := by rw [hw1]; exact (Below.refl _ _).alloc (Nat.le_refl _) _
 have hg1 : w1.heap[w.heap.size]? = some (.cells #[.int .i64 m, .int .i64 kk, .int .i64 s, .slice ao L cap] 24 (0, 0)) := by rw [hw1]; exact heap_alloc_new w _
 have hLl : L ≤ 10000 := by omega
 rw [← hL] at hv ⊢
 unfold sysV
 obtain ⟨ab, cb, rfl, _⟩ := id hO
 have hOn : (natI O).length = m := by simp [natI, hl]
 rw [hOn] at hO ⊢
 have H1 : Hid _ := And.intro hw1 (And.intro hb1 (And.intro hg1 (And.intro (hv.below hb1) (And.intro (hO.below hb1) (And.intro (fun W (hb : Below w1.heap.size w1 W) i (hi : i < m) => (((hb1.trans (hb.mono hb1.size)).cell (World.block_lt_of_cell? w _ (hxc i hi))).trans (hxc i hi) : W.cell? ⟨gx, i, none⟩ = some (.bool (X i)))) (And.intro hL (And.intro hp (Sg.EqO.zero (es := es) (X := X) hl hOv))))))))
 clear hv hO hxc hw1 hb1 hg1 hL hp hl hOv hOn hq
 go_enter Tryz.func46, Tryz.ntmps46
 go_upto_region 1 with fail
 rw [← H1.out.1]
 go_wp2_with fail
 go_loopg [1, 7] kk (fun q bv xv wr => ∃ (x : Nat) (O1 : List Nat), q = kk - x ∧ x ≤ kk ∧ xv = .int .i64 x ∧ HasI wr bv (natI O1) ∧ Sg.EqO m es X O O1 x ∧ Below w1.heap.size w1 wr ∧ (bv = .slice ab m cb ∨ ∀ a n c, bv = .slice (some a) n c → w.heap.size ≤ a.block))
 case atStart => exact ⟨0, O, rfl, Nat.zero_le _, rfl, H1.out.2.2.2.2.1, H1.out.2.2.2.2.2.2.2.2, Below.refl _ _, .inl rfl⟩
 case round =>
  obtain ⟨x, O1, rfl, hx, rfl, hI, hEq, hbx, hfar⟩ := hrel
  have HFA : Hid _ := hfar
  clear hfar
  obtain ⟨w2, rfl⟩ : ∃ w2, w2 = wr := ⟨_, rfl⟩
  obtain ⟨b0, b1, b2, b3⟩ := four_cells (res_up6 hbx H1.out.2.2.1)
  obtain ⟨a1, c1, rfl, _⟩ := id hI
  have hO1 : (natI O1).length = m := by simp [natI, hEq.len]
  rw [hO1] at hI HFA ⊢
  by_cases hlt : x < kk
  ·have q1 : (x : Int) < (kk : Int) := by omega
   have hmk := makeI m (by omega) w2
   have HX : Hid _ := And.intro hI (And.intro hEq (And.intro hbx hO1))
   clear hI hEq hbx hO1
   go_upto_region 7 with fail
   clear hmk
   have hAr : Arr 3 w2 (w2.alloc (.cells (madeV (.int .i64 0) m) 3)) w2.heap.size (natC (Sg.hasL m (es.take 0) X x)) := by
    rw [List.take_zero, Sg.hasL_nil]
    simpa [natC] using arr_new 3 (.int .i64 0) rfl m w2
   have HAr : Hid _ := hAr
   clear hAr b0 b1 b2 b3
   go_loopg [9, 10] L (fun q sv iv wr => ∃ i : Nat, q = L - i ∧ i ≤ L ∧ sv = .bool (Sg.someE (es.take i) X x) ∧ iv = .int .i64 i ∧ Arr 3 w2 wr w2.heap.size (natC (Sg.hasL m (es.take i) X x)))
   case atStart => exact ⟨0, rfl, Nat.zero_le _, by simp [Sg.someE], rfl, HAr.out⟩
   case round =>
    obtain ⟨i, rfl, hi, rfl, rfl, hA⟩ := hrel
    obtain ⟨w3, rfl⟩ : ∃ w3, w3 = wr := ⟨_, rfl⟩
    have hb3 := bel6 hA.bl HX.out.2.2.1
    obtain ⟨b0, b1, b2, b3⟩ := four_cells (res_up6 hb3 H1.out.2.2.1)
    by_cases hil : i < L
    ·obtain ⟨z, hz⟩ : ∃ z, es[i]? = some z := ⟨es[i]'(by have := H1.out.2.2.2.2.2.2.1; omega), List.getElem?_eq_getElem _⟩
     obtain ⟨a, rfl, z0, z1, z2⟩ := edge_at (H1.out.2.2.2.1.below hb3) hz
     have hzr := H1.out.2.2.2.2.2.2.2.1.2.2.2.2.2 z (List.mem_of_getElem? hz)
     obtain ⟨f, hf⟩ : ∃ f : Nat, z.1 = (f : Int) := ⟨z.1.toNat, by omega⟩
     obtain ⟨t, ht⟩ : ∃ t : Nat, z.2.2 = (t : Int) := ⟨z.2.2.toNat, by omega⟩
     have hfm : f < m := by omega
     have htm : t < m := by omega
     have d0 := H1.out.2.2.2.2.2.1 w3 hb3 t htm
     have htn : z.2.2.toNat = t := by omega
     have hs1 := Sg.someE_snoc (es.take i) z X x
     rw [← take_succ_of hz, htn] at hs1
     have hno := fun h => Sg.hasL_no (m := m) (es := es.take i) (e := z) (X := X) (x := x) h
     have hye := fun h => Sg.hasL_yes (m := m) (es := es.take i) (e := z) (X := X) (x := x) hf h
     rw [← take_succ_of hz, htn] at hno hye
     have q2 : (i : Int) < (L : Int) := by omega
     have q3 : (0 : Int) ≤ (i : Int) := by omega
     have q4 : (0 : Int) ≤ (t : Int) := by omega
     have q5 : (t : Int) < (m : Int) := by omega
     have q6 : (0 : Int) ≤ (f : Int) := by omega
     have q7 : (f : Int) < (m : Int) := by omega
     rw [hf] at z0
     rw [ht] at z2
     have cx : ∃ y, w3.cell? ⟨w2.heap.size, f, none⟩ = some y := ⟨_, hA.cell (by unfold natC; rw [List.getElem?_map, Sg.hasL_at _ _ _ hfm]; rfl)⟩
     obtain ⟨y, cx⟩ := cx
     have cf := hA.free f
     obtain ⟨lz, hlz⟩ : ∃ lz, lz = z.2.1 := ⟨_, rfl⟩
     rw [← hlz] at z1 hs1 hno hye
     obtain ⟨sb, hsb⟩ : ∃ sb, sb = Sg.someE (es.take i) X x := ⟨_, rfl⟩
     rw [← hsb] at hs1 ⊢
     obtain ⟨xt, hxt⟩ : ∃ xt, xt = X t := ⟨_, rfl⟩
     rw [← hxt] at d0 hs1 hno hye
     have HZ : Hid _ := And.intro hA (And.intro hb3 (And.intro hs1 (And.intro hno hye)))
     clear hA hb3 hs1 hno hye hz hzr hf ht htn hlz hsb hxt hfm htm
     by_cases hlx : lz = (x : Int)
     ·have e1 : (lz == (x : Int)) = true := by simp [hlx]
      rw [e1, Bool.true_and] at HZ
      have HL : Hid _ := hlx
      clear hlx
      cases xt with
      | true =>
        go_wp2_with fail
        go_roundg (L - (i + 1))
        case measure => omega
        case rel =>
         have hs := HZ.out.1.set f (.int .i64 1)
         have h1 := HZ.out.2.2.2.2 (by first | rfl | trivial)
         have h2 : (natC (Sg.hasL m (es.take i) X x)).set f (.int .i64 1) = natC (Sg.hasL m (es.take (i + 1)) X x) := by rw [h1, natC_set]; rfl
         rw [h2] at hs
         exact ⟨i + 1, rfl, by omega, by rw [HZ.out.2.2.1]; simp, by go_num, hs⟩
      | false =>
        go_wp2_with fail
        go_roundg (L - (i + 1))
        case measure => omega
        case rel => exact ⟨i + 1, rfl, by omega, by rw [HZ.out.2.2.1]; simp, by go_num, by rw [HZ.out.2.2.2.1 (by first | rfl | trivial)]; exact HZ.out.1⟩
     ·have e1 : (lz == (x : Int)) = false := by simpa using hlx
      rw [e1, Bool.false_and] at HZ
      clear hlx
      go_wp2_with fail
      go_roundg (L - (i + 1))
      case measure => omega
      case rel => exact ⟨i + 1, rfl, by omega, by rw [HZ.out.2.2.1]; simp, by go_num, by rw [HZ.out.2.2.2.1 (by first | rfl | trivial)]; exact HZ.out.1⟩
    ·obtain rfl : i = L := by omega
     have q2 : ¬ (i : Int) < (i : Int) := by omega
     have hall : es.take i = es := List.take_of_length_le (by have := H1.out.2.2.2.2.2.2.1; omega)
     rw [hall] at hA ⊢
     obtain ⟨sb, hsb⟩ : ∃ sb, sb = Sg.someE es X x := ⟨_, rfl⟩
     rw [← hsb]
     have HA : Hid _ := And.intro hA (And.intro hb3 hsb)
     clear hA hb3 hsb hall
     cases sb with
     | true =>
       have hhI : HasI w3 (.slice (some ⟨w2.heap.size, 0, none⟩) m m) (natI (Sg.hasL m es X x)) := by
        obtain ⟨cs, hcs, hcl⟩ := HA.out.1.ids
        exact hasI_blk (Sg.hasL_len m es X x) hcs hcl
       have hFi := refFiner_any (.slice a1 m c1) (.slice (some ⟨w2.heap.size, 0, none⟩) m m) O1 (Sg.hasL m es X x) w3 (HX.out.1.below HA.out.1.bl) hhI (by rw [HX.out.2.1.len, Sg.hasL_len]) (by rw [HX.out.2.1.len]; omega) HX.out.2.1.le (Sg.hasL_le m es X x)
       have HF : Hid _ := And.intro hFi trivial
       clear hhI hFi
       go_wp2_with fail
       refine Calls.mono HF.out.1 ?_
       rintro r w5 ⟨u, rfl, hu, hb5⟩
       obtain ⟨au, cu, hs⟩ := row_shape hu
       obtain ⟨nu, hnu⟩ : ∃ nu, nu = (natI (Ro.num (O1.zip (Sg.hasL m es X x)))).length := ⟨_, rfl⟩
       rw [← hnu] at hs
       subst hs
       have hfa : ∀ a n c, Value.slice au nu cu = .slice (some a) n c → w.heap.size ≤ a.block := fun a n c h => by
        injection h with h1 h2 h3
        subst h1
        obtain ⟨h4, _⟩ := hu.lt a.block (by rcases hu.2 with ⟨h5, _⟩ | ⟨g, c', cur, h5, _⟩ <;> injection h5 with h6 <;> cases h6 <;> rfl)
        have h7 := HA.out.2.1.size
        have h8 := H1.out.2.1.size
        omega
       have H5 : Hid _ := And.intro hu.has (And.intro (bel6 hb5 HA.out.2.1) hfa)
       clear hu hb5 hnu hfa
       go_wp2_with fail
       go_roundg (kk - (x + 1))
       case measure => omega
       case rel => exact ⟨x + 1, _, rfl, by omega, by go_num, H5.out.1, HX.out.2.1.some hm, H5.out.2.1, .inr H5.out.2.2⟩
     | false =>
       go_wp2_with fail
       go_roundg (kk - (x + 1))
       case measure => omega
       case rel => exact ⟨x + 1, O1, rfl, by omega, by go_num, HX.out.1.below HA.out.1.bl, HX.out.2.1.none HA.out.2.2.symm, HA.out.2.1, HFA.out⟩
  ·obtain rfl : x = kk := by omega
   have q1 : ¬ (x : Int) < (x : Int) := by omega
   have HX : Hid _ := And.intro hI (And.intro hEq (And.intro (bel6 hbx H1.out.2.1) HFA.out))
   clear hI hEq hbx HFA
   go_wp2_with fail
   go_ret
   exact ⟨_, rfl, O1, HX.out⟩
end Go.Proofs.YtkiapldehlnndaaGreatDoor
