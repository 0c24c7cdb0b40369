/- Texts of this claim, joined: SgRef0, SgPlay, SgMay, SgFind, SgDone, SgRef1. -/
import Derived.Test.YtkiapldehlnndabGreatDoorPart8
import Derived.Test.YtkiapldehlnndabGreatDoorPart7
import Derived.Test.YtkiapldehlnndabGreatDoorPart9
import Derived.Test.YtkiapldehlnndabGreatDoorSgBeg
import Derived.Test.YtkiapldehlnndabGreatDoorPart4
import Derived.BigRegion
/- strong: what Refine tells so far, in memory; what next says of heaps. -/
namespace Go.Proofs.YtkiapldehlnndabGreatDoor
open Go.RowKit Go.Maps
structure Told (W : World) (B tb : Nat) (vT vG : Value) (gz : List Int) (tk : List (Value × List Int)) : Prop where
  box : W.heap[tb]? = some (.cells #[.slice none 0 0, vT, vG] 46 (0, 0))
  row : W.ownsRow B 27 1 vT tk.length (tk.map (·.1))
  q : QueAll W B ((vG, gz) :: tk)
  fl : ∀ z ∈ (vG, gz) :: tk, At0 z.1
  up : B ≤ tb
theorem Told.kept {W W' : World} {B tb : Nat} {vT vG : Value} {gz : List Int} {tk : List (Value × List Int)} {F : Nat → Prop} (h : Told W B tb vT vG gz tk) (hk : Kept F W W') (h1 : ¬ F tb) (h2 : ∀ b, vT.ownBlock = some b → ¬ F b) (h3 : ∀ b, Foot ((vG, gz) :: tk) b → ¬ F b) : Told W' B tb vT vG gz tk :=
  ⟨(hk.block tb (t_lt h.box) h1).trans h.box, own_up h.row hk h2, h.q.kept hk h3, h.fl, h.up⟩
theorem Told.below {W W' : World} {B tb : Nat} {vT vG : Value} {gz : List Int} {tk : List (Value × List Int)} (h : Told W B tb vT vG gz tk) (hb : Below W.heap.size W W') : Told W' B tb vT vG gz tk := h.kept (F := fun _ => False) (Kept.of_below hb) (fun h => h) (fun _ _ h => h) (fun _ _ h => h)
def gOf (n : Nat) (f : Nat → Int) : List Int := (List.range n).map f
theorem gOf_len (n : Nat) (f : Nat → Int) : (gOf n f).length = n := by simp [gOf]
theorem gOf_at {n : Nat} {f : Nat → Int} {e : Nat} (h : e < n) : (gOf n f)[e]? = some (f e) := by unfold gOf; rw [List.getElem?_map, List.getElem?_range h]; rfl
theorem gOf_set (n : Nat) (f : Nat → Int) (k : Nat) (z : Int) : (gOf n f).set k z = gOf n fun e => if e = k then z else f e := by
  apply List.ext_getElem?
  intro i
  rcases Nat.lt_or_ge i n with h | h
  · by_cases e : i = k
    · subst e
      rw [List.getElem?_set_self (by rw [gOf_len]; exact h), gOf_at h, if_pos rfl]
    · rw [List.getElem?_set_ne (fun e2 => e e2.symm), gOf_at h, gOf_at h, if_neg e]
  · rw [List.getElem?_eq_none (by rw [List.length_set, gOf_len]; exact h), List.getElem?_eq_none (by rw [gOf_len]; exact h)]
theorem gOf_congr {n : Nat} {f g : Nat → Int} (h : ∀ e, e < n → f e = g e) : gOf n f = gOf n g := by
  unfold gOf
  exact List.map_congr_left fun e he => h e (List.mem_range.1 he)
def gz1 (l : List (List Int)) (e : Nat) : Int := ((l.countP fun m => decide ((e : Int) ∈ m) : Nat) : Int)
theorem gz1_snoc (l : List (List Int)) (m : List Int) (hm : m.Nodup) (e : Nat) : gz1 (l ++ [m]) e = gz1 l e + m.count (e : Int) := by
  unfold gz1
  rw [List.countP_append, List.countP_cons, List.countP_nil]
  by_cases h : (e : Int) ∈ m
  · have h1 := hm.count (a := (e : Int))
    rw [h1, if_pos h]
    simp [h]
  · rw [List.count_eq_zero.2 h]
    simp [h]
structure RfL (w0 wS wr : World) (r g p mb tb nm : Nat) (G : Gp) (s : Pst) (x : Rv) (vT vG : Value) (tk : List (Value × List Int)) : Prop where
  run : RunAt w0 wr r g p mb nm G s x
  told : Told wr wS.heap.size tb vT vG (gOf G.n (gz1 (tk.map (·.2)))) tk
  far : ∀ b, x.foot b → ¬ Foot ((vG, gOf G.n (gz1 (tk.map (·.2)))) :: tk) b
  lo : p < wS.heap.size ∧ r < wS.heap.size ∧ mb < wS.heap.size
  hist : Sg.Hist G (tk.map (·.2)) s.O (hOf s x) x.ks.length
  nmb : nm ≤ 10000 + x.ks.length * 10000000
def MayTake (G : Gp) (s : Pst) (x : Rv) (bl : Nat) : Prop := bl < s.nb ∧ ∃ e0, e0 < G.n ∧ s.O e0 = bl ∧ (hOf s x e0 = 0 ∨ 2 * Sg.bc G.n s.O bl ≤ hc G.n (hOf s x) (hOf s x e0))
def AllOne (G : Gp) (s : Pst) (x : Rv) : Prop := ∀ a b, a < G.n → b < G.n → hOf s x a = hOf s x b → s.O a = s.O b
theorem tfoot_ty {W : World} {B tb : Nat} {vT vG : Value} {gz : List Int} {tk : List (Value × List Int)} (h : Told W B tb vT vG gz tk) {b : Nat} (hb : Foot ((vG, gz) :: tk) b) : ∃ cs, W.heap[b]? = some (.cells cs 3 (0, 0)) := h.q.typed hb
theorem memb_eq (s : Pst) (b : Nat) : s.mem b = Sg.memb s.n s.O b := rfl
theorem bc_mem (s : Pst) (b : Nat) : Sg.bc s.n s.O b = (s.mem b).length := by rw [mem_count]; rfl
theorem RfL.take {w0 wS wr w' : World} {r g p mb tb nm nm' bl : Nat} {G : Gp} {s s' : Pst} {x x' : Rv} {vT vG : Value} {tk : List (Value × List Int)} {u : Value} (hR : RunAt w0 wr r g p mb nm G s x) (hT : Told wr wS.heap.size tb vT vG (gOf G.n (gz1 ((tk ++ [(u, s.mem bl)]).map (·.2)))) (tk ++ [(u, s.mem bl)])) (hf : ∀ b, x.foot b → ¬ Foot ((vG, gOf G.n (gz1 ((tk ++ [(u, s.mem bl)]).map (·.2)))) :: (tk ++ [(u, s.mem bl)])) b) (hlo : p < wS.heap.size ∧ r < wS.heap.size ∧ mb < wS.heap.size) (hH : Sg.Hist G (tk.map (·.2)) s.O (hOf s x) x.ks.length) (hnm : nm ≤ 10000 + x.ks.length * 10000000) (hm : MayTake G s x bl)
    (hR' : RunAt w0 w' r g p mb nm' G s' x') (hA : TakeAt wr w' r p mb nm nm' G s s' x x' bl) : RfL w0 wS w' r g p mb tb nm' G s' x' vT vG (tk ++ [(u, s.mem bl)]) := by
  obtain ⟨_, e0, he, hO, half⟩ := hm
  have hn := hR.n
  obtain ⟨c, hP, _⟩ := hR.c
  have hup := hT.up
  have hint : ∀ b, Foot ((vG, gOf G.n (gz1 ((tk ++ [(u, s.mem bl)]).map (·.2)))) :: (tk ++ [(u, s.mem bl)])) b → ¬ (b = p ∨ b = r ∨ b = mb ∨ x.foot b) := fun b hb e => by
    obtain ⟨cs, hc⟩ := tfoot_ty hT hb
    have hlt := (hT.q.lt hb).1
    rcases e with e | e | e | e
    · omega
    · omega
    · omega
    · exact hf b e hb
  refine ⟨hR', hT.kept hA.kp (fun e => ?_) (fun b hb e => ?_) hint, fun b hb hb2 => ?_, hlo, ?_, ?_⟩
  · rcases e with e | e | e | e
    · omega
    · omega
    · omega
    · exact hR.m.foot_ne hT.box (by decide) (by decide) e
  · have h1 := (hT.row.lt b hb).1
    obtain ⟨cs, hc⟩ := row_cells hT.row hb
    rcases e with e | e | e | e
    · omega
    · omega
    · omega
    · exact hR.m.foot_ne hc (by decide) (by decide) e
  · rcases hA.ft b hb with h1 | h1
    · exact hf b h1 hb2
    · have := (hT.q.lt hb2).2
      omega
  · have h1 := Sg.Hist.step (O' := s'.O) (H' := hOf s' x') e0 hH he (by rw [hO]; exact half) (by
      have h2 := hA.sp
      rw [hn] at h2
      have h3 : hOf s x e0 = x.of bl := by unfold hOf; rw [hO]
      rw [hO, h3]
      exact h2) (fun e hE => by rw [hA.hp e (by rw [hn]; exact hE), hO])
    rw [List.map_append, hA.ks]
    have h4 : [(u, s.mem bl)].map (·.2) = [Sg.memb G.n s.O (s.O e0)] := by rw [hO, ← hn, ← memb_eq]; rfl
    rw [h4]
    exact h1
  · have h1 := hA.nm
    rw [hA.ks]
    omega
theorem RunI.wait {s : Pst} {x : Rv} {w w' : World} {B r g p mb k : Nat} {u : Value} (hI : RunI s x) (hN : NextAt w w' B r g p mb x k u) : RunI s (x.wait k u) := by
  refine ⟨hI.ow, hI.sz, hI.szv, hI.own, hI.nd, hI.hs, fun o bs h h2 => ?_, ?_, fun z hz => hI.wtn z (List.mem_of_mem_drop hz), hI.len⟩
  · have h3 := hI.wt o bs h h2
    rw [← List.take_append_drop k x.wt] at h3
    rcases List.mem_append.1 h3 with h4 | h4
    · obtain ⟨o', hv, e1, e2, e3⟩ := hN.one _ h4
      have e4 : o' = o := by omega
      rw [e4] at e2
      have h5 : (x.H.map (·.2))[o]? = some hv.2 := by rw [List.getElem?_map, e2]; rfl
      have h6 : bs = hv.2 := Option.some.inj (h.symm.trans h5)
      rw [h6] at h2
      omega
    · exact h4
  · have h1 := hI.wtl
    show (x.wt.drop k).length ≤ s.nb
    rw [List.length_drop]
    omega
theorem RunAt.next {w0 w w' : World} {r g p mb nm k : Nat} {G : Gp} {s : Pst} {x : Rv} {u : Value} (h : RunAt w0 w r g p mb nm G s x) (hN : NextAt w w' w0.heap.size r g p mb x k u) : RunAt w0 w' r g p mb nm G s (x.wait k u) := by
  obtain ⟨c, h1, h2⟩ := h.c
  have hpf := h.m.p_foot h1
  have hmf := h.m.mb_foot h.cnt
  refine ⟨hN.m, ⟨c, h1.kept hN.gw.kp fun b hb => ⟨hb.elim (fun e => by rw [e]; exact h.m.up) fun e => (h.m.foot_lt e).1, fun e => ?_⟩, h2⟩, h.ok, h.bare, h.n, h.i.wait hN, h.gr, h.mu, h.cnt.kept hN.gw.kp fun e => ?_, h.ksv⟩
  · rw [e] at hb; exact hb.elim (fun e2 => hpf.2 e2) hpf.1
  · exact e.elim (fun e2 => hmf.2 e2) hmf.1
theorem RunI.of_mem {s : Pst} {x : Rv} (hI : RunI s x) {o : Nat} {bs : List Int} (h : (x.H.map (·.2))[o]? = some bs) {b : Nat} (hb : (b : Int) ∈ bs) : b < s.nb ∧ x.of b = (o : Int) := by
  obtain ⟨c, e1, e2, e3⟩ := (hI.hs o bs h _).1 hb
  have e4 : b = c := by omega
  rw [e4]
  exact ⟨e2, by unfold Rv.of; rw [e3]; rfl⟩
theorem block_state {s : Pst} (hO : s.Ok) {b : Nat} (hb : b < s.nb) : ∃ e, e < s.n ∧ s.O e = b := by
  have v := hO.iv b hb
  exact ⟨s.E (s.B b), (hO.ep (s.B b) (by omega)).1, hO.ow b hb (s.B b) (Nat.le_refl _) (by omega)⟩
theorem next_yes {w0 w : World} {r g p mb nm : Nat} {G : Gp} {s : Pst} {x : Rv} (h : RunAt w0 w r g p mb nm G s x) {o a b : Nat} {v : Value} {bs : List Int} {y z : Int} (hH : x.H[o]? = some (v, (a : Int) :: (b : Int) :: bs)) (hy : x.sz[a]? = some y) (hz : x.sz[b]? = some z) : MayTake G s x (if y ≤ z then a else b) := by
  have hHm : (x.H.map (·.2))[o]? = some ((a : Int) :: (b : Int) :: bs) := by rw [List.getElem?_map, hH]; rfl
  obtain ⟨a1, a2⟩ := h.i.of_mem hHm (b := a) (by simp)
  obtain ⟨b1, b2⟩ := h.i.of_mem hHm (b := b) (by simp)
  have hne : a ≠ b := fun e => by
    have h1 := h.i.nd o _ hHm
    rw [e] at h1
    simp at h1
  have ya : y = ((s.mem a).length : Int) := Option.some.inj (hy.symm.trans (h.i.szv a a1))
  have zb : z = ((s.mem b).length : Int) := Option.some.inj (hz.symm.trans (h.i.szv b b1))
  have hn := h.n
  have hsum : Sg.bc G.n s.O a + Sg.bc G.n s.O b ≤ hc G.n (hOf s x) (o : Int) := by
    unfold Sg.bc hc
    rw [← countP_add (l := List.range G.n) (f := fun e => decide (s.O e = a) || decide (s.O e = b)) fun e _ => ⟨rfl, by
      by_cases h1 : s.O e = a
      · simp [h1, hne]
      · simp [h1]⟩]
    refine List.countP_mono_left fun e _ he => ?_
    simp only [Bool.or_eq_true, decide_eq_true_eq] at he
    have h1 : hOf s x e = (o : Int) := by
      unfold hOf
      rcases he with e1 | e1
      · rw [e1]; exact a2
      · rw [e1]; exact b2
    simp [h1]
  rw [← hn] at hsum
  rw [bc_mem, bc_mem] at hsum
  have key : ∀ t, t < s.nb → x.of t = (o : Int) → 2 * (s.mem t).length ≤ hc s.n (hOf s x) (o : Int) → MayTake G s x t := fun t ht h1 h2 => by
    obtain ⟨e0, he, hO⟩ := block_state h.ok ht
    refine ⟨ht, e0, by rw [← hn]; exact he, hO, .inr ?_⟩
    have h3 : hOf s x e0 = (o : Int) := by unfold hOf; rw [hO]; exact h1
    rw [h3, ← hn, bc_mem]
    exact h2
  by_cases hle : y ≤ z
  · rw [if_pos hle]; exact key a a1 a2 (by omega)
  · rw [if_neg hle]; exact key b b1 b2 (by omega)
theorem next_no {w0 w w' : World} {r g p mb nm k : Nat} {G : Gp} {s : Pst} {x : Rv} {u : Value} (h : RunAt w0 w r g p mb nm G s x) (hN : NextAt w w' w0.heap.size r g p mb x k u) (hk : k = x.wt.length) : AllOne G s x := by
  intro a b ha hb e
  have hn := h.n
  have a1 := (h.ok.o a (by omega)).1
  have b1 := (h.ok.o b (by omega)).1
  obtain ⟨o, k1, v, bs, how, hH, hks, hHm⟩ := h.i.heap a1
  have hob : x.ow[s.O b]? = some (o : Int) := by
    obtain ⟨o2, k2, v2, bs2, how2, _⟩ := h.i.heap b1
    unfold hOf Rv.of at e
    rw [how, how2] at e
    rw [how2]
    exact congrArg some e.symm
  have ma := (h.i.hs o bs hHm (s.O a : Int)).2 ⟨_, rfl, a1, how⟩
  have mb' := (h.i.hs o bs hHm (s.O b : Int)).2 ⟨_, rfl, b1, hob⟩
  have hl : bs.length ≤ 1 := by
    rcases Nat.lt_or_ge bs.length 2 with h1 | h1
    · omega
    · have h2 := h.i.wt o bs hHm h1
      obtain ⟨o', hv, e1, e2, e3⟩ := hN.one (o : Int) (by rw [hk, List.take_length]; exact h2)
      have e4 : o' = o := by omega
      rw [e4, hH] at e2
      cases e2
      exact e3
  match bs, hl, ma, mb' with
  | [], _, ma, _ => simp at ma
  | [c], _, ma, mb' =>
    rw [List.mem_singleton] at ma mb'
    omega
  | _ :: _ :: _, hl, _, _ => simp at hl
end Go.Proofs.YtkiapldehlnndabGreatDoor
/- What a run says of the played one, taking by taking. Plain facts. -/
namespace Go.Proofs.YtkiapldehlnndabGreatDoor
open Ro
namespace Sg
theorem dd_nodup {K : Type} [DecidableEq K] (l : List K) : (dd l).Nodup := by
  refine snoc_ind (P := fun l => (dd l).Nodup) List.nodup_nil (fun l x ih => ?_) l
  rw [dd_snoc]
  unfold more
  split
  · exact ih
  · rename_i h
    refine List.nodup_append.2 ⟨ih, by simp, fun a ha b hb e => ?_⟩
    rw [List.mem_singleton.1 hb] at e
    exact h (e ▸ ha)
theorem mRun_snoc (G : Gp) {tk : List (List Int)} (h : tk ≠ []) (l : List Int) : mRun G (tk ++ [l]) = (mRun G tk).bind fun st => mNext G st l := by
  cases tk with
  | nil => exact absurd rfl h
  | cons a r =>
    show (r ++ [l]).foldl _ (mFirst G a) = _
    rw [List.foldl_append]
    rfl
theorem fold_none (G : Gp) (r : List (List Int)) : r.foldl (fun st l => st.bind fun st => mNext G st l) (none : Option Ms) = none := by
  induction r with
  | nil => rfl
  | cons a r ih => exact ih
theorem mRun_none (G : Gp) {tk : List (List Int)} (h : tk ≠ []) (hn : mRun G tk = none) (r : List (List Int)) : mRun G (tk ++ r) = none := by
  cases tk with
  | nil => exact absurd rfl h
  | cons a t =>
    show (t ++ r).foldl _ (mFirst G a) = _
    have h1 : t.foldl (fun st l => st.bind fun st => mNext G st l) (mFirst G a) = none := hn
    rw [List.foldl_append, h1]
    exact fold_none G r
structure Play (G : Gp) (tk : List (List Int)) (O : Nat → Nat) (H : Nat → Int) (k : Nat) : Prop where
  hist : Hist G tk O H k
  mod : tk ≠ [] → ∃ st, mRun G tk = some st ∧ Rl G O H k st
theorem Play.nil (G : Gp) : Play G [] (fun _ => 0) (fun _ => 0) 1 := ⟨Hist.nil, fun h => absurd rfl h⟩
theorem memb_all {n : Nat} {O : Nat → Nat} {b : Nat} (h : ∀ e, e < n → O e = b) : memb n O b = (List.range n).map fun e : Nat => (e : Int) := by
  unfold memb
  rw [List.filter_eq_self.2 fun e he => decide_eq_true (h e (List.mem_range.1 he))]
theorem memb_mem {n : Nat} {O : Nat → Nat} {b : Nat} {z : Int} : z ∈ memb n O b ↔ ∃ e : Nat, e < n ∧ O e = b ∧ z = e := by
  unfold memb
  simp only [List.mem_map, List.mem_filter, List.mem_range, decide_eq_true_eq]
  constructor
  · rintro ⟨e, ⟨h1, h2⟩, rfl⟩; exact ⟨e, h1, h2, rfl⟩
  · rintro ⟨e, h1, h2, rfl⟩; exact ⟨e, ⟨h1, h2⟩, rfl⟩
theorem mBlock_eq {G : Gp} {O : Nat → Nat} {H : Nat → Int} {k : Nat} {st : Ms} (hR : Rl G O H k st) {e0 : Nat} (he : e0 < G.n) : mBlock G st.O (st.O.getD e0 0) = memb G.n O (O e0) := by
  unfold mBlock memb
  congr 1
  refine List.filter_congr fun e hE => ?_
  exact decide_eq_decide.2 (hR.o e e0 (List.mem_range.1 hE) he).symm
theorem mHeap_eq {G : Gp} {O : Nat → Nat} {H : Nat → Int} {k : Nat} {st : Ms} (hR : Rl G O H k st) {e0 : Nat} (he : e0 < G.n) : (List.range G.n).countP (fun e => decide (st.H.getD e 0 = st.H.getD e0 0)) = hc G.n H (H e0) := by
  unfold hc
  refine List.countP_congr fun e hE => ?_
  rw [hR.h e (List.mem_range.1 hE), hR.h e0 he]
  simp
  omega
theorem Play.step {G : Gp} {tk : List (List Int)} {O O' : Nat → Nat} {H H' : Nat → Int} {k e0 : Nat} (hr : Sy.right G.n (G.kk : Int) G.st G.es = true) (hP : Play G tk O H k) (he : e0 < G.n) (half : H e0 = 0 ∨ 2 * bc G.n O (O e0) ≤ hc G.n H (H e0))
    (sp : Split G.n (By (outG G) (fun t => O t = O e0) fun t => H t = H e0 ∧ ¬ O t = O e0) O O') (hp : ∀ e, e < G.n → H' e = if O e = O e0 then (k : Int) else H e) : Play G (tk ++ [memb G.n O (O e0)]) O' H' (k + 1) := by
  have hi := hP.hist.inv
  refine ⟨Hist.step e0 hP.hist he half sp hp, fun _ => ?_⟩
  by_cases ht : tk = []
  · subst ht
    have hk : k = 1 := hi.len
    subst hk
    have h0 := hi.first rfl
    refine ⟨_, ?_, first_rl hr he h0 sp hp⟩
    show mFirst G _ = _
    unfold mFirst
    rw [if_pos ⟨by omega, memb_all fun e hE => (h0 e hE).1.trans (h0 e0 he).1.symm⟩]
  · obtain ⟨st, h1, hR⟩ := hP.mod ht
    refine ⟨_, ?_, next_rl hr he hR (hP.hist.even hr ht) sp hp⟩
    rw [mRun_snoc G ht, h1]
    show mNext G st _ = _
    have hm : ((e0 : Nat) : Int) ∈ memb G.n O (O e0) := memb_mem.2 ⟨e0, he, rfl, rfl⟩
    have hb := mBlock_eq hR he
    have hh := mHeap_eq hR he
    have hH0 : H e0 ≠ 0 := by rw [hR.h e0 he]; omega
    have h2 := half.resolve_left hH0
    have hl : (memb G.n O (O e0)).length = bc G.n O (O e0) := by unfold memb bc; rw [List.length_map, List.countP_eq_length_filter]
    obtain ⟨z, r, hz⟩ : ∃ z r, memb G.n O (O e0) = z :: r := by
      cases hq : memb G.n O (O e0) with
      | nil => rw [hq] at hm; simp at hm
      | cons z r => exact ⟨z, r, rfl⟩
    obtain ⟨e1, a1, a2, rfl⟩ := memb_mem.1 (show z ∈ memb G.n O (O e0) by rw [hz]; exact List.mem_cons_self)
    have g1 : st.O.getD e1 0 = st.O.getD e0 0 := (hR.o e1 e0 a1 he).1 a2
    have g2 : st.H.getD e1 0 = st.H.getD e0 0 := by
      have h3 := hi.fn e1 e0 a1 he a2
      rw [hR.h e1 a1, hR.h e0 he] at h3
      omega
    rw [hz]
    show mGo G st (st.O.getD ((e1 : Nat) : Int).toNat 0) (st.H.getD ((e1 : Nat) : Int).toNat 0) (((e1 : Nat) : Int) :: r) ((e1 : Nat) : Int) = _
    rw [Int.toNat_natCast, g1, g2, ← hz]
    unfold mGo
    rw [if_pos ⟨⟨by omega, by omega⟩, hb.symm, by rw [hh, hl]; exact h2⟩]
theorem Play.stop {G : Gp} {tk : List (List Int)} {O : Nat → Nat} {H : Nat → Int} {k : Nat} {l : List Int} (hP : Play G tk O H k) (hno : ∀ e0, e0 < G.n → l = memb G.n O (O e0) → ¬ (H e0 = 0 ∨ 2 * bc G.n O (O e0) ≤ hc G.n H (H e0))) : mRun G (tk ++ [l]) = none := by
  have hi := hP.hist.inv
  by_cases ht : tk = []
  · subst ht
    show mFirst G l = none
    unfold mFirst
    rw [if_neg]
    rintro ⟨h0, h1⟩
    have h2 := hi.first rfl
    refine hno 0 h0 ?_ (.inl (h2 0 h0).2)
    rw [h1, memb_all fun e hE => (h2 e hE).1.trans (h2 0 h0).1.symm]
  · obtain ⟨st, h1, hR⟩ := hP.mod ht
    rw [mRun_snoc G ht, h1]
    show mNext G st l = none
    cases l with
    | nil => rfl
    | cons z r =>
      show mGo G st (st.O.getD z.toNat 0) (st.H.getD z.toNat 0) (z :: r) z = none
      unfold mGo
      rw [if_neg]
      rintro ⟨⟨hz0, hz1⟩, h2, h3⟩
      obtain ⟨e0, rfl⟩ : ∃ e0 : Nat, z = e0 := ⟨z.toNat, by omega⟩
      have he : e0 < G.n := by omega
      rw [Int.toNat_natCast] at h2 h3
      rw [mBlock_eq hR he] at h2
      rw [mHeap_eq hR he] at h3
      refine hno e0 he h2 (.inr ?_)
      have hl : (memb G.n O (O e0)).length = bc G.n O (O e0) := by unfold memb bc; rw [List.length_map, List.countP_eq_length_filter]
      rw [← hl, ← h2]
      exact h3
theorem blocks_dd {s : Pst} (hO : s.Ok) : (dd ((List.range s.n).map s.O)).length = s.nb := by
  refine Nat.le_antisymm ?_ ?_
  · have h1 := nodup_sub (dd ((List.range s.n).map s.O)) (List.range s.nb) (dd_nodup _) fun a ha => by
      obtain ⟨e, he, rfl⟩ := List.mem_map.1 ((mem_dd _).1 ha)
      exact List.mem_range.2 (hO.o e (List.mem_range.1 he)).1
    rw [List.length_range] at h1
    exact h1
  · have h1 := nodup_sub (List.range s.nb) (dd ((List.range s.n).map s.O)) List.nodup_range fun a ha => by
      obtain ⟨e, he, hb⟩ := block_state hO (List.mem_range.1 ha)
      exact (mem_dd _).2 (List.mem_map.2 ⟨e, List.mem_range.2 he, hb⟩)
    rw [List.length_range] at h1
    exact h1
theorem rl_dd {G : Gp} {O : Nat → Nat} {H : Nat → Int} {k : Nat} {st : Ms} (hR : Rl G O H k st) : (dd st.O).length = (dd ((List.range G.n).map O)).length ∧ num st.O = num ((List.range G.n).map O) := by
  have hl : st.O = (List.range G.n).map fun e => st.O.getD e 0 := by
    apply List.ext_getElem?
    intro i
    rcases Nat.lt_or_ge i G.n with h | h
    · rw [getD_at (by rw [hR.lo]; exact h), List.getElem?_map, List.getElem?_range h]; rfl
    · rw [List.getElem?_eq_none (by rw [hR.lo]; exact h), List.getElem?_eq_none (by simp; exact h)]
  have f1 := finer ((List.range G.n).map fun e => (O e, st.O.getD e 0)) fun p hp q hq e => by
    obtain ⟨a, ha, rfl⟩ := List.mem_map.1 hp
    obtain ⟨b, hb, rfl⟩ := List.mem_map.1 hq
    exact (hR.o a b (List.mem_range.1 ha) (List.mem_range.1 hb)).1 e
  have f2 := finer ((List.range G.n).map fun e => (st.O.getD e 0, O e)) fun p hp q hq e => by
    obtain ⟨a, ha, rfl⟩ := List.mem_map.1 hp
    obtain ⟨b, hb, rfl⟩ := List.mem_map.1 hq
    exact (hR.o a b (List.mem_range.1 ha) (List.mem_range.1 hb)).2 e
  simp only [List.map_map] at f1 f2
  have e1 : ((List.range G.n).map ((fun x : Nat × Nat => x.2) ∘ fun e => (O e, st.O.getD e 0))) = st.O := hl.symm
  have e2 : ((List.range G.n).map ((fun x : Nat × Nat => x.1) ∘ fun e => (O e, st.O.getD e 0))) = (List.range G.n).map O := rfl
  have e3 : ((List.range G.n).map ((fun x : Nat × Nat => x.2) ∘ fun e => (st.O.getD e 0, O e))) = (List.range G.n).map O := rfl
  have e4 : ((List.range G.n).map ((fun x : Nat × Nat => x.1) ∘ fun e => (st.O.getD e 0, O e))) = st.O := hl.symm
  rw [e1, e2] at f1
  rw [e3, e4] at f2
  have h9 : (dd st.O).length = (dd ((List.range G.n).map O)).length := by omega
  exact ⟨h9, (f1.2 h9).symm⟩
theorem Play.fin {G : Gp} {tk : List (List Int)} {s : Pst} {H : Nat → Int} {k : Nat} (hO : s.Ok) (hn : s.n = G.n) (hP : Play G tk s.O H k) : mReplay G tk = if s.nb = k - 1 then some (num ((List.range G.n).map s.O)) else none := by
  have hi := hP.hist.inv
  have hnb := blocks_dd hO
  rw [hn] at hnb
  unfold mReplay
  by_cases h0 : G.n = 0
  · rw [if_pos h0]
    have ht : tk = [] := Classical.byContradiction fun h => by have := hi.one h; omega
    have hk := hi.len
    have h1 := hO.few
    rw [ht] at hk
    rw [if_pos ht, if_pos (by simp at hk; omega), h0]
    rfl
  · rw [if_neg h0]
    by_cases ht : tk = []
    · have hk := hi.len
      rw [ht] at hk
      have h1 : s.nb ≠ k - 1 := by
        have h2 := (hO.o 0 (by omega)).1
        simp at hk
        omega
      rw [if_neg h1, ht]
      rfl
    · obtain ⟨st, h1, hR⟩ := hP.mod ht
      obtain ⟨d1, d2⟩ := rl_dd hR
      rw [h1]
      simp only
      rw [d1, d2, hnb]
      have h2 : (s.nb = st.h) = (s.nb = k - 1) := by rw [hR.k]; simp
      simp only [h2]
theorem mReplay_none {G : Gp} {tk r : List (List Int)} (h : tk ≠ []) (hn : mRun G tk = none) : mReplay G (tk ++ r) = none := by
  unfold mReplay
  split
  · rw [if_neg (by simp [h])]
  · rw [mRun_none G h hn r]
end Sg
end Go.Proofs.YtkiapldehlnndabGreatDoor
/- strong: contract of a run's mayTake. -/
namespace Go.Proofs.YtkiapldehlnndabGreatDoor
open Go.RowKit Go.Maps
attribute [local go_sem ↓] Go.wp_at_zero Go.wp_at_succ
set_option linter.unusedSimpArgs false in
set_option maxRecDepth 100000 in
set_option maxHeartbeats 4000000 in
theorem mayTake_any (B r g p mb : Nat) (x : Rv) (bl o k z : Nat) (v : Value) (bs : List Int) (w : World) (hM : RnM w B r g p mb x) (how : x.ow[bl]? = some (o : Int)) (hsz : x.sz[bl]? = some (z : Int)) (hH : x.H[o]? = some (v, bs)) (hks : x.ks[o]? = some k) (hz : z ≤ 1000) :
    Calls Tryz.prog 22 #[.pointer (some ⟨r, 0, none⟩), .int .i64 bl] w fun e w' => e = .returned (.bool (decide (o = 0 ∨ 2 * z ≤ k))) ∧ Below w.heap.size w w' := by
  obtain ⟨_, _, c2, c3, c4, _, _⟩ := seven_cells hM.box
  have hol := (List.getElem?_eq_some_iff.1 how).1
  have hkk := (List.getElem?_eq_some_iff.1 hks).1
  have hzl := (List.getElem?_eq_some_iff.1 hsz).1
  obtain ⟨go, oo, co, hvo, _, cow, _⟩ := (hM.q.q 0 (x.vo, x.ow) rfl).cell how
  obtain ⟨gz, oz, cz, hvz, _, csz, _⟩ := (hM.q.q 1 (x.vz, x.sz) rfl).cell hsz
  simp only at hvo hvz
  obtain ⟨gh, ch, hvh⟩ := hM.hform (by omega)
  obtain ⟨_, d1, _⟩ := hM.hcell hvh hH hks
  obtain ⟨nz, hnz⟩ : ∃ nz, nz = x.sz.length := ⟨_, rfl⟩
  obtain ⟨no, hno⟩ : ∃ no, no = x.ow.length := ⟨_, rfl⟩
  obtain ⟨nk, hnk⟩ : ∃ nk, nk = x.ks.length := ⟨_, rfl⟩
  rw [hvo, ← hno] at c3
  rw [hvz, ← hnz] at c4
  rw [hvh, ← hnk] at c2
  rw [← hno] at hol
  rw [← hnz] at hzl
  rw [← hnk] at hkk
  have p0 : (0 : Int) ≤ (bl : Int) := by omega
  have p1 : (bl : Int) < (no : Int) := by omega
  have p2 : (bl : Int) < (nz : Int) := by omega
  have p3 : (0 : Int) ≤ (o : Int) := by omega
  have p4 : (o : Int) < (nk : Int) := by omega
  have p5 : IntKind.i64.wrap (2 * (z : Int)) = 2 * (z : Int) := by rw [IntKind.wrap_i64]; omega
  clear hM how hsz hH hks hvo hvz hvh hnz hno hnk
  obtain ⟨d, hd⟩ : ∃ d, d = decide (o = 0 ∨ 2 * z ≤ k) := ⟨_, rfl⟩
  rw [← hd]
  have HD : Hid _ := hd
  clear hd
  go_enter Tryz.func22, Tryz.ntmps22
  go_upto_region 2 with fail
  by_cases ho : o = 0
  · have q0 : ((o : Int) == 0) = true := by rw [ho]; rfl
    have HE : Hid (d = true) := (HD.out.trans (decide_eq_true (.inl ho)) : d = true)
    clear ho
    refine wp_region_held_drew (S := (fun w' => (w'.cell? ⟨r, 2, none⟩ = some (.slice (some ⟨gh, 0, none⟩) nk ch) ∧ w'.cell? ⟨r, 4, none⟩ = some (.slice (some ⟨gz, oz, none⟩) nz cz)) ∧ w'.cell? ⟨gz, oz + bl, none⟩ = some (.int .i64 z) ∧ w'.cell? ⟨gh, o * 2 + 1, none⟩ = some (.int .i64 k))) (by kernel_rfl) ?_ (fun hHeld => ?_)
    · exact ⟨⟨c2, c4⟩, csz, d1⟩
    refine wpAnyH_take (i := 0) (oi := _) (v := ?_) rfl (by kernel_rfl) (by kernel_rfl) (by kernel_rfl) (fun _ _ _ h => h) (Or.inl ⟨by rfl, ?_⟩) (by assumption) ?_; rotate_left; (focus (intro w hSw; (try dsimp only at hSw); go_simp; (try with_reducible rfl))); (try simp only [List.getElem_toArray, List.getElem_cons_succ, List.getElem_cons_zero, Act.put, List.setIfInBounds_toArray, List.set_cons_zero, List.set_cons_succ])
    refine wpAnyH_take (i := 1) (oi := _) (v := ?_) rfl (by kernel_rfl) (by kernel_rfl) (by kernel_rfl) (fun _ _ _ h => h) (Or.inl ⟨by rfl, ?_⟩) (by assumption) ?_; rotate_left; (focus (intro w hSw; (try dsimp only at hSw); go_simp; (try with_reducible rfl))); (try simp only [List.getElem_toArray, List.getElem_cons_succ, List.getElem_cons_zero, Act.put, List.setIfInBounds_toArray, List.set_cons_zero, List.set_cons_succ])
    refine wpAnyH_take (i := 2) (oi := _) (v := ?_) rfl (by kernel_rfl) (by kernel_rfl) (by kernel_rfl) (fun _ _ _ h => h) (Or.inl ⟨by rfl, ?_⟩) (by assumption) ?_; rotate_left; (focus (intro w hSw; (try dsimp only at hSw); go_simp; (try with_reducible rfl))); (try simp only [List.getElem_toArray, List.getElem_cons_succ, List.getElem_cons_zero, Act.put, List.setIfInBounds_toArray, List.set_cons_zero, List.set_cons_succ])
    refine wpAnyH_take (i := 3) (oi := _) (v := undef) rfl (by kernel_rfl) (by kernel_rfl) (by kernel_rfl) (fun _ _ _ h => h) (Or.inr ⟨by rfl, rfl⟩) (by assumption) ?_
    (try simp only [List.getElem_toArray, List.getElem_cons_succ, List.getElem_cons_zero, Act.put, List.setIfInBounds_toArray, List.set_cons_zero, List.set_cons_succ])
    refine wpAnyH_take (i := 4) (oi := _) (v := undef) rfl (by kernel_rfl) (by kernel_rfl) (by kernel_rfl) (fun _ _ _ h => h) (Or.inr ⟨by rfl, rfl⟩) (by assumption) ?_
    (try simp only [List.getElem_toArray, List.getElem_cons_succ, List.getElem_cons_zero, Act.put, List.setIfInBounds_toArray, List.set_cons_zero, List.set_cons_succ])
    refine wpAnyH_take (i := 5) (oi := _) (v := undef) rfl (by kernel_rfl) (by kernel_rfl) (by kernel_rfl) (fun _ _ _ h => h) (Or.inr ⟨by rfl, rfl⟩) (by assumption) ?_
    (try simp only [List.getElem_toArray, List.getElem_cons_succ, List.getElem_cons_zero, Act.put, List.setIfInBounds_toArray, List.set_cons_zero, List.set_cons_succ])
    refine wpAnyH_take (i := 6) (oi := _) (v := undef) rfl (by kernel_rfl) (by kernel_rfl) (by kernel_rfl) (fun _ _ _ h => h) (Or.inr ⟨by rfl, rfl⟩) (by assumption) ?_
    (try simp only [List.getElem_toArray, List.getElem_cons_succ, List.getElem_cons_zero, Act.put, List.setIfInBounds_toArray, List.set_cons_zero, List.set_cons_succ])
    refine wpAnyH_take (i := 7) (oi := _) (v := undef) rfl (by kernel_rfl) (by kernel_rfl) (by kernel_rfl) (fun _ _ _ h => h) (Or.inr ⟨by rfl, rfl⟩) (by assumption) ?_
    (try simp only [List.getElem_toArray, List.getElem_cons_succ, List.getElem_cons_zero, Act.put, List.setIfInBounds_toArray, List.set_cons_zero, List.set_cons_succ])
    refine wpAnyH_take (i := 8) (oi := _) (v := undef) rfl (by kernel_rfl) (by kernel_rfl) (by kernel_rfl) (fun _ _ _ h => h) (Or.inr ⟨by rfl, rfl⟩) (by assumption) ?_
    (try simp only [List.getElem_toArray, List.getElem_cons_succ, List.getElem_cons_zero, Act.put, List.setIfInBounds_toArray, List.set_cons_zero, List.set_cons_succ])
    refine wpAnyH_take (i := 9) (oi := _) (v := undef) rfl (by kernel_rfl) (by kernel_rfl) (by kernel_rfl) (fun _ _ _ h => h) (Or.inr ⟨by rfl, rfl⟩) (by assumption) ?_
    (try simp only [List.getElem_toArray, List.getElem_cons_succ, List.getElem_cons_zero, Act.put, List.setIfInBounds_toArray, List.set_cons_zero, List.set_cons_succ])
    refine wpAnyH_take (i := 10) (oi := _) (v := undef) rfl (by kernel_rfl) (by kernel_rfl) (by kernel_rfl) (fun _ _ _ h => h) (Or.inr ⟨by rfl, rfl⟩) (by assumption) ?_
    (try simp only [List.getElem_toArray, List.getElem_cons_succ, List.getElem_cons_zero, Act.put, List.setIfInBounds_toArray, List.set_cons_zero, List.set_cons_succ])
    refine wpAnyH_take (i := 11) (oi := _) (v := undef) rfl (by kernel_rfl) (by kernel_rfl) (by kernel_rfl) (fun _ _ _ h => h) (Or.inr ⟨by rfl, rfl⟩) (by assumption) ?_
    (try simp only [List.getElem_toArray, List.getElem_cons_succ, List.getElem_cons_zero, Act.put, List.setIfInBounds_toArray, List.set_cons_zero, List.set_cons_succ])
    refine wpAnyH_take (i := 12) (oi := _) (v := undef) rfl (by kernel_rfl) (by kernel_rfl) (by kernel_rfl) (fun _ _ _ h => h) (Or.inr ⟨by rfl, rfl⟩) (by assumption) ?_
    (try simp only [List.getElem_toArray, List.getElem_cons_succ, List.getElem_cons_zero, Act.put, List.setIfInBounds_toArray, List.set_cons_zero, List.set_cons_succ])
    refine wpAnyH_take (i := 13) (oi := _) (v := undef) rfl (by kernel_rfl) (by kernel_rfl) (by kernel_rfl) (fun _ _ _ h => h) (Or.inr ⟨by rfl, rfl⟩) (by assumption) ?_
    (try simp only [List.getElem_toArray, List.getElem_cons_succ, List.getElem_cons_zero, Act.put, List.setIfInBounds_toArray, List.set_cons_zero, List.set_cons_succ])
    refine wpAnyH_take (i := 14) (oi := _) (v := undef) rfl (by kernel_rfl) (by kernel_rfl) (by kernel_rfl) (fun _ _ _ h => h) (Or.inr ⟨by rfl, rfl⟩) (by assumption) ?_
    (try simp only [List.getElem_toArray, List.getElem_cons_succ, List.getElem_cons_zero, Act.put, List.setIfInBounds_toArray, List.set_cons_zero, List.set_cons_succ])
    refine wpAnyH_take (i := 15) (oi := _) (v := undef) rfl (by kernel_rfl) (by kernel_rfl) (by kernel_rfl) (fun _ _ _ h => h) (Or.inr ⟨by rfl, rfl⟩) (by assumption) ?_
    (try simp only [List.getElem_toArray, List.getElem_cons_succ, List.getElem_cons_zero, Act.put, List.setIfInBounds_toArray, List.set_cons_zero, List.set_cons_succ])
    refine wpAnyH_take (i := 16) (oi := _) (v := undef) rfl (by kernel_rfl) (by kernel_rfl) (by kernel_rfl) (fun _ _ _ h => h) (Or.inr ⟨by rfl, rfl⟩) (by assumption) ?_
    (try simp only [List.getElem_toArray, List.getElem_cons_succ, List.getElem_cons_zero, Act.put, List.setIfInBounds_toArray, List.set_cons_zero, List.set_cons_succ])
    refine wpAnyH_take (i := 17) (oi := _) (v := undef) rfl (by kernel_rfl) (by kernel_rfl) (by kernel_rfl) (fun _ _ _ h => h) (Or.inr ⟨by rfl, rfl⟩) (by assumption) ?_
    (try simp only [List.getElem_toArray, List.getElem_cons_succ, List.getElem_cons_zero, Act.put, List.setIfInBounds_toArray, List.set_cons_zero, List.set_cons_succ])
    refine wpAnyH_take (i := 18) (oi := _) (v := undef) rfl (by kernel_rfl) (by kernel_rfl) (by kernel_rfl) (fun _ _ _ h => h) (Or.inr ⟨by rfl, rfl⟩) (by assumption) ?_
    (try simp only [List.getElem_toArray, List.getElem_cons_succ, List.getElem_cons_zero, Act.put, List.setIfInBounds_toArray, List.set_cons_zero, List.set_cons_succ])
    refine wpAnyH_take (i := 19) (oi := _) (v := undef) rfl (by kernel_rfl) (by kernel_rfl) (by kernel_rfl) (fun _ _ _ h => h) (Or.inr ⟨by rfl, rfl⟩) (by assumption) ?_
    (try simp only [List.getElem_toArray, List.getElem_cons_succ, List.getElem_cons_zero, Act.put, List.setIfInBounds_toArray, List.set_cons_zero, List.set_cons_succ])
    refine wpAnyH_take (i := 20) (oi := _) (v := ?_) rfl (by kernel_rfl) (by kernel_rfl) (by kernel_rfl) (fun _ _ _ h => h) (Or.inl ⟨by rfl, ?_⟩) (by assumption) ?_; rotate_left; (focus (intro w hSw; (try dsimp only at hSw); go_simp; (try with_reducible rfl))); (try simp only [List.getElem_toArray, List.getElem_cons_succ, List.getElem_cons_zero, Act.put, List.setIfInBounds_toArray, List.set_cons_zero, List.set_cons_succ])
    refine wpAnyH_take (i := 21) (oi := _) (v := ?_) rfl (by kernel_rfl) (by kernel_rfl) (by kernel_rfl) (fun _ _ _ h => h) (Or.inl ⟨by rfl, ?_⟩) (by assumption) ?_; rotate_left; (focus (intro w hSw; (try dsimp only at hSw); go_simp; (try with_reducible rfl))); (try simp only [List.getElem_toArray, List.getElem_cons_succ, List.getElem_cons_zero, Act.put, List.setIfInBounds_toArray, List.set_cons_zero, List.set_cons_succ])
    refine wpAnyH_done (by kernel_rfl) ?_ _
    (try go_simp)
    clear hHeld
    go_wp2_with fail
    go_ret
    exact ⟨by rw [HE.out]; (try rfl), (Below.refl _ _).drew⟩
  · have q0 : ((o : Int) == 0) = false := by simp; exact ho
    obtain ⟨bb, hbb⟩ : ∃ bb, bb = decide (2 * (z : Int) ≤ (k : Int)) := ⟨_, rfl⟩
    have HE : Hid (d = bb) := (by rw [HD.out, hbb]; exact decide_eq_decide.2 ⟨fun h => by omega, fun h => .inr (by omega)⟩ : d = bb)
    have q1 := hbb.symm
    clear ho hbb
    refine wp_region_held_drew (S := (fun w' => (w'.cell? ⟨r, 2, none⟩ = some (.slice (some ⟨gh, 0, none⟩) nk ch) ∧ w'.cell? ⟨r, 4, none⟩ = some (.slice (some ⟨gz, oz, none⟩) nz cz)) ∧ w'.cell? ⟨gz, oz + bl, none⟩ = some (.int .i64 z) ∧ w'.cell? ⟨gh, o * 2 + 1, none⟩ = some (.int .i64 k))) (by kernel_rfl) ?_ (fun hHeld => ?_)
    · exact ⟨⟨c2, c4⟩, csz, d1⟩
    refine wpAnyH_take (i := 0) (oi := _) (v := ?_) rfl (by kernel_rfl) (by kernel_rfl) (by kernel_rfl) (fun _ _ _ h => h) (Or.inl ⟨by rfl, ?_⟩) (by assumption) ?_; rotate_left; (focus (intro w hSw; (try dsimp only at hSw); go_simp; (try with_reducible rfl))); (try simp only [List.getElem_toArray, List.getElem_cons_succ, List.getElem_cons_zero, Act.put, List.setIfInBounds_toArray, List.set_cons_zero, List.set_cons_succ])
    refine wpAnyH_take (i := 1) (oi := _) (v := ?_) rfl (by kernel_rfl) (by kernel_rfl) (by kernel_rfl) (fun _ _ _ h => h) (Or.inl ⟨by rfl, ?_⟩) (by assumption) ?_; rotate_left; (focus (intro w hSw; (try dsimp only at hSw); go_simp; (try with_reducible rfl))); (try simp only [List.getElem_toArray, List.getElem_cons_succ, List.getElem_cons_zero, Act.put, List.setIfInBounds_toArray, List.set_cons_zero, List.set_cons_succ])
    refine wpAnyH_take (i := 2) (oi := _) (v := ?_) rfl (by kernel_rfl) (by kernel_rfl) (by kernel_rfl) (fun _ _ _ h => h) (Or.inl ⟨by rfl, ?_⟩) (by assumption) ?_; rotate_left; (focus (intro w hSw; (try dsimp only at hSw); go_simp; (try with_reducible rfl))); (try simp only [List.getElem_toArray, List.getElem_cons_succ, List.getElem_cons_zero, Act.put, List.setIfInBounds_toArray, List.set_cons_zero, List.set_cons_succ])
    refine wpAnyH_take (i := 3) (oi := _) (v := ?_) rfl (by kernel_rfl) (by kernel_rfl) (by kernel_rfl) (fun _ _ _ h => h) (Or.inl ⟨by rfl, ?_⟩) (by assumption) ?_; rotate_left; (focus (intro w hSw; (try dsimp only at hSw); go_simp; (try with_reducible rfl))); (try simp only [List.getElem_toArray, List.getElem_cons_succ, List.getElem_cons_zero, Act.put, List.setIfInBounds_toArray, List.set_cons_zero, List.set_cons_succ])
    refine wpAnyH_take (i := 4) (oi := _) (v := ?_) rfl (by kernel_rfl) (by kernel_rfl) (by kernel_rfl) (fun _ _ _ h => h) (Or.inl ⟨by rfl, ?_⟩) (by assumption) ?_; rotate_left; (focus (intro w hSw; (try dsimp only at hSw); go_simp; (try with_reducible rfl))); (try simp only [List.getElem_toArray, List.getElem_cons_succ, List.getElem_cons_zero, Act.put, List.setIfInBounds_toArray, List.set_cons_zero, List.set_cons_succ])
    refine wpAnyH_take (i := 5) (oi := _) (v := ?_) rfl (by kernel_rfl) (by kernel_rfl) (by kernel_rfl) (fun _ _ _ h => h) (Or.inl ⟨by rfl, ?_⟩) (by assumption) ?_; rotate_left; (focus (intro w hSw; (try dsimp only at hSw); go_simp; (try with_reducible rfl))); (try simp only [List.getElem_toArray, List.getElem_cons_succ, List.getElem_cons_zero, Act.put, List.setIfInBounds_toArray, List.set_cons_zero, List.set_cons_succ])
    refine wpAnyH_take (i := 6) (oi := _) (v := ?_) rfl (by kernel_rfl) (by kernel_rfl) (by kernel_rfl) (fun _ _ _ h => h) (Or.inl ⟨by rfl, ?_⟩) (by assumption) ?_; rotate_left; (focus (intro w hSw; (try dsimp only at hSw); go_simp; (try with_reducible rfl))); (try simp only [List.getElem_toArray, List.getElem_cons_succ, List.getElem_cons_zero, Act.put, List.setIfInBounds_toArray, List.set_cons_zero, List.set_cons_succ])
    refine wpAnyH_take (i := 7) (oi := _) (v := ?_) rfl (by kernel_rfl) (by kernel_rfl) (by kernel_rfl) (fun _ _ _ h => h) (Or.inl ⟨by rfl, ?_⟩) (by assumption) ?_; rotate_left; (focus (intro w hSw; (try dsimp only at hSw); go_simp; (try with_reducible rfl))); (try simp only [List.getElem_toArray, List.getElem_cons_succ, List.getElem_cons_zero, Act.put, List.setIfInBounds_toArray, List.set_cons_zero, List.set_cons_succ])
    refine wpAnyH_take (i := 8) (oi := _) (v := ?_) rfl (by kernel_rfl) (by kernel_rfl) (by kernel_rfl) (fun _ _ _ h => h) (Or.inl ⟨by rfl, ?_⟩) (by assumption) ?_; rotate_left; (focus (intro w hSw; (try dsimp only at hSw); go_simp; (try with_reducible rfl))); (try simp only [List.getElem_toArray, List.getElem_cons_succ, List.getElem_cons_zero, Act.put, List.setIfInBounds_toArray, List.set_cons_zero, List.set_cons_succ])
    refine wpAnyH_take (i := 9) (oi := _) (v := ?_) rfl (by kernel_rfl) (by kernel_rfl) (by kernel_rfl) (fun _ _ _ h => h) (Or.inl ⟨by rfl, ?_⟩) (by assumption) ?_; rotate_left; (focus (intro w hSw; (try dsimp only at hSw); go_simp; (try with_reducible rfl))); (try simp only [List.getElem_toArray, List.getElem_cons_succ, List.getElem_cons_zero, Act.put, List.setIfInBounds_toArray, List.set_cons_zero, List.set_cons_succ])
    refine wpAnyH_take (i := 10) (oi := _) (v := ?_) rfl (by kernel_rfl) (by kernel_rfl) (by kernel_rfl) (fun _ _ _ h => h) (Or.inl ⟨by rfl, ?_⟩) (by assumption) ?_; rotate_left; (focus (intro w hSw; (try dsimp only at hSw); go_simp; (try with_reducible rfl))); (try simp only [List.getElem_toArray, List.getElem_cons_succ, List.getElem_cons_zero, Act.put, List.setIfInBounds_toArray, List.set_cons_zero, List.set_cons_succ])
    refine wpAnyH_take (i := 11) (oi := _) (v := ?_) rfl (by kernel_rfl) (by kernel_rfl) (by kernel_rfl) (fun _ _ _ h => h) (Or.inl ⟨by rfl, ?_⟩) (by assumption) ?_; rotate_left; (focus (intro w hSw; (try dsimp only at hSw); go_simp; (try with_reducible rfl))); (try simp only [List.getElem_toArray, List.getElem_cons_succ, List.getElem_cons_zero, Act.put, List.setIfInBounds_toArray, List.set_cons_zero, List.set_cons_succ])
    refine wpAnyH_take (i := 12) (oi := _) (v := ?_) rfl (by kernel_rfl) (by kernel_rfl) (by kernel_rfl) (fun _ _ _ h => h) (Or.inl ⟨by rfl, ?_⟩) (by assumption) ?_; rotate_left; (focus (intro w hSw; (try dsimp only at hSw); go_simp; (try with_reducible rfl))); (try simp only [List.getElem_toArray, List.getElem_cons_succ, List.getElem_cons_zero, Act.put, List.setIfInBounds_toArray, List.set_cons_zero, List.set_cons_succ])
    refine wpAnyH_take (i := 13) (oi := _) (v := ?_) rfl (by kernel_rfl) (by kernel_rfl) (by kernel_rfl) (fun _ _ _ h => h) (Or.inl ⟨by rfl, ?_⟩) (by assumption) ?_; rotate_left; (focus (intro w hSw; (try dsimp only at hSw); go_simp; (try with_reducible rfl))); (try simp only [List.getElem_toArray, List.getElem_cons_succ, List.getElem_cons_zero, Act.put, List.setIfInBounds_toArray, List.set_cons_zero, List.set_cons_succ])
    refine wpAnyH_take (i := 14) (oi := _) (v := ?_) rfl (by kernel_rfl) (by kernel_rfl) (by kernel_rfl) (fun _ _ _ h => h) (Or.inl ⟨by rfl, ?_⟩) (by assumption) ?_; rotate_left; (focus (intro w hSw; (try dsimp only at hSw); go_simp; (try with_reducible rfl))); (try simp only [List.getElem_toArray, List.getElem_cons_succ, List.getElem_cons_zero, Act.put, List.setIfInBounds_toArray, List.set_cons_zero, List.set_cons_succ])
    refine wpAnyH_take (i := 15) (oi := _) (v := ?_) rfl (by kernel_rfl) (by kernel_rfl) (by kernel_rfl) (fun _ _ _ h => h) (Or.inl ⟨by rfl, ?_⟩) (by assumption) ?_; rotate_left; (focus (intro w hSw; (try dsimp only at hSw); go_simp; (try with_reducible rfl))); (try simp only [List.getElem_toArray, List.getElem_cons_succ, List.getElem_cons_zero, Act.put, List.setIfInBounds_toArray, List.set_cons_zero, List.set_cons_succ])
    refine wpAnyH_take (i := 16) (oi := _) (v := ?_) rfl (by kernel_rfl) (by kernel_rfl) (by kernel_rfl) (fun _ _ _ h => h) (Or.inl ⟨by rfl, ?_⟩) (by assumption) ?_; rotate_left; (focus (intro w hSw; (try dsimp only at hSw); go_simp; (try with_reducible rfl))); (try simp only [List.getElem_toArray, List.getElem_cons_succ, List.getElem_cons_zero, Act.put, List.setIfInBounds_toArray, List.set_cons_zero, List.set_cons_succ])
    refine wpAnyH_take (i := 17) (oi := _) (v := ?_) rfl (by kernel_rfl) (by kernel_rfl) (by kernel_rfl) (fun _ _ _ h => h) (Or.inl ⟨by rfl, ?_⟩) (by assumption) ?_; rotate_left; (focus (intro w hSw; (try dsimp only at hSw); go_simp; (try with_reducible rfl))); (try simp only [List.getElem_toArray, List.getElem_cons_succ, List.getElem_cons_zero, Act.put, List.setIfInBounds_toArray, List.set_cons_zero, List.set_cons_succ])
    refine wpAnyH_take (i := 18) (oi := _) (v := ?_) rfl (by kernel_rfl) (by kernel_rfl) (by kernel_rfl) (fun _ _ _ h => h) (Or.inl ⟨by rfl, ?_⟩) (by assumption) ?_; rotate_left; (focus (intro w hSw; (try dsimp only at hSw); go_simp; (try with_reducible rfl))); (try simp only [List.getElem_toArray, List.getElem_cons_succ, List.getElem_cons_zero, Act.put, List.setIfInBounds_toArray, List.set_cons_zero, List.set_cons_succ])
    refine wpAnyH_take (i := 19) (oi := _) (v := ?_) rfl (by kernel_rfl) (by kernel_rfl) (by kernel_rfl) (fun _ _ _ h => h) (Or.inl ⟨by rfl, ?_⟩) (by assumption) ?_; rotate_left; (focus (intro w hSw; (try dsimp only at hSw); go_simp; (try with_reducible rfl))); (try simp only [List.getElem_toArray, List.getElem_cons_succ, List.getElem_cons_zero, Act.put, List.setIfInBounds_toArray, List.set_cons_zero, List.set_cons_succ])
    refine wpAnyH_take (i := 20) (oi := _) (v := ?_) rfl (by kernel_rfl) (by kernel_rfl) (by kernel_rfl) (fun _ _ _ h => h) (Or.inl ⟨by rfl, ?_⟩) (by assumption) ?_; rotate_left; (focus (intro w hSw; (try dsimp only at hSw); go_simp; (try with_reducible rfl))); (try simp only [List.getElem_toArray, List.getElem_cons_succ, List.getElem_cons_zero, Act.put, List.setIfInBounds_toArray, List.set_cons_zero, List.set_cons_succ])
    refine wpAnyH_take (i := 21) (oi := _) (v := ?_) rfl (by kernel_rfl) (by kernel_rfl) (by kernel_rfl) (fun _ _ _ h => h) (Or.inl ⟨by rfl, ?_⟩) (by assumption) ?_; rotate_left; (focus (intro w hSw; (try dsimp only at hSw); go_simp; (try with_reducible rfl))); (try simp only [List.getElem_toArray, List.getElem_cons_succ, List.getElem_cons_zero, Act.put, List.setIfInBounds_toArray, List.set_cons_zero, List.set_cons_succ])
    refine wpAnyH_done (by kernel_rfl) ?_ _
    (try go_simp)
    clear hHeld
    go_wp2_with fail
    go_ret
    exact ⟨by rw [HE.out]; (try rfl), (Below.refl _ _).drew⟩
end Go.Proofs.YtkiapldehlnndabGreatDoor
/- strong: contracts of a run's find and isDone. -/
namespace Go.Proofs.YtkiapldehlnndabGreatDoor
open Go.RowKit Go.Maps
attribute [local go_sem ↓] Go.wp_at_zero Go.wp_at_succ
theorem fcell {w w' : World} {a : Addr} {x : Value} (h : w.cell? a = some x) (hb : Below w.heap.size w w') : w'.cell? a = some x := (hb.cell (World.block_lt_of_cell? w _ h)).trans h
theorem mem_pos {s : Pst} (hO : s.Ok) {b : Nat} (hb : b < s.nb) : 0 < (s.mem b).length := by
  rw [mem_len hO hb]
  have := hO.iv b hb
  omega
set_option maxRecDepth 100000 in
set_option maxHeartbeats 1000000 in
theorem slEqual_len (va vb : Value) (za zb : List Int) (w : World) (hm : zb.length ≤ 1000000000000000) (hA : HasI w va za) (hB : HasI w vb zb) :
    Calls Tryz.prog 32 #[va, vb] w fun e w' => e = .returned (.bool (za == zb)) ∧ Below w.heap.size w w' := by
  by_cases hlen : za.length = zb.length
  · exact slEqual_any va vb za zb w (by omega) hm hA hB
  · obtain ⟨ao, cap, rfl, hcA⟩ := hA
    obtain ⟨ao', cap', rfl, hcB⟩ := hB
    have q : ((za.length : Int) != (zb.length : Int)) = true := by rw [bne_iff_ne]; omega
    have HF : Hid ((za == zb) = false) := (by rw [beq_eq_false_iff_ne]; rintro rfl; exact hlen rfl : (za == zb) = false)
    clear hcA hcB hlen
    go_enter Tryz.func32, Tryz.ntmps32
    go_wp2
    go_ret
    exact ⟨by rw [HF.out]; rfl, Below.refl _ _⟩
set_option linter.unusedSimpArgs false in
set_option maxRecDepth 100000 in
set_option maxHeartbeats 4000000 in
theorem find_any {w0 w : World} {r g p mb nm : Nat} {G : Gp} {s : Pst} {x : Rv} (hR : RunAt w0 w r g p mb nm G s x) (vs : Value) (zs : List Int) (a1 a3 : Addr) (hE : EnvR w a1 a3) (hv : HasI w vs zs) :
    Calls Tryz.prog 21 #[.pointer (some ⟨r, 0, none⟩), vs] w fun e w' => ∃ (b : Nat) (is : Bool), e = .returned (.tuple #[.int .i64 (b : Int), .bool is]) ∧ Below w.heap.size w w' ∧ (is = true → b < s.nb ∧ zs = s.mem b) ∧ (is = false → ∀ b, b < s.nb → zs ≠ s.mem b) := by
  obtain ⟨c, hP, hL⟩ := hR.c
  have hO := hR.ok
  have hv0 := hv
  obtain ⟨ao, cap, rfl, hc⟩ := hv0
  cases zs with
  | nil =>
    have H : Hid _ := And.intro hR trivial
    clear hR hE hv hc hP hL
    go_enter Tryz.func21, Tryz.ntmps21
    go_wp2
    go_ret2
    refine ⟨0, false, rfl, Below.refl _ _, (fun h => by cases h), fun _ b hb e => ?_⟩
    have h1 := mem_pos hO hb
    rw [← e] at h1
    simp at h1
  | cons z0 rest =>
    obtain ⟨a, rfl, ca⟩ := hc 0 z0 rfl
    have cz : w.cell? a = some (.int .i64 z0) := by simpa [Addr.add] using ca
    clear ca hc
    obtain ⟨N, hN⟩ : ∃ N, N = rest.length := ⟨_, rfl⟩
    have hlen : (z0 :: rest).length = N + 1 := by rw [List.length_cons, hN]
    rw [hlen] at hv ⊢
    clear hN
    have c1 := (seven_cells hR.m.box).2.1
    have p0 : ¬ ((N : Int) + 1 = 0) := by omega
    have p1 : (0 : Int) < (N : Int) + 1 := by omega
    have p2 : 0 < N + 1 := by omega
    by_cases hin : 0 ≤ z0 ∧ z0 < (s.n : Int)
    · obtain ⟨e0, rfl⟩ : ∃ e0 : Nat, z0 = e0 := ⟨z0.toNat, by omega⟩
      have he : e0 < s.n := by omega
      have hBk := fun W (hb : Below w.heap.size w W) => block_ok p c s e0 w0 W (hP.below hb) hL hO.n1 he
      obtain ⟨b, hbe⟩ : ∃ b, b = s.O e0 := ⟨_, rfl⟩
      rw [← hbe] at hBk
      have hb : b < s.nb := by rw [hbe]; exact (hO.o e0 he).1
      have hMm := fun W (hw : Below w.heap.size w W) => rmembers_any w0 w0.heap.size r g p mb x c s b W (hR.m.below hw) (hP.below hw) hL hO hb
      have hml : (s.mem b).length ≤ 1000 := by rw [mem_len hO hb]; have := hO.iv b hb; have := hO.n1; omega
      have H : Hid _ := And.intro hBk (And.intro hMm (And.intro hv (And.intro hml (And.intro hb (And.intro hbe (And.intro he hlen))))))
      clear hR hE hv hP hL hBk hMm hb hml hbe he hin
      go_enter Tryz.func21, Tryz.ntmps21
      go_upto_region 3 with fail
      refine wp_region_held_drew (S := (fun w' => w'.cell? ⟨r, 1, none⟩ = some (.pointer (some ⟨p, 0, none⟩)) ∧ w'.cell? a = some (.int .i64 ((e0 : Nat) : Int)))) (by kernel_rfl) ?_ (fun hHeld => ?_)
      · exact ⟨c1, cz⟩
      refine wpAnyH_take (i := 0) (oi := _) (v := ?_) rfl (by kernel_rfl) (by kernel_rfl) (by kernel_rfl) (fun _ _ _ h => h) (Or.inl ⟨by rfl, ?_⟩) (by assumption) ?_; rotate_left; (focus (intro w hSw; (try dsimp only at hSw); go_simp; (try with_reducible rfl))); (try simp only [List.getElem_toArray, List.getElem_cons_succ, List.getElem_cons_zero, Act.put, List.setIfInBounds_toArray, List.set_cons_zero, List.set_cons_succ])
      refine wpAnyH_take (i := 1) (oi := _) (v := ?_) rfl (by kernel_rfl) (by kernel_rfl) (by kernel_rfl) (fun _ _ _ h => h) (Or.inl ⟨by rfl, ?_⟩) (by assumption) ?_; rotate_left; (focus (intro w hSw; (try dsimp only at hSw); go_simp; (try with_reducible rfl))); (try simp only [List.getElem_toArray, List.getElem_cons_succ, List.getElem_cons_zero, Act.put, List.setIfInBounds_toArray, List.set_cons_zero, List.set_cons_succ])
      refine wpAnyH_take (i := 2) (oi := _) (v := ?_) rfl (by kernel_rfl) (by kernel_rfl) (by kernel_rfl) (fun _ _ _ h => h) (Or.inl ⟨by rfl, ?_⟩) (by assumption) ?_; rotate_left; (focus (intro w hSw; (try dsimp only at hSw); go_simp; (try with_reducible rfl))); (try simp only [List.getElem_toArray, List.getElem_cons_succ, List.getElem_cons_zero, Act.put, List.setIfInBounds_toArray, List.set_cons_zero, List.set_cons_succ])
      refine wpAnyH_take (i := 3) (oi := _) (v := ?_) rfl (by kernel_rfl) (by kernel_rfl) (by kernel_rfl) (fun _ _ _ h => h) (Or.inl ⟨by rfl, ?_⟩) (by assumption) ?_; rotate_left; (focus (intro w hSw; (try dsimp only at hSw); go_simp; (try with_reducible rfl))); (try simp only [List.getElem_toArray, List.getElem_cons_succ, List.getElem_cons_zero, Act.put, List.setIfInBounds_toArray, List.set_cons_zero, List.set_cons_succ])
      refine wpAnyH_take (i := 4) (oi := _) (v := ?_) rfl (by kernel_rfl) (by kernel_rfl) (by kernel_rfl) (fun _ _ _ h => h) (Or.inl ⟨by rfl, ?_⟩) (by assumption) ?_; rotate_left; (focus (intro w hSw; (try dsimp only at hSw); go_simp; (try with_reducible rfl))); (try simp only [List.getElem_toArray, List.getElem_cons_succ, List.getElem_cons_zero, Act.put, List.setIfInBounds_toArray, List.set_cons_zero, List.set_cons_succ])
      refine wpAnyH_take (i := 5) (oi := _) (v := ?_) rfl (by kernel_rfl) (by kernel_rfl) (by kernel_rfl) (fun _ _ _ h => h) (Or.inl ⟨by rfl, ?_⟩) (by assumption) ?_; rotate_left; (focus (intro w hSw; (try dsimp only at hSw); go_simp; (try with_reducible rfl))); (try simp only [List.getElem_toArray, List.getElem_cons_succ, List.getElem_cons_zero, Act.put, List.setIfInBounds_toArray, List.set_cons_zero, List.set_cons_succ])
      refine wpAnyH_take (i := 6) (oi := _) (v := ?_) rfl (by kernel_rfl) (by kernel_rfl) (by kernel_rfl) (fun _ _ _ h => h) (Or.inl ⟨by rfl, ?_⟩) (by assumption) ?_; rotate_left; (focus (intro w hSw; (try dsimp only at hSw); go_simp; (try with_reducible rfl))); (try simp only [List.getElem_toArray, List.getElem_cons_succ, List.getElem_cons_zero, Act.put, List.setIfInBounds_toArray, List.set_cons_zero, List.set_cons_succ])
      refine wpAnyH_ready (rs := [7]) (by kernel_rfl) (by simp) ?_
      refine AllReadyH.cons (o := _) rfl (fun K hK => ?_) ?_
      · (go_simp; go_at_call 40; refine Calls.mono (H.out.1 _ ((Below.refl _ _).drew)) ?_; rintro r4 w4 ⟨rfl, hw4⟩; obtain rfl := hw4.symm; clear hw4)
        (try go_wp2_with fail)
        refine hK.out _ _ ?_ (fun hHeld => ?_)
        · exact hHeld
        clear hK K
        (try simp only [List.getElem_toArray, List.getElem_cons_succ, List.getElem_cons_zero, Act.put, List.setIfInBounds_toArray, List.set_cons_zero, List.set_cons_succ])
        refine wpAnyH_take (i := 8) (oi := _) (v := ?_) rfl (by kernel_rfl) (by kernel_rfl) (by kernel_rfl) (fun _ _ _ h => h) (Or.inl ⟨by rfl, ?_⟩) (by assumption) ?_; rotate_left; (focus (intro w hSw; (try dsimp only at hSw); go_simp; (try with_reducible rfl))); (try simp only [List.getElem_toArray, List.getElem_cons_succ, List.getElem_cons_zero, Act.put, List.setIfInBounds_toArray, List.set_cons_zero, List.set_cons_succ])
        refine wpAnyH_take (i := 9) (oi := _) (v := ?_) rfl (by kernel_rfl) (by kernel_rfl) (by kernel_rfl) (fun _ _ _ h => h) (Or.inl ⟨by rfl, ?_⟩) (by assumption) ?_; rotate_left; (focus (intro w hSw; (try dsimp only at hSw); go_simp; (try with_reducible rfl))); (try simp only [List.getElem_toArray, List.getElem_cons_succ, List.getElem_cons_zero, Act.put, List.setIfInBounds_toArray, List.set_cons_zero, List.set_cons_succ])
        refine wpAnyH_take (i := 10) (oi := _) (v := ?_) rfl (by kernel_rfl) (by kernel_rfl) (by kernel_rfl) (fun _ _ _ h => h) (Or.inl ⟨by rfl, ?_⟩) (by assumption) ?_; rotate_left; (focus (intro w hSw; (try dsimp only at hSw); go_simp; (try with_reducible rfl))); (try simp only [List.getElem_toArray, List.getElem_cons_succ, List.getElem_cons_zero, Act.put, List.setIfInBounds_toArray, List.set_cons_zero, List.set_cons_succ])
        refine wpAnyH_take (i := 11) (oi := _) (v := ?_) rfl (by kernel_rfl) (by kernel_rfl) (by kernel_rfl) (fun _ _ _ h => h) (Or.inl ⟨by rfl, ?_⟩) (by assumption) ?_; rotate_left; (focus (intro w hSw; (try dsimp only at hSw); go_simp; (try with_reducible rfl))); (try simp only [List.getElem_toArray, List.getElem_cons_succ, List.getElem_cons_zero, Act.put, List.setIfInBounds_toArray, List.set_cons_zero, List.set_cons_succ])
        refine wpAnyH_take (i := 12) (oi := _) (v := ?_) rfl (by kernel_rfl) (by kernel_rfl) (by kernel_rfl) (fun _ _ _ h => h) (Or.inl ⟨by rfl, ?_⟩) (by assumption) ?_; rotate_left; (focus (intro w hSw; (try dsimp only at hSw); go_simp; (try with_reducible rfl))); (try simp only [List.getElem_toArray, List.getElem_cons_succ, List.getElem_cons_zero, Act.put, List.setIfInBounds_toArray, List.set_cons_zero, List.set_cons_succ])
        refine wpAnyH_done (by kernel_rfl) ?_ _
        (try go_simp)
        have hbd : Below w.heap.size w w.drew := (Below.refl _ _).drew
        obtain ⟨wq, hwq⟩ : ∃ wq, wq = w.drew := ⟨_, rfl⟩
        rw [← hwq] at hbd ⊢
        clear hwq hHeld
        have hMm := H.out.2.1 wq hbd
        have hMq := fun (u : Value) (W : World) (hu : OwnI W wq.heap.size u (s.mem b)) (hb2 : Below wq.heap.size wq W) => slEqual_len (.slice (some a) (N + 1) cap) u (((e0 : Nat) : Int) :: rest) (s.mem b) W (by have := H.out.2.2.2.1; omega) ((H.out.2.2.1.below hbd).below hb2) hu.has
        have HM : Hid _ := And.intro hMm hMq
        clear hMm hMq
        obtain ⟨eq, heq⟩ : ∃ eq, eq = ((((e0 : Nat) : Int) :: rest) == s.mem b) := ⟨_, rfl⟩
        have HQ : Hid _ := heq
        clear heq
        cases eq with
        | true =>
          go_wp2_with (first
            | (go_at_call 36; refine Calls.mono HM.out.1 ?_; rintro r5 w5 ⟨u, rfl, hu, hb5⟩; have hE5 := HM.out.2 u w5 hu hb5; rw [← HQ.out] at hE5; have H5 : Hid _ := And.intro hb5 hE5; clear hu hb5 hE5)
            | (go_at_call 32; refine Calls.mono H5.out.2 ?_; rintro r6 w6 ⟨rfl, hb6⟩; have H6 : Hid _ := And.intro hb6 trivial; clear hb6))
          go_ret2
          have h7 : Below w.heap.size w w6 := (hbd.trans (H5.out.1.mono hbd.size)).trans (H6.out.1.mono (Nat.le_trans hbd.size H5.out.1.size))
          exact ⟨b, true, rfl, h7, fun _ => ⟨H.out.2.2.2.2.1, eq_of_beq HQ.out.symm⟩, (fun h => by cases h)⟩
        | false =>
          go_wp2_with (first
            | (go_at_call 36; refine Calls.mono HM.out.1 ?_; rintro r5 w5 ⟨u, rfl, hu, hb5⟩; have hE5 := HM.out.2 u w5 hu hb5; rw [← HQ.out] at hE5; have H5 : Hid _ := And.intro hb5 hE5; clear hu hb5 hE5)
            | (go_at_call 32; refine Calls.mono H5.out.2 ?_; rintro r6 w6 ⟨rfl, hb6⟩; have H6 : Hid _ := And.intro hb6 trivial; clear hb6))
          go_ret2
          have h7 : Below w.heap.size w w6 := (hbd.trans (H5.out.1.mono hbd.size)).trans (H6.out.1.mono (Nat.le_trans hbd.size H5.out.1.size))
          refine ⟨0, false, rfl, h7, (fun h => by cases h), fun _ b' hb' e => ?_⟩
          have h1 : ((e0 : Nat) : Int) ∈ s.mem b' := by rw [← e]; exact List.mem_cons_self
          obtain ⟨e1, h2, h3, h4⟩ := mem_mem.1 h1
          have h5 : b' = b := by rw [H.out.2.2.2.2.2.1, ← h3]; congr 1; omega
          rw [h5] at e
          have h6 := HQ.out
          rw [e] at h6
          simp at h6
      exact AllReadyH.nil
    · have hBk := fun W (hb : Below w.heap.size w W) => block_bad p c s z0 a1 a3 w0 W (hP.below hb) hL (hE.below hb) (by omega)
      have H : Hid _ := And.intro hBk (And.intro hlen trivial)
      have HN : Hid (∀ b, b < s.nb → z0 :: rest ≠ s.mem b) := (fun b hb e => hin (by
        have h1 : z0 ∈ s.mem b := by rw [← e]; exact List.mem_cons_self
        obtain ⟨e1, h2, h3, rfl⟩ := mem_mem.1 h1
        omega) : ∀ b, b < s.nb → z0 :: rest ≠ s.mem b)
      clear hR hE hv hP hL hBk hin
      go_enter Tryz.func21, Tryz.ntmps21
      go_upto_region 3 with fail
      refine wp_region_held_drew (S := (fun w' => w'.cell? ⟨r, 1, none⟩ = some (.pointer (some ⟨p, 0, none⟩)) ∧ w'.cell? a = some (.int .i64 z0))) (by kernel_rfl) ?_ (fun hHeld => ?_)
      · exact ⟨c1, cz⟩
      refine wpAnyH_take (i := 0) (oi := _) (v := ?_) rfl (by kernel_rfl) (by kernel_rfl) (by kernel_rfl) (fun _ _ _ h => h) (Or.inl ⟨by rfl, ?_⟩) (by assumption) ?_; rotate_left; (focus (intro w hSw; (try dsimp only at hSw); go_simp; (try with_reducible rfl))); (try simp only [List.getElem_toArray, List.getElem_cons_succ, List.getElem_cons_zero, Act.put, List.setIfInBounds_toArray, List.set_cons_zero, List.set_cons_succ])
      refine wpAnyH_take (i := 1) (oi := _) (v := ?_) rfl (by kernel_rfl) (by kernel_rfl) (by kernel_rfl) (fun _ _ _ h => h) (Or.inl ⟨by rfl, ?_⟩) (by assumption) ?_; rotate_left; (focus (intro w hSw; (try dsimp only at hSw); go_simp; (try with_reducible rfl))); (try simp only [List.getElem_toArray, List.getElem_cons_succ, List.getElem_cons_zero, Act.put, List.setIfInBounds_toArray, List.set_cons_zero, List.set_cons_succ])
      refine wpAnyH_take (i := 2) (oi := _) (v := ?_) rfl (by kernel_rfl) (by kernel_rfl) (by kernel_rfl) (fun _ _ _ h => h) (Or.inl ⟨by rfl, ?_⟩) (by assumption) ?_; rotate_left; (focus (intro w hSw; (try dsimp only at hSw); go_simp; (try with_reducible rfl))); (try simp only [List.getElem_toArray, List.getElem_cons_succ, List.getElem_cons_zero, Act.put, List.setIfInBounds_toArray, List.set_cons_zero, List.set_cons_succ])
      refine wpAnyH_take (i := 3) (oi := _) (v := ?_) rfl (by kernel_rfl) (by kernel_rfl) (by kernel_rfl) (fun _ _ _ h => h) (Or.inl ⟨by rfl, ?_⟩) (by assumption) ?_; rotate_left; (focus (intro w hSw; (try dsimp only at hSw); go_simp; (try with_reducible rfl))); (try simp only [List.getElem_toArray, List.getElem_cons_succ, List.getElem_cons_zero, Act.put, List.setIfInBounds_toArray, List.set_cons_zero, List.set_cons_succ])
      refine wpAnyH_take (i := 4) (oi := _) (v := ?_) rfl (by kernel_rfl) (by kernel_rfl) (by kernel_rfl) (fun _ _ _ h => h) (Or.inl ⟨by rfl, ?_⟩) (by assumption) ?_; rotate_left; (focus (intro w hSw; (try dsimp only at hSw); go_simp; (try with_reducible rfl))); (try simp only [List.getElem_toArray, List.getElem_cons_succ, List.getElem_cons_zero, Act.put, List.setIfInBounds_toArray, List.set_cons_zero, List.set_cons_succ])
      refine wpAnyH_take (i := 5) (oi := _) (v := ?_) rfl (by kernel_rfl) (by kernel_rfl) (by kernel_rfl) (fun _ _ _ h => h) (Or.inl ⟨by rfl, ?_⟩) (by assumption) ?_; rotate_left; (focus (intro w hSw; (try dsimp only at hSw); go_simp; (try with_reducible rfl))); (try simp only [List.getElem_toArray, List.getElem_cons_succ, List.getElem_cons_zero, Act.put, List.setIfInBounds_toArray, List.set_cons_zero, List.set_cons_succ])
      refine wpAnyH_take (i := 6) (oi := _) (v := ?_) rfl (by kernel_rfl) (by kernel_rfl) (by kernel_rfl) (fun _ _ _ h => h) (Or.inl ⟨by rfl, ?_⟩) (by assumption) ?_; rotate_left; (focus (intro w hSw; (try dsimp only at hSw); go_simp; (try with_reducible rfl))); (try simp only [List.getElem_toArray, List.getElem_cons_succ, List.getElem_cons_zero, Act.put, List.setIfInBounds_toArray, List.set_cons_zero, List.set_cons_succ])
      refine wpAnyH_ready (rs := [7]) (by kernel_rfl) (by simp) ?_
      refine AllReadyH.cons (o := _) rfl (fun K hK => ?_) ?_
      · (go_simp; go_at_call 40; refine Calls.mono (H.out.1 _ ((Below.refl _ _).drew)) ?_; rintro r4 w4 ⟨xe, rfl, hC4, hb4⟩; obtain ⟨T, ue, rfl⟩ := hC4.iface; have HB : Hid (Below w.heap.size w w4) := ((Below.refl _ _).drew.trans hb4 : Below w.heap.size w w4); clear hC4 hb4)
        (try go_wp2_with fail)
        refine hK.out _ _ ?_ (fun hHeld => ?_)
        · exact ⟨cell_up c1 HB.out, fcell cz HB.out⟩
        clear hK K
        (try simp only [List.getElem_toArray, List.getElem_cons_succ, List.getElem_cons_zero, Act.put, List.setIfInBounds_toArray, List.set_cons_zero, List.set_cons_succ])
        refine wpAnyH_take (i := 8) (oi := _) (v := ?_) rfl (by kernel_rfl) (by kernel_rfl) (by kernel_rfl) (fun _ _ _ h => h) (Or.inl ⟨by rfl, ?_⟩) (by assumption) ?_; rotate_left; (focus (intro w hSw; (try dsimp only at hSw); go_simp; (try with_reducible rfl))); (try simp only [List.getElem_toArray, List.getElem_cons_succ, List.getElem_cons_zero, Act.put, List.setIfInBounds_toArray, List.set_cons_zero, List.set_cons_succ])
        refine wpAnyH_take (i := 9) (oi := _) (v := ?_) rfl (by kernel_rfl) (by kernel_rfl) (by kernel_rfl) (fun _ _ _ h => h) (Or.inl ⟨by rfl, ?_⟩) (by assumption) ?_; rotate_left; (focus (intro w hSw; (try dsimp only at hSw); go_simp; (try with_reducible rfl))); (try simp only [List.getElem_toArray, List.getElem_cons_succ, List.getElem_cons_zero, Act.put, List.setIfInBounds_toArray, List.set_cons_zero, List.set_cons_succ])
        refine wpAnyH_take (i := 10) (oi := _) (v := ?_) rfl (by kernel_rfl) (by kernel_rfl) (by kernel_rfl) (fun _ _ _ h => h) (Or.inl ⟨by rfl, ?_⟩) (by assumption) ?_; rotate_left; (focus (intro w hSw; (try dsimp only at hSw); go_simp; (try with_reducible rfl))); (try simp only [List.getElem_toArray, List.getElem_cons_succ, List.getElem_cons_zero, Act.put, List.setIfInBounds_toArray, List.set_cons_zero, List.set_cons_succ])
        refine wpAnyH_take (i := 11) (oi := _) (v := ?_) rfl (by kernel_rfl) (by kernel_rfl) (by kernel_rfl) (fun _ _ _ h => h) (Or.inl ⟨by rfl, ?_⟩) (by assumption) ?_; rotate_left; (focus (intro w hSw; (try dsimp only at hSw); go_simp; (try with_reducible rfl))); (try simp only [List.getElem_toArray, List.getElem_cons_succ, List.getElem_cons_zero, Act.put, List.setIfInBounds_toArray, List.set_cons_zero, List.set_cons_succ])
        refine wpAnyH_take (i := 12) (oi := _) (v := ?_) rfl (by kernel_rfl) (by kernel_rfl) (by kernel_rfl) (fun _ _ _ h => h) (Or.inl ⟨by rfl, ?_⟩) (by assumption) ?_; rotate_left; (focus (intro w hSw; (try dsimp only at hSw); go_simp; (try with_reducible rfl))); (try simp only [List.getElem_toArray, List.getElem_cons_succ, List.getElem_cons_zero, Act.put, List.setIfInBounds_toArray, List.set_cons_zero, List.set_cons_succ])
        refine wpAnyH_done (by kernel_rfl) ?_ _
        (try go_simp)
        clear hHeld
        go_wp2_with fail
        go_ret2
        exact ⟨0, false, rfl, HB.out, (fun h => by cases h), fun _ => HN.out⟩
      exact AllReadyH.nil
end Go.Proofs.YtkiapldehlnndabGreatDoor
/- strong: contracts of a run's isDone, and of mayTake by what the run says. -/
namespace Go.Proofs.YtkiapldehlnndabGreatDoor
open Go.RowKit Go.Maps
attribute [local go_sem ↓] Go.wp_at_zero Go.wp_at_succ
set_option linter.unusedSimpArgs false in
set_option maxRecDepth 100000 in
set_option maxHeartbeats 4000000 in
theorem isDone_any {w0 w : World} {r g p mb nm : Nat} {G : Gp} {s : Pst} {x : Rv} (hR : RunAt w0 w r g p mb nm G s x) (hk : 0 < x.ks.length) (hkl : x.ks.length ≤ 100000) :
    Calls Tryz.prog 24 #[.pointer (some ⟨r, 0, none⟩)] w fun e w' => e = .returned (.bool (decide (s.nb = x.ks.length - 1))) ∧ Below w.heap.size w w' := by
  obtain ⟨c, hP, hL⟩ := hR.c
  have hBl := fun W (hb : Below w.heap.size w W) => blocks_any p c w0 W (hP.below hb)
  rw [hL.nb] at hBl
  obtain ⟨_, c1, c2, _⟩ := seven_cells hR.m.box
  obtain ⟨gh, ch, hvh⟩ := hR.m.hform hk
  rw [hvh] at c2
  obtain ⟨nk, hnk⟩ : ∃ nk, nk = x.ks.length := ⟨_, rfl⟩
  obtain ⟨nb, hnb⟩ : ∃ nb, nb = s.nb := ⟨_, rfl⟩
  rw [← hnk] at c2 hk hkl ⊢
  rw [← hnb] at hBl ⊢
  obtain ⟨d, hd⟩ : ∃ d, d = decide (nb = nk - 1) := ⟨_, rfl⟩
  rw [← hd]
  have q1 : IntKind.i64.wrap ((nk : Int) - 1) = (nk : Int) - 1 := by rw [IntKind.wrap_i64]; omega
  have q2 : ((nb : Int) == (nk : Int) - 1) = d := by
    rw [hd]
    exact Bool.eq_iff_iff.2 (by simp; omega)
  have H : Hid _ := And.intro hBl trivial
  clear hR hP hL hBl hvh hnk hnb hd
  go_enter Tryz.func24, Tryz.ntmps24
  go_upto_region 1 with fail
  refine wp_region_held_drew (S := (fun w' => w'.cell? ⟨r, 1, none⟩ = some (.pointer (some ⟨p, 0, none⟩)) ∧ w'.cell? ⟨r, 2, none⟩ = some (.slice (some ⟨gh, 0, none⟩) nk ch))) (by kernel_rfl) ?_ (fun hHeld => ?_)
  · exact ⟨c1, c2⟩
  refine wpAnyH_take (i := 0) (oi := _) (v := ?_) rfl (by kernel_rfl) (by kernel_rfl) (by kernel_rfl) (fun _ _ _ h => h) (Or.inl ⟨by rfl, ?_⟩) (by assumption) ?_; rotate_left; (focus (intro w hSw; (try dsimp only at hSw); go_simp; (try with_reducible rfl))); (try simp only [List.getElem_toArray, List.getElem_cons_succ, List.getElem_cons_zero, Act.put, List.setIfInBounds_toArray, List.set_cons_zero, List.set_cons_succ])
  refine wpAnyH_take (i := 1) (oi := _) (v := ?_) rfl (by kernel_rfl) (by kernel_rfl) (by kernel_rfl) (fun _ _ _ h => h) (Or.inl ⟨by rfl, ?_⟩) (by assumption) ?_; rotate_left; (focus (intro w hSw; (try dsimp only at hSw); go_simp; (try with_reducible rfl))); (try simp only [List.getElem_toArray, List.getElem_cons_succ, List.getElem_cons_zero, Act.put, List.setIfInBounds_toArray, List.set_cons_zero, List.set_cons_succ])
  refine wpAnyH_take (i := 2) (oi := _) (v := ?_) rfl (by kernel_rfl) (by kernel_rfl) (by kernel_rfl) (fun _ _ _ h => h) (Or.inl ⟨by rfl, ?_⟩) (by assumption) ?_; rotate_left; (focus (intro w hSw; (try dsimp only at hSw); go_simp; (try with_reducible rfl))); (try simp only [List.getElem_toArray, List.getElem_cons_succ, List.getElem_cons_zero, Act.put, List.setIfInBounds_toArray, List.set_cons_zero, List.set_cons_succ])
  refine wpAnyH_take (i := 3) (oi := _) (v := ?_) rfl (by kernel_rfl) (by kernel_rfl) (by kernel_rfl) (fun _ _ _ h => h) (Or.inl ⟨by rfl, ?_⟩) (by assumption) ?_; rotate_left; (focus (intro w hSw; (try dsimp only at hSw); go_simp; (try with_reducible rfl))); (try simp only [List.getElem_toArray, List.getElem_cons_succ, List.getElem_cons_zero, Act.put, List.setIfInBounds_toArray, List.set_cons_zero, List.set_cons_succ])
  refine wpAnyH_take (i := 5) (oi := _) (v := ?_) rfl (by kernel_rfl) (by kernel_rfl) (by kernel_rfl) (fun _ _ _ h => h) (Or.inl ⟨by rfl, ?_⟩) (by assumption) ?_; rotate_left; (focus (intro w hSw; (try dsimp only at hSw); go_simp; (try with_reducible rfl))); (try simp only [List.getElem_toArray, List.getElem_cons_succ, List.getElem_cons_zero, Act.put, List.setIfInBounds_toArray, List.set_cons_zero, List.set_cons_succ])
  refine wpAnyH_take (i := 6) (oi := _) (v := ?_) rfl (by kernel_rfl) (by kernel_rfl) (by kernel_rfl) (fun _ _ _ h => h) (Or.inl ⟨by rfl, ?_⟩) (by assumption) ?_; rotate_left; (focus (intro w hSw; (try dsimp only at hSw); go_simp; (try with_reducible rfl))); (try simp only [List.getElem_toArray, List.getElem_cons_succ, List.getElem_cons_zero, Act.put, List.setIfInBounds_toArray, List.set_cons_zero, List.set_cons_succ])
  refine wpAnyH_take (i := 7) (oi := _) (v := ?_) rfl (by kernel_rfl) (by kernel_rfl) (by kernel_rfl) (fun _ _ _ h => h) (Or.inl ⟨by rfl, ?_⟩) (by assumption) ?_; rotate_left; (focus (intro w hSw; (try dsimp only at hSw); go_simp; (try with_reducible rfl))); (try simp only [List.getElem_toArray, List.getElem_cons_succ, List.getElem_cons_zero, Act.put, List.setIfInBounds_toArray, List.set_cons_zero, List.set_cons_succ])
  refine wpAnyH_take (i := 8) (oi := _) (v := ?_) rfl (by kernel_rfl) (by kernel_rfl) (by kernel_rfl) (fun _ _ _ h => h) (Or.inl ⟨by rfl, ?_⟩) (by assumption) ?_; rotate_left; (focus (intro w hSw; (try dsimp only at hSw); go_simp; (try with_reducible rfl))); (try simp only [List.getElem_toArray, List.getElem_cons_succ, List.getElem_cons_zero, Act.put, List.setIfInBounds_toArray, List.set_cons_zero, List.set_cons_succ])
  refine wpAnyH_take (i := 9) (oi := _) (v := ?_) rfl (by kernel_rfl) (by kernel_rfl) (by kernel_rfl) (fun _ _ _ h => h) (Or.inl ⟨by rfl, ?_⟩) (by assumption) ?_; rotate_left; (focus (intro w hSw; (try dsimp only at hSw); go_simp; (try with_reducible rfl))); (try simp only [List.getElem_toArray, List.getElem_cons_succ, List.getElem_cons_zero, Act.put, List.setIfInBounds_toArray, List.set_cons_zero, List.set_cons_succ])
  refine wpAnyH_take (i := 10) (oi := _) (v := ?_) rfl (by kernel_rfl) (by kernel_rfl) (by kernel_rfl) (fun _ _ _ h => h) (Or.inl ⟨by rfl, ?_⟩) (by assumption) ?_; rotate_left; (focus (intro w hSw; (try dsimp only at hSw); go_simp; (try with_reducible rfl))); (try simp only [List.getElem_toArray, List.getElem_cons_succ, List.getElem_cons_zero, Act.put, List.setIfInBounds_toArray, List.set_cons_zero, List.set_cons_succ])
  refine wpAnyH_ready (rs := [4]) (by kernel_rfl) (by simp) ?_
  refine AllReadyH.cons (o := _) rfl (fun K hK => ?_) ?_
  · (go_simp; go_at_call 46; refine Calls.mono (H.out.1 _ ((Below.refl _ _).drew)) ?_; rintro r4 w4 ⟨rfl, hw4⟩; obtain rfl := hw4.symm; clear hw4)
    (try go_wp2_with fail)
    refine hK.out _ _ ?_ (fun hHeld => ?_)
    · exact hHeld
    clear hK K
    (try simp only [List.getElem_toArray, List.getElem_cons_succ, List.getElem_cons_zero, Act.put, List.setIfInBounds_toArray, List.set_cons_zero, List.set_cons_succ])
    refine wpAnyH_take (i := 11) (oi := _) (v := ?_) rfl (by kernel_rfl) (by kernel_rfl) (by kernel_rfl) (fun _ _ _ h => h) (Or.inl ⟨by rfl, ?_⟩) (by assumption) ?_; rotate_left; (focus (intro w hSw; (try dsimp only at hSw); go_simp; (try with_reducible rfl))); (try simp only [List.getElem_toArray, List.getElem_cons_succ, List.getElem_cons_zero, Act.put, List.setIfInBounds_toArray, List.set_cons_zero, List.set_cons_succ])
    refine wpAnyH_take (i := 12) (oi := _) (v := ?_) rfl (by kernel_rfl) (by kernel_rfl) (by kernel_rfl) (fun _ _ _ h => h) (Or.inl ⟨by rfl, ?_⟩) (by assumption) ?_; rotate_left; (focus (intro w hSw; (try dsimp only at hSw); go_simp; (try with_reducible rfl))); (try simp only [List.getElem_toArray, List.getElem_cons_succ, List.getElem_cons_zero, Act.put, List.setIfInBounds_toArray, List.set_cons_zero, List.set_cons_succ])
    refine wpAnyH_done (by kernel_rfl) ?_ _
    (try go_simp)
    clear hHeld
    go_wp2_with fail
    go_ret
    exact ⟨rfl, (Below.refl _ _).drew⟩
  exact AllReadyH.nil
theorem may_all {w0 w : World} {r g p mb nm : Nat} {G : Gp} {s : Pst} {x : Rv} (hR : RunAt w0 w r g p mb nm G s x) {bl : Nat} (hb : bl < s.nb) :
    Calls Tryz.prog 22 #[.pointer (some ⟨r, 0, none⟩), .int .i64 (bl : Int)] w fun e w' => ∃ ok : Bool, e = .returned (.bool ok) ∧ Below w.heap.size w w' ∧ ∀ e0, e0 < G.n → s.O e0 = bl → (ok = true ↔ (hOf s x e0 = 0 ∨ 2 * Sg.bc G.n s.O bl ≤ hc G.n (hOf s x) (hOf s x e0))) := by
  obtain ⟨o, k, v, bs, how, hH, hks, _⟩ := hR.i.heap hb
  have hsz := hR.i.szv bl hb
  have hz : (s.mem bl).length ≤ 1000 := by rw [mem_len hR.ok hb]; have := hR.ok.iv bl hb; have := hR.ok.n1; omega
  refine (mayTake_any w0.heap.size r g p mb x bl o k (s.mem bl).length v bs w hR.m how hsz hH hks hz).mono fun e w' ⟨he, hbl⟩ => ⟨_, he, hbl, fun e0 h0 hO => ?_⟩
  have h1 : hOf s x e0 = (o : Int) := by unfold hOf Rv.of; rw [hO, how]; rfl
  rw [decide_eq_true_eq, h1, ← hR.ksv o k hks, ← hR.n, bc_mem]
  omega
end Go.Proofs.YtkiapldehlnndabGreatDoor
/- strong: the steps of Refine in memory: one taking told, the gauge, the next block. -/
namespace Go.Proofs.YtkiapldehlnndabGreatDoor
open Go.RowKit Go.Maps
theorem RunAt.kept {w0 w w' : World} {r g p mb nm : Nat} {G : Gp} {s : Pst} {x : Rv} {F : Nat → Prop} (h : RunAt w0 w r g p mb nm G s x) (hk : Kept F w w') (hF : ∀ b, F b → w0.heap.size ≤ b ∧ b ≠ p ∧ b ≠ r ∧ b ≠ mb ∧ ¬ x.foot b) : RunAt w0 w' r g p mb nm G s x := by
  obtain ⟨c, h1, h2⟩ := h.c
  exact ⟨h.m.kept hk (fun e => (hF r e).2.2.1 rfl) (fun b hb e => (hF b e).2.2.2.2 hb), ⟨c, h1.kept hk fun b hb => ⟨(hF b hb).1, (hF b hb).2.1⟩, h2⟩, h.ok, h.bare, h.n, h.i, h.gr, h.mu, h.cnt.kept hk fun e => (hF mb e).2.2.2.1 rfl, h.ksv⟩
theorem told_far {w0 wS w : World} {r g p mb tb nm : Nat} {G : Gp} {s : Pst} {x : Rv} {vT vG : Value} {gz : List Int} {tk : List (Value × List Int)} (hR : RunAt w0 w r g p mb nm G s x) (hT : Told w wS.heap.size tb vT vG gz tk) (hlo : p < wS.heap.size ∧ r < wS.heap.size ∧ mb < wS.heap.size) (h0 : w0.heap.size ≤ wS.heap.size) : ∀ b, (b = tb ∨ vT.ownBlock = some b) → w0.heap.size ≤ b ∧ b ≠ p ∧ b ≠ r ∧ b ≠ mb ∧ ¬ x.foot b := fun b hb => by
  have hup := hT.up
  rcases hb with rfl | hb
  · exact ⟨by omega, by omega, by omega, by omega, hR.m.foot_ne hT.box (by decide) (by decide)⟩
  · have h1 := (hT.row.lt b hb).1
    obtain ⟨cs, hc⟩ := row_cells hT.row hb
    exact ⟨by omega, by omega, by omega, by omega, hR.m.foot_ne hc (by decide) (by decide)⟩
theorem Told.tell {w4 w7 : World} {B tb n7 c7 K : Nat} {vT vG u : Value} {a7 : Option Addr} {gz ms : List Int} {tk : List (Value × List Int)} {tmp : Obj} (h : Told w4 B tb vT vG gz tk) (hu : OwnI w4 B u ms) (hun : ∀ b, u.ownBlock = some b → ¬ Foot ((vG, gz) :: tk) b) (hK : K = tk.length + 1) (hO : w7.ownsRow B 27 1 (.slice a7 n7 c7) K (tk.map (·.1) ++ [u])) (hg : (w4.alloc tmp).grownBy w7 vT.ownBlock) (hat : (Value.slice a7 n7 c7).ownBlock = vT.ownBlock ∨ (Value.slice a7 n7 c7).ownBlock = some (w4.heap.size + 1)) :
    Told (w7.setCell ⟨tb, 1, none⟩ (.slice a7 n7 c7)) B tb (.slice a7 n7 c7) vG gz (tk ++ [(u, ms)]) ∧ Kept (fun b => b = tb ∨ vT.ownBlock = some b) w4 (w7.setCell ⟨tb, 1, none⟩ (.slice a7 n7 c7)) ∧ OwnI (w7.setCell ⟨tb, 1, none⟩ (.slice a7 n7 c7)) B u ms := by
  subst hK
  have hk7 : Kept (fun b => vT.ownBlock = some b) w4 w7 := grown_alloc hg
  have hk8 : Kept (fun b => b = tb ∨ vT.ownBlock = some b) w4 (w7.setCell ⟨tb, 1, none⟩ (.slice a7 n7 c7)) := (hk7.mono fun _ _ e => .inr e).trans ((Kept.setCell w7 tb 1 _).mono fun _ _ e => .inl e)
  have hint : ∀ {b : Nat} {cs : Array Value}, w4.heap[b]? = some (.cells cs 3 (0, 0)) → ¬ (b = tb ∨ vT.ownBlock = some b) := fun {b cs} hc e => by
    rcases e with e | e
    · have h1 := h.box
      rw [← e, hc] at h1
      injection h1 with h1
      injection h1 with _ h2
      exact absurd h2 (by decide)
    · exact own_bk h.row hc (by decide) e
  have hvT : vT.ownBlock ≠ some tb := fun e => own_bk h.row h.box (by decide) e
  have hL : ((vG, gz) :: (tk ++ [(u, ms)])) = ((vG, gz) :: tk) ++ [(u, ms)] := rfl
  have hq : QueAll w4 B ((vG, gz) :: (tk ++ [(u, ms)])) := by
    rw [hL]
    have hN : ∀ (i : Nat) (z : Value × List Int), (((vG, gz) :: tk) ++ [(u, ms)])[i]? = some z → (i < ((vG, gz) :: tk).length ∧ ((vG, gz) :: tk)[i]? = some z) ∨ (i = ((vG, gz) :: tk).length ∧ z = (u, ms)) := fun i z hz => by
      rcases Nat.lt_or_ge i ((vG, gz) :: tk).length with h1 | h1
      · rw [List.getElem?_append_left h1] at hz; exact .inl ⟨h1, hz⟩
      · rw [List.getElem?_append_right h1] at hz
        have h2 := (List.getElem?_eq_some_iff.1 hz).1
        simp only [List.length_cons, List.length_nil] at h2 h1
        have h3 : i = ((vG, gz) :: tk).length := by simp only [List.length_cons]; omega
        rw [h3, Nat.sub_self] at hz
        exact .inr ⟨h3, (Option.some.inj hz).symm⟩
    refine ⟨fun i z hz => ?_, fun i j z y b hz hy hne hzb hyb => ?_⟩
    · rcases hN i z hz with ⟨_, h1⟩ | ⟨_, rfl⟩
      · exact h.q.q i z h1
      · exact Que.of_own hu
    · rcases hN i z hz with ⟨_, h1⟩ | ⟨e1, rfl⟩
      · rcases hN j y hy with ⟨_, h2⟩ | ⟨_, rfl⟩
        · exact h.q.ap i j z y b h1 h2 hne hzb hyb
        · exact hun b hyb ⟨z, List.mem_of_getElem? h1, hzb⟩
      · rcases hN j y hy with ⟨_, h2⟩ | ⟨e2, rfl⟩
        · exact hun b hzb ⟨y, List.mem_of_getElem? h2, hyb⟩
        · exact hne (e1.trans e2.symm)
  have hv' : (Value.slice a7 n7 c7).ownBlock ≠ some tb := fun e => by
    rcases hat with h1 | h1
    · exact hvT (by rw [← h1]; exact e)
    · rw [h1] at e
      have := t_lt h.box
      injection e with e
      omega
  refine ⟨⟨?_, ?_, hq.kept hk8 fun b hb => ?_, fun z hz => ?_, h.up⟩, hk8, own_up hu hk8 fun b hb => ?_⟩
  · exact box_put ((hk7.block tb (t_lt h.box) hvT).trans h.box) _
  · rw [List.map_append, List.length_append]
    exact own_up hO (Kept.setCell w7 tb 1 _) fun b hb e => hv' (by rw [← e]; exact hb)
  · obtain ⟨cs, hc⟩ := hq.typed hb
    exact hint hc
  · rw [hL] at hz
    rcases List.mem_append.1 hz with h1 | h1
    · exact h.fl z h1
    · rw [List.mem_singleton.1 h1]; exact hu.at0
  · obtain ⟨cs, hc⟩ := row_cells hu hb
    exact hint hc
theorem Told.bump {W : World} {B tb gb n m cap : Nat} {vT : Value} {gz : List Int} {tk : List (Value × List Int)} (h : Told W B tb vT (.slice (some ⟨gb, 0, none⟩) m cap) gz tk) {k : Nat} (hk : k < gz.length) (z : Int) (hn : gb = n) : Told (W.setCell ⟨gb, k, none⟩ (.int .i64 z)) B tb vT (.slice (some ⟨gb, 0, none⟩) m cap) (gz.set k z) tk ∧ Kept (fun b => b = n) W (W.setCell ⟨gb, k, none⟩ (.int .i64 z)) := by
  subst hn
  have hkp := Kept.setCell W gb k (.int .i64 z)
  have hf : Foot ((Value.slice (some ⟨gb, 0, none⟩) m cap, gz) :: tk) gb := ⟨_, List.mem_cons_self, rfl⟩
  obtain ⟨cs, hc⟩ := h.q.typed hf
  refine ⟨⟨(hkp.block tb (t_lt h.box) fun e => ?_).trans h.box, own_up h.row hkp fun b hb e => ?_, ?_, fun y hy => ?_, h.up⟩, hkp⟩
  · have h1 := h.box
    rw [e, hc] at h1
    injection h1 with h1
    injection h1 with _ h2
    exact absurd h2 (by decide)
  · exact own_bk h.row hc (by decide) (by rw [← e]; exact hb)
  · have h1 := h.q.setAt (k := 0) (g := gb) (off := 0) (n := m) (cap := cap) (zs := gz) rfl hk z
    rw [Nat.zero_add] at h1
    exact h1
  · rcases List.mem_cons.1 hy with rfl | hy
    · exact at0_of _ _ _
    · exact h.fl y (List.mem_cons_of_mem _ hy)
theorem next_all {w0 w : World} {r g p mb nm : Nat} {G : Gp} {s : Pst} {x : Rv} (h : RunAt w0 w r g p mb nm G s x) : Calls Tryz.prog 35 #[.pointer (some ⟨r, 0, none⟩)] w fun e w' => ∃ (k : Nat) (u : Value) (b9 : Nat) (is9 : Bool), e = .returned (.tuple #[.int .i64 (b9 : Int), .bool is9]) ∧ NextAt w w' w0.heap.size r g p mb x k u ∧ (is9 = true → MayTake G s x b9) ∧ (is9 = false → AllOne G s x) := by
  refine (next_any w0.heap.size r g p mb x w h.m h.i.wtn (fun hv hh b hb => ?_)).mono fun e w' ⟨k, u, hN, hres⟩ => ?_
  · obtain ⟨o, ho⟩ := List.mem_iff_getElem?.1 hh
    have h1 : (x.H.map (·.2))[o]? = some hv.2 := by rw [List.getElem?_map, ho]; rfl
    obtain ⟨c, e1, e2, _⟩ := (h.i.hs o hv.2 h1 b).1 hb
    exact ⟨c, e1, by rw [h.i.sz]; exact e2⟩
  · rcases hres with ⟨hk, rfl⟩ | ⟨o, a1, b1, v1, bs1, y1, z1, _, hH1, hy1, hz1, rfl⟩
    · exact ⟨k, u, 0, false, rfl, hN, (fun h => by cases h), fun _ => next_no h hN hk⟩
    · exact ⟨k, u, _, true, rfl, hN, fun _ => next_yes h hH1 hy1 hz1, (fun h => by cases h)⟩
theorem RfL.next {w0 wS wr w' : World} {r g p mb tb nm k : Nat} {G : Gp} {s : Pst} {x : Rv} {vT vG u : Value} {tk : List (Value × List Int)} (h : RfL w0 wS wr r g p mb tb nm G s x vT vG tk) (hN : NextAt wr w' w0.heap.size r g p mb x k u) : RfL w0 wS w' r g p mb tb nm G s (x.wait k u) vT vG tk := by
  have hup := h.told.up
  have hl := h.lo
  refine ⟨h.run.next hN, h.told.kept hN.gw.kp (fun e => ?_) (fun b hb e => ?_) (fun b hb e => ?_), fun b hb hb2 => ?_, h.lo, h.hist, h.nmb⟩
  · rcases e with e | e
    · omega
    · exact h.run.m.foot_ne h.told.box (by decide) (by decide) e
  · have h1 := (h.told.row.lt b hb).1
    obtain ⟨cs, hc⟩ := row_cells h.told.row hb
    rcases e with e | e
    · omega
    · exact h.run.m.foot_ne hc (by decide) (by decide) e
  · have h1 := (h.told.q.lt hb).1
    rcases e with e | e
    · omega
    · exact h.far b e hb
  · rcases hN.gw.ft b hb with h1 | h1
    · exact h.far b h1 hb2
    · have := (h.told.q.lt hb2).2
      omega
end Go.Proofs.YtkiapldehlnndabGreatDoor
