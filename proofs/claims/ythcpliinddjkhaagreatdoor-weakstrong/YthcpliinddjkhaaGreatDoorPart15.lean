/- Texts of this claim, joined: SgRef0, SgRef1, SgCls0, SgRef, SgCan, SgClasses, WkTop, BrPart, WkInto. -/
import Derived.Test.YthcpliinddjkhaaGreatDoorPart9
import Derived.Test.YthcpliinddjkhaaGreatDoorPart10
import Derived.Test.YthcpliinddjkhaaGreatDoorSgBeg
import Derived.Test.YthcpliinddjkhaaGreatDoorPart4
import Derived.Test.YthcpliinddjkhaaGreatDoorPart0
import Derived.Maps.AppendAt
import Derived.Laws.ResultCell
import Derived.Test.YthcpliinddjkhaaGreatDoorPart1
import Derived.Test.YthcpliinddjkhaaGreatDoorPart5
import Derived.Test.YthcpliinddjkhaaGreatDoorPart3
import Derived.Lib.SliceRun
import Derived.Lib.Walk
import Derived.Test.YthcpliinddjkhaaGreatDoorPart2
namespace Go.Proofs.YthcpliinddjkhaaGreatDoor
section
open Go.RowKit Go.Maps
structure Told (W : World) (B tb : Nat) (vT vG : Value) (gz : List Int) (tk : List (Value × List Int)) : Prop where
 box : W.heap[tb]? = some (.cells #[.slice none 0 0, vT, vG] 130 (0, 0))
 row : W.ownsRow B 57 1 vT tk.length (tk.map (·.1))
 q : QueAll W B ((vG, gz) :: tk)
 fl : ∀ z ∈ (vG, gz) :: tk, At0 z.1
 up : B <= tb
theorem Told.kept {W W' : World} {B tb : Nat} {vT vG : Value} {gz : List Int} {tk : List (Value × List Int)} {F : Nat -> Prop} (h : Told W B tb vT vG gz tk) (hk : Kept F W W') (h1 : ¬ F tb) (h2 : ∀ b, vT.ownBlock = some b -> ¬ F b) (h3 : ∀ b, Foot ((vG, gz) :: tk) b -> ¬ F b) : Told W' B tb vT vG gz tk :=
 ⟨(hk.block tb (t_lt h.box) h1).trans h.box, own_up h.row hk h2, h.q.kept hk h3, h.fl, h.up⟩
theorem Told.below {W W' : World} {B tb : Nat} {vT vG : Value} {gz : List Int} {tk : List (Value × List Int)} (h : Told W B tb vT vG gz tk) (hb : Below W.heap.size W W') : Told W' B tb vT vG gz tk := h.kept (F := fun _ => False) (Kept.of_below hb) (fun h => h) (fun _ _ h => h) (fun _ _ h => h)
def gOf (n : Nat) (f : Nat -> Int) : List Int := (List.range n).map f
theorem gOf_len (n : Nat) (f : Nat -> Int) : (gOf n f).length = n := by simp [gOf]
theorem gOf_at {n : Nat} {f : Nat -> Int} {e : Nat} (h : e < n) : (gOf n f)[e]? = some (f e) := by unfold gOf; rw [List.getElem?_map, List.getElem?_range h]; rfl
theorem gOf_set (n : Nat) (f : Nat -> Int) (k : Nat) (z : Int) : (gOf n f).set k z = gOf n fun e => if e = k then z else f e := by
 apply List.ext_getElem?
 intro i
 rcases Nat.lt_or_ge i n with h | h
 ·by_cases e : i = k
  ·subst e
   rw [List.getElem?_set_self (by rw [gOf_len]; exact h), gOf_at h, if_pos rfl]
  ·rw [List.getElem?_set_ne (fun e2 => e e2.symm), gOf_at h, gOf_at h, if_neg e]
 ·rw [List.getElem?_eq_none (by rw [List.length_set, gOf_len]; exact h), List.getElem?_eq_none (by rw [gOf_len]; exact h)]
theorem gOf_congr {n : Nat} {f g : Nat -> Int} (h : ∀ e, e < n -> f e = g e) : gOf n f = gOf n g := by
 unfold gOf
 exact List.map_congr_left fun e he => h e (List.mem_range.1 he)
def gz1 (l : List (List Int)) (e : Nat) : Int := ((l.countP fun m => decide ((e : Int) ∈ m) : Nat) : Int)
theorem gz1_snoc (l : List (List Int)) (m : List Int) (hm : m.Nodup) (e : Nat) : gz1 (l ++ [m]) e = gz1 l e + m.count (e : Int) := by
 unfold gz1
 rw [List.countP_append, List.countP_cons, List.countP_nil]
 by_cases h : (e : Int) ∈ m
 ·have h1 := hm.count (a := (e : Int))
  rw [h1, if_pos h]
  simp [h]
 ·rw [List.count_eq_zero.2 h]
  simp [h]
structure RfL (w0 wS wr : World) (r g p mb tb nm : Nat) (G : Gp) (s : Pst) (x : Rv) (vT vG : Value) (tk : List (Value × List Int)) : Prop where
 run : RunAt w0 wr r g p mb nm G s x
 told : Told wr wS.heap.size tb vT vG (gOf G.n (gz1 (tk.map (·.2)))) tk
 far : ∀ b, x.foot b -> ¬ Foot ((vG, gOf G.n (gz1 (tk.map (·.2)))) :: tk) b
 lo : p < wS.heap.size /\ r < wS.heap.size /\ mb < wS.heap.size
 hist : Sg.Hist G (tk.map (·.2)) s.O (hOf s x) x.ks.length
 nmb : nm <= 10000 + x.ks.length * 10000000
def MayTake (G : Gp) (s : Pst) (x : Rv) (bl : Nat) : Prop := bl < s.nb /\ ∃ e0, e0 < G.n /\ s.O e0 = bl /\ (hOf s x e0 = 0 \/ 2 * Sg.bc G.n s.O bl <= hc G.n (hOf s x) (hOf s x e0))
def AllOne (G : Gp) (s : Pst) (x : Rv) : Prop := ∀ a b, a < G.n -> b < G.n -> hOf s x a = hOf s x b -> s.O a = s.O b
theorem tfoot_ty {W : World} {B tb : Nat} {vT vG : Value} {gz : List Int} {tk : List (Value × List Int)} (h : Told W B tb vT vG gz tk) {b : Nat} (hb : Foot ((vG, gz) :: tk) b) : ∃ cs, W.heap[b]? = some (.cells cs 3 (0, 0)) := h.q.typed hb
theorem memb_eq (s : Pst) (b : Nat) : s.mem b = Sg.memb s.n s.O b := rfl
theorem bc_mem (s : Pst) (b : Nat) : Sg.bc s.n s.O b = (s.mem b).length := by rw [mem_count]; rfl
theorem RfL.take {w0 wS wr w' : World} {r g p mb tb nm nm' bl : Nat} {G : Gp} {s s' : Pst} {x x' : Rv} {vT vG : Value} {tk : List (Value × List Int)} {u : Value} (hR : RunAt w0 wr r g p mb nm G s x) (hT : Told wr wS.heap.size tb vT vG (gOf G.n (gz1 ((tk ++ [(u, s.mem bl)]).map (·.2)))) (tk ++ [(u, s.mem bl)])) (hf : ∀ b, x.foot b -> ¬ Foot ((vG, gOf G.n (gz1 ((tk ++ [(u, s.mem bl)]).map (·.2)))) :: (tk ++ [(u, s.mem bl)])) b) (hlo : p < wS.heap.size /\ r < wS.heap.size /\ mb < wS.heap.size) (hH : Sg.Hist G (tk.map (·.2)) s.O (hOf s x) x.ks.length) (hnm : nm <= 10000 + x.ks.length * 10000000) (hm : MayTake G s x bl)
 (hR' : RunAt w0 w' r g p mb nm' G s' x') (hA : TakeAt wr w' r p mb nm nm' G s s' x x' bl) : RfL w0 wS w' r g p mb tb nm' G s' x' vT vG (tk ++ [(u, s.mem bl)]) := by
 obtain ⟨_, e0, he, hO, half⟩ := hm
 have hn := hR.n
 obtain ⟨c, hP, _⟩ := hR.c
 have hup := hT.up
 have hint : ∀ b, Foot ((vG, gOf G.n (gz1 ((tk ++ [(u, s.mem bl)]).map (·.2)))) :: (tk ++ [(u, s.mem bl)])) b -> ¬ (b = p \/ b = r \/ b = mb \/ x.foot b) := fun b hb e => by
  obtain ⟨cs, hc⟩ := tfoot_ty hT hb
  have hlt := (hT.q.lt hb).1
  rcases e with e | e | e | e
  ·omega
  ·omega
  ·omega
  ·exact hf b e hb
 refine ⟨hR', hT.kept hA.kp (fun e => ?_) (fun b hb e => ?_) hint, fun b hb hb2 => ?_, hlo, ?_, ?_⟩
 ·rcases e with e | e | e | e
  ·omega
  ·omega
  ·omega
  ·exact hR.m.foot_ne hT.box (by decide) (by decide) e
 ·have h1 := (hT.row.lt b hb).1
  obtain ⟨cs, hc⟩ := row_cells hT.row hb
  rcases e with e | e | e | e
  ·omega
  ·omega
  ·omega
  ·exact hR.m.foot_ne hc (by decide) (by decide) e
 ·rcases hA.ft b hb with h1 | h1
  ·exact hf b h1 hb2
  ·have := (hT.q.lt hb2).2
   omega
 ·have h1 := Sg.Hist.step (O' := s'.O) (H' := hOf s' x') e0 hH he (by rw [hO]; exact half) (by
   have h2 := hA.sp
   rw [hn] at h2
   have h3 : hOf s x e0 = x.of bl := by unfold hOf; rw [hO]
   rw [hO, h3]
   exact h2) (fun e hE => by rw [hA.hp e (by rw [hn]; exact hE), hO])
  rw [List.map_append, hA.ks]
  have h4 : [(u, s.mem bl)].map (·.2) = [Sg.memb G.n s.O (s.O e0)] := by rw [hO, <- hn, <- memb_eq]; rfl
  rw [h4]
  exact h1
 ·have h1 := hA.nm
  rw [hA.ks]
  omega
theorem RunI.wait {s : Pst} {x : Rv} {w w' : World} {B r g p mb k : Nat} {u : Value} (hI : RunI s x) (hN : NextAt w w' B r g p mb x k u) : RunI s (x.wait k u) := by
 refine ⟨hI.ow, hI.sz, hI.szv, hI.own, hI.nd, hI.hs, fun o bs h h2 => ?_, ?_, fun z hz => hI.wtn z (List.mem_of_mem_drop hz), hI.len⟩
 ·have h3 := hI.wt o bs h h2
  rw [<- List.take_append_drop k x.wt] at h3
  rcases List.mem_append.1 h3 with h4 | h4
  ·obtain ⟨o', hv, e1, e2, e3⟩ := hN.one _ h4
   have e4 : o' = o := by omega
   rw [e4] at e2
   have h5 : (x.H.map (·.2))[o]? = some hv.2 := by rw [List.getElem?_map, e2]; rfl
   have h6 : bs = hv.2 := Option.some.inj (h.symm.trans h5)
   rw [h6] at h2
   omega
  ·exact h4
 ·have h1 := hI.wtl
  show (x.wt.drop k).length <= s.nb
  rw [List.length_drop]
  omega
theorem RunAt.next {w0 w w' : World} {r g p mb nm k : Nat} {G : Gp} {s : Pst} {x : Rv} {u : Value} (h : RunAt w0 w r g p mb nm G s x) (hN : NextAt w w' w0.heap.size r g p mb x k u) : RunAt w0 w' r g p mb nm G s (x.wait k u) := by
 obtain ⟨c, h1, h2⟩ := h.c
 have hpf := h.m.p_foot h1
 have hmf := h.m.mb_foot h.cnt
 refine ⟨hN.m, ⟨c, h1.kept hN.gw.kp fun b hb => ⟨hb.elim (fun e => by rw [e]; exact h.m.up) fun e => (h.m.foot_lt e).1, fun e => ?_⟩, h2⟩, h.ok, h.bare, h.n, h.i.wait hN, h.gr, h.mu, h.cnt.kept hN.gw.kp fun e => ?_, h.ksv⟩
 ·rw [e] at hb; exact hb.elim (fun e2 => hpf.2 e2) hpf.1
 ·exact e.elim (fun e2 => hmf.2 e2) hmf.1
theorem RunI.of_mem {s : Pst} {x : Rv} (hI : RunI s x) {o : Nat} {bs : List Int} (h : (x.H.map (·.2))[o]? = some bs) {b : Nat} (hb : (b : Int) ∈ bs) : b < s.nb /\ x.of b = (o : Int) := by
 obtain ⟨c, e1, e2, e3⟩ := (hI.hs o bs h _).1 hb
 have e4 : b = c := by omega
 rw [e4]
 exact ⟨e2, by unfold Rv.of; rw [e3]; rfl⟩
theorem block_state {s : Pst} (hO : s.Ok) {b : Nat} (hb : b < s.nb) : ∃ e, e < s.n /\ s.O e = b := by
 have v := hO.iv b hb
 exact ⟨s.E (s.B b), (hO.ep (s.B b) (by omega)).1, hO.ow b hb (s.B b) (Nat.le_refl _) (by omega)⟩
theorem next_yes {w0 w : World} {r g p mb nm : Nat} {G : Gp} {s : Pst} {x : Rv} (h : RunAt w0 w r g p mb nm G s x) {o a b : Nat} {v : Value} {bs : List Int} {y z : Int} (hH : x.H[o]? = some (v, (a : Int) :: (b : Int) :: bs)) (hy : x.sz[a]? = some y) (hz : x.sz[b]? = some z) : MayTake G s x (if y <= z then a else b) := by
 have hHm : (x.H.map (·.2))[o]? = some ((a : Int) :: (b : Int) :: bs) := by rw [List.getElem?_map, hH]; rfl
 obtain ⟨a1, a2⟩ := h.i.of_mem hHm (b := a) (by simp)
 obtain ⟨b1, b2⟩ := h.i.of_mem hHm (b := b) (by simp)
 have hne : a ≠ b := fun e => by
  have h1 := h.i.nd o _ hHm
  rw [e] at h1
  simp at h1
 have ya : y = ((s.mem a).length : Int) := Option.some.inj (hy.symm.trans (h.i.szv a a1))
 have zb : z = ((s.mem b).length : Int) := Option.some.inj (hz.symm.trans (h.i.szv b b1))
 have hn := h.n
 have hsum : Sg.bc G.n s.O a + Sg.bc G.n s.O b <= hc G.n (hOf s x) (o : Int) := by
  unfold Sg.bc hc
  rw [<- countP_add (l := List.range G.n) (f := fun e => decide (s.O e = a) || decide (s.O e = b)) fun e _ => ⟨rfl, by
   by_cases h1 : s.O e = a
   ·simp [h1, hne]
   ·simp [h1]⟩]
  refine List.countP_mono_left fun e _ he => ?_
  simp only [Bool.or_eq_true, decide_eq_true_eq] at he
  have h1 : hOf s x e = (o : Int) := by
   unfold hOf
   rcases he with e1 | e1
   ·rw [e1]; exact a2
   ·rw [e1]; exact b2
  simp [h1]
 rw [<- hn] at hsum
 rw [bc_mem, bc_mem] at hsum
 have key : ∀ t, t < s.nb -> x.of t = (o : Int) -> 2 * (s.mem t).length <= hc s.n (hOf s x) (o : Int) -> MayTake G s x t := fun t ht h1 h2 => by
  obtain ⟨e0, he, hO⟩ := block_state h.ok ht
  refine ⟨ht, e0, by rw [<- hn]; exact he, hO, .inr ?_⟩
  have h3 : hOf s x e0 = (o : Int) := by unfold hOf; rw [hO]; exact h1
  rw [h3, <- hn, bc_mem]
  exact h2
 by_cases hle : y <= z
 ·rw [if_pos hle]; exact key a a1 a2 (by omega)
 ·rw [if_neg hle]; exact key b b1 b2 (by omega)
theorem next_no {w0 w w' : World} {r g p mb nm k : Nat} {G : Gp} {s : Pst} {x : Rv} {u : Value} (h : RunAt w0 w r g p mb nm G s x) (hN : NextAt w w' w0.heap.size r g p mb x k u) (hk : k = x.wt.length) : AllOne G s x := by
 intro a b ha hb e
 have hn := h.n
 have a1 := (h.ok.o a (by omega)).1
 have b1 := (h.ok.o b (by omega)).1
 obtain ⟨o, k1, v, bs, how, hH, hks, hHm⟩ := h.i.heap a1
 have hob : x.ow[s.O b]? = some (o : Int) := by
  obtain ⟨o2, k2, v2, bs2, how2, _⟩ := h.i.heap b1
  unfold hOf Rv.of at e
  rw [how, how2] at e
  rw [how2]
  exact congrArg some e.symm
 have ma := (h.i.hs o bs hHm (s.O a : Int)).2 ⟨_, rfl, a1, how⟩
 have mb' := (h.i.hs o bs hHm (s.O b : Int)).2 ⟨_, rfl, b1, hob⟩
 have hl : bs.length <= 1 := by
  rcases Nat.lt_or_ge bs.length 2 with h1 | h1
  ·omega
  ·have h2 := h.i.wt o bs hHm h1
   obtain ⟨o', hv, e1, e2, e3⟩ := hN.one (o : Int) (by rw [hk, List.take_length]; exact h2)
   have e4 : o' = o := by omega
   rw [e4, hH] at e2
   cases e2
   exact e3
 match bs, hl, ma, mb' with
 | [], _, ma, _ => simp at ma
 | [c], _, ma, mb' =>
   rw [List.mem_singleton] at ma mb'
   omega
 | _ :: _ :: _, hl, _, _ => simp at hl
end
section
open Go.RowKit Go.Maps
theorem RunAt.kept {w0 w w' : World} {r g p mb nm : Nat} {G : Gp} {s : Pst} {x : Rv} {F : Nat -> Prop} (h : RunAt w0 w r g p mb nm G s x) (hk : Kept F w w') (hF : ∀ b, F b -> w0.heap.size <= b /\ b ≠ p /\ b ≠ r /\ b ≠ mb /\ ¬ x.foot b) : RunAt w0 w' r g p mb nm G s x := by
 obtain ⟨c, h1, h2⟩ := h.c
 exact ⟨h.m.kept hk (fun e => (hF r e).2.2.1 rfl) (fun b hb e => (hF b e).2.2.2.2 hb), ⟨c, h1.kept hk fun b hb => ⟨(hF b hb).1, (hF b hb).2.1⟩, h2⟩, h.ok, h.bare, h.n, h.i, h.gr, h.mu, h.cnt.kept hk fun e => (hF mb e).2.2.2.1 rfl, h.ksv⟩
theorem told_far {w0 wS w : World} {r g p mb tb nm : Nat} {G : Gp} {s : Pst} {x : Rv} {vT vG : Value} {gz : List Int} {tk : List (Value × List Int)} (hR : RunAt w0 w r g p mb nm G s x) (hT : Told w wS.heap.size tb vT vG gz tk) (hlo : p < wS.heap.size /\ r < wS.heap.size /\ mb < wS.heap.size) (h0 : w0.heap.size <= wS.heap.size) : ∀ b, (b = tb \/ vT.ownBlock = some b) -> w0.heap.size <= b /\ b ≠ p /\ b ≠ r /\ b ≠ mb /\ ¬ x.foot b := fun b hb => by
 have hup := hT.up
 rcases hb with rfl | hb
 ·exact ⟨by omega, by omega, by omega, by omega, hR.m.foot_ne hT.box (by decide) (by decide)⟩
 ·have h1 := (hT.row.lt b hb).1
  obtain ⟨cs, hc⟩ := row_cells hT.row hb
  exact ⟨by omega, by omega, by omega, by omega, hR.m.foot_ne hc (by decide) (by decide)⟩
theorem Told.tell {w4 w7 : World} {B tb n7 c7 K : Nat} {vT vG u : Value} {a7 : Option Addr} {gz ms : List Int} {tk : List (Value × List Int)} {tmp : Obj} (h : Told w4 B tb vT vG gz tk) (hu : OwnI w4 B u ms) (hun : ∀ b, u.ownBlock = some b -> ¬ Foot ((vG, gz) :: tk) b) (hK : K = tk.length + 1) (hO : w7.ownsRow B 57 1 (.slice a7 n7 c7) K (tk.map (·.1) ++ [u])) (hg : (w4.alloc tmp).grownBy w7 vT.ownBlock) (hat : (Value.slice a7 n7 c7).ownBlock = vT.ownBlock \/ (Value.slice a7 n7 c7).ownBlock = some (w4.heap.size + 1)) :
 Told (w7.setCell ⟨tb, 1, none⟩ (.slice a7 n7 c7)) B tb (.slice a7 n7 c7) vG gz (tk ++ [(u, ms)]) /\ Kept (fun b => b = tb \/ vT.ownBlock = some b) w4 (w7.setCell ⟨tb, 1, none⟩ (.slice a7 n7 c7)) /\ OwnI (w7.setCell ⟨tb, 1, none⟩ (.slice a7 n7 c7)) B u ms := by
 subst hK
 have hk7 : Kept (fun b => vT.ownBlock = some b) w4 w7 := grown_alloc hg
 have hk8 : Kept (fun b => b = tb \/ vT.ownBlock = some b) w4 (w7.setCell ⟨tb, 1, none⟩ (.slice a7 n7 c7)) := (hk7.mono fun _ _ e => .inr e).trans ((Kept.setCell w7 tb 1 _).mono fun _ _ e => .inl e)
 have hint : ∀ {b : Nat} {cs : Array Value}, w4.heap[b]? = some (.cells cs 3 (0, 0)) -> ¬ (b = tb \/ vT.ownBlock = some b) := fun {b cs} hc e => by
  rcases e with e | e
  ·have h1 := h.box
   rw [<- e, hc] at h1
   injection h1 with h1
   injection h1 with _ h2
   exact absurd h2 (by decide)
  ·exact own_bk h.row hc (by decide) e
 have hvT : vT.ownBlock ≠ some tb := fun e => own_bk h.row h.box (by decide) e
 have hL : ((vG, gz) :: (tk ++ [(u, ms)])) = ((vG, gz) :: tk) ++ [(u, ms)] := rfl
 have hq : QueAll w4 B ((vG, gz) :: (tk ++ [(u, ms)])) := by
  rw [hL]
  have hN : ∀ (i : Nat) (z : Value × List Int), (((vG, gz) :: tk) ++ [(u, ms)])[i]? = some z -> (i < ((vG, gz) :: tk).length /\ ((vG, gz) :: tk)[i]? = some z) \/ (i = ((vG, gz) :: tk).length /\ z = (u, ms)) := fun i z hz => by
   rcases Nat.lt_or_ge i ((vG, gz) :: tk).length with h1 | h1
   ·rw [List.getElem?_append_left h1] at hz; exact .inl ⟨h1, hz⟩
   ·rw [List.getElem?_append_right h1] at hz
    have h2 := (List.getElem?_eq_some_iff.1 hz).1
    simp only [List.length_cons, List.length_nil] at h2 h1
    have h3 : i = ((vG, gz) :: tk).length := by simp only [List.length_cons]; omega
    rw [h3, Nat.sub_self] at hz
    exact .inr ⟨h3, (Option.some.inj hz).symm⟩
  refine ⟨fun i z hz => ?_, fun i j z y b hz hy hne hzb hyb => ?_⟩
  ·rcases hN i z hz with ⟨_, h1⟩ | ⟨_, rfl⟩
   ·exact h.q.q i z h1
   ·exact Que.of_own hu
  ·rcases hN i z hz with ⟨_, h1⟩ | ⟨e1, rfl⟩
   ·rcases hN j y hy with ⟨_, h2⟩ | ⟨_, rfl⟩
    ·exact h.q.ap i j z y b h1 h2 hne hzb hyb
    ·exact hun b hyb ⟨z, List.mem_of_getElem? h1, hzb⟩
   ·rcases hN j y hy with ⟨_, h2⟩ | ⟨e2, rfl⟩
    ·exact hun b hzb ⟨y, List.mem_of_getElem? h2, hyb⟩
    ·exact hne (e1.trans e2.symm)
 have hv' : (Value.slice a7 n7 c7).ownBlock ≠ some tb := fun e => by
  rcases hat with h1 | h1
  ·exact hvT (by rw [<- h1]; exact e)
  ·rw [h1] at e
   have := t_lt h.box
   injection e with e
   omega
 refine ⟨⟨?_, ?_, hq.kept hk8 fun b hb => ?_, fun z hz => ?_, h.up⟩, hk8, own_up hu hk8 fun b hb => ?_⟩
 ·exact box_put ((hk7.block tb (t_lt h.box) hvT).trans h.box) _
 ·rw [List.map_append, List.length_append]
  exact own_up hO (Kept.setCell w7 tb 1 _) fun b hb e => hv' (by rw [<- e]; exact hb)
 ·obtain ⟨cs, hc⟩ := hq.typed hb
  exact hint hc
 ·rw [hL] at hz
  rcases List.mem_append.1 hz with h1 | h1
  ·exact h.fl z h1
  ·rw [List.mem_singleton.1 h1]; exact hu.at0
 ·obtain ⟨cs, hc⟩ := row_cells hu hb
  exact hint hc
theorem Told.bump {W : World} {B tb gb n m cap : Nat} {vT : Value} {gz : List Int} {tk : List (Value × List Int)} (h : Told W B tb vT (.slice (some ⟨gb, 0, none⟩) m cap) gz tk) {k : Nat} (hk : k < gz.length) (z : Int) (hn : gb = n) : Told (W.setCell ⟨gb, k, none⟩ (.int .i64 z)) B tb vT (.slice (some ⟨gb, 0, none⟩) m cap) (gz.set k z) tk /\ Kept (fun b => b = n) W (W.setCell ⟨gb, k, none⟩ (.int .i64 z)) := by
 subst hn
 have hkp := Kept.setCell W gb k (.int .i64 z)
 have hf : Foot ((Value.slice (some ⟨gb, 0, none⟩) m cap, gz) :: tk) gb := ⟨_, List.mem_cons_self, rfl⟩
 obtain ⟨cs, hc⟩ := h.q.typed hf
 refine ⟨⟨(hkp.block tb (t_lt h.box) fun e => ?_).trans h.box, own_up h.row hkp fun b hb e => ?_, ?_, fun y hy => ?_, h.up⟩, hkp⟩
 ·have h1 := h.box
  rw [e, hc] at h1
  injection h1 with h1
  injection h1 with _ h2
  exact absurd h2 (by decide)
 ·exact own_bk h.row hc (by decide) (by rw [<- e]; exact hb)
 ·have h1 := h.q.setAt (k := 0) (g := gb) (off := 0) (n := m) (cap := cap) (zs := gz) rfl hk z
  rw [Nat.zero_add] at h1
  exact h1
 ·rcases List.mem_cons.1 hy with rfl | hy
  ·exact at0_of _ _ _
  ·exact h.fl y (List.mem_cons_of_mem _ hy)
theorem next_all {w0 w : World} {r g p mb nm : Nat} {G : Gp} {s : Pst} {x : Rv} (h : RunAt w0 w r g p mb nm G s x) : Calls Tryz.prog 139 #[.pointer (some ⟨r, 0, none⟩)] w fun e w' => ∃ (k : Nat) (u : Value) (b9 : Nat) (is9 : Bool), e = .returned (.tuple #[.int .i64 (b9 : Int), .bool is9]) /\ NextAt w w' w0.heap.size r g p mb x k u /\ (is9 = true -> MayTake G s x b9) /\ (is9 = false -> AllOne G s x) := by
 refine (next_any w0.heap.size r g p mb x w h.m h.i.wtn (fun hv hh b hb => ?_)).mono fun e w' ⟨k, u, hN, hres⟩ => ?_
 ·obtain ⟨o, ho⟩ := List.mem_iff_getElem?.1 hh
  have h1 : (x.H.map (·.2))[o]? = some hv.2 := by rw [List.getElem?_map, ho]; rfl
  obtain ⟨c, e1, e2, _⟩ := (h.i.hs o hv.2 h1 b).1 hb
  exact ⟨c, e1, by rw [h.i.sz]; exact e2⟩
 ·rcases hres with ⟨hk, rfl⟩ | ⟨o, a1, b1, v1, bs1, y1, z1, _, hH1, hy1, hz1, rfl⟩
  ·exact ⟨k, u, 0, false, rfl, hN, (fun h => by cases h), fun _ => next_no h hN hk⟩
  ·exact ⟨k, u, _, true, rfl, hN, fun _ => next_yes h hH1 hy1 hz1, (fun h => by cases h)⟩
theorem RfL.next {w0 wS wr w' : World} {r g p mb tb nm k : Nat} {G : Gp} {s : Pst} {x : Rv} {vT vG u : Value} {tk : List (Value × List Int)} (h : RfL w0 wS wr r g p mb tb nm G s x vT vG tk) (hN : NextAt wr w' w0.heap.size r g p mb x k u) : RfL w0 wS w' r g p mb tb nm G s (x.wait k u) vT vG tk := by
 have hup := h.told.up
 have hl := h.lo
 refine ⟨h.run.next hN, h.told.kept hN.gw.kp (fun e => ?_) (fun b hb e => ?_) (fun b hb e => ?_), fun b hb hb2 => ?_, h.lo, h.hist, h.nmb⟩
 ·rcases e with e | e
  ·omega
  ·exact h.run.m.foot_ne h.told.box (by decide) (by decide) e
 ·have h1 := (h.told.row.lt b hb).1
  obtain ⟨cs, hc⟩ := row_cells h.told.row hb
  rcases e with e | e
  ·omega
  ·exact h.run.m.foot_ne hc (by decide) (by decide) e
 ·have h1 := (h.told.q.lt hb).1
  rcases e with e | e
  ·omega
  ·exact h.far b e hb
 ·rcases hN.gw.ft b hb with h1 | h1
  ·exact h.far b h1 hb2
  ·have := (h.told.q.lt hb2).2
   omega
end
section
open Go.RowKit Go.Maps
attribute [local go_sem ↓] Go.wp_at_zero Go.wp_at_succ
set_option maxRecDepth 100000 in
set_option maxHeartbeats 4000000 in
theorem classes_none (g : Nat) (c : Nat -> Int) (w0 w : World) (hP : Pt w0 w g c) (h0 : c 0 = 0) :
 Calls Tryz.prog 142 #[.pointer (some ⟨g, 0, none⟩)] w fun r w' => ∃ u, r = .returned u /\ OwnI w' w.heap.size u [] /\ Below w.heap.size w w' := by
 have c0 := hP.cell (i := 0) (by omega)
 rw [h0] at c0
 have hCn : ∀ (ao : Option Addr) W, Below w.heap.size w W -> Calls Tryz.prog 153 #[.slice ao 0 0] W fun r w' => ∃ u, r = .returned u /\ OwnI w' W.heap.size u [] /\ Below W.heap.size W w' := fun ao W hW =>
  pCanon (.slice ao 0 0) [] W ⟨ao, 0, rfl, fun i z hz => by simp at hz⟩ (by simp) (fun z hz => by simp at hz)
 have H : Hid _ := And.intro hCn trivial
 clear hCn hP h0
 go_enter Tryz.func142, Tryz.ntmps142
 go_upto_region 3 with fail
 go_region_held3 (fun w' => (w'.cell? ⟨g, 0, none⟩ = some (.int .i64 0) /\ w'.cell? ⟨g, 0, none⟩ = some (.int .i64 0)) /\ Hid (Below w.heap.size w w')) (first | exact rgu2 hb5 (by assumption) | exact ⟨⟨c0, c0⟩, ((Below.refl _ _).drew : Below w.heap.size w w.drew)⟩ | go_keep)
  ((first
    | (go_at_call 153; refine Calls.mono (H.out.1 _ _ (rgb3 (by assumption))) ?_; rintro r w5 ⟨u, rfl, hO5, hb5⟩)
    | fail))
 have hbw : Below w.heap.size w w5 := rgb3 (by assumption)
 have HB : Hid (OwnI w5 w.heap.size u [] /\ Below w.heap.size w w5) := ⟨hO5, hbw⟩
 go_wp2_with fail
 go_ret
 exact ⟨_, rfl, HB.out.1, HB.out.2⟩
theorem classes_all (g : Nat) (c : Nat -> Int) (s : Pst) (w0 w : World) (hP : Pt w0 w g c) (hL : Lay c s) (hO : s.Ok) :
 Calls Tryz.prog 142 #[.pointer (some ⟨g, 0, none⟩)] w fun r w' => ∃ u, r = .returned u /\ OwnI w' w.heap.size u (natI (Sy.canon s.own)) /\ Below w.heap.size w w' := by
 rcases Nat.eq_zero_or_pos s.n with h | h
 ·have h1 := classes_none g c w0 w hP (by rw [hL.n, h]; rfl)
  have h2 : natI (Sy.canon s.own) = [] := by
   have h3 : s.own = [] := by unfold Pst.own; rw [h]; rfl
   rw [h3]; rfl
  rw [h2]
  exact h1
 ·exact classes_any g c s w0 w hP hL hO h
end
section
open Go.RowKit Go.Maps
attribute [local go_sem ↓] Go.wp_at_zero Go.wp_at_succ
theorem makeG (n : Nat) (hn : n <= 1000000) (w : World) : (Instr.makeSlice 57 (.int .i64 (n : Int)) (.int .i64 (n : Int))).run Tryz.prog w = .ok (.slice (some ⟨w.heap.size, 0, none⟩) n n) (w.alloc (.cells (madeV (.int .i64 0) n) 3)) := make_of _ _ _ 8 Tryz.underlying57 Tryz.infoI3 n hn (by decide) w
theorem Tryz.infoRow : (Tryz.prog.info? 57).map (fun i => (i.zero, i.size, i.bytes)) = some (some (.slice none 0 0), 1, 24) := by kernel_rfl
def EndAt (G : Gp) (tk : List (List Int)) (O : Nat -> Nat) (H : Nat -> Int) : Prop := (G.n = 0 /\ tk = []) \/ (tk ≠ [] /\ ∀ a b, a < G.n -> b < G.n -> H a = H b -> O a = O b)
structure RefAt (w w' : World) (G : Gp) (u vT vG : Value) (tk : List (Value × List Int)) (O : Nat -> Nat) : Prop where
 cls : OwnI w' w.heap.size u (natI (Sy.canon ((List.range G.n).map fun e : Nat => (O e : Int))))
 row : w'.ownsRow w.heap.size 57 1 vT tk.length (tk.map (·.1))
 q : QueAll w' w.heap.size ((vG, gOf G.n (gz1 (tk.map (·.2)))) :: tk)
 fl : ∀ z ∈ (vG, gOf G.n (gz1 (tk.map (·.2)))) :: tk, At0 z.1
 far : ∀ b, u.ownBlock = some b -> ¬ Foot ((vG, gOf G.n (gz1 (tk.map (·.2)))) :: tk) b
 hist : ∃ H h, Sg.Hist G (tk.map (·.2)) O H h /\ EndAt G (tk.map (·.2)) O H
 bl : Below w.heap.size w w'
theorem QueAll.base {w : World} {B B' : Nat} {L : List (Value × List Int)} (h : QueAll w B L) (hb : B' <= B) : QueAll w B' L :=
 ⟨fun i z hz => by
  rcases h.q i z hz with h1 | ⟨g, off, cap, cur, e, h1, h2⟩
  ·exact .inl h1
  ·exact .inr ⟨g, off, cap, cur, e, by omega, h2⟩, h.ap⟩
theorem told_first {w2 w3 : World} {m : Nat} (hm : m <= 1000) (hw3 : w3 = (w2.alloc (.cells (madeV (.int .i64 0) m) 3)).alloc (.cells #[.slice none 0 0, .slice none 0 0, .slice (some ⟨w2.heap.size, 0, none⟩) m m] 130)) : Told w3 w2.heap.size (w2.heap.size + 1) (.slice none 0 0) (.slice (some ⟨w2.heap.size, 0, none⟩) m m) (gOf m (gz1 [])) [] /\ Below w2.heap.size w2 w3 := by
 have hA := arr_new 3 (.int .i64 0) rfl m w2
 obtain ⟨wx, hwx⟩ : ∃ wx, wx = w2.alloc (.cells (madeV (.int .i64 0) m) 3) := ⟨_, rfl⟩
 rw [<- hwx] at hA hw3
 have hbx : Below wx.heap.size wx w3 := by rw [hw3]; exact (Below.refl _ _).alloc (Nat.le_refl _) _
 have hsx : wx.heap.size = w2.heap.size + 1 := by rw [hwx]; simp
 obtain ⟨cs, hc, hcl⟩ := hA.ids
 have hc3 := bup hbx hc
 have hz : iC (gOf m (gz1 [])) = List.replicate m (.int .i64 0) := by
  unfold iC gOf
  rw [List.map_map]
  apply List.ext_getElem?
  intro i
  rcases Nat.lt_or_ge i m with h | h
  ·rw [List.getElem?_map, List.getElem?_range h, List.getElem?_replicate, if_pos h]; rfl
  ·rw [List.getElem?_eq_none (by simp; exact h), List.getElem?_eq_none (by simp; exact h)]
 have hsz : cs.size = m := by rw [<- Array.length_toList, hcl, List.length_replicate]
 refine ⟨⟨?_, World.ownsRow_nil _ _ _ _, ⟨fun i z hi => ?_, fun i j z y b h1 h2 hne _ => ?_⟩, fun z hz => ?_, by omega⟩, hA.bl.trans (hbx.mono hA.bl.size)⟩
 ·rw [hw3, <- hsx]; exact heap_alloc_new wx _
 ·match i, hi with
  | 0, hi =>
    cases hi
    refine .inr ⟨w2.heap.size, 0, m, cs, by rw [gOf_len], Nat.le_refl _, hc3, by rw [gOf_len]; exact Nat.le_refl _, by unfold maxLen; omega, .inl (by omega), ?_⟩
    rw [List.drop_zero, gOf_len, hcl, hz]
    exact List.take_of_length_le (by simp)
  | i + 1, hi => simp at hi
 ·have a1 := (List.getElem?_eq_some_iff.1 h1).1
  have a2 := (List.getElem?_eq_some_iff.1 h2).1
  simp at a1 a2
  omega
 ·rw [List.mem_singleton.1 hz]; exact at0_of _ _ _
set_option linter.unusedSimpArgs false in
set_option maxRecDepth 100000 in
set_option maxHeartbeats 16000000 in
theorem refine_ok (hS : SortOk 1000000) (m kk : Nat) (s : Int) (v : Value) (es : List Sy.Ed) (a : Addr) (w : World) (hA : Sent w 11 a) (hv : BEdges.Has w v es) (hm : es.length <= 100000) (hq : Sy.right m kk s es = true) :
 Calls Tryz.prog 94 #[sysV m kk s v] w fun e w' => ∃ (u vT vG : Value) (G : Gp) (tk : List (Value × List Int)) (O : Nat -> Nat), e = .returned (.tuple #[.agg #[u, vT, vG], .nilIface]) /\ (G.n = m /\ G.kk = kk /\ G.st = s /\ G.es = es) /\ RefAt w w' G u vT vG tk O := by
 obtain ⟨i0, hi0, hz0, hz1, hz2⟩ := info_parts Tryz.infoRow
 have hv0 := hv
 obtain ⟨ao, cap, rfl, _⟩ := hv0
 obtain ⟨L, hL⟩ : ∃ L, L = es.length := ⟨_, rfl⟩
 obtain ⟨w1, hw1⟩ : ∃ w1, w1 = (w.alloc (.cells #[.int .i64 m, .int .i64 kk, .int .i64 s, .slice ao L cap] 24)).alloc (.cells #[.slice none 0 0, .slice none 0 0, .slice none 0 0] 130) := ⟨_, rfl⟩
 have hb1 : Below w.heap.size w w1 := by rw [hw1]; exact ((Below.refl _ _).alloc (Nat.le_refl _) _).alloc (by simp) _
 have hg1 : w1.heap[w.heap.size]? = some (.cells #[.int .i64 m, .int .i64 kk, .int .i64 s, .slice ao L cap] 24 (0, 0)) := by
  rw [hw1]
  exact bup ((Below.refl _ _).alloc (Nat.le_refl _) _) (heap_alloc_new w _)
 have hrc : w1.heap[w.heap.size + 1]? = some (.cells #[.slice none 0 0, .slice none 0 0, .slice none 0 0] 130 (0, 0)) := by
  rw [hw1]
  have h := heap_alloc_new (w.alloc (.cells #[.int .i64 m, .int .i64 kk, .int .i64 s, .slice ao L cap] 24)) (.cells #[.slice none 0 0, .slice none 0 0, .slice none 0 0] 130)
  rw [World.size_alloc] at h
  exact h
 have hN := begin_ok hS m kk s _ es a w1 (hA.below hb1) (hv.below hb1) hm hq
 rw [<- hL] at hN ⊢
 unfold sysV at hN ⊢
 have hm1 : m <= 1000 := by have := (right_parts hq).1; omega
 have H1 : Hid _ := And.intro hw1 (And.intro hb1 (And.intro hg1 (And.intro hrc hN)))
 obtain ⟨x0, x1, x2, x3⟩ := four_cellsB hg1
 obtain ⟨isb, hisb⟩ : ∃ b, b = decide (0 < m) := ⟨_, rfl⟩
 have HIS : Hid _ := hisb
 clear hA hv hm hq hw1 hb1 hg1 hrc hN hL
 go_enter Tryz.func94, Tryz.ntmps94
 go_upto_region 1 with fail
 rw [<- H1.out.1]
 go_upto_region 4 with (go_at_call 137; refine Calls.mono H1.out.2.2.2.2 ?_; rintro r2 w2 ⟨w0, r, g, p, mb, nm, G, x, rfl, hR, hx, hG, hnm, hb0, hb2⟩; clear x0 x1 x2 x3; have hg2 := bup hb2 H1.out.2.2.1; obtain ⟨x0, x1, x2, x3⟩ := four_cellsB hg2; have H2 : Hid _ := And.intro hR (And.intro hx (And.intro hG (And.intro hnm (And.intro hb0 (And.intro hb2 hg2))))); clear hR hx hG hnm hb0 hb2 hg2)
 have hmk := makeG m (by omega) w2
 go_upto_region 5 with fail
 obtain ⟨w3, hw3⟩ : ∃ w3, w3 = (w2.alloc (.cells (madeV (.int .i64 0) m) 3)).alloc (.cells #[.slice none 0 0, .slice none 0 0, .slice (some ⟨w2.heap.size, 0, none⟩) m m] 130) := ⟨_, rfl⟩
 rw [<- hw3]
 obtain ⟨hT3, hb3⟩ := told_first hm1 hw3
 clear hmk hw3 x1 x2 x3 x0
 obtain ⟨x0, _⟩ := four_cellsB (bup hb3 H2.out.2.2.2.2.2.2)
 have hR3 := H2.out.1.below hb3
 have hn3 : G.n = m := H2.out.2.2.1.1
 have hlo : p < w2.heap.size /\ r < w2.heap.size /\ mb < w2.heap.size := by
  obtain ⟨c, hP, _⟩ := H2.out.1.c
  exact ⟨Arr.lt hP, t_lt H2.out.1.m.box, H2.out.1.cnt.lt⟩
 have hF : RfL w0 w2 w3 r g p mb (w2.heap.size + 1) nm G (Pst.new m) x (.slice none 0 0) (.slice (some ⟨w2.heap.size, 0, none⟩) m m) [] := by
  refine ⟨hR3, ?_, fun b hb hb2 => ?_, hlo, ?_, ?_⟩
  ·rw [hn3]; exact hT3
  ·rw [hn3] at hb2
   have h1 := (hT3.q.lt hb2).1
   have h2 := (H2.out.1.m.foot_lt hb).2
   omega
  ·have h1 : hOf (Pst.new m) x = fun _ => 0 := funext fun e => H2.out.2.1.1 _
   have h2 : (Pst.new m).O = fun _ => 0 := rfl
   rw [h1, h2, H2.out.2.1.2]
   exact Sg.Hist.nil
  ·rw [H2.out.2.1.2]
   have := H2.out.2.2.2.1
   simp only [List.length_cons, List.length_nil]
   omega
 obtain ⟨tb, htb⟩ : ∃ tb, tb = w2.heap.size + 1 := ⟨_, rfl⟩
 obtain ⟨gb, hgb⟩ : ∃ gb, gb = w2.heap.size := ⟨_, rfl⟩
 rw [<- htb, <- hgb] at hF
 rw [<- htb, <- hgb]
 have hks : x.ks.length = 1 := by rw [H2.out.2.1.2]; rfl
 have hfirst : isb = true -> MayTake G (Pst.new m) x 0 := fun e => by
  have h0 : 0 < m := of_decide_eq_true (hisb.symm.trans e)
  exact ⟨by show 0 < (if m = 0 then 0 else 1); rw [if_neg (by omega)]; omega, 0, by omega, rfl, .inl (H2.out.2.1.1 _)⟩
 have hlast : isb = false -> EndAt G [] (Pst.new m).O (hOf (Pst.new m) x) := fun e => by
  have h0 : ¬ 0 < m := of_decide_eq_false (hisb.symm.trans e)
  exact .inl ⟨by omega, rfl⟩
 have h02 : w0.heap.size <= w2.heap.size := H2.out.1.up.size
 have H3 : Hid _ := And.intro hF (And.intro hks (And.intro hfirst (And.intro hlast (And.intro hn3 (And.intro hb3 (And.intro h02 hgb))))))
 clear hT3 hb3 hR3 hn3 hlo hF hks hfirst hlast htb hgb h02 hisb
 have hd : decide (0 < m) = isb := HIS.out.symm
 have hd2 : decide ((m : Int) > 0) = isb := by rw [<- hd]; exact decide_eq_decide.2 ⟨fun h => by omega, fun h => by omega⟩
 refine wp_region_held_drew (S := (fun w' => w'.cell? ⟨w.heap.size, 0, none⟩ = some (.int .i64 (m : Int)))) (by kernel_rfl) ?_ (fun hHeld => ?_)
 ·exact x0
 refine tk8 0 rfl ?_; (try simp only [ty9, Act.put])
 refine tk8 1 rfl ?_; (try simp only [ty9, Act.put])
 refine tk8 2 rfl ?_; (try simp only [ty9, Act.put])
 refine tk8 3 rfl ?_; (try simp only [ty9, Act.put])
 refine tk8 4 rfl ?_; (try simp only [ty9, Act.put])
 refine wpAnyH_done (by kernel_rfl) ?_ _
 (try go_simp)
 clear hHeld
 obtain ⟨wq, hwq⟩ : ∃ wq, wq = w3.drew := ⟨_, rfl⟩
 have hbq : Below w3.heap.size w3 wq := by rw [hwq]; exact (Below.refl _ _).drew
 rw [<- hwq]
 clear hwq
 have hFq : RfL w0 w2 wq r g p mb tb nm G (Pst.new m) x (.slice none 0 0) (.slice (some ⟨gb, 0, none⟩) m m) [] := ⟨H3.out.1.run.below hbq, H3.out.1.told.below hbq, H3.out.1.far, H3.out.1.lo, H3.out.1.hist, H3.out.1.nmb⟩
 have H4 : Hid _ := And.intro hFq hbq
 clear hFq hbq
 go_wp2_with fail
 clear hd hd2 x0
 go_loopg [7, 8] (m + 1) (fun q bv iv wr => ∃ (nm : Nat) (s1 : Pst) (x1 : Rv) (vT : Value) (tk : List (Value × List Int)) (bl : Nat) (is : Bool), q = m + 2 - x1.ks.length /\ bv = .int .i64 bl /\ iv = .bool is /\ RfL w0 w2 wr r g p mb tb nm G s1 x1 vT (.slice (some ⟨gb, 0, none⟩) m m) tk /\ (is = true -> MayTake G s1 x1 bl) /\ (is = false -> EndAt G (tk.map (·.2)) s1.O (hOf s1 x1)))
 case atStart => exact ⟨nm, Pst.new m, x, .slice none 0 0, [], 0, isb, by rw [H3.out.2.1]; omega, rfl, rfl, H4.out.1, H3.out.2.2.1, H3.out.2.2.2.1⟩
 case round =>
  obtain ⟨nm1, s1, x1, vT, tk, bl, is, rfl, rfl, rfl, hF, hyes, hno⟩ := hrel
  obtain ⟨wo, hwo⟩ : ∃ wo, wo = wr := ⟨_, rfl⟩
  rw [<- hwo] at hF ⊢
  clear hwo
  cases is with
  | true =>
    have hMay := hyes rfl
    obtain ⟨c, hP, hL⟩ := hF.run.c
    have hMem := rmembers_any w0 w0.heap.size r g p mb x1 c s1 bl wo hF.run.m hP hL hF.run.ok hMay.1
    have hheaps := hF.hist.heaps
    have HF : Hid _ := And.intro hF (And.intro hMay (And.intro hMem hheaps))
    clear hF hMay hMem hyes hno hP hL hheaps
    go_upto_region 9 with (go_at_call 140; refine Calls.mono HF.out.2.2.1 ?_; rintro r4 w4 ⟨u, rfl, hu, hb4⟩; obtain ⟨au, cu, hve⟩ := row_shape hu; obtain ⟨M, hM⟩ : ∃ M, M = (s1.mem bl).length := ⟨_, rfl⟩; rw [<- hM] at hve; subst hve; have H4 : Hid _ := And.intro hu (And.intro hb4 hM); clear hu hb4 hM)
    have hT4 := HF.out.1.told.below H4.out.2.1
    have hR4 := HF.out.1.run.below H4.out.2.1
    have hM1 : M <= 1000 := by
     rw [H4.out.2.2, mem_len HF.out.1.run.ok HF.out.2.1.1]
     have h1 := HF.out.1.run.ok.iv bl HF.out.2.1.1
     have h2 := HF.out.1.run.ok.n1
     omega
    obtain ⟨aT, cT, hvT⟩ := row_shape hT4.row
    have t1 : w4.cell? ⟨tb, 1, none⟩ = some vT := cell0_of hT4.box rfl
    have tf := blk_free hT4.box 1
    obtain ⟨N, hN⟩ : ∃ N, N = tk.length := ⟨_, rfl⟩
    have hNl : N <= 1001 := by
     have h1 := HF.out.1.hist.inv.len
     have h2 := HF.out.2.2.2
     have h3 := H3.out.2.2.2.2.1
     rw [List.length_map] at h1
     omega
    have hrow4 : w4.ownsRow w2.heap.size 57 1 vT N (tk.map (·.1)) := by rw [hN]; exact hT4.row
    have hml : N + 1 <= maxLen := by unfold maxLen; omega
    have hby : (N + 1) * 24 <= 140737488355328 := by omega
    have hle : w2.heap.size <= (w4.alloc (.cells #[.slice au M cu] 57)).heap.size := by
     have h1 := hT4.up
     have h2 := t_lt hT4.box
     rw [World.size_alloc]
     omega
    rw [<- hN] at hvT
    subst hvT
    have H5 : Hid _ := And.intro hT4 (And.intro hR4 (And.intro hN (And.intro hrow4 (World.size_alloc w4 (.cells #[.slice au M cu] 57)))))
    clear hT4 hR4 hN hrow4
    go_upto_region 10 with (at_builtin; refine wpList_append_own_at _ rfl _ _ 34 rfl w2.heap.size 57 i0 (.slice none 0 0) 1 24 Tryz.underlying34 hi0 hz0 hz1 hz2 rfl (by decide) (.slice aT N cT) N (tk.map (·.1)) rfl (H5.out.2.2.2.1.alloc _) ⟨w4.heap.size, 0, none⟩ 1 1 [.slice au M cu] rfl rfl (World.news_of_block (cs := #[.slice au M cu]) (t := 57) (fr := (0, 0)) (heap_alloc_new w4 _)) (by simp [Value.oneCell']) hml hby hle ?_; intro v7 w7 hO7 hg7 hnil7 hat7; obtain ⟨a7, c7, hv7⟩ := row_shape hO7; subst hv7; have t7 : w7.cell? ⟨tb, 1, none⟩ = some (.slice aT N cT) := (World.cell?_of_block (a := ⟨tb, 1, none⟩) ((grown_alloc hg7).block tb (t_lt H5.out.1.box) (fun e => own_bk H5.out.1.row H5.out.1.box (by decide) e))).trans t1; have tf7 : w7.frozen? ⟨tb, 1, none⟩ = false := (World.frozen?_of_block ((grown_alloc hg7).block tb (t_lt H5.out.1.box) (fun e => own_bk H5.out.1.row H5.out.1.box (by decide) e))).trans tf; have H7 : Hid _ := And.intro hO7 (And.intro hg7 hat7); clear hO7 hg7 hnil7 hat7)
    obtain ⟨w8, hw8⟩ : ∃ w8, w8 = w7.setCell ⟨tb, 1, none⟩ (.slice a7 (N + 1) c7) := ⟨_, rfl⟩
    rw [<- hw8]
    have hT8 : Told w8 w2.heap.size tb (.slice a7 (N + 1) c7) (.slice (some ⟨gb, 0, none⟩) m m) (gOf G.n (gz1 (tk.map (·.2)))) (tk ++ [(.slice au M cu, s1.mem bl)]) /\ Kept (fun b => b = tb \/ (Value.slice aT N cT).ownBlock = some b) w4 w8 /\ OwnI w8 w2.heap.size (.slice au M cu) (s1.mem bl) := by
     rw [hw8]
     have h2 : w2.heap.size <= wo.heap.size := Nat.le_trans HF.out.1.told.up (Nat.le_of_lt (t_lt HF.out.1.told.box))
     have h3 := H7.out.2.2
     rw [H5.out.2.2.2.2] at h3
     have h4 : OwnI w4 w2.heap.size (.slice au M cu) (s1.mem bl) := row_base H4.out.1 h2
     refine H5.out.1.tell h4 (fun b hb hf => ?_) (by rw [H5.out.2.2.1]) H7.out.1 H7.out.2.1 h3
     have h5 := (H4.out.1.lt b hb).1
     have h6 := (HF.out.1.told.q.lt hf).2
     omega
    have hR8 : RunAt w0 w8 r g p mb nm1 G s1 x1 := H5.out.2.1.kept hT8.2.1 fun b hb => told_far (wS := w2) H5.out.2.1 H5.out.1 HF.out.1.lo H3.out.2.2.2.2.2.2.1 b hb
    have hbl8 : ∀ b, x1.foot b -> b < wo.heap.size := fun b hb => (HF.out.1.run.m.foot_lt hb).2
    have H8 : Hid _ := And.intro hT8 (And.intro hR8 hbl8)
    clear hT8 hR8 hw8 t7 tf7 t1 tf hml hby hle hbl8
    go_wp2_with fail
    go_loopg [46] M (fun q iv wr => ∃ (i : Nat) (f : Nat -> Int), q = M - i /\ i <= M /\ iv = .int .i64 i /\ Told wr w2.heap.size tb (.slice a7 (N + 1) c7) (.slice (some ⟨gb, 0, none⟩) m m) (gOf G.n f) (tk ++ [(.slice au M cu, s1.mem bl)]) /\ Kept (fun b => b = gb) w8 wr /\ ∀ e, f e = gz1 (tk.map (·.2)) e + (((s1.mem bl).take i).count (e : Int) : Nat))
    case atStart => exact ⟨0, gz1 (tk.map (·.2)), rfl, Nat.zero_le _, rfl, H8.out.1.1, Kept.refl _ _, fun e => by simp⟩
    case round =>
     obtain ⟨i, f, rfl, hi, rfl, hT, hKp, hf⟩ := hrel
     have hgT : gb < w4.heap.size /\ wo.heap.size <= w4.heap.size := by
      refine ⟨?_, H4.out.2.1.size⟩
      have h1 := H5.out.1.q.lt (b := gb) ⟨_, List.mem_cons_self, rfl⟩
      exact h1.2
     have hgo : gb < wo.heap.size := (HF.out.1.told.q.lt (b := gb) ⟨_, List.mem_cons_self, rfl⟩).2
     by_cases hlt : i < M
     ·have q0 : (0 : Int) <= (i : Int) := by omega
      have q1 : (i : Int) < (M : Int) := by omega
      obtain ⟨z, hz⟩ : ∃ z, (s1.mem bl)[i]? = some z := ⟨(s1.mem bl)[i]'(by rw [<- H4.out.2.2]; exact hlt), List.getElem?_eq_getElem _⟩
      obtain ⟨e, he, hOe, rfl⟩ := mem_mem.1 (List.mem_of_getElem? hz)
      have hem : e < m := by have := HF.out.1.run.n; have := H3.out.2.2.2.2.1; omega
      have hOw : OwnI wr w2.heap.size (.slice au M cu) (s1.mem bl) := own_up H8.out.1.2.2 hKp fun b hb e9 => by
       have h5 := (H4.out.1.lt b hb).1
       omega
      obtain ⟨gs, rfl, hce⟩ := own_num hOw hz
      have t2 : wr.cell? ⟨tb, 2, none⟩ = some (.slice (some ⟨gb, 0, none⟩) m m) := cell0_of hT.box rfl
      have hge : (gOf G.n f)[e]? = some (f e) := gOf_at (by rw [H3.out.2.2.2.2.1]; exact hem)
      obtain ⟨gc, gf⟩ := Que.cellAt (hT.q.q 0 _ rfl) hge
      rw [Nat.zero_add] at gc gf
      have hfe := hf e
      have hgz : gz1 (tk.map (·.2)) e <= 1001 /\ 0 <= gz1 (tk.map (·.2)) e := by
       have h1 := List.countP_le_length (p := fun m : List Int => decide ((e : Int) ∈ m)) (l := tk.map (·.2))
       rw [List.length_map] at h1
       have h2 := H5.out.2.2.1
       unfold gz1
       omega
      have hct := List.count_le_length (a := (e : Int)) (l := (s1.mem bl).take i)
      rw [List.length_take] at hct
      obtain ⟨y, hy⟩ : ∃ y, y = f e := ⟨_, rfl⟩
      rw [<- hy] at gc hfe
      have pw : IntKind.i64.wrap (y + 1) = y + 1 := wrap_small (by omega) (by omega)
      have r0 : (0 : Int) <= (e : Int) := by omega
      have r1 : (e : Int) < (m : Int) := by omega
      have hB := hT.bump (k := e) (n := gb) (by rw [gOf_len, H3.out.2.2.2.2.1]; exact hem) (y + 1) rfl
      rw [gOf_set] at hB
      have hf2 : ∀ e2, (if e2 = e then y + 1 else f e2) = gz1 (tk.map (·.2)) e2 + (((s1.mem bl).take (i + 1)).count (e2 : Int) : Nat) := fun e2 => by
       rw [take_succ_of hz, List.count_append, List.count_singleton]
       by_cases h1 : e2 = e
       ·subst h1
        rw [if_pos rfl, hfe]
        simp
        omega
       ·rw [if_neg h1, hf e2]
        have h2 : ((e : Int) == (e2 : Int)) = false := by simp; omega
        rw [h2]
        simp
      have HB : Hid _ := And.intro hB (And.intro hf2 hKp)
      clear hT hKp hf hOw hge hfe hy hB hf2 hz hgT hgo he hOe hgz hct
      go_wp2_with fail
      go_roundg (M - (i + 1))
      case measure => omega
      case rel => exact ⟨i + 1, _, rfl, by omega, by go_num, HB.out.1.1, HB.out.2.2.trans HB.out.1.2, HB.out.2.1⟩
     ·obtain rfl : i = M := by omega
      have q1 : ¬ (i : Int) < (i : Int) := by omega
      have hfarg : ∀ b, b = gb -> w0.heap.size <= b /\ b ≠ p /\ b ≠ r /\ b ≠ mb /\ ¬ x1.foot b := fun b e => by
       have h1 := (HF.out.1.told.q.lt (b := gb) ⟨_, List.mem_cons_self, rfl⟩).1
       have h2 := HF.out.1.lo
       have h3 := H3.out.2.2.2.2.2.2.1
       refine ⟨by omega, by omega, by omega, by omega, fun hb => HF.out.1.far b hb ?_⟩
       rw [e]
       exact ⟨_, List.mem_cons_self, rfl⟩
      have hRW := H8.out.2.1.kept hKp hfarg
      have hTW : Told wr w2.heap.size tb (.slice a7 (N + 1) c7) (.slice (some ⟨gb, 0, none⟩) m m) (gOf G.n (gz1 ((tk ++ [(Value.slice au i cu, s1.mem bl)]).map (·.2)))) (tk ++ [(.slice au i cu, s1.mem bl)]) := by
       have h1 : gOf G.n f = gOf G.n (gz1 ((tk ++ [(Value.slice au i cu, s1.mem bl)]).map (·.2))) := gOf_congr fun e _ => by
        rw [hf e, List.map_append]
        show _ = gz1 (tk.map (·.2) ++ [s1.mem bl]) e
        rw [gz1_snoc _ _ (mem_nodup s1 bl), H4.out.2.2, List.take_length]
       rw [<- h1]
       exact hT
      have hfW : ∀ b, x1.foot b -> ¬ Foot ((Value.slice (some ⟨gb, 0, none⟩) m m, gOf G.n (gz1 ((tk ++ [(Value.slice au i cu, s1.mem bl)]).map (·.2)))) :: (tk ++ [(Value.slice au i cu, s1.mem bl)])) b := fun b hb hf2 => by
       obtain ⟨z, hz, hzb⟩ := hf2
       rcases List.mem_cons.1 hz with rfl | hz
       ·exact HF.out.1.far b hb ⟨_, List.mem_cons_self, hzb⟩
       ·rcases List.mem_append.1 hz with hz | hz
        ·exact HF.out.1.far b hb ⟨z, List.mem_cons_of_mem _ hz, hzb⟩
        ·rw [List.mem_singleton.1 hz] at hzb
         have h1 := (H4.out.1.lt b hzb).1
         have h2 := H8.out.2.2 b hb
         omega
      have hkl : x1.ks.length <= 100000 := by have := HF.out.2.2.2; have := H3.out.2.2.2.2.1; omega
      have hTk := take_any w0 r g p mb nm1 G s1 x1 bl wr hRW HF.out.2.1.1 (by have := HF.out.1.nmb; have := HF.out.2.2.2; have := H3.out.2.2.2.2.1; omega) hkl
      have HW : Hid _ := And.intro hRW (And.intro hTW (And.intro hfW hTk))
      clear hT hKp hf hfarg hRW hTW hfW hkl hTk hgT hgo
      go_upto_region 7 with (go_at_call 141; refine Calls.mono HW.out.2.2.2 ?_; rintro r9 w9 ⟨rfl, nm2, s2, x2, hR9, hA9⟩; have H9 : Hid _ := And.intro hR9 hA9; clear hR9 hA9)
      have hF9 := RfL.take HW.out.1 HW.out.2.1 HW.out.2.2.1 HF.out.1.lo HF.out.1.hist HF.out.1.nmb HF.out.2.1 H9.out.1 H9.out.2
      have hNx := next_all hF9.run
      have hks9 : x2.ks.length = x1.ks.length + 1 := H9.out.2.ks
      have hne9 : tk ++ [(Value.slice au i cu, s1.mem bl)] ≠ [] := by simp
      have H10 : Hid _ := And.intro hF9 (And.intro hNx (And.intro hks9 hne9))
      clear hF9 hNx hks9 hne9
      go_wp2_with (go_at_call 139; refine Calls.mono H10.out.2.1 ?_; rintro r10 w10 ⟨k10, u10, b9, is9, rfl, hN10, hyes9, hno9⟩; have HX : Hid _ := And.intro (H10.out.1.next hN10) (And.intro hyes9 hno9); clear hN10 hyes9 hno9)
      go_roundg (m + 2 - x2.ks.length)
      case measure => have h1 := H10.out.2.2.1; have h2 := HF.out.2.2.2; have h3 := H3.out.2.2.2.2.1; omega
      case rel => exact ⟨nm2, s2, x2.wait k10 u10, _, _, b9, is9, rfl, rfl, rfl, HX.out.1, HX.out.2.1, fun h => .inr ⟨by rw [List.map_append]; simp, HX.out.2.2 h⟩⟩
  | false =>
    have hEnd := hno rfl
    obtain ⟨c, hP, hL⟩ := hF.run.c
    have hCl := classes_all p c s1 w0 wo hP hL hF.run.ok
    have hbw : Below w.heap.size w wo := H1.out.2.1.trans ((H2.out.2.2.2.2.1.trans (hF.run.up.mono H2.out.2.2.2.2.1.size)).mono H1.out.2.1.size)
    have hrc : wo.heap[w.heap.size + 1]? = some (.cells #[.slice none 0 0, .slice none 0 0, .slice none 0 0] 130 (0, 0)) := bup (H2.out.2.2.2.2.1.trans (hF.run.up.mono H2.out.2.2.2.2.1.size)) H1.out.2.2.2.1
    have hne : w.heap.size + 1 ≠ tb := fun e => by
     have h1 := hF.told.up
     have h2 := t_lt H1.out.2.2.2.1
     have h3 := H2.out.2.2.2.2.2.1.size
     omega
    obtain ⟨aT, cT, hvT⟩ := row_shape hF.told.row
    obtain ⟨N, hN⟩ : ∃ N, N = tk.length := ⟨_, rfl⟩
    rw [<- hN] at hvT
    subst hvT
    have c1 := (seven_cells hF.run.m.box).2.1
    have HF : Hid _ := And.intro hF (And.intro hEnd (And.intro hCl (And.intro hbw (And.intro hrc (And.intro hne hN)))))
    clear hF hEnd hCl hyes hno hP hL hbw hrc hne hN
    go_upto_region 17 with (go_at_call 142; refine Calls.mono HF.out.2.2.1 ?_; rintro r5 w5 ⟨u, rfl, hu, hb5⟩; obtain ⟨au, cu, hve⟩ := row_shape hu; obtain ⟨M, hM⟩ : ∃ M, M = (natI (Sy.canon s1.own)).length := ⟨_, rfl⟩; rw [<- hM] at hve; subst hve; have t0 : w5.cell? ⟨tb, 0, none⟩ = some (.slice none 0 0) := cell0_of (HF.out.1.told.below hb5).box rfl; have tf := blk_free (HF.out.1.told.below hb5).box 0; have H5 : Hid _ := And.intro hu (And.intro hb5 hM); clear hu hb5 hM)
    obtain ⟨w6, hw6⟩ : ∃ w6, w6 = w5.setCell ⟨tb, 0, none⟩ (.slice au M cu) := ⟨_, rfl⟩
    rw [<- hw6]
    have hT5 := HF.out.1.told.below H5.out.2.1
    have hbx6 : w6.heap[tb]? = some (.cells #[.slice au M cu, .slice aT N cT, .slice (some ⟨gb, 0, none⟩) m m] 130 (0, 0)) := by rw [hw6]; exact box_put hT5.box _
    have hrc6 : w6.heap[w.heap.size + 1]? = some (.cells #[.slice none 0 0, .slice none 0 0, .slice none 0 0] 130 (0, 0)) := by rw [hw6]; exact (set_other _ _ _ _ _ HF.out.2.2.2.2.2.1).trans (bup H5.out.2.1 HF.out.2.2.2.2.1)
    have hk6 : Kept (fun b => b = tb) w5 w6 := by rw [hw6]; exact Kept.setCell w5 tb 0 _
    have d0 : w6.cell? ⟨tb, 0, none⟩ = some (.slice au M cu) := cell0_of hbx6 rfl
    have d1 : w6.cell? ⟨tb, 1, none⟩ = some (.slice aT N cT) := cell0_of hbx6 rfl
    have d2 : w6.cell? ⟨tb, 2, none⟩ = some (.slice (some ⟨gb, 0, none⟩) m m) := cell0_of hbx6 rfl
    have e0 : w6.cell? ⟨w.heap.size + 1, 0, none⟩ = some (.slice none 0 0) := cell0_of hrc6 rfl
    have e1 : w6.cell? ⟨w.heap.size + 1, 1, none⟩ = some (.slice none 0 0) := cell0_of hrc6 rfl
    have e2 : w6.cell? ⟨w.heap.size + 1, 2, none⟩ = some (.slice none 0 0) := cell0_of hrc6 rfl
    have f0 := blk_free hrc6 0
    have f1 := blk_free hrc6 1
    have f2 := blk_free hrc6 2
    have H6 : Hid _ := And.intro hbx6 (And.intro hrc6 hk6)
    clear hT5 hbx6 hrc6 hk6 hw6 t0 tf
    go_wp2_with fail
    obtain ⟨w7, hw7⟩ : ∃ w7, w7 = ((w6.setCell ⟨w.heap.size + 1, 0, none⟩ (.slice au M cu)).setCell ⟨w.heap.size + 1, 1, none⟩ (.slice aT N cT)).setCell ⟨w.heap.size + 1, 2, none⟩ (.slice (some ⟨gb, 0, none⟩) m m) := ⟨_, rfl⟩
    rw [<- hw7]
    have hbx7 : w7.heap[w.heap.size + 1]? = some (.cells #[.slice au M cu, .slice aT N cT, .slice (some ⟨gb, 0, none⟩) m m] 130 (0, 0)) := by rw [hw7]; exact box_put (box_put (box_put H6.out.2.1 _) _) _
    have hk7 : Kept (fun b => b = w.heap.size + 1) w6 w7 := by rw [hw7]; exact ((Kept.setCell _ _ _ _).trans (Kept.setCell _ _ _ _)).trans (Kept.setCell _ _ _ _)
    have hk57 : Kept (fun b => b = tb \/ b = w.heap.size + 1) w5 w7 := (H6.out.2.2.mono fun _ _ e => .inl e).trans (hk7.mono fun _ _ e => .inr e)
    have hT5 := HF.out.1.told.below H5.out.2.1
    have hrc5 : w5.heap[w.heap.size + 1]? = some (.cells #[.slice none 0 0, .slice none 0 0, .slice none 0 0] 130 (0, 0)) := bup H5.out.2.1 HF.out.2.2.2.2.1
    have hint : ∀ {b : Nat} {cs : Array Value} {t : TypeId}, w5.heap[b]? = some (.cells cs t (0, 0)) -> 130 ≠ t -> ¬ (b = tb \/ b = w.heap.size + 1) := fun {b cs t} hc ht e => by
     rcases e with e | e
     ·exact tne hT5.box hc ht e.symm
     ·exact tne hrc5 hc ht e.symm
    have hbo : Below w.heap.size w wo := HF.out.2.2.2.1
    have hlo2 : w.heap.size <= w2.heap.size := Nat.le_trans H1.out.2.1.size H2.out.2.2.2.2.2.1.size
    clear hw7 d0 d1 d2 e0 e1 e2 f0 f1 f2
    have d0 : w7.cell? ⟨w.heap.size + 1, 0, none⟩ = some (.slice au M cu) := cell0_of hbx7 rfl
    have d1 : w7.cell? ⟨w.heap.size + 1, 1, none⟩ = some (.slice aT N cT) := cell0_of hbx7 rfl
    have d2 : w7.cell? ⟨w.heap.size + 1, 2, none⟩ = some (.slice (some ⟨gb, 0, none⟩) m m) := cell0_of hbx7 rfl
    refine bodyPost_ret (v := .tuple #[.agg #[.slice au M cu, .slice aT N cT, .slice (some ⟨gb, 0, none⟩) m m], .nilIface]) ?_ rfl ?_
    ·rw [results_cell_tmp rfl]
     go_simp
    ·refine ⟨_, _, _, G, tk, s1.O, rfl, H2.out.2.2.1, ?_, ?_, ?_, HF.out.1.told.fl, fun b hb hf => ?_, ⟨hOf s1 x1, x1.ks.length, HF.out.1.hist, HF.out.2.1⟩, ?_⟩
     ·have h1 := own_up H5.out.1 hk57 fun b hb => by obtain ⟨cs, hc⟩ := row_cells H5.out.1 hb; exact hint hc (by decide)
      have h2 : s1.own = (List.range G.n).map fun e : Nat => (s1.O e : Int) := by unfold Pst.own; rw [HF.out.1.run.n]
      rw [<- h2]
      exact row_base h1 hbo.size
     ·have h1 := own_up hT5.row hk57 fun b hb => by obtain ⟨cs, hc⟩ := row_cells hT5.row hb; exact hint hc (by decide)
      exact row_base h1 hlo2
     ·exact (hT5.q.kept hk57 fun b hb => by obtain ⟨cs, hc⟩ := hT5.q.typed hb; exact hint hc (by decide)).base hlo2
     ·have h1 := (H5.out.1.lt b hb).1
      have h2 := (HF.out.1.told.q.lt hf).2
      omega
     ·have h1 : Below w.heap.size w w5 := hbo.trans (H5.out.2.1.mono hbo.size)
      exact h1.trans (hk57.below h1.size fun b e => by
       have h2 := HF.out.1.told.up
       rcases e with e | e <;> omega)
end
section
namespace Sg
theorem seen_more (l : List Int) : ∀ seen, Sy.seenG seen l = l.foldl (fun s c => Ro.more c s) seen := by
 have hp : ∀ (c : Int) (l : List Int), Sy.place c l = Ro.place c l := fun c l => by
  induction l with
  | nil => rfl
  | cons a r ih => simp only [Sy.place, Ro.place, ih]
 induction l with
 | nil => intro seen; rfl
 | cons c r ih =>
   intro seen
   simp only [Sy.seenG, List.foldl_cons, ih, hp]
   congr 1
   unfold Ro.more
   by_cases h : c ∈ seen
   ·rw [if_pos h, if_pos (Ro.place_lt.2 h)]
   ·rw [if_neg h, if_neg (fun h1 => h (Ro.place_lt.1 h1))]
theorem canon_num (l : List Int) : Sy.canon l = Ro.num l := by
 have hp : ∀ (c : Int) (l : List Int), Sy.place c l = Ro.place c l := fun c l => by
  induction l with
  | nil => rfl
  | cons a r ih => simp only [Sy.place, Ro.place, ih]
 rw [Sy.canon_map, seen_more]
 unfold Ro.num
 exact List.map_congr_left fun z _ => hp z _
theorem canon_nat (l : List Nat) : Sy.canon (l.map fun e : Nat => (e : Int)) = Ro.num l := by
 rw [canon_num]
 refine Ro.num_congr (by simp) fun i j x y u v hx hy hu hv => ?_
 rw [List.getElem?_map, hu] at hx
 rw [List.getElem?_map, hv] at hy
 cases hx; cases hy
 exact Int.ofNat_inj
end Sg
end
section
open Go.RowKit Go.Maps
attribute [local go_sem ↓] Go.wp_at_zero Go.wp_at_succ
theorem Chain.keptF {w w' : World} {l c : Int} {a : Addr} {F : Nat -> Prop} (hk : Kept F w w') (hF : ∀ (b : Nat) (cs : Array Value), w.heap[b]? = some (.cells cs 95 (0, 0)) -> ¬ F b) : ∀ {ls : List ByteArray} {v : Value}, Chain w l c a ls v -> Chain w' l c a ls v
 | [], _, h => h
 | _ :: _, _, ⟨b, u, e, hb, h⟩ => ⟨b, u, e, (hk.block b (t_lt hb) (hF b _ hb)).trans hb, Chain.keptF hk hF h⟩
def strB : ByteArray := ⟨#[115, 116, 114, 111, 110, 103]⟩
namespace Sg
theorem end_classes {G : Gp} {tk : List (List Int)} {O : Nat -> Nat} {H : Nat -> Int} {h R : Nat} (hr : Sy.right G.n (G.kk : Int) G.st G.es = true) (hR : Ro.Last G.n (outG G) R) (hh : Hist G tk O H h) (he : EndAt G tk O H) : Sy.canon ((List.range G.n).map fun e : Nat => (O e : Int)) = Ro.rnd G.n (outG G) R := by
 have h1 : ((List.range G.n).map fun e : Nat => (O e : Int)) = ((List.range G.n).map O).map fun e : Nat => (e : Int) := by rw [List.map_map]; rfl
 rw [h1, canon_nat]
 rcases he with ⟨h0, _⟩ | ⟨ht, hd⟩
 ·have h2 : (Ro.rnd G.n (outG G) R).length = 0 := by rw [Ro.rnd_len, h0]
  rw [List.length_eq_zero_iff.1 h2, h0]
  rfl
 ·exact hh.ends hr hR ht hd
end Sg
set_option linter.unusedSimpArgs false in
set_option maxRecDepth 100000 in
set_option maxHeartbeats 4000000 in
theorem sclasses_ok (hS : SortOk 1000000) (m kk : Nat) (s : Int) (v : Value) (es : List Sy.Ed) (a : Addr) (w : World) (hA : Sent w 11 a) (hv : BEdges.Has w v es) (hm : es.length <= 100000) (hq : Sy.right m kk s es = true) :
 Calls Tryz.prog 29 #[sysV m kk s v] w fun e w' => ∃ (u : Value) (R : Nat), e = .returned (.tuple #[u, .nilIface]) /\ Ro.Last m (fun i => Sy.rowOf m (Sy.nf es) (i : Int)) R /\ OwnI w' w.heap.size u (natI (Ro.rnd m (fun i => Sy.rowOf m (Sy.nf es) (i : Int)) R)) /\ Below w.heap.size w w' := by
 obtain ⟨R, hR⟩ := Ro.exists_last m (fun i => Sy.rowOf m (Sy.nf es) (i : Int))
 have hv0 := hv
 obtain ⟨ao, cap, rfl, _⟩ := hv0
 obtain ⟨L, hL⟩ : ∃ L, L = es.length := ⟨_, rfl⟩
 obtain ⟨w1, hw1⟩ : ∃ w1, w1 = w.alloc (.cells #[.int .i64 m, .int .i64 kk, .int .i64 s, .slice ao L cap] 24) := ⟨_, rfl⟩
 have hb1 : Below w.heap.size w w1 := by rw [hw1]; exact (Below.refl _ _).alloc (Nat.le_refl _) _
 have hg1 : w1.heap[w.heap.size]? = some (.cells #[.int .i64 m, .int .i64 kk, .int .i64 s, .slice ao L cap] 24 (0, 0)) := by rw [hw1]; exact heap_alloc_new w _
 have hRf := (refine_ok hS m kk s _ es a w1 (hA.below hb1) (hv.below hb1) hm hq).mono (R' := fun e w' => ∃ (u vT vG : Value), e = .returned (.tuple #[.agg #[u, vT, vG], .nilIface]) /\ OwnI w' w1.heap.size u (natI (Ro.rnd m (fun i => Sy.rowOf m (Sy.nf es) (i : Int)) R)) /\ (∃ a n c, vT = .slice a n c) /\ (∃ a n c, vG = .slice a n c) /\ Below w1.heap.size w1 w') fun e w' ⟨u, vT, vG, G, tk, O, he, ⟨g1, g2, g3, g4⟩, hA⟩ => by
  obtain ⟨H, h, hh, hE⟩ := hA.hist
  have hr : Sy.right G.n (G.kk : Int) G.st G.es = true := by rw [g1, g2, g3, g4]; exact hq
  have hR2 : Ro.Last G.n (Sg.outG G) R := by unfold Sg.outG; rw [g1, g4]; exact hR
  have h1 := hA.cls
  rw [Sg.end_classes hr hR2 hh hE] at h1
  unfold Sg.outG at h1
  rw [g1, g4] at h1
  obtain ⟨a1, c1, e1⟩ := row_shape hA.row
  obtain ⟨a2, c2, e2, _⟩ := (hA.q.q 0 _ rfl).shape
  exact ⟨u, vT, vG, he, h1, ⟨_, _, _, e1⟩, ⟨_, _, _, e2⟩, hA.bl⟩
 rw [<- hL] at hRf ⊢
 unfold sysV at hRf ⊢
 obtain ⟨cl, hcl⟩ : ∃ cl, cl = natI (Ro.rnd m (fun i => Sy.rowOf m (Sy.nf es) (i : Int)) R) := ⟨_, rfl⟩
 rw [<- hcl] at hRf
 obtain ⟨x0, x1, x2, x3⟩ := four_cellsB hg1
 have H1 : Hid _ := And.intro hRf (And.intro hR (And.intro hcl (And.intro hb1 hw1)))
 clear hRf hR hcl hA hv hm hq hb1 hw1 hg1 hL
 go_enter Tryz.func29, Tryz.ntmps29
 go_upto_region 1 with fail
 rw [<- H1.out.2.2.2.2]
 go_wp2_with (go_at_call 94; refine Calls.mono H1.out.1 ?_; rintro r2 w2 ⟨u, vT, vG, rfl, hu, ⟨aT, nT, cT, rfl⟩, ⟨aG, nG, cG, rfl⟩, hb2⟩; obtain ⟨au, cu, hve⟩ := row_shape hu; obtain ⟨M, hM⟩ : ∃ M, M = cl.length := ⟨_, rfl⟩; rw [<- hM] at hve; subst hve; have H2 : Hid _ := And.intro hu (And.intro hb2 hM); clear hu hb2 hM)
 go_ret2
 have hb3 : Below w2.heap.size w2 (w2.alloc (.cells #[.slice au M cu, .slice aT nT cT, .slice aG nG cG] 130)) := (Below.refl _ _).alloc (Nat.le_refl _) _
 have hb13 := H2.out.2.1.trans (hb3.mono H2.out.2.1.size)
 refine ⟨_, R, rfl, H1.out.2.1, ?_, H1.out.2.2.2.1.trans (hb13.mono H1.out.2.2.2.1.size)⟩
 rw [<- H1.out.2.2.1]
 exact row_base (trow_at H2.out.1 fun b hb => hb3.block b (H2.out.1.lt b hb).2) H1.out.2.2.2.1.size
end
section
open Go.RowKit Go.Maps
attribute [local go_sem ↓] Go.wp_at_zero Go.wp_at_succ
theorem satd_ok (m kk : Nat) (s : Int) (ao : Option Addr) (cap : Nat) (es : List Sy.Ed) (w W : World) (gt : Nat) (ge gw : Nat -> Nat) (hq : Sy.right m kk s es = true) (hn : m <= 300) (hsz : (Wk.sat es m kk).length <= 10000) (hTb : TabW W) (hT : Tbl W w.heap.size gt kk m (Br.wds m) ge gw fun a => Wk.tbl es m a) :
 Calls Tryz.prog 37 #[.slice (some ⟨gt, 0, none⟩) kk kk, .agg #[.int .i64 m, .int .i64 kk, .int .i64 s, .slice ao es.length cap]] W fun r w' => ∃ u, r = .returned (.tuple #[.agg #[.int .i64 m, .int .i64 kk, .int .i64 s, u], .nilIface]) /\ BEdges.Own w' W.heap.size u (Wk.sat es m kk) /\ Below W.heap.size W w' := by
 have hI := Wk.in_right hq
 have hk : kk <= 201 := by unfold Sy.right at hq; simp only [Bool.and_eq_true, decide_eq_true_eq] at hq; omega
 exact saturated_ok m kk s ao es.length cap W w.heap.size gt kk m (Br.wds m) ge gw (fun a => Wk.tbl es m a) rfl rfl hn hk hT hTb (fun a p q _ hp h => Wk.tbl_in hI hp h) (by rw [<- sat_len]; exact hsz)
set_option linter.unusedSimpArgs false in
set_option maxRecDepth 100000 in
set_option maxHeartbeats 8000000 in
theorem saturate_ok (m kk : Nat) (s : Int) (v : Value) (es : List Sy.Ed) (a : Addr) (w : World) (hA : Sent w 11 a) (hT : TabW w) (hv : BEdges.Has w v es) (hq : Sy.right m kk s es = true) (hn : m <= 300) (hsz : (Wk.sat es m kk).length <= 10000) :
 Calls Tryz.prog 14 #[sysV m kk s v] w fun r w' => ∃ u, r = .returned (.tuple #[sysV m kk s u, .nilIface]) /\ BEdges.Own w' w.heap.size u (Wk.sat es m kk) /\ Below w.heap.size w w' := by
 have hv0 := hv
 obtain ⟨ao, cap, rfl, _⟩ := hv0
 obtain ⟨L, hL⟩ : ∃ L, L = es.length := ⟨_, rfl⟩
 obtain ⟨w1, hw1⟩ : ∃ w1, w1 = (w.alloc (.cells #[.int .i64 m, .int .i64 kk, .int .i64 s, .slice ao L cap] 24)).alloc (.cells #[.int .i64 0, .int .i64 0, .int .i64 0, .slice none 0 0] 24) := ⟨_, rfl⟩
 have hb1 : Below w.heap.size w w1 := by rw [hw1]; exact ((Below.refl _ _).alloc (Nat.le_refl _) _).alloc (by simp) _
 have hg1 : w1.heap[w.heap.size]? = some (.cells #[.int .i64 m, .int .i64 kk, .int .i64 s, .slice ao L cap] 24 (0, 0)) := by rw [hw1, Below.heap_alloc _ _ _ (by simp)]; exact heap_alloc_new w _
 have hg2 : w1.heap[w.heap.size + 1]? = some (.cells #[.int .i64 0, .int .i64 0, .int .i64 0, .slice none 0 0] 24 (0, 0)) := by rw [hw1]; exact two_alloc w _ _
 have hN := tableOf_ok m kk s _ es a w1 (hA.below hb1) (hv.below hb1) hq hn
 have hSd := fun (W : World) (gt : Nat) (ge gw : Nat -> Nat) (hb : Below w.heap.size w W) (hTb : Tbl W w1.heap.size gt kk m (Br.wds m) ge gw fun a => Wk.tbl es m a) => satd_ok m kk s ao cap es w1 W gt ge gw hq hn hsz (hT.below hT.lt hb) hTb
 rw [<- hL] at hN hSd ⊢
 unfold sysV at hN ⊢
 obtain ⟨x0, x1, x2, x3⟩ := wk_cells hg1
 have H1 : Hid _ := And.intro hN (And.intro hb1 (And.intro hw1 (And.intro hSd (And.intro hg1 hg2))))
 clear hA hT hv hq hN hb1 hw1 hL hSd hg1 hg2 hsz
 go_enter Tryz.func14, Tryz.ntmps14
 go_upto_region 1 with fail
 rw [<- H1.out.2.2.1]
 go_wp2_with fail
 refine Calls.mono H1.out.1 ?_
 rintro r w2 ⟨gt, ge, gw, rfl, hTb, hb2⟩
 have hSd := H1.out.2.2.2.1 w2 gt ge gw (wk_bel hb2 H1.out.2.1) hTb
 have H2 : Hid _ := And.intro hb2 hSd
 clear hTb hSd x0 x1 x2 x3
 obtain ⟨x0, x1, x2, x3⟩ := wk_cells (wk_res hb2 H1.out.2.2.2.2.1)
 clear hb2
 go_wp2_with fail
 refine Calls.mono H2.out.2 ?_
 rintro r w3 ⟨u, rfl, hO, hb3⟩
 obtain ⟨NL, hNL⟩ : ∃ NL, NL = (Wk.sat es m kk).length := ⟨_, rfl⟩
 unfold BEdges.Own at hO
 rw [<- hNL] at hO
 have HNL : Hid _ := hNL
 obtain ⟨au, cu, rfl⟩ := row_shape hO
 have hg3 := wk_res hb3 (wk_res H2.out.1 H1.out.2.2.2.2.2)
 obtain ⟨t0, t1, t2, t3⟩ := wk_cells hg3
 have z0 := blk_free hg3 0
 have z1 := blk_free hg3 1
 have z2 := blk_free hg3 2
 have z3 := blk_free hg3 3
 have H3 : Hid _ := And.intro hO (And.intro (wk_bel hb3 (wk_bel H2.out.1 H1.out.2.1)) (And.intro hg3 (Nat.le_trans H1.out.2.1.size H2.out.1.size)))
 clear hO hb3 hg3 x0 x1 x2 x3 hNL
 go_wp2_with fail
 have hgf := four_set (a0 := .int .i64 m) (a1 := .int .i64 kk) (a2 := .int .i64 s) (a3 := .slice au NL cu) H3.out.2.2.1
 have hbf := four_below H3.out.2.1 (b := w.heap.size + 1) (by omega) (.int .i64 m) (.int .i64 kk) (.int .i64 s) (.slice au NL cu)
 have hkf := (((Kept.setCell w3 (w.heap.size + 1) 0 (.int .i64 m)).trans (Kept.setCell _ (w.heap.size + 1) 1 (.int .i64 kk))).trans (Kept.setCell _ (w.heap.size + 1) 2 (.int .i64 s))).trans (Kept.setCell _ (w.heap.size + 1) 3 (.slice au NL cu))
 have hof := own_up H3.out.1 hkf fun b hb e => by
  subst e
  exact own_bk H3.out.1 H3.out.2.2.1 (by decide) hb
 generalize ((((w3.setCell ⟨w.heap.size + 1, 0, none⟩ (.int .i64 m)).setCell ⟨w.heap.size + 1, 1, none⟩ (.int .i64 kk)).setCell ⟨w.heap.size + 1, 2, none⟩ (.int .i64 s)).setCell ⟨w.heap.size + 1, 3, none⟩ (.slice au NL cu)) = wf at hgf hbf hkf hof ⊢
 obtain ⟨c0, c1, c2, c3⟩ := wk_cells hgf
 refine bodyPost_ret (v := .tuple #[.agg #[.int .i64 m, .int .i64 kk, .int .i64 s, .slice au NL cu], .nilIface]) (by simp [results, Tryz.results14, go_sem, c0, c1, c2, c3]) rfl ⟨.slice au NL cu, rfl, ?_, hbf⟩
 unfold BEdges.Own
 rw [<- HNL.out]
 exact row_base hof H3.out.2.2.2
theorem Tryz.eqNilErrW (v : Value) (w : World) : (binOp BinOp.eql 48 .nilIface (.iface 311 v)).run Tryz.prog w = .ok (.bool false) w := by kernel_rfl
set_option maxRecDepth 100000 in
set_option maxHeartbeats 1000000 in
theorem wis_nil (v : Value) (w : World) : Calls Tryz.prog 28 #[.nilIface, .iface 311 v] w fun e w' => e = .returned (.bool false) /\ w' = w := by
 have hq := Tryz.eqNilErrW v
 go_enter Tryz.func28, Tryz.ntmps28
 go_wp2
 go_ret
 exact ⟨rfl, rfl⟩
set_option linter.unusedSimpArgs false in
set_option maxRecDepth 100000 in
set_option maxHeartbeats 8000000 in
theorem wclasses_ok (hS : SortOk 1000000) (m kk : Nat) (s : Int) (v : Value) (es : List Sy.Ed) (a aE : Addr) (w : World) (hA : Sent w 11 a) (hE : Sent w 0 aE) (hT : TabW w) (hv : BEdges.Has w v es) (hq : Sy.right m kk s es = true) (hn : m <= 300) (hsz : (Wk.sat es m kk).length <= 10000) :
 Calls Tryz.prog 24 #[sysV m kk s v] w fun r w' => ∃ u R, r = .returned (.tuple #[u, .nilIface]) /\ Ro.Last m (fun i => Sy.rowOf m (Sy.nf (Wk.sat es m kk)) (i : Int)) R /\ OwnI w' w.heap.size u (natI (Ro.rnd m (fun i => Sy.rowOf m (Sy.nf (Wk.sat es m kk)) (i : Int)) R)) /\ Below w.heap.size w w' := by
 have hv0 := hv
 obtain ⟨ao, cap, rfl, _⟩ := hv0
 obtain ⟨L, hL⟩ : ∃ L, L = es.length := ⟨_, rfl⟩
 obtain ⟨w1, hw1⟩ : ∃ w1, w1 = w.alloc (.cells #[.int .i64 m, .int .i64 kk, .int .i64 s, .slice ao L cap] 24) := ⟨_, rfl⟩
 have hb1 : Below w.heap.size w w1 := by rw [hw1]; exact (Below.refl _ _).alloc (Nat.le_refl _) _
 have hg1 : w1.heap[w.heap.size]? = some (.cells #[.int .i64 m, .int .i64 kk, .int .i64 s, .slice ao L cap] 24 (0, 0)) := by rw [hw1]; exact heap_alloc_new w _
 have hN := tableOf_ok m kk s _ es a w1 (hA.below hb1) (hv.below hb1) hq hn
 have hSd := fun (W : World) (gt : Nat) (ge gw : Nat -> Nat) (hb : Below w.heap.size w W) (hTb : Tbl W w1.heap.size gt kk m (Br.wds m) ge gw fun a => Wk.tbl es m a) => satd_ok m kk s ao cap es w1 W gt ge gw hq hn hsz (hT.below hT.lt hb) hTb
 have hSc := fun (W : World) (u : Value) (hb : Below w.heap.size w W) (hu : BEdges.Has W u (Wk.sat es m kk)) => sclasses_ok hS m kk s u (Wk.sat es m kk) a W (hA.below hb) hu (by omega) (Wk.sat_right hq hsz)
 rw [<- hL] at hN hSd ⊢
 unfold sysV at hN hSc ⊢
 obtain ⟨x0, x1, x2, x3⟩ := wk_cells hg1
 have H1 : Hid _ := And.intro hN (And.intro hb1 (And.intro hw1 (And.intro hSd (And.intro hg1 (And.intro hSc hE)))))
 clear hA hT hv hq hN hb1 hw1 hL hSd hg1 hsz hSc hE
 go_enter Tryz.func24, Tryz.ntmps24
 go_upto_region 1 with fail
 rw [<- H1.out.2.2.1]
 go_wp2_with fail
 refine Calls.mono H1.out.1 ?_
 rintro r w2 ⟨gt, ge, gw, rfl, hTb, hb2⟩
 have hSd := H1.out.2.2.2.1 w2 gt ge gw (wk_bel hb2 H1.out.2.1) hTb
 have H2 : Hid _ := And.intro hb2 hSd
 clear hTb hSd x0 x1 x2 x3
 obtain ⟨x0, x1, x2, x3⟩ := wk_cells (wk_res hb2 H1.out.2.2.2.2.1)
 clear hb2
 go_wp2_with fail
 refine Calls.mono H2.out.2 ?_
 rintro r w3 ⟨u, rfl, hO, hb3⟩
 obtain ⟨NL, hNL⟩ : ∃ NL, NL = (Wk.sat es m kk).length := ⟨_, rfl⟩
 have hOu := hO
 unfold BEdges.Own at hOu
 rw [<- hNL] at hOu
 obtain ⟨au, cu, rfl⟩ := row_shape hOu
 obtain ⟨w4, hw4⟩ : ∃ w4, w4 = w3.alloc (.cells #[.int .i64 m, .int .i64 kk, .int .i64 s, .slice au NL cu] 24) := ⟨_, rfl⟩
 have hb4 : Below w3.heap.size w3 w4 := by rw [hw4]; exact (Below.refl _ _).alloc (Nat.le_refl _) _
 have hg4 : w4.heap[w3.heap.size]? = some (.cells #[.int .i64 m, .int .i64 kk, .int .i64 s, .slice au NL cu] 24 (0, 0)) := by rw [hw4]; exact heap_alloc_new w3 _
 have hb04 := wk_bel hb4 (wk_bel hb3 (wk_bel H2.out.1 H1.out.2.1))
 have hO4 : BEdges.Own w4 w1.heap.size (.slice au NL cu) (Wk.sat es m kk) := by
  have h9 : BEdges.Own w3 w1.heap.size (.slice au NL cu) (Wk.sat es m kk) := row_base hO H2.out.1.size
  exact trow_at h9 fun b hb => hb4.block b (h9.lt b hb).2
 have hSc4 := H1.out.2.2.2.2.2.1 w4 (.slice au NL cu) hb04 hO4.has
 have H4 : Hid _ := And.intro hw4 (And.intro hb04 (And.intro hg4 hSc4))
 clear hO hOu hb3 hw4 hb4 hg4 hb04 hO4 hSc4 hNL x0 x1 x2 x3
 go_upto_region 5 with fail
 rw [<- H4.out.1]
 have hs := (H1.out.2.2.2.2.2.2.below H4.out.2.1).1
 go_wp2_with fail
 refine Calls.mono (wis_nil _ _) ?_
 rintro r w5 ⟨rfl, hw5⟩
 obtain rfl := hw5.symm
 clear hw5
 obtain ⟨x0, x1, x2, x3⟩ := wk_cells H4.out.2.2.1
 go_wp2_with fail
 refine Calls.mono H4.out.2.2.2 ?_
 rintro r w6 ⟨uc, R, rfl, hR, hOc, hb6⟩
 obtain ⟨ac, cc, rfl⟩ := row_shape hOc
 obtain ⟨zs, hzs⟩ : ∃ zs, zs = natI (Ro.rnd m (fun i => Sy.rowOf m (Sy.nf (Wk.sat es m kk)) (i : Int)) R) := ⟨_, rfl⟩
 rw [<- hzs] at hOc ⊢
 obtain ⟨NC, hNC⟩ : ∃ NC, NC = zs.length := ⟨_, rfl⟩
 rw [<- hNC] at hOc ⊢
 have H6 : Hid _ := And.intro hR (And.intro hzs (And.intro hOc hb6))
 clear hR hzs hOc hb6 hNC x0 x1 x2 x3
 go_wp2_with fail
 go_ret2
 refine ⟨_, R, rfl, H6.out.1, ?_, H4.out.2.1.trans (H6.out.2.2.2.mono H4.out.2.1.size)⟩
 rw [<- H6.out.2.1]
 exact row_base H6.out.2.2.1 H4.out.2.1.size
end
section
open Go.RowKit Go.Maps
attribute [local go_sem ↓] Go.wp_at_zero Go.wp_at_succ
def rowC (S : Nat -> Bool) (d : Nat) : List Value := (List.range d).map fun i => .int .u64 (Br.wd S i : Nat)
theorem rowC_len (S : Nat -> Bool) (d : Nat) : (rowC S d).length = d := by simp [rowC]
theorem rowC_at {S : Nat -> Bool} {d i : Nat} {u : Value} (h : (rowC S d)[i]? = some u) : i < d /\ u = .int .u64 (Br.wd S i : Nat) := by
 have hl := (List.getElem?_eq_some_iff.1 h).1
 rw [rowC_len] at hl
 refine ⟨hl, ?_⟩
 unfold rowC at h
 rw [List.getElem?_map, List.getElem?_range hl] at h
 simpa using h.symm
theorem rowC_get {S : Nat -> Bool} {d i : Nat} (h : i < d) : (rowC S d)[i]? = some (.int .u64 (Br.wd S i : Nat)) := by
 unfold rowC
 rw [List.getElem?_map, List.getElem?_range h]; rfl
theorem row_of_owns {w : World} {B d : Nat} {v : Value} {S : Nat -> Bool} (h : w.ownsRow B 140 1 v d (rowC S d)) (hd : 0 < d) : ∃ g c, v = rowV g 0 d c /\ RowAt w g 0 d S /\ B <= g := by
 rcases _root_.id h.2 with ⟨_, h0⟩ | ⟨g, cap, cur, rfl, h3, hg, _⟩
 ·omega
 ·refine ⟨g, cap, rfl, ⟨cur, hg, fun i hi => ?_⟩, h3⟩
  have h5 := h.cellAt i (by omega)
  rw [rowC_get hi] at h5
  simp only [World.cell?, hg] at h5
  rw [Nat.zero_add]
  exact h5
theorem Tryz.eqClRow (w : World) (a : Option Addr) (n c n' c' : Nat) : (binOp .eql 82 (.slice a n c) (.slice none n' c')).run Tryz.prog w = .ok (.bool a.isNone) w := Lib.run_eql_slice_nil w _ _ a n c n' c' Tryz.underlying82
set_option maxRecDepth 100000 in
set_option maxHeartbeats 1000000 in
theorem cloneRow_any (b o d c : Nat) (S : Nat -> Bool) (w : World) (hd0 : 0 < d) (hd : d <= 10000) (hR : RowAt w b o d S) :
 Calls Tryz.prog 168 #[rowV b o d c] w fun r w' => ∃ g c', r = .returned (rowV g 0 d c') /\ RowAt w' g 0 d S /\ w.heap.size <= g /\ Below w.heap.size w w' := by
 obtain ⟨i0, hi0, hz0, hz1, hz2⟩ := info_parts Tryz.infoU64
 have hq := Tryz.eqClRow
 have hl := rowC_len S d
 have hcs : ∀ j u, (rowC S d)[j]? = some u -> w.cell? ((⟨b, o, none⟩ : Addr).add j) = some u := fun j u hj => by
  obtain ⟨h1, rfl⟩ := rowC_at hj
  rw [Addr.add_lit]
  exact hR.cell h1
 have A : Aside (∀ j u, (rowC S d)[j]? = some u -> w.cell? ((⟨b, o, none⟩ : Addr).add j) = some u) := hcs
 clear hR hcs
 unfold rowV
 go_enter Tryz.func168, Tryz.ntmps168
 go_wp2_with (at_builtin; refine wpList_append_own _ rfl _ _ 82 rfl w.heap.size 140 i0 (.int .u64 0) 1 8 Tryz.underlying82 hi0 hz0 hz1 hz2 rfl (by decide) _ _ _ rfl (World.ownsRow_made w #[] 0 (Nat.le_refl _) (Nat.zero_le _) (by simp)) ⟨b, o, none⟩ d c (rowC S d) rfl ?qc1 ?qc2 ?qc3 ?qc4 ?qc5 ?qc6 ?_)
 case qc1 => rw [hl]; omega
 case qc2 =>
  intro j u hj
  have h1 := A.out j u hj
  exact (((Below.refl _ w).alloc (Nat.le_refl _) _).cell (World.block_lt_of_cell? w _ h1)).trans h1
 case qc3 =>
  intro u hu
  obtain ⟨j, hj⟩ := List.mem_iff_getElem?.1 hu
  obtain ⟨_, rfl⟩ := rowC_at hj
  rfl
 case qc4 => unfold maxLen; omega
 case qc5 => omega
 case qc6 => simp
 intro v' w1 hown hgrow hnil
 go_wp2
 go_ret
 have h2 : w1.ownsRow w.heap.size 140 1 v' d (rowC S d) := by have := hown; simpa using this
 obtain ⟨g, c', rfl, h3, h4⟩ := row_of_owns h2 hd0
 exact ⟨g, c', rfl, h3, h4, ((Below.refl _ w).alloc (Nat.le_refl _) _).grown hgrow (by simp) (by intro k hk; simp [Value.ownBlock] at hk; omega)⟩
def andS (S T : Nat -> Bool) (i : Nat) : Nat -> Bool := fun q => S q && (T q || !decide (q / 64 < i))
def notS (S T : Nat -> Bool) (i : Nat) : Nat -> Bool := fun q => S q && !(T q && decide (q / 64 < i))
set_option maxRecDepth 100000 in
set_option maxHeartbeats 4000000 in
theorem partedRow_any (b o d c b2 o2 c2 : Nat) (S T : Nat -> Bool) (w : World) (hd0 : 0 < d) (hd : d <= 10000) (hR : RowAt w b o d S) (hT : RowAt w b2 o2 d T) : Calls Tryz.prog 152 #[rowV b o d c, rowV b2 o2 d c2] w fun r w' => ∃ g1 c1 g2 c2', r = .returned (.tuple #[rowV g1 0 d c1, rowV g2 0 d c2']) /\ RowAt w' g1 0 d (fun q => S q && T q) /\ RowAt w' g2 0 d (fun q => S q && !T q) /\ g1 ≠ g2 /\ w.heap.size <= g1 /\ w.heap.size <= g2 /\ Below w.heap.size w w' := by
 have hC1 := cloneRow_any b o d c S w hd0 hd hR
 have HC1 : Hid _ := hC1
 have HR : Hid (RowAt w b o d S /\ RowAt w b2 o2 d T) := And.intro hR hT
 clear hR hT hC1
 unfold rowV at HC1 ⊢
 go_enter Tryz.func152, Tryz.ntmps152
 go_wp2_with fail
 refine Calls.mono HC1.out ?_
 rintro r w1 ⟨g1, c1, rfl, hR1, hu1, hb1⟩
 have hC2 := cloneRow_any b o d c S w1 hd0 hd (HR.out.1.below hb1)
 have H1 : Hid (RowAt w1 g1 0 d S /\ w.heap.size <= g1 /\ Below w.heap.size w w1) := ⟨hR1, hu1, hb1⟩
 have HC2 : Hid _ := hC2
 clear hR1 hu1 hb1 hC2 HC1
 unfold rowV at HC2
 go_wp2_with fail
 refine Calls.mono HC2.out ?_
 rintro r w2 ⟨g2, c2', rfl, hR2, hu2, hb2⟩
 have hne : g1 ≠ g2 := by have := H1.out.1.lt; omega
 have H2 : Hid (RowAt w2 g1 0 d S /\ RowAt w2 g2 0 d S /\ RowAt w2 b2 o2 d T /\ w.heap.size <= g1 /\ w.heap.size <= g2 /\ Below w.heap.size w w2) :=
  ⟨H1.out.1.below hb2, hR2, (HR.out.2.below H1.out.2.2).below hb2, H1.out.2.1, Nat.le_trans H1.out.2.2.size hu2, H1.out.2.2.trans (hb2.mono H1.out.2.2.size)⟩
 have HT : b2 < w.heap.size := HR.out.2.lt
 clear hR2 hu2 hb2 HC2 H1 HR
 go_wp2_with fail
 go_loopg [16] d (fun k iv wr => ∃ i : Nat, k = d - i /\ i <= d /\ iv = .int .i64 i /\ RowAt wr g1 0 d (andS S T i) /\ RowAt wr g2 0 d (notS S T i) /\ Kept (fun g => g = g1 \/ g = g2) w2 wr)
 case atStart => exact ⟨0, rfl, Nat.zero_le _, rfl, H2.out.1.congr fun q _ => by simp [andS], H2.out.2.1.congr fun q _ => by simp [notS], Kept.refl _ _⟩
 case round =>
  obtain ⟨i, rfl, hi, rfl, hA, hB, hK⟩ := hrel
  by_cases hlt : i < d
  ·have hB2 := H2.out.2.2.1.kept hK (by have := H2.out.2.2.2.1; have := H2.out.2.2.2.2.1; omega)
   have c0 := hA.cell hlt
   have c1 := hB.cell hlt
   have c3 := hB2.cell hlt
   rw [Nat.zero_add] at c0 c1
   have f0 := hA.free i
   have f1 := hB.free i
   have h0 : (0 : Int) <= (i : Int) := by omega
   have h1 : (i : Int) < (d : Int) := by omega
   have HA : Hid (RowAt wr g1 0 d (andS S T i) /\ RowAt wr g2 0 d (notS S T i) /\ Kept (fun g => g = g1 \/ g = g2) w2 wr) := ⟨hA, hB, hK⟩
   clear hA hB hK hB2
   go_wp2_with (simp only [Br.b_and, Br.wd_andNot])
   go_roundg (d - (i + 1))
   case measure => omega
   case rel =>
    have e1 : Br.wd (fun q => andS S T i q && T q) i = Br.wd (andS S T (i + 1)) i := Br.wd_congr fun q hq => by
     have e2 : decide (q / 64 < i) = false := by simp; omega
     have e3 : decide (q / 64 < i + 1) = true := by simp; omega
     simp [andS, e2, e3]
    have e4 : Br.wd (fun q => notS S T i q && !T q) i = Br.wd (notS S T (i + 1)) i := Br.wd_congr fun q hq => by
     have e2 : decide (q / 64 < i) = false := by simp; omega
     have e3 : decide (q / 64 < i + 1) = true := by simp; omega
     simp [notS, e2, e3]
    rw [e1, e4]
    have p1 := HA.out.1.put hlt (andS S T (i + 1)) fun q hq => by
     have : decide (q / 64 < i + 1) = decide (q / 64 < i) := by simp only [decide_eq_decide]; omega
     simp only [andS, this]
    rw [Nat.zero_add] at p1
    have k1 := Kept.setCell wr g1 i (.int .u64 (Br.wd (andS S T (i + 1)) i : Nat))
    have p2 := (HA.out.2.1.kept k1 fun e => hne e.symm).put hlt (notS S T (i + 1)) fun q hq => by
     have : decide (q / 64 < i + 1) = decide (q / 64 < i) := by simp only [decide_eq_decide]; omega
     simp only [notS, this]
    rw [Nat.zero_add] at p2
    have k2 := Kept.setCell (wr.setCell ⟨g1, i, none⟩ (.int .u64 (Br.wd (andS S T (i + 1)) i : Nat))) g2 i (.int .u64 (Br.wd (notS S T (i + 1)) i : Nat))
    exact ⟨i + 1, rfl, by omega, by go_num, p1.kept k2 hne, p2, HA.out.2.2.trans ((k1.mono fun _ _ h => .inl h).trans (k2.mono fun _ _ h => .inr h))⟩
  ·obtain rfl : i = d := by omega
   have h1 : ¬ (i : Int) < (i : Int) := by omega
   have HA : Hid (RowAt wr g1 0 i (andS S T i) /\ RowAt wr g2 0 i (notS S T i) /\ Kept (fun g => g = g1 \/ g = g2) w2 wr) := ⟨hA, hB, hK⟩
   clear hA hB hK
   go_wp2_with fail
   go_ret2
   have k4 := H2.out.2.2.2.2.1
   have k3 := H2.out.2.2.2.1
   refine ⟨g1, _, g2, ⟨_, rfl⟩, HA.out.1.congr fun q hq => ?_, HA.out.2.1.congr fun q hq => ?_, hne, k3, k4, H2.out.2.2.2.2.2.trans (HA.out.2.2.below H2.out.2.2.2.2.2.size fun k hk => by rcases hk with rfl | rfl <;> omega)⟩
   ·simp [andS, hq]
   ·simp [notS, hq]
end
section
open Go.RowKit Go.Maps
attribute [local go_sem ↓] Go.wp_at_zero Go.wp_at_succ
def intoS (X : Nat -> Nat -> Bool) (S : Nat -> Bool) (d i : Nat) : Nat -> Bool := fun p => decide (p < i) && meetS (X p) S (64 * d)
theorem intoS_yes {X : Nat -> Nat -> Bool} {S : Nat -> Bool} {d i : Nat} (h : meetS (X i) S (64 * d) = true) (z : Nat) : (intoS X S d i z || decide (z = i)) = intoS X S d (i + 1) z := by
 unfold intoS
 by_cases e : z = i
 ·subst e; rw [h]; simp
 ·have : decide (z < i + 1) = decide (z < i) := by simp only [decide_eq_decide]; omega
  rw [this]; simp [e]
theorem intoS_no {X : Nat -> Nat -> Bool} {S : Nat -> Bool} {d i : Nat} (h : meetS (X i) S (64 * d) = false) (z : Nat) : intoS X S d i z = intoS X S d (i + 1) z := by
 unfold intoS
 by_cases e : z = i
 ·subst e; rw [h]; simp
 ·have : decide (z < i + 1) = decide (z < i) := by simp only [decide_eq_decide]; omega
  rw [this]
set_option maxRecDepth 100000 in
set_option maxHeartbeats 4000000 in
theorem into_any (g0 g1 n d b o c B : Nat) (X : Nat -> Nat -> Bool) (S : Nat -> Bool) (w : World) (hd : d = Br.wds n) (hn : n <= 300) (hX : Rws w B g1 n d (rl g0 d) X) (hS : RowAt w b o d S) :
 Calls Tryz.prog 132 #[rowV b o d c, .slice (some ⟨g1, 0, none⟩) n n] w fun r w' => ∃ g, r = .returned (rowV g 0 d d) /\ RowAt w' g 0 d (intoS X S d n) /\ w.heap.size <= g /\ Below w.heap.size w w' := by
 have hdd : d <= 10000 := by rw [hd]; unfold Br.wds; omega
 have hNw := newRow_any n (by omega) w
 rw [<- hd] at hNw
 have H0 : Hid _ := And.intro hNw (And.intro hX (And.intro hS hd))
 clear hNw hX hS hd
 unfold rowV at H0 ⊢
 go_enter Tryz.func132, Tryz.ntmps132
 go_wp2_with fail
 refine Calls.mono H0.out.1 ?_
 rintro r w1 ⟨rfl, hw1⟩
 have hb1 : Below w.heap.size w w1 := by rw [hw1]; exact (Below.refl _ _).alloc (Nat.le_refl _) _
 have hR1 : RowAt w1 w.heap.size 0 d (intoS X S d 0) := by
  rw [hw1]
  exact (rowAt_new w d d 0 (by omega)).congr fun q _ => by simp [intoS]
 have H1 : Hid _ := And.intro hb1 (And.intro hR1 (And.intro (H0.out.2.1.below hb1) (H0.out.2.2.1.below hb1)))
 have hlb : b < w.heap.size := H0.out.2.2.1.lt
 have hlg : g1 < w.heap.size /\ (0 < n -> g0 < w.heap.size) := ⟨H0.out.2.1.lst.lt, fun h => (H0.out.2.1.row 0 h).lt⟩
 have HL : Hid _ := And.intro hlb hlg
 clear hw1 hb1 hR1 hlb hlg
 go_wp2_with fail
 go_loopg [13] n (fun q iv wr => ∃ i : Nat, q = n - i /\ i <= n /\ iv = .int .i64 i /\ RowAt wr w.heap.size 0 d (intoS X S d i) /\ Kept (fun b => b = w.heap.size) w1 wr)
 case atStart => exact ⟨0, rfl, Nat.zero_le _, rfl, H1.out.2.1, Kept.refl _ _⟩
 case round =>
  obtain ⟨i, rfl, hi, rfl, hR, hK⟩ := hrel
  by_cases hlt : i < n
  ·have q0 : (0 : Int) <= (i : Int) := by omega
   have q1 : (i : Int) < (n : Int) := by omega
   have hRi := H1.out.2.2.1.lst.kept hK (by have := HL.out.2.1; omega)
   have c0 := hRi.cell hlt
   have hXi := (H1.out.2.2.1.row i hlt).kept hK (by have := HL.out.2.2 (by omega); show g0 ≠ _; omega)
   have hSi := H1.out.2.2.2.kept hK (by have := HL.out.1; omega)
   have hM := meetsRow_any g0 (i * d) d d b o c (X i) S wr hdd hXi hSi
   have hAd := addRow_any w.heap.size 0 d d i (intoS X S d i) wr hdd (by rw [H0.out.2.2.2]; exact lt_wds hlt) hR
   have HM : Hid _ := And.intro hM (And.intro hAd (And.intro hR hK))
   clear hM hAd hRi hXi hSi hR hK
   unfold rowV at HM
   unfold rl Lc.v rowV at c0
   simp only at c0
   by_cases hm : meetS (X i) S (64 * d) = true
   ·have HB : Hid _ := hm
    rw [hm] at HM
    clear hm
    go_wp2_with fail
    refine Calls.mono HM.out.1 ?_
    rintro r wa ⟨rfl, hwa⟩
    obtain rfl := hwa.symm
    clear hwa
    go_wp2_with fail
    refine Calls.mono HM.out.2.1 ?_
    rintro r w5 ⟨⟨v, rfl⟩, hR5, hW5⟩
    have H5 : Hid _ := And.intro (hR5.congr fun q _ => intoS_yes HB.out q) (HM.out.2.2.2.trans hW5.kp)
    clear hR5 hW5
    go_wp2_with fail
    go_roundg (n - (i + 1))
    case measure => omega
    case rel => exact ⟨i + 1, rfl, by omega, by go_num, H5.out.1, H5.out.2⟩
   ·have hm2 : meetS (X i) S (64 * d) = false := by cases h : meetS (X i) S (64 * d) with
     | false => rfl
     | true => exact absurd h hm
    have HB : Hid _ := hm2
    rw [hm2] at HM
    clear hm hm2
    go_wp2_with fail
    refine Calls.mono HM.out.1 ?_
    rintro r wa ⟨rfl, hwa⟩
    obtain rfl := hwa.symm
    clear hwa
    go_wp2_with fail
    go_roundg (n - (i + 1))
    case measure => omega
    case rel => exact ⟨i + 1, rfl, by omega, by go_num, HM.out.2.2.1.congr fun q _ => intoS_no HB.out q, HM.out.2.2.2⟩
  ·obtain rfl : i = n := by omega
   have h1 : ¬ (i : Int) < (i : Int) := by omega
   have HP : Hid _ := And.intro hR hK
   clear hR hK
   go_wp2_with fail
   go_ret
   exact ⟨w.heap.size, rfl, HP.out.1, Nat.le_refl _, H1.out.1.trans (HP.out.2.below H1.out.1.size fun k hk => by omega)⟩
end
end Go.Proofs.YthcpliinddjkhaaGreatDoor
